import PyProof.Rows.All
import Wide.All
import OpenK.AllK
import Wide.FinOn
import Lean
import PyProof.EqAt
import PyProof.EqKinds
import PyProof.TupleCall
import PyProof.NeKinds
import PyProof.FactsAll.tuple_2
import PyProof.FactsAll.str_0
import PyProof.FactsAll.str_1
import PyProof.FactsAll.str_2
import PyProof.FactsAll.str_3
import PyProof.Rows.MinMaxN
import PyProof.Rows.SumAny
import PyProof.Rows.SetFrom
import PyProof.ReprRoads
import PyProof.Rows.StrKeys3
import PyProof.CallFns
import KE.KSortTup
import KE.KDictSum
import PyProof.Rows.CallKwBuiltin
import KE.KMinBuiltin
import KE.KDictList
import KE.IntBitsLaws
import PySem.Challenge.RW_treewithin_k70_several_together
open PySem.W renaming Frag -> Aa, nsIn -> AN, mg_none_of -> A0, kia_one -> Ba, kitOne -> Bu, emptyDict -> BG, mg_of -> BJ, findIn -> BK, fnOf -> BN, instObj -> Cb, keepIn -> CB, hasDictIn -> Dr, codeIn -> Ds, plainGet -> DQ, KasT -> Eg, plainOver -> Ez, methodObj -> EA, kitx_list -> EB, kitx_dict -> EC, cellsFrom_some -> E5, takerIn -> Fi, makesIn -> Fj, tabObj -> FC, lookIn -> FE, kitx_tuple -> FZ, callWith_K -> F0, kas_sort -> Ge, handedIn -> Gf
open PySem renaming wpAny_bind -> Ab, wpAny_pure -> Ag, Value -> A8, Addr -> A9, wpAny_newObj_type -> Bb, wpAny_setField_rec -> Bd, wpAny_callSpecial?_slot -> Bh, wpAny_field -> Bk, wpAny_Call_Name_kw -> Bl, wpAny_holding -> Bn, wpAny_call_entry -> Bo, wpAny_seqItems -> Bv, mem_of_lookup -> BE, wpAny_mono -> BF, Str -> BR, Expr -> BW, wpAny_typeNameOfWhole_keyiter -> B2, Pos -> Cg, wpAny_passesOwn -> Co, wpAny_typeNameOf_keyiter -> Cy, wpAny_of_eq -> CH, wpAny_letGo -> CJ, wpAny_updateSeq -> CO, wpAny_newTuple -> CZ, wpAny_attempt -> Dh, wpAny_rule -> Dl, Shared -> Dv, wpAny_truthy_bool -> Dw, wpAny_pyIter_enum -> Dx, wpAny_isInstance -> DT, wpAny_eqBool_str -> DU, wpAny_updateSeq_pair -> D4, wpAny_execs_nil -> Ea, wpAny_tryCatch -> Eo, wpAny_setField -> Ep, wpAny_pyIter_tuple -> Er, wpAny_letOwnedTupleGo_enum -> Es, wpAny_pyIter_list -> EG, wpAny_dictEntries -> EH, wpAny_standAt -> EM, wpAny_onRaise -> EN, wpAny_getItem_list_slice -> EO, wpAny_comprehension_free -> ER, Heap -> E8, wpAny_typeOf -> E9, wpAny_specialOf -> Fo, wpAny_dictEpoch -> Fp, Obj -> FR, wpAny_newList -> FW, wpAny_load -> F4, Within -> F7, Tok -> Gh
open List renaming getElem?_eq_getElem -> Ad, getElem?_map -> Af, getD_eq_getElem?_getD -> Ah, getElem?_eq_some_iff -> Ai, length_map -> Aj, length_append -> Ak, size_toArray -> An, replicate -> Ao, length_cons -> Aq, range -> Ar, mem_map -> Au, map_cons -> Av, mem_singleton -> Aw, map_append -> Az, lookup_cons -> AA, append_assoc -> AD, getElem?_append_left -> AH, mem_cons -> AI, filterMap_cons -> AJ, mem_cons_of_mem -> AL, map_map -> AO, mem_range -> AQ, mem_of_getElem? -> AU, getElem?_append_right -> AV, mem_append -> AX, mem_append_right -> AZ, mem_filter -> A3, getElem?_range -> A7, length_filter_le -> Bf, map_congr_left -> Bp, length_replicate -> Bq, getElem?_eq_none -> Br, length_range -> Bs, mem_cons_self -> Bw, nodup_cons -> Bz, length_set -> BA, perm_append_comm -> BI, sum_cons -> BM, mem_append_left -> BS, getElem?_replicate -> BU, take_of_length_le -> BX, pairwise_iff_getElem -> BZ, drop_eq_getElem_cons -> B0, getElem?_set_ne -> B6, eq_nil_of_length_eq_zero -> B7, ext_getElem? -> B9, idxOf_lt_length_of_mem -> Cf, length_take -> Ci, filter_append -> Cm, forIn_cons -> Cp, append_nil -> Cq, length -> Cv, getElem?_of_mem -> Cw, mergeSort_perm -> Cz, length_reverse -> CA, getElem_mem -> CG, getElem?_set_self -> CN, any_cons -> CU, nodup_append -> CW, take_succ -> C1, lookup -> C2, length_drop -> C6, all_eq_true -> C7, getElem?_eq_none_iff -> C8, replicate_succ -> Dc, length_pos_iff -> De, range_succ -> Di, foldl_cons -> Dj, eraseIdx_cons_succ -> Dq, take_sublist -> DC, reverse_cons -> DE, range_succ_eq_map -> DG, replicate_append_replicate -> DJ, eraseIdxIfInBounds_toArray -> DK, getElem?_reverse -> DN, take_length -> DV, not_mem_nil -> DW, pairwise_append -> D6, length_eraseIdx -> D7, find?_cons -> Eb, getElem_of_mem -> Ed, flatMap_append -> Ee, mem_filterMap -> Eu, flatten_cons -> EI, mem_of_mem_eraseIdx -> ES, pairwise_mergeSort -> EX, nodup_range -> EY, map_reverse -> EZ, map -> E1, getElem_inj -> E2, filter_cons -> E3, drop_length -> E4, pairwise_lt_range -> Fc, map_nil -> Fd, filter_eq_nil_iff -> Fe, drop_of_length_le -> Ff, drop_eq_nil_of_le -> Fg, of_mem_zip -> Fs, length_nil -> Ft, take_append_drop -> Fx, length_singleton -> Fy, getElem?_toArray -> Fz, filterMap_append -> FA, nodup_nil -> FN, mem_of_mem_take -> FO, reverse_append -> FV, map_take -> FX, map_set -> Gb
open PySem.Heap renaming get?_push_of_some -> Ae, get?_push_size -> Am, lt_size -> Ap, size_push -> Bm, get?_update_other -> BC, get?_update_self -> BH, SameBut -> Ce, size_update -> EU, get?_update_ne -> FU, ExtBut -> Gi
open Nat renaming le_refl -> Al, le_trans -> Ax, ne_of_lt -> AB, lt_of_lt_of_le -> AG, lt_irrefl -> AR, zero_add -> AW, le_of_ble_eq_true -> A5, add_assoc -> A6, zero_le -> Bc, le_add_right -> Bi, mul_le_mul_right -> B5, strongRecOn -> Cc, mul_le_mul_left -> Cd, pow_le_pow_right -> Ct, lt_succ_of_lt -> Cu, lt_succ_self -> CC, lt_of_le_of_lt -> CM, pow_lt_pow_right -> C0, le_of_lt -> C5, le_succ -> Dn, add_sub_cancel_left -> Dp, succ_mul -> Dy, sub_self -> Dz, mul_le_mul -> DA, lt_or_ge -> DB, mul_assoc -> DZ, pow_add -> D5, eq_or_lt_of_le -> Et, sub_zero -> Fb, two_pow_pos -> Fq, sub_sub -> FK, pow_succ -> F8, mul_comm -> F9, le_of_eq -> Ga
open PySem.Value renaming ref -> Ay, none -> A4, str -> Be, type -> CY, int -> Ei, bool -> F1
open PySem.PassesOwn renaming never -> AE
open Bool renaming false_eq_true -> AM, false_ne_true -> AY, and_eq_true -> A1, eq_iff_iff -> CS, and_false -> DH, false_and -> FQ, true_and -> FY
open PyProof.Rows renaming callWith_type1 -> A2
open PySem.Obj renaming mapSeq -> Bg, data_mapFields -> Dk, isFreed_of_fields -> Fw
open PySem.NameKind renaming free -> Bj, cell -> CT
open PySem.F renaming plainAttrs_list -> Bt, slot_dict_keyiterator_next -> BO, slot_tuple_iterator_next -> Ck, slot_enumerate_next -> CV, plain_min_loop -> C4, args_tuple_add_2 -> Df, slot_list_getattribute -> Dg, entry_tuple_add -> Dm, slot_tuple_add -> Du, type_list_pop -> DL, slot_list_pop -> DM, args_dict_keyiterator_next_1 -> DS, entry_dict_keyiterator_next -> D1, args_list_extend_2 -> D2, slot_zip_next -> D8, args_tuple_iterator_next_1 -> D9, entry_list_extend -> Ec, entry_tuple_iterator_next -> Eh, slot_list_extend -> Em, type_list_append -> EK, slot_list_append -> EL, args_enumerate_next_1 -> EW, entry_enumerate_next -> E6
open False renaming elim -> Bx
open PySem.AutoSeq1 renaming wpAny_loadPart' -> BD, sub_list_tuple -> D3
open PySem.PyData renaming hasDict -> BL, int -> Cj, shownAll -> Cn, hasDictAll -> ED
open Ne renaming symm -> BQ
open True renaming intro -> BV
open PySem.Calls renaming spliced_cons -> B1, spliced_nil -> Cs, Name_function_global -> En, call_function_entry -> Ey, callWith_builtin -> E7
open Or renaming inr -> B3, inl -> B4
open Int renaming le_refl -> B8, toNat_natCast -> Ca, mul_le_mul_of_nonneg_left -> CK, mul_le_mul_of_nonneg_right -> DY, natAbs_natCast -> Ew, natCast_mul -> Fu, le_antisymm -> Fv, mul_nonneg -> FP, zero_add -> Gd
open ForInStep renaming yield -> Cr
open Option renaming map_some -> CP, isSome_some -> F5
open PySem.Str renaming ofString -> C3
open Array renaming getElem?_eq_getElem -> C9, getElem?_toList -> DP, length_toList -> Ef, perm_iff_toList_perm -> Ex, getElem?_eq_none -> Fh
open PySem.SeqAt renaming EqAt -> DR
open And renaming right -> Ej
open PySem.SeqAt.RcNeAt renaming lists_lengths -> Ek, lists -> F2
open PySem.SeqAt.EqAt renaming int_int -> El, of_refs -> F3, same -> Gj
open PySem.EqBoolInt renaming of_rcne -> EE, of_rc -> Fm
open PySem.SeqAt.RcAt renaming lists_lengths -> EJ, tuples -> F6, lists -> Gg
open PySem.IntMulOk renaming of_bits -> ET
open PySem.IsRange renaming new -> FG
open PySem.Fin renaming done -> FH
open PySem.Data renaming seq -> FI
open PySem.Around renaming under_plainId -> FJ
open Sum renaming inr -> Gk, inl -> Gm
open PySem.Flow renaming ret -> Gn
set_option compiler.extract_closed false
set_option Elab.async false
set_option linter.all false
set_option maxRecDepth 100000
set_option maxHeartbeats 1000000
open Option renaming some→am,none→ce
open PyProof.Rows renaming seqObj→ww,IntsAre→xL,envOfC→EQ,boot_str→FB,AllBare→Os
open PySem renaming Value→ci,Shared→cr,Addr→db,wpAny→ga,model→im,mainGlobals→lc,starEach→lm,attributeBase→nn,Expr→nw,eval→o0,Scope→pc,swapsWith→pr,bootBuiltins→re,Heap→r9,compareOp→sn,Stmt→sB,tupleKind→sK,behindInMarks→tz,cellsFrom→t0,cLine→ul,binaryOp→ut,codeAny_builtin→u8,sliceBounds→v4,plainId_quiet→wf,PassesOwn→wn,NameKind→wv,call_meets→wE,Program→wP,Builtin→wS,sizeLine_eq→wT,IntMulOk→xz,Around→zn,backTo→BT,FuncData→Ch,World→Da,rawInt→Db,assignEach→Fa,codeAny→Fk,codeAny_mono→FM,slicePick→FS,sysModules→Gc,builtinsNs→GE,holding→GM,swapsWithSole→GT,swappedStores→Ix,assign→IR,typeLookup→KF,relabel→KM,letOwnedTupleGo→Pi
set_option genSizeOf false
local macro_rules | `(command|def $i:declId $s:optDeclSig $v:declVal)=>`(command|noncomputable def $i:declId $s:optDeclSig $v:declVal)
local macro_rules | `(command|abbrev $i:declId $s:optDeclSig $v:declVal)=>`(command|noncomputable abbrev $i:declId $s:optDeclSig $v:declVal)
theorem rTq9(h:0=0:=by rfl):0=0:=h
local macro_rules | `(‹$p›)=>`(autoParam $p rTq9._auto_1)
local macro_rules | `(‹_›)=>`(by assumption)
theorem dTq9(h:0=0:=by decide):0=0:=h
local macro_rules | `(~~~$p)=>`(autoParam $p dTq9._auto_1)
local macro_rules | `(∅)=>`(by lia)
local macro_rules | `(⋯)=>`(by decide)
open PySem PySem.Spec PyProof.Rows
abbrev O.{u}(α:Type u):=List α
namespace L2
end L2
namespace My
end My
namespace PL
end PL
namespace FL
end FL
open L2 My PL FL
namespace L2
abbrev Key:=Sum Int Str
def wx:Key->ci->Bool
 |.inl k,v=>Value.isInt k v
 |.inr x,v=>Value.isStrOf x v
def agP(w:Da):Key->Int
 |.inl k=>hashInt k
 |.inr x=>hashStr w x
def bW:∀{k:Key}{v:ci},wx k v=true->(∃i t,k=Gm i/\v=Ei i t)\/(∃x t,k=Gk x/\v=Be x t)
 |.inl i,v,h=>by
  obtain⟨t,e⟩:=Value.isInt_shape h;exact .inl ⟨i,t,rfl,e⟩
 |.inr x,v,h=>by
  obtain⟨t,e⟩:=Value.isStrOf_shape (v:=v) h;exact .inr ⟨x,t,rfl,e⟩
def Nv(i:Int)(t:Tok):wx (.inl i) (.int i t)=true:=by simp[wx,Value.isInt]
def Nu(x:Str)(t:Tok):wx (.inr x) (.str x t)=true:=by simp[wx,Value.isStrOf]
def Zt(a b:Int):decide ((Gm a:Key)=Gm b)=(a==b):=by
 by_cases e:a=b
 .subst e;simp
 .rw[decide_eq_false (λq=>e (Gm.inj q))];exact(beq_eq_false_iff_ne.mpr e).symm
def Zq(a b:Str):decide ((Gk a:Key)=Gk b)=decide (a=b):=by
 by_cases e:a=b
 .simp
 .rw[decide_eq_false (λq=>e (Gk.inj q)),decide_eq_false e]
def Zs(a:Int)(b:Str):decide ((Gm a:Key)=Gk b)=false:=decide_eq_false (λq=>nomatch q)
def Zr(a:Str)(b:Int):decide ((Gk a:Key)=Gm b)=false:=decide_eq_false (λq=>nomatch q)
def cx(prog:wP)(w:Da):PySem.KeyKind prog w Key where
 is:=wx
 hash:=agP w
 inj:=λv a b ha hb=>by
  rcases bW ha with⟨i,t,rfl,rfl⟩|⟨x,t,rfl,rfl⟩
  .rcases bW hb with⟨j,u,rfl,e⟩|⟨y,u,rfl,e⟩
   .injection e with e1 _;rw[e1]
   .exact nomatch e
  .rcases bW hb with⟨j,u,rfl,e⟩|⟨y,u,rfl,e⟩
   .exact nomatch e
   .injection e with e1 _;rw[e1]
 byValue:=λk v h=>by
  rcases bW h with⟨i,t,rfl,rfl⟩|⟨x,t,rfl,rfl⟩<;>rfl
 pyHash:=λhv h=>by
  rcases bW hv with⟨i,t,rfl,rfl⟩|⟨x,t,rfl,rfl⟩
  .exact wpAny_pyHash_int h
  .exact wpAny_pyHash_str h
 eqBool:=λhu hv h=>by
  rcases bW hu with⟨i,t,rfl,rfl⟩|⟨x,t,rfl,rfl⟩
  .rcases bW hv with⟨j,u,rfl,rfl⟩|⟨y,u,rfl,rfl⟩
   .rw[Zt]at h;exact wpAny_eqBool_int h
   .rw[Zs]at h;exact DR.int_str i t y u _ _ _ _ h
  .rcases bW hv with⟨j,u,rfl,rfl⟩|⟨y,u,rfl,rfl⟩
   .rw[Zr]at h;exact DR.str_int x t j u _ _ _ _ h
   .rw[Zq]at h;exact DU h
 «strs»:=λk x t v h=>by
  rcases bW h with⟨i,u,rfl,e⟩|⟨y,u,rfl,e⟩
  .exact nomatch e
  .injection e with e1 _;subst e1;cases v<;>rfl
def GR(prog:wP)(w:Da)(i:Int)(t:Tok):(cx prog w).is (.inl i) (.int i t)=true:=Nv i t
def GQ(prog:wP)(w:Da)(x:Str)(t:Tok):(cx prog w).is (.inr x) (.str x t)=true:=Nu x t
end L2
variable{us:O A8}{u:A8}{κ α β:Type}{a b e:A9}{P:PySem.Program}{w:PySem.World}{h h':E8}{ob:FR}
namespace L2
inductive V where
 |aM|bl (b:Bool)|int (i:Int)|str (x:Str)|Mo (b:Array UInt8)|Z6 (b:UInt64)|ref (a:db)|ty (n:String)
 deriving DecidableEq
def RelV:V->ci->Prop
 |.aM,u=>u=A4
 |.bl b,u=>u=F1 b
 |.int i,u=>∃t,u=Ei i t
 |.str x,u=>∃t,u=Be x t
 |.Mo b,u=>∃t,u=Value.bytes b t
 |.Z6 b,u=>∃t,u=Value.float b t
 |.ref a,u=>u=Ay a
 |.ty n,u=>u=CY n
abbrev Vals:O V->O ci->Prop:=Paired RelV
def Vals.length{xs:O V}(r:Vals xs us):xs.length=us.length:=Paired.length r
theorem Vals.get:∀{xs:O V}{us:O ci}{i:Nat}{x:V},Vals xs us->xs[i]?=am x->∃u,us[i]?=am u/\RelV x u
 |_,_,_,_,.nil,e=>by simp at e
 |_,_,0,_,.cons r _,e=>by simp at e;subst e;exact⟨_,rfl,r⟩
 |_,_,i+1,x,.cons _ t,e=>by
  obtain⟨u,h1,h2⟩:=Vals.get t (by simpa using e);exact⟨u,by simpa using h1,h2⟩
theorem Vals.set{x:V}(r:RelV x u):∀{xs:O V}{us:O ci} (i:Nat),Vals xs us->Vals (xs.set i x) (us.set i u)
 |_,_,_,.nil=>.nil
 |_,_,0,.cons _ t=>.cons r t
 |_,_,i+1,.cons q t=>.cons q (Vals.set r i t)
theorem Vals.append:∀{xs ys:O V}{us ws:O ci},Vals xs us->Vals ys ws->Vals (xs++ys) (us++ws)
 |_,_,_,_,.nil,s=>s
 |_,_,_,_,.cons r t,s=>.cons r (Vals.append t s)
theorem Vals.take:∀{xs:O V}{us:O ci} (n:Nat),Vals xs us->Vals (xs.take n) (us.take n)
 |_,_,0,_=>.nil
 |_,_,_+1,.nil=>.nil
 |_,_,n+1,.cons r t=>.cons r (Vals.take n t)
theorem Vals.drop:∀{xs:O V}{us:O ci} (n:Nat),Vals xs us->Vals (xs.drop n) (us.drop n)
 |_,_,0,r=>r
 |_,_,_+1,.nil=>.nil
 |_,_,n+1,.cons _ t=>Vals.drop n t
theorem Vals.none_of:∀{xs:O V}{us:O ci}{i:Nat},Vals xs us->xs[i]?=ce->us[i]?=ce:=λ{xs us i} r e=>by
 have h1:=r.length;have h2:=C8.mp e;exact C8.mpr ∅
def qZ:Option V->Option ci->Prop
 |some v,am u=>RelV v u
 |none,ce=>True
 |_,_=>False
def KV:O (κ×V)->O (κ×ci)->Prop:=Paired λ(p:κ×V) (q:κ×ci)=>p.1=q.1/\RelV p.2 q.2
def kV:Key->V
 |.inl i=>.int i
 |.inr x=>.str x
inductive HO where
 |lst (xs:List V)
 |tup (xs:List V)
 |dK (aA:List (Key×V))|dT (aA:List (List Key×V))
 |set (S:Int->Bool) (n:Nat)
 |ins (C dx:db) (fs:List (Str×V))
 |own (x:db)
 |xd (fs:List (Str×V))
 |met (f x:db)
 |rng (lo hi:Int)
 |bS (o:Obj) (u:HO)
 |zN (ps:Array ci)
 |ext (φ:r9->Prop)
abbrev Hp:=db->Option HO
def upd(H:Hp)(a:db)(o:HO):Hp:=λb=>if b=a then am o else H b
def ay{H:Hp}{o:HO}:upd H a o a=am o:=by unfold upd;rw[if_pos rfl]
def aj{H:Hp}{o:HO}(h:b≠a):upd H a o b=H b:=by unfold upd;rw[if_neg h]
def Ly{H:Hp}{o u:HO}(h:H a=am o)(h':H b=am u)(d:o≠u):a≠b:=by
 intro e;subst e;rw[h]at h';exact d (Option.some.inj h')
def bG{H:Hp}{o:HO}(h:H a=am o)(h':H b=ce):a≠b:=by
 intro e;subst e;rw[h]at h';cases h'
section
variable(P:wP)(w:Da)
def bE(H:Hp)(h:r9)(a:db):HO->Prop
 |.lst xs=>xs.length<=sizeLine/\∃(aq:O ci) (n:Nat),Vals xs aq/\h.get? a=am {cls:=.type "list",data:=.seq aq.toArray n}
 |.tup xs=>xs.length<=sizeLine/\∃aq:O ci,Vals xs aq/\IsTup h a aq.toArray/\∃o,h.get? a=am o/\o.dict=ce
 |.dK aA=>aA.length<=sizeLine/\(a==Gc)=false/\∃vs,KV aA vs/\h.DictOf (cx P w) a vs
 |.dT aA=>aA.length<=sizeLine/\(a==Gc)=false/\∃xs:O (O Key×db×ci),
   Paired (λ(p:O Key×V) (q:O Key×db×ci)=>p.1=q.1/\H q.2.1=am (.tup (p.1.map kV))/\RelV p.2 q.2.2) aA xs/\
   ∃o es ep,h.get? a=am o/\o.ExactDict/\o.data=.dict es ep/\es.toList=xs.map (entryOfKey (sK (cx P w)))/\(xs.map (·.1)).Nodup
 |.set S n=>h.SetOf (intKind P w) a S n
 |.ins C dx fs=>H dx=am (.own a)/\fs.length<=1000/\dx≠a/\h.get? a=am (Cb C dx)/\
   ∃mA,h.Ns1 dx mA/\(∀f,qZ (fs.lookup f) (mA f))/\F7 mA (fs.map (·.1))
 |.own _=>∃o,h.get? a=am o
 |.xd fs=>∃mA,h.Ns1 a mA/\∀f,qZ (fs.lookup f) (mA f)
 |.rng lo hi=>∃t u v,h.get? a=am {cls:=.type "range",data:=.fields #[.int lo t,.int hi u,.int 1 v]}
 |.bS o u=>h.get? a=am o/\bE H h a u
 |.zN ps=>h.get? a=am {cls:=.none,data:=.fields ps}
 |.met f x=>h.get? a=am (EA (.ref f) (.ref x))
 |.ext φ=>φ h/\(∃o,h.get? a=am o)/\∀h1 h2:r9,φ h1->(∀o,h1.get? a=am o->h2.get? a=am o)->φ h2
def lV(H:Hp)(h:r9):Prop:=∀a o,H a=am o->bE P w H h a o
end
section
variable{H H':Hp}{o:HO}
def bE.lt(x:bE P w H h a o):a<h.objs.size:=by
 cases o with
 |lst xs=>obtain⟨_,_,_,_,e⟩:=x;exact Ap e
 |tup xs=>obtain⟨_,_,_,p,_⟩:=x;exact p.lt
 |dK aA=>obtain⟨_,_,_,_,o,_,_,e,_⟩:=x;exact Ap e
 |dT aA=>obtain⟨_,_,_,_,o,_,_,e,_⟩:=x;exact Ap e
 |set S n=>obtain⟨o,_,_,_,e,_⟩:=x;exact Ap e
 |ins C dx fs=>obtain⟨_,_,_,e,_⟩:=x;exact Ap e
 |own y=>obtain⟨_,e⟩:=x;exact Ap e
 |xd fs=>obtain⟨_,⟨_,_,_,e,_⟩,_⟩:=x;exact Ap e
 |rng lo hi=>obtain⟨_,_,_,e⟩:=x;exact Ap e
 |bS ob u=>obtain⟨e,_⟩:=x;exact Ap e
 |zN ps=>exact Ap (x)
 |met f y=>exact Ap (show h.get? a=am _ from x)
 |ext φ=>obtain⟨_,⟨_,e⟩,_⟩:=x;exact Ap e
theorem Paired.Ze{F G:α->β->Prop}:∀{l₁:List α}{l₂:List β},Paired F l₁ l₂->(∀a b,F a b->G a b)->Paired G l₁ l₂
 |_,_,.nil,_=>.nil
 |_,_,.cons r t,f=>.cons (f _ _ r) (Paired.Ze t f)
def bE.xn(x:bE P w H h a o)(k:∀b u,(b=a\/H b=am (.own a))->h.get? b=am u->h'.get? b=am u)(ho:∀b,H b=am (.own a)->H' b=am (.own a))(ht:∀b xs,H b=am (.tup xs)->H' b=am (.tup xs)):bE P w H' h' a o:=by
 induction o with
 |lst xs=>obtain⟨z,aq,n,r,e⟩:=x;exact⟨z,aq,n,r,k _ _ (.inl rfl) e⟩
 |tup xs=>obtain⟨z,aq,r,⟨ob,e,c⟩,od,e2,d⟩:=x;exact⟨z,aq,r,⟨ob,k _ _ (.inl rfl) e,c⟩,od,k _ _ (.inl rfl) e2,d⟩
 |dK aA=>obtain⟨z,y,vs,r,ob,es,ep,e,c⟩:=x;exact⟨z,y,vs,r,ob,es,ep,k _ _ (.inl rfl) e,c⟩
 |dT aA=>
  obtain⟨z,y,xs,r,ob,es,ep,e,c⟩:=x;exact⟨z,y,xs,Paired.Ze r λp q z=>⟨z.1,ht _ _ z.2.1,z.2.2⟩,ob,es,ep,k _ _ (.inl rfl) e,c⟩
 |set S n=>obtain⟨ob,es,ep,t,e,c⟩:=x;exact⟨ob,es,ep,t,k _ _ (.inl rfl) e,c⟩
 |ins C dx fs=>
  obtain⟨d,z,ne,e,mA,⟨od,es,ep,e2,c⟩,r⟩:=x;exact⟨ho _ d,z,ne,k _ _ (.inl rfl) e,mA,⟨od,es,ep,k _ _ (.inr d) e2,c⟩,r⟩
 |own y=>obtain⟨ob,e⟩:=x;exact⟨ob,k _ _ (.inl rfl) e⟩
 |xd fs=>obtain⟨mA,⟨od,es,ep,e,c⟩,r⟩:=x;exact⟨mA,⟨od,es,ep,k _ _ (.inl rfl) e,c⟩,r⟩
 |rng lo hi=>obtain⟨t,u,v,e⟩:=x;exact⟨t,u,v,k _ _ (.inl rfl) e⟩
 |bS ob u ih=>obtain⟨e,q⟩:=x;exact⟨k _ _ (.inl rfl) e,ih q⟩
 |zN ps=>
  have e:h.get? a=am {cls:=.none,data:=.fields ps}:=x;show h'.get? a=am {cls:=.none,data:=.fields ps};exact k a _ (.inl rfl) e
 |met f y=>
  have e:h.get? a=am (EA (.ref f) (.ref y)):=x;show h'.get? a=am (EA (.ref f) (.ref y));exact k a _ (.inl rfl) e
 |ext φ=>obtain⟨p,⟨o,e⟩,st⟩:=x;exact⟨st _ _ p λo q=>k _ _ (.inl rfl) q,⟨o,k _ _ (.inl rfl) e⟩,st⟩
def lV.lt(x:lV P w H h)(e:H a=am o):a<h.objs.size:=(x a o e).lt
def lV.fresh(x:lV P w H h)(e:h.objs.size<=a):H a=ce:=by
 cases q:H a with
 |none=>rfl
 |some u=>exact absurd (AG (x.lt q) e) (AR _)
def lV.kept(x:lV P w H h)(k:∀b u,h.get? b=am u->h'.get? b=am u):lV P w H h':=λa o e=>
 (x a o e).xn (λb u _ q=>k b u q) (λ_ q=>q) λ_ _ q=>q
def lV.laid(x:lV P w H h)(k:∀b u,h.get? b=am u->h'.get? b=am u)(hp:h.objs.size<=a)(new:bE P w (upd H a o) h' a o):lV P w (upd H a o) h':=λb u e=>by
 have hn:=x.fresh hp;by_cases hb:b=a
 .subst hb;rw[ay]at e;cases e;exact new
 .rw[aj hb]at e;exact(x b u e).xn (λc v _ q=>k c v q) (λc q=>by rw[aj (bG q hn)];exact q) λc xs q=>by rw[aj (bG q hn)];exact q
end
def Rd(H:Hp)(a:db)(u:HO):Prop:=H a=am u\/∃o,H a=am (.bS o u)
def Rd.ok{H:Hp}{u:HO}(r:Rd H a u)(x:lV P w H h):bE P w H h a u:=by
 rcases r with r|⟨o,r⟩
 .exact x a u r
 .obtain⟨_,q⟩:=x a _ r;exact q
def Mut:Option HO->Prop
 |some (.lst _)=>True
 |some (.dK _)=>True
 |some (.dT _)=>True
 |some (.set _ _)=>True
 |some (.ins _ _ _)=>True
 |some (.ext _)=>True
 |_=>False
section
variable{H:Hp}{x:db}{o':HO}
def lV.write(ok:lV P w H h)(mu:Mut (H x))(he:e=x\/H e=am (.own x))(k:∀b u,b≠e->h.get? b=am u->h'.get? b=am u)(è:∃u,h'.get? e=am u)(new:bE P w (upd H x o') h' x o'):lV P w (upd H x o') h':=λb u q=>by
 have UI:∀c y,H c=am (.own y)->c≠x:=λc y r z=>by subst z;rw[r]at mu;exact mu
 have agA:∀c xs,H c=am (.tup xs)->c≠x:=λc xs r z=>by subst z;rw[r]at mu;exact mu
 by_cases hb:b=x
 .subst hb;rw[ay]at q;cases q;exact new
 .rw[aj hb]at q;by_cases ZY:b=e
  .have q':H b=am (.own x):=by
    rcases he with z|z
    .exact absurd (ZY.trans z) hb
    .rw[ZY];exact z
   rw[q]at q';cases q';obtain⟨v,hv⟩:=è;exact⟨v,by rw[ZY];exact hv⟩
  .refine(ok b u q).xn (λc v hc r=>k c v ?_ r) (λc r=>by rw[aj (UI c b r)];exact r) λc xs r=>by rw[aj (agA c xs r)];exact r
   rcases hc with rfl|hc
   .exact ZY
   .rintro rfl;rcases he with z|z
    .exact UI c b hc z
    .rw[hc]at z;cases z;exact hb rfl
end
structure Un(fs ex:List db)(H H':Hp)(h h':r9):Prop where
 keep:∀b o,h.get? b=am o->H b=ce->b∉fs->b∉ex->h'.get? b=am o
 slot:∀b o,h.get? b=am o->H b=ce->b∈fs->b∉ex->∃sl,h'.get? b=am {o with slots:=sl}
 free:∀b o,h.get? b=am o->H b=ce->b∉ex->H' b=ce
 there:∀b o,h.get? b=am o->b∉ex->∃o',h'.get? b=am o'
 dB:∀b xs,H b=am (.tup xs)->H' b=am (.tup xs)
 qR:∀b o u,H b=am (.bS o u)->H' b=am (.bS o u)
 u5:∀b ps,H b=am (.zN ps)->∃more,H' b=am (.zN (ps++more))
section
variable{fs ex:O db}{H H1:Hp}{h1:r9}{x:db}{o:HO}
def Un.any(u:Un fs ex H H1 h h1)(q:h.get? b=am ob)(n:H b=ce)(hx:b∉ex):∃sl,h1.get? b=am {ob with slots:=sl}:=by
 by_cases hb:b∈fs
 .exact u.slot b ob q n hb hx
 .exact⟨ob.slots,u.keep b ob q n hb hx⟩
def Un.kept(k:∀b u,h.get? b=am u->h'.get? b=am u):Un fs ex H H h h':=
 ⟨λb ob q _ _ _=>k b ob q,λb ob q _ _ _=>⟨ob.slots,k b ob q⟩,λ_ _ _ n _=>n,λb ob q _=>⟨ob,k b ob q⟩,λ_ _ q=>q,λ_ _ _ q=>q,λ_ ps q=>⟨#[],by rw[q];simp⟩⟩
def Un.refl:Un fs ex H H h h:=Un.kept λ_ _ q=>q
def Un.laid(k:∀b u,h.get? b=am u->h'.get? b=am u)(hp:h.objs.size<=a)(hn:H a=ce):Un fs ex H (upd H a o) h h' where
 keep:=λb u q _ _ _=>k b u q
 slot:=λb u q _ _ _=>⟨u.slots,k b u q⟩
 free:=λb u q n _=>by rw[aj (AB (AG (Ap q) hp))];exact n
 there:=λb u q _=>⟨u,k b u q⟩
 dB:=λb xs q=>by rw[aj (bG q hn)];exact q
 qR:=λb u xs q=>by rw[aj (bG q hn)];exact q
 u5:=λb ps q=>⟨#[],by rw[aj (bG q hn),q];simp⟩
def Un.write(mu:Mut (H x))(he:e=x\/H e=am (.own x))(k:∀b u,b≠e->h.get? b=am u->h'.get? b=am u)(è:∃u,h'.get? e=am u):Un fs ex H (upd H x o) h h':=by
 have hx:∀b,H b=ce->b≠x:=λb n z=>by subst z;rw[n]at mu;exact mu
 have hb:∀b,H b=ce->b≠e:=λb n z=>by
  subst z;rcases he with r|r
  .exact hx b n r
  .rw[n]at r;cases r
 have hm:∀b u,H b=am u->¬Mut (am u)->b≠x:=λb u q nm z=>by subst z;rw[q]at mu;exact nm mu
 refine⟨λb u q n _ _=>k b u (hb b n) q,λb u q n _ _=>⟨u.slots,k b u (hb b n) q⟩,λb u q n _=>by rw[aj (hx b n)];exact n,λb u q _=>?_,
  λb xs q=>by rw[aj (hm b _ q λz=>z)];exact q,λb u xs q=>by rw[aj (hm b _ q λz=>z)];exact q,λb ps q=>⟨#[],by rw[aj (hm b _ q λz=>z),q];simp⟩⟩
 by_cases ZY:b=e
 .subst ZY;exact è
 .exact⟨u,k b u ZY q⟩
end
def trk(h:r9)(H:Hp):O db:=(Ar h.objs.size).filter λa=>(H a).isSome
def yz(h:r9)(H:Hp):r9:=PySem.W.hideAll h (trk h H)
def NS(h:r9)(H:Hp):(yz h H).objs.size=h.objs.size:=PySem.W.hideAll_size _ _
def Rq{H:Hp}{o:Obj}(e:h.get? b=am o)(n:H b=ce):(yz h H).get? b=am o:=
 PySem.W.hideAll_get _ e λhm=>by
  have q:=(A3.mp hm).2;rw[n]at q;simp at q
def UB{H:Hp}{o:Obj}(e:(yz h H).get? b=am o):h.get? b=am o/\H b=ce:=by
 have e':=PySem.W.of_hideAll (trk h H) e;refine⟨e',?_⟩;cases q:H b with
 |none=>rfl
 |some x=>
  have z:(yz h H).get? b=ce:=PySem.W.hideAll_none (trk h H) (A3.mpr ⟨AQ.mpr (Ap e'),by simp[q]⟩);rw[z]at e;cases e
def V8(g h:r9)(L:db):O (db×Obj):=(Ar h.objs.size).filterMap λa=>if a=L\/(g.get? a).isSome=true then ce else (h.get? a).map λo=>(a,o)
def rest(g h:r9)(L d:db):O (db×Obj):=(V8 g h L).filter λp=>decide (p.1≠d)
end L2
variable{H H':L2.Hp}{o:FR}{Z:O (A9×FR)}{g':Array PySem.GenState}{ch:O A9}{it:A9}{i j:Nat}{M:PySem.Model}{A:PySem.Around}{E:A8->Dv->Prop}{v:L2.V}{Q:Unit->Dv->Prop}{s':Dv}
namespace L2
structure Mod(K:Aa)(mg:Str->Option ci)(base:r9):Prop where
 kin:K.In base
 glob:base.Ns lc mg
 blt:∃mb,base.Ns GE mb/\∀x:Str,x≠"__name__"->mb x=re x
 nolimit:base.NoLimit
 bm:∃bm ob,mg "__builtins__"=am (.ref bm)/\bm≠GE/\base.get? bm=am ob/\ob.cls=.type "module"/\ob.dict=am GE/\ob.data=.plain
structure Cx where
 prog:wP
 w:Da
 K:Aa
 mg:Str->Option ci
 base:r9
 A:zn
 N:List Str
 s₀:cr
 H₀:Hp
 env:Env
 outer:List Env
 stack:List Env
 ex:List db
 fn:Str->Bool
 calm:Bool
 pn:List (db×Obj)
 xe:ci->cr->Prop
abbrev gq(x:Str):Prop:=(x==("__debug__":Str))=false
abbrev zy(x:Str):Prop:=(x==("__classdict__":Str))=false
abbrev gK(X:Cx)(e:nw)(es:O nw):Prop:=lm (e::es) X.env=(false,o0 e X.env)::lm es X.env
abbrev jO(X:Cx)(p:Pos)(es:O nw):Prop:=(BT p (lm es X.env)).any (·.1)=false
abbrev oK(X:Cx)(e:nw):Prop:=∀x,foldedSetIterable e X.env x=pure x
abbrev HWa(X:Cx)(p:Pos)(l:O nw):Prop:=((BT p (lm l X.env)).all (λx=>!x.1)&&(backToKw p (keywordEach [] X.env)).all (λx=>x.1.isSome)&&decide (l.length+([]:O Keyword).length+(if ([]:O Keyword).isEmpty then 0 else 1)<30))=true
abbrev SN(p q:Pos):Prop:=(p.endLine==q.line)=true
abbrev SI(X:Cx)(y:Str):Prop:=X.fn y=true\/X.env.scope.names.lookup y=am .local
def OV(l:O Env):O db:=l.filterMap (·.frame)
abbrev Cx.fs(X:Cx):O db:=OV X.outer
def wX(sc:pc)(x:Str):Prop:=sc.names.lookup x=am .local\/sc.names.lookup x=am .cell\/sc.names.lookup x=am .free
def Loc(sc:pc)(x:Str):Prop:=sc.names.lookup x=am .local\/sc.names.lookup x=am .cell
def Look(env:Env)(h:r9)(m:Str->Option ci)(x:Str)(u:ci):Prop:=
 (env.kindOf x=am .local/\m x=am u)\/((env.kindOf x=am .cell\/env.kindOf x=am .free)/\∃c,env.cells.lookup x=am c/\h.IsCell c (am u))
structure Cx.Ok(X:Cx):Prop where
 mod:Mod X.K X.mg X.base
 kind:X.env.scope.kind=.function
 glob:X.env.globals=lc
 blt:X.env.builtins=GE
 above:X.s₀.heap.objs.size<=X.env.locals
 inj:∀x y c,X.env.cells.lookup x=am c->X.env.cells.lookup y=am c->x=y
 has:∀x,(X.env.kindOf x=am .cell\/X.env.kindOf x=am .free)->∃c,X.env.cells.lookup x=am c
 cab:∀x c,X.fn x=true->X.env.cells.lookup x=am c->X.s₀.heap.objs.size<=c
 hd:X.calm=true->X.A.handled=ce
 frames:X.A.frames=am X.stack
 stk:X.stack=X.outer\/(X.stack=X.env::X.outer/\X.env.frame=am X.env.locals)
 exf:∀b∈X.ex,b≠X.env.locals/\∀x c,X.env.cells.lookup x=am c->c≠b
 bs:∀b o,X.base.get? b=am o->X.s₀.heap.get? b=am o/\X.H₀ b=ce
 VZ:X.base.objs.size<=X.s₀.heap.objs.size
 Qz:∀b o,X.base.get? b=am o->b∉X.ex
 RP:∀b∈X.ex,b∉X.fs
 qQ:X.s₀.heap.FunFrames X.base X.outer
 Z3:∀b∈X.fs,X.H₀ b=ce
structure Inv(X:Cx)(Z:List (db×Obj))(σ:List (Option V))(H:Hp)(s:cr):Prop where
 ok:X.Ok
 os:s.os=X.s₀.os
 bare:Os s.gens
 base:Un X.fs X.ex X.H₀ H X.s₀.heap s.heap
 loc:∃m,s.heap.Ns X.env.locals m/\∀(i:Nat) (x:Str) (v:V),X.N[i]?=am x->σ[i]?=am (am v)->wX X.env.scope x->∃u,RelV v u/\Look X.env s.heap m x u
 cell:∀x c,X.env.cells.lookup x=am c->∃v,s.heap.IsCell c v
 free:H X.env.locals=ce
 jN:∀x c,X.env.cells.lookup x=am c->H c=ce
 pin:∀p∈X.pn++Z,s.heap.get? p.1=am p.2/\H p.1=ce/\p.1≠X.env.locals/\p.1∉X.fs/\∀v,p.2.data≠.cell v
 br:lV X.prog X.w H s.heap
 len:σ.length=X.N.length
section
variable{X:Cx}{σ:O (Option V)}{s:cr}
def Cx.Ok.agD(ok:X.Ok)(e:X.base.get? b=am o):b∉X.fs:=λhb=>by
 have:=(ok.qQ.mem hb).1;rw[e]at this;cases this
def Inv.bs(I:Inv X Z σ H s):∀b o,X.base.get? b=am o->s.heap.get? b=am o/\H b=ce:=λb o e=>
 ⟨I.base.keep b o (I.ok.bs b o e).1 (I.ok.bs b o e).2 (I.ok.agD e) (I.ok.Qz b o e),I.base.free b o (I.ok.bs b o e).1 (I.ok.bs b o e).2 (I.ok.Qz b o e)⟩
def Inv.bk(I:Inv X Z σ H s):∀b o,X.base.get? b=am o->s.heap.get? b=am o:=λb o e=>(I.bs b o e).1
def Inv.mod(I:Inv X Z σ H s):Mod X.K X.mg X.base:=I.ok.mod
def Inv.qi(I:Inv X Z σ H s):X.K.In s.heap:=I.ok.mod.kin.keeps I.bk
def Inv.lt(I:Inv X Z σ H s):X.env.locals<s.heap.objs.size:=let ⟨_,hn,_⟩:=I.loc;hn.lt
def Inv.sz(I:Inv X Z σ H s):X.s₀.heap.objs.size<=s.heap.objs.size:=Ax I.ok.above (C5 I.lt)
def Inv.agC(I:Inv X Z σ H s)(h:s.heap.objs.size<=a):a∉X.fs:=λhb=>by
 obtain⟨_,o,ho,_⟩:=I.ok.qQ.mem hb;exact absurd (AG (Ap ho) (Ax I.sz h)) (AR _)
def Inv.cne(I:Inv X Z σ H s):∀x c,X.env.cells.lookup x=am c->c≠X.env.locals:=λx c e z=>by
 obtain⟨v,o,ho,hd⟩:=I.cell x c e;obtain⟨m,⟨o',es,ep,ZP,ÿ,_⟩,_⟩:=I.loc;rw[z,ZP]at ho;cases ho;rw[ÿ]at hd;cases hd
def Inv.qQ(I:Inv X Z σ H s):s.heap.FunFrames X.base X.outer:=by
 have all:∀l,(∀b∈OV l,b∈X.fs)->X.s₀.heap.FunFrames X.base l->s.heap.FunFrames X.base l:=by
  intro l
  induction l with
  |nil=>intro _ _;trivial
  |cons env r ih=>
   intro hs hl;obtain⟨hk,⟨L,o,hf,hn,ho,hd⟩,hr⟩:=hl;have hL:=hs L (by unfold OV;rw[AJ,hf];exact Bw);obtain⟨sl,e⟩:=I.base.slot L o ho (I.ok.Z3 L hL) hL λz=>I.ok.RP L z hL;exact⟨hk,⟨L,_,hf,hn,e,hd⟩,ih (λb hb=>hs b (by unfold OV;rw[AJ,hf];exact AL _ hb)) hr⟩
 exact all X.outer (λ_ hb=>hb) I.ok.qQ
def Inv.stack(I:Inv X Z σ H s):s.heap.FunFrames X.base X.stack:=by
 rcases I.ok.stk with e|⟨e,hf⟩
 .rw[e];exact I.qQ
 .rw[e];obtain⟨m,hn,_⟩:=I.loc;refine .cons (by rw[I.ok.kind];decide) hf hn ?_ I.qQ;exact Heap.get?_none_of_le (Ax I.ok.VZ I.ok.above)
def Inv.IG(I:Inv X Z σ H s):∀b∈OV X.stack,b∈X.env.locals::X.fs:=λb hb=>by
 rcases I.ok.stk with e|⟨e,hf⟩
 .rw[e]at hb;exact AL _ hb
 .rw[e]at hb;unfold OV at hb;rw[AJ,hf]at hb;exact hb
def Inv.La(I:Inv X Z σ H s):∀b∈OV X.stack,H b=ce:=λb hb=>by
 rcases AI.mp (I.IG b hb) with e|hb
 .rw[e];exact I.free
 .obtain⟨_,o,ho,_⟩:=I.ok.qQ.mem hb;exact I.base.free b o ho (I.ok.Z3 b hb) λz=>I.ok.RP b z hb
def Inv.step{t':Nat}{d':Drawn}(I:Inv X Z σ H s)(S4:∀b∈ch,(b∈X.ex\/X.s₀.heap.objs.size<=b)/\b≠X.env.locals/\(∀x c,X.env.cells.lookup x=am c->c≠b)/\∀p∈X.pn++Z,p.1≠b)(keep:∀b o,b≠X.env.locals->b∉X.fs->b∉ch->s.heap.get? b=am o->H b=ce->h'.get? b=am o)(slot:∀b o,b≠X.env.locals->b∈X.fs->b∉ch->s.heap.get? b=am o->H b=ce->∃sl,h'.get? b=am {o with slots:=sl})(free:∀b o,b∉ch->s.heap.get? b=am o->H b=ce->H' b=ce)(there:∀b o,b∉ch->s.heap.get? b=am o->∃o',h'.get? b=am o')(dB:∀b xs,H b=am (.tup xs)->H' b=am (.tup xs))(qR:∀b o u,H b=am (.bS o u)->H' b=am (.bS o u))(u5:∀b ps,H b=am (.zN ps)->∃more,H' b=am (.zN (ps++more)))(ns:∀m,s.heap.Ns X.env.locals m->h'.Ns X.env.locals m)(br:lV X.prog X.w H' h')(hg:Os g'):Inv X Z σ H' {s with heap:=h',gens:=g',drawn:=d',toks:=t'}:=by
 have neL:∀b o,X.s₀.heap.get? b=am o->b≠X.env.locals:=λb o e=>AB (AG (Ap e) I.ok.above);have ĉ:∀b o,X.s₀.heap.get? b=am o->b∉X.ex->b∉ch:=λb o e hx hb=>by
  rcases (S4 b hb).1 with z|z
  .exact hx z
  .exact absurd (AG (Ap e) z) (AR _)
 have Û:∀x c,X.env.cells.lookup x=am c->∀v,s.heap.IsCell c v->h'.IsCell c v:=λx c e v ⟨o,ho,hd⟩=>by
  have õ:c∉ch:=λz=>(S4 c z).2.2.1 x c e rfl;by_cases hc:c∈X.fs
  .obtain⟨sl,q⟩:=slot c o (I.cne x c e) hc õ ho (I.jN x c e);exact⟨_,q,hd⟩
  .exact⟨o,keep c o (I.cne x c e) hc õ ho (I.jN x c e),hd⟩
 refine⟨I.ok,I.os,hg,⟨λb o e n hb hx=>?_,λb o e n hb hx=>?_,λb o e n hx=>?_,λb o e hx=>?_,λb xs e=>dB b xs (I.base.dB b xs e),λb o xs e=>qR b o xs (I.base.qR b o xs e),λb ps e=>?_⟩,?_,λx c e=>?_,?_,λx c e=>?_,λp hp=>?_,br,I.len⟩
 .exact keep b o (neL b o e) hb (ĉ b o e hx) (I.base.keep b o e n hb hx) (I.base.free b o e n hx)
 .obtain⟨sl,e1⟩:=I.base.slot b o e n hb hx;obtain⟨sl',e2⟩:=slot b _ (neL b o e) hb (ĉ b o e hx) e1 (I.base.free b o e n hx);exact⟨sl',e2⟩
 .obtain⟨o',e1⟩:=I.base.there b o e hx;exact free b o' (ĉ b o e hx) e1 (I.base.free b o e n hx)
 .obtain⟨o',e1⟩:=I.base.there b o e hx;exact there b o' (ĉ b o e hx) e1
 .obtain⟨m1,e1⟩:=I.base.u5 b ps e;obtain⟨m2,e2⟩:=u5 b _ e1;exact⟨m1++m2,by rw[e2,Array.append_assoc]⟩
 .obtain⟨m,hn,hl⟩:=I.loc;refine⟨m,ns m hn,λi x v e1 e2 e3=>?_⟩;obtain⟨u,r,l⟩:=hl i x v e1 e2 e3;refine⟨u,r,?_⟩;rcases l with l|⟨k,c,e,z⟩
  .exact .inl l
  .exact .inr ⟨k,c,e,Û x c e _ z⟩
 .obtain⟨v,z⟩:=I.cell x c e;exact⟨v,Û x c e v z⟩
 .obtain⟨m,⟨o,_,_,ho,_⟩,_⟩:=I.loc;exact free _ o (λz=>(S4 _ z).2.1 rfl) ho I.free
 .obtain⟨v,o,ho,hd⟩:=I.cell x c e;exact free c o (λz=>(S4 c z).2.2.1 x c e rfl) ho (I.jN x c e)
 .obtain⟨e,n,ne,nf,d⟩:=I.pin p hp;have õ:p.1∉ch:=λz=>(S4 p.1 z).2.2.2 p hp rfl;exact⟨keep p.1 p.2 ne nf õ e n,free p.1 p.2 õ e n,ne,nf,d⟩
def Inv.un{t':Nat}(I:Inv X Z σ H s)(u:Un X.fs [] H H' s.heap h')(br:lV X.prog X.w H' h'):Inv X Z σ H' {s with heap:=h',toks:=t'}:=by
 obtain⟨m,⟨o,es,ep,ho,r⟩,_⟩:=id I.loc;obtain⟨sl,hL⟩:=u.any ho I.free (by simp);exact I.step (g':=s.gens) (d':=s.drawn) (ch:=[]) (λ_ z=>nomatch z) (λb o _ hb _ e n=>u.keep b o e n hb (by simp)) (λb o _ hb _ e n=>u.slot b o e n hb (by simp)) (λb o _ e n=>u.free b o e n (by simp)) (λb o _ e=>u.there b o e (by simp)) u.dB u.qR u.u5 (λm' hm=>by
  obtain⟨o',ė,Ę,ZP,r'⟩:=hm;rw[ho]at ZP;cases ZP;exact⟨_,ė,Ę,hL,r'⟩) br I.bare
def Inv.call{t':Nat}{d':Drawn}(I:Inv X Z σ H s)(u:Un (OV X.stack) ch H H' s.heap h')(br:lV X.prog X.w H' h')(hg:Os g')(S4:∀b∈ch,(b∈X.ex\/X.s₀.heap.objs.size<=b)/\b≠X.env.locals/\(∀x c,X.env.cells.lookup x=am c->c≠b)/\∀p∈X.pn++Z,p.1≠b):Inv X Z σ H' {s with heap:=h',gens:=g',drawn:=d',toks:=t'}:=by
 obtain⟨m,⟨o,es,ep,ho,r⟩,_⟩:=id I.loc;obtain⟨sl,hL⟩:=u.any ho I.free λz=>(S4 _ z).2.1 rfl;exact I.step (ch:=ch) S4 (λb o hL hb hc e n=>u.keep b o e n (λz=>(AI.mp (I.IG b z)).elim hL hb) hc) (λb o _ _ hc e n=>u.any e n hc) (λb o hc e n=>u.free b o e n hc) (λb o hc e=>u.there b o e hc) u.dB u.qR u.u5 (λm' hm=>by
  obtain⟨o',ė,Ę,ZP,r'⟩:=hm;rw[ho]at ZP;cases ZP;exact⟨_,ė,Ę,hL,r'⟩) br hg
def Inv.turned{t':Nat}(I:Inv X Z σ H s)(k:∀b o,b≠it->s.heap.get? b=am o->h'.get? b=am o)(hn:H it=ce)(hL:it≠X.env.locals)(h1:it∈X.ex\/X.s₀.heap.objs.size<=it)(h2:∀x c,X.env.cells.lookup x=am c->c≠it)(h3:∀p∈X.pn++Z,p.1≠it):Inv X Z σ H {s with heap:=h',toks:=t'}:=by
 have WK:∀b u,H b=am u->b≠it:=λb u e z=>by rw[z,hn]at e;cases e
 refine I.step (g':=s.gens) (d':=s.drawn) (ch:=[it]) (λb hb=>?_) (λb o _ _ hc e _=>k b o (λz=>hc (by simp[z])) e) (λb o _ _ hc e _=>⟨o.slots,k b o (λz=>hc (by simp[z])) e⟩) (λ_ _ _ _ n=>n)
  (λb o hc e=>⟨o,k b o (λz=>hc (by simp[z])) e⟩) (λ_ _ e=>e) (λ_ _ _ e=>e) (λb ps e=>⟨#[],by rw[e];simp⟩) (λm hm=>?_) (λb u e=>?_) I.bare
 .have e:b=it:=by simpa using hb
  subst e;exact⟨h1,hL,h2,h3⟩
 .obtain⟨o,es,ep,ho,r⟩:=hm;exact⟨o,es,ep,k _ o (BQ hL) ho,r⟩
 .refine(I.br b u e).xn (λc v hc q=>k c v ?_ q) (λ_ q=>q) λ_ _ q=>q;rcases hc with z|z
  .rw[z];exact WK b u e
  .exact WK c _ z
def Inv.tok(I:Inv X Z σ H s)(t:Nat):Inv X Z σ H {s with toks:=t}:=I.un Un.refl I.br
def Inv.kept{t':Nat}(I:Inv X Z σ H s)(k:∀b u,s.heap.get? b=am u->h'.get? b=am u):Inv X Z σ H {s with heap:=h',toks:=t'}:=I.un (Un.kept k) (I.br.kept k)
def Inv.laid{o:HO}{t':Nat}(I:Inv X Z σ H s)(k:∀b u,s.heap.get? b=am u->h'.get? b=am u)(hp:s.heap.objs.size<=a)(new:bE X.prog X.w (upd H a o) h' a o):Inv X Z σ (upd H a o) {s with heap:=h',toks:=t'}:=I.un (Un.laid k hp (I.br.fresh hp)) (I.br.laid k hp new)
def Inv.write{x:db}{o:HO}{t':Nat}(I:Inv X Z σ H s)(mu:Mut (H x))(he:e=x\/H e=am (.own x))(k:∀b u,b≠e->s.heap.get? b=am u->h'.get? b=am u)(è:∃u,h'.get? e=am u)(new:bE X.prog X.w (upd H x o) h' x o):Inv X Z σ (upd H x o) {s with heap:=h',toks:=t'}:=I.un (Un.write mu he k è) (I.br.write mu he k è new)
def Inv.Ln{Gw:O (db×Obj)}(I:Inv X Z σ H s)(h:∀p∈Gw,s.heap.get? p.1=am p.2/\H p.1=ce/\p.1≠X.env.locals/\p.1∉X.fs/\∀v,p.2.data≠.cell v):Inv X Gw σ H s:=
 ⟨I.ok,I.os,I.bare,I.base,I.loc,I.cell,I.free,I.jN,λp hp=>(AX.mp hp).elim (λz=>I.pin p (BS _ z)) (h p),I.br,I.len⟩
def GN{N:O Str}(hN:N.Nodup){x:Str}(a:N[i]?=am x)(b:N[j]?=am x):i=j:=by
 obtain⟨h1,e1⟩:=Ai.mp a;obtain⟨h2,e2⟩:=Ai.mp b;exact(E2 hN).mp (e1.trans e2.symm)
def vT{x:Str}(I:Inv X Z σ H s)(hN:X.N.Nodup)(hi:X.N[i]?=am x)(hx:Loc X.env.scope x)(r:RelV v u)(h:∀s',Inv X Z (σ.set i (am v)) H s'->(∃a,Ce a s.heap s'.heap/\(a=X.env.locals\/X.env.cells.lookup x=am a))->Q () s')(hf:SI X x:=by first|exact .inl rfl|exact .inr rfl|assumption):ga M A (storeName X.env x u) Q E s:=by
 obtain⟨m,hn,hl⟩:=id I.loc;have ahu:(X.env.scope.kind==.class||(X.env.scope.kind==.module&&X.env.locals != X.env.globals))=false:=by rw[I.ok.kind];rfl
 have adh:i < σ.length:=by rw[I.len];exact(Ai.mp hi).1
 have cne:=I.cne;have Î:∀{a:db}{h':r9},(∃o,s.heap.get? a=am o/\H a=ce)->Ce a s.heap h'->lV X.prog X.w H h':=λ{a h'} ha hs b ob e=>by
  obtain⟨_,_,Xk⟩:=ha;refine(I.br b ob e).xn (λc w' hc q=>(hs.2 c ?_).trans q) (λ_ q=>q) λ_ _ q=>q;rintro rfl;rcases hc with rfl|hc
  .rw[Xk]at e;cases e
  .rw[Xk]at hc;cases hc
 rcases hx with hk|hk
 .refine wpAny_storeName_local hk hn (λh' hn' hs=>?_) ahu;obtain⟨oL,_,_,Xh,_⟩:=id hn;refine h _ ⟨I.ok,I.os,I.bare,⟨λb o e n hb hx=>?_,λb o e n hb hx=>?_,I.base.free,λb o e hx=>?_,I.base.dB,I.base.qR,I.base.u5⟩,⟨_,hn',λj y v' e1 e2 e3=>?_⟩,λy c e=>?_,I.free,I.jN,λp hp=>?_,Î ⟨oL,Xh,I.free⟩ hs,by simpa using I.len⟩ ⟨_,hs,.inl rfl⟩
  .exact(hs.2 b (AB (AG (Ap e) I.ok.above))).trans (I.base.keep b o e n hb hx)
  .obtain⟨sl,e1⟩:=I.base.slot b o e n hb hx;exact⟨sl,(hs.2 b (AB (AG (Ap e) I.ok.above))).trans e1⟩
  .obtain⟨o',e1⟩:=I.base.there b o e hx;exact⟨o',(hs.2 b (AB (AG (Ap e) I.ok.above))).trans e1⟩
  .by_cases hj:j=i
   .subst hj;rw[hi]at e1;cases e1;rw[CN adh]at e2;cases e2;exact⟨u,r,.inl ⟨hk,by simp⟩⟩
   .rw[B6 (BQ hj)]at e2;obtain⟨u',r',q⟩:=hl j y v' e1 e2 e3;refine⟨u',r',?_⟩;rcases q with⟨k,e⟩|⟨k,c,e,z⟩
    .refine .inl ⟨k,?_⟩;have:y≠x:=λe=>hj (GN hN e1 (e▸hi));simp[this,e]
    .exact .inr ⟨k,c,e,z.sameBut hs (cne y c e)⟩
  .obtain⟨w',z⟩:=I.cell y c e;exact⟨w',z.sameBut hs (cne y c e)⟩
  .obtain⟨e,n,ne,nf,d⟩:=I.pin p hp;exact⟨(hs.2 p.1 ne).trans e,n,ne,nf,d⟩
 .have ý:X.fn x=true:=by
   rcases hf with z|z
   .exact z
   .rw[z]at hk;cases hk
  obtain⟨c,hc⟩:=I.ok.has x (.inl hk);obtain⟨w',z⟩:=I.cell x c hc;refine wpAny_storeName_cell I.ok.kind hk hc z (λh' Xp hs=>?_);obtain⟨oc,hoc,ahg⟩:=id z;refine h {s with heap:=h'} ⟨I.ok,I.os,I.bare,⟨λb o e n hb hx=>?_,λb o e n hb hx=>?_,I.base.free,λb o e hx=>?_,I.base.dB,I.base.qR,I.base.u5⟩,⟨m,hn.sameBut hs (BQ (cne x c hc)),λj y v' e1 e2 e3=>?_⟩,λy c' e=>?_,I.free,I.jN,λp hp=>?_,Î ⟨oc,hoc,I.jN x c hc⟩ hs,by simpa using I.len⟩ ⟨c,hs,.inr hc⟩
  .exact(hs.2 b (AB (AG (Ap e) (I.ok.cab x c ý hc)))).trans (I.base.keep b o e n hb hx)
  .obtain⟨sl,e1⟩:=I.base.slot b o e n hb hx;exact⟨sl,(hs.2 b (AB (AG (Ap e) (I.ok.cab x c ý hc)))).trans e1⟩
  .obtain⟨o',e1⟩:=I.base.there b o e hx;exact⟨o',(hs.2 b (AB (AG (Ap e) (I.ok.cab x c ý hc)))).trans e1⟩
  .by_cases hj:j=i
   .subst hj;rw[hi]at e1;cases e1;rw[CN adh]at e2;cases e2;exact⟨u,r,.inr ⟨.inl hk,c,hc,Xp⟩⟩
   .rw[B6 (BQ hj)]at e2;obtain⟨u',r',q⟩:=hl j y v' e1 e2 e3;refine⟨u',r',?_⟩;rcases q with q|⟨k,c',e,z'⟩
    .exact .inl q
    .refine .inr ⟨k,c',e,z'.sameBut hs ?_⟩;rintro rfl;exact hj (GN hN e1 (I.ok.inj _ _ _ e hc▸hi))
  .by_cases ZX:c'=c
   .subst ZX;exact⟨_,Xp⟩
   .obtain⟨w2,z2⟩:=I.cell y c' e;exact⟨w2,z2.sameBut hs ZX⟩
  .obtain⟨e,n,ne,nf,d⟩:=I.pin p hp;refine⟨(hs.2 p.1 ?_).trans e,n,ne,nf,d⟩;intro q;rw[q,hoc]at e;have q':oc=p.2:=Option.some.inj e;exact d w' (by rw[<- q'];exact ahg)
def nC{x:Str}(I:Inv X Z σ H s)(hN:X.N.Nodup)(hi:X.N[i]?=am x)(hx:Loc X.env.scope x)(r:RelV v u)(h:∀s',Inv X Z (σ.set i (am v)) H s'->Q () s')(hf:SI X x:=by first|exact .inl rfl|exact .inr rfl|assumption):ga M A (storeName X.env x u) Q E s:=
 vT I hN hi hx r (λs' I' _=>h s' I') hf
def Inv.aee(I:Inv X Z σ H s)(ho:s'.os=s.os)(u:Un (OV X.stack) ch H H' s.heap s'.heap)(br:lV X.prog X.w H' s'.heap)(hg:Os s'.gens)(S4:∀b∈ch,(b∈X.ex\/X.s₀.heap.objs.size<=b)/\b≠X.env.locals/\(∀x c,X.env.cells.lookup x=am c->c≠b)/\∀p∈X.pn++Z,p.1≠b):Inv X Z σ H' s':=by
 obtain⟨h',g',d',t',o'⟩:=s';have e:o'=s.os:=ho;subst e;exact I.call (g':=g') (t':=t') (d':=d') u br hg S4
end
abbrev XK:=ci->Option db->Hp->Prop
abbrev St:=O (Option V)
abbrev VK:=V->Hp->Prop
abbrev TE:=St->Hp->VK->Prop
abbrev TT:=St->Hp->(Bool->Hp->Prop)->Prop
abbrev TA:=St->Hp->(O V->Hp->Prop)->Prop
structure Ends where
 nx:St->Hp->Prop
 rt:VK
 bk:St->Hp->Prop:=λ_ _=>False
 ct:St->Hp->Prop:=λ_ _=>False
abbrev TS:=Ends->St->Hp->Prop
def EP(X:Cx)(Z:O (db×Obj))(σ:St)(Q:VK)(u:ci)(s':cr):Prop:=∃v H',Inv X Z σ H' s'/\RelV v u/\Q v H'
def TP(X:Cx)(Z:O (db×Obj))(σ:St)(Q:Bool->Hp->Prop)(b:Bool)(s':cr):Prop:=∃H',Inv X Z σ H' s'/\Q b H'
def AP(X:Cx)(Z:O (db×Obj))(σ:St)(Q:O V->Hp->Prop)(us:O ci)(s':cr):Prop:=∃vs H',Inv X Z σ H' s'/\Vals vs us/\Q vs H'
def SP(X:Cx)(Z:O (db×Obj))(D:Ends)(f:Flow)(s':cr):Prop:=
 match f with
 |.next=>∃σ' H',Inv X Z σ' H' s'/\D.nx σ' H'
 |.brk=>∃σ' H',Inv X Z σ' H' s'/\D.bk σ' H'
 |.cont=>∃σ' H',Inv X Z σ' H' s'/\D.ct σ' H'
 |.ret u=>∃v σ' H',Inv X Z σ' H' s'/\RelV v u/\D.rt v H'
def PE(X:Cx)(e:nw)(t:TE):Prop:=
 ∀(Z:O (db×Obj)) (s:cr) (σ:St) (H:Hp) (Q:VK),Inv X Z σ H s->t σ H Q->ga (im X.prog X.w) X.A (o0 e X.env) (EP X Z σ Q) X.xe s
def PT(X:Cx)(e:nw)(t:TT):Prop:=
 ∀(Z:O (db×Obj)) (s:cr) (σ:St) (H:Hp) (Q:Bool->Hp->Prop),Inv X Z σ H s->t σ H Q->ga (im X.prog X.w) X.A (isTrue e X.env (o0 e X.env)) (TP X Z σ Q) X.xe s
def PW(X:Cx)(e:nw)(t:TT):Prop:=
 ∀(Å:Sem ci) (Z:O (db×Obj)) (s:cr) (σ:St) (H:Hp) (Q:Bool->Hp->Prop),Inv X Z σ H s->t σ H Q->ga (im X.prog X.w) X.A (isTrue e X.env Å) (TP X Z σ Q) X.xe s
def PW.pt{X:Cx}{e:nw}{t:TT}(h:PW X e t):PT X e t:=h _
def PA(X:Cx)(es:O nw)(t:TA):Prop:=
 ∀(pos:Pos) (Z:O (db×Obj)) (s:cr) (σ:St) (H:Hp) (Q:O V->Hp->Prop),Inv X Z σ H s->t σ H Q->ga (im X.prog X.w) X.A (spliced (BT pos (lm es X.env))) (AP X Z σ Q) X.xe s
def PS(X:Cx)(st:sB)(t:TS):Prop:=
 ∀(Z:O (db×Obj)) (s:cr) (σ:St) (H:Hp) (D:Ends),Inv X Z σ H s->t D σ H->ga (im X.prog X.w) X.A (exec st X.env) (SP X Z D) X.xe s
def mz(X:Cx)(st:O sB)(t:TS):Prop:=
 ∀(Z:O (db×Obj)) (s:cr) (σ:St) (H:Hp) (D:Ends),Inv X Z σ H s->t D σ H->ga (im X.prog X.w) X.A (execs st X.env) (SP X Z D) X.xe s
def bU{t:Sem α}{Q Q':α->cr->Prop}{s:cr}(h:ga M A t Q E s)(hQ:∀a s,Q a s->Q' a s):ga M A t Q' E s:=BF h hQ λ_ _ x=>x
end L2
variable{x:BR}{a:BW}{X:L2.Cx}{σ:L2.St}{Q:A8->Dv->Prop}{ta tb:L2.TE}{R:L2.V->L2.V->L2.Hp->Prop}{pos:Cg}
namespace L2
section
def bin{b:nw}(ha:PE X a ta)(hb:PE X b tb){s:cr}(I:Inv X Z σ H s)(h:ta σ H λx H1=>tb σ H1 λy H2=>R x y H2){Q:α->cr->Prop}{f:ci->ci->Sem α}(hf:∀v u s2 x y H2,Inv X Z σ H2 s2->RelV x v->RelV y u->R x y H2->ga (im X.prog X.w) X.A (f v u) Q X.xe s2):ga (im X.prog X.w) X.A (o0 a X.env) (λv s₁=>ga (im X.prog X.w) X.A (o0 b X.env) (λu s₂=>ga (im X.prog X.w) X.A (f v u) Q X.xe s₂) X.xe s₁) X.xe s:=by
 refine bU (ha Z s σ H _ I h) λv s1 ⟨x,H1,I1,r1,q1⟩=>?_;refine bU (hb Z s1 σ H1 _ I1 q1) λu s2 ⟨y,H2,I2,r2,q2⟩=>?_;exact hf v u s2 x y H2 I2 r1 r2 q2
def Ya(i:Nat):TE:=λσ H Q=>∃v,σ[i]?=am (am v)/\Q v H
def tC(v:V):TE:=λ_ H Q=>Q v H
def c8(hN:X.N[i]?=am x)(hv:wX X.env.scope x)(hd: ~~~(gq x))(gM: ~~~(zy x)):PE X (.Name x pos) (Ya i):=by
 intro Z s σ H Q I h;obtain⟨v,e,h⟩:=h;obtain⟨m,hn,hl⟩:=I.loc;obtain⟨u,r,l⟩:=hl i x v hN e hv;have fin:EP X Z σ Q u s:=⟨v,H,I,r,h⟩;rcases l with⟨hk,hm⟩|⟨hk,c,hc,Xn⟩
 .exact wpAny_Name (wpAny_loadName_local I.ok.kind hk hn hm fin) hd
 .rcases hk with hk|hk
  .exact wpAny_Name (wpAny_loadName_cell I.ok.kind hk hc Xn fin) hd
  .exact wpAny_Name (wpAny_loadName_free I.ok.kind hk hc Xn fin gM) hd
def bq{i j pos}:PE X (.Constant (.int i) j pos) (tC (.int i)):=λ_ _ _ H _ I h=>wpAny_Constant_int ⟨.int i,H,I.tok _,⟨_,rfl⟩,h⟩
def ack{b j pos}:PE X (.Constant (.bool b) j pos) (tC (.bl b)):=λ_ _ _ H _ I h=>Constant_bool ⟨.bl b,H,I,rfl,h⟩
def Qn{j pos}:PE X (.Constant .none j pos) (tC .aM):=λ_ _ _ H _ I h=>Constant_none ⟨.aM,H,I,rfl,h⟩
def YR{x j pos}:PE X (.Constant (.str x) j pos) (tC (.str x)):=λ_ _ _ H _ I h=>Calls.Constant_str ⟨.str x,H,I.tok _,⟨_,rfl⟩,h⟩
def Gl(X:Cx)(x:Str):Prop:=X.env.kindOf x=am .globalImplicit
def yf{s:cr}(I:Inv X Z σ H s)(hg:Gl X x)(hm:X.mg x=am u)(h:Q u s)(hd: ~~~(gq x)):ga (im X.prog X.w) X.A (o0 (.Name x pos) X.env) Q E s:=
 En I.ok.kind hg (Calls.loadGlobal_global (by rw[I.ok.glob];exact I.mod.glob.keeps I.bk) hm h) hd
def fx{s:cr}(I:Inv X Z σ H s)(hg:Gl X x)(hm:X.mg x=ce)(hv:re x=am u)(h:Q u s)(hn: ~~~(x≠"__name__"))(hd: ~~~(gq x)):ga (im X.prog X.w) X.A (o0 (.Name x pos) X.env) Q E s:=by
 obtain⟨mb,h1,h2⟩:=I.mod.blt;exact En I.ok.kind hg (Calls.loadGlobal_builtin (by rw[I.ok.glob];exact I.mod.glob.keeps I.bk) hm (by rw[I.ok.blt];exact h1.keeps I.bk) ((h2 x hn).trans hv) h) hd
def rC(hg:Gl X x)(hm:X.mg x=am u)(r:RelV v u)(hd: ~~~(gq x)):PE X (.Name x pos) (tC v):=
 λ_ _ _ H _ I h=>yf I hg hm ⟨v,H,I,r,h⟩ hd
def Ut(hg:Gl X x)(hm:X.mg x=ce)(hv:re x=am u)(r:RelV v u)(hn: ~~~(x≠"__name__"))(hd: ~~~(gq x)):PE X (.Name x pos) (tC v):=
 λ_ _ _ H _ I h=>fx I hg hm hv ⟨v,H,I,r,h⟩ hn hd
variable{b:nw}
variable{tA Yd:TT}{rest:O nw}
def abL(t u:TT):TT:=λσ H Q=>t σ H λc H1=>if c=true then u σ H1 Q else Q false H1
def tOr(t u:TT):TT:=λσ H Q=>t σ H λc H1=>if c=true then Q true H1 else u σ H1 Q
def af2(t:TT):TT:=λσ H Q=>t σ H λc H1=>Q (!c) H1
def Lk(ha:PT X a tA):PW X (.BoolOp .And [a] pos) tA:=by
 intro wh Z s σ H Q I h;refine isTrue_and (bU (ha Z s σ H Q I h) λc s1 e=>?_);cases c with
 |true=>exact isTrue_and_nil e
 |false=>exact e
def YK(ha:PT X a tA):PW X (.BoolOp .Or [a] pos) tA:=by
 intro wh Z s σ H Q I h;refine isTrue_or (bU (ha Z s σ H Q I h) λc s1 e=>?_);cases c with
 |false=>exact isTrue_or_nil e
 |true=>exact e
def Qa(ha:PT X a tA)(hb:PW X (.BoolOp .And (b::rest) pos) Yd):PW X (.BoolOp .And (a::b::rest) pos) (abL tA Yd):=by
 intro wh Z s σ H Q I h;refine isTrue_and (bU (ha Z s σ H _ I h) λc s1 ⟨H1,I1,q1⟩=>?_);cases c with
 |true=>exact hb wh Z s1 σ H1 Q I1 q1
 |false=>exact⟨H1,I1,q1⟩
def acf(ha:PT X a tA)(hb:PW X (.BoolOp .Or (b::rest) pos) Yd):PW X (.BoolOp .Or (a::b::rest) pos) (tOr tA Yd):=by
 intro wh Z s σ H Q I h;refine isTrue_or (bU (ha Z s σ H _ I h) λc s1 ⟨H1,I1,q1⟩=>?_);cases c with
 |true=>exact⟨H1,I1,q1⟩
 |false=>exact hb wh Z s1 σ H1 Q I1 q1
def YL(ha:PT X a tA):PT X (.UnaryOp .Not a pos) (af2 tA):=by
 intro Z s σ H Q I h;exact isTrue_not (ha Z s σ H (λc H1=>Q (!c) H1) I h)
def abK(ta tb:TE):TE:=λσ H Q=>ta σ H λx H1=>∃c,x=.bl c/\if c=true then tb σ H1 Q else Q (.bl false) H1
def YS{op}{t:TE}(h:PE X a t):PE X (.BoolOp op [a] pos) t:=λZ s σ H Q I hw=>BoolOp_one (h Z s σ H Q I hw)
def YU(ha:PE X a ta)(hb:PE X (.BoolOp .And (b::rest) pos) tb):PE X (.BoolOp .And (a::b::rest) pos) (abK ta tb):=by
 intro Z s σ H Q I h;refine BoolOp_and (bU (ha Z s σ H _ I h) λv s1 ⟨x,H1,I1,r1,q1⟩=>?_);obtain⟨c,rfl,q1⟩:=q1;cases r1;refine Dw ?_;cases c with
 |true=>exact hb Z s1 σ H1 Q I1 q1
 |false=>exact⟨.bl false,H1,I1,rfl,q1⟩
def tIf(t:TT)(ta tb:TE):TE:=λσ H Q=>t σ H λc H1=>if c=true then ta σ H1 Q else tb σ H1 Q
def Gz{c:nw}(hc:PT X c tA)(ha:PE X a ta)(hb:PE X b tb):PE X (.IfExp c a b pos) (tIf tA ta tb):=by
 intro Z s σ H Q I h;refine wpAny_IfExp (bU (hc Z s σ H _ I h) λd s1 ⟨H1,I1,q1⟩=>?_);cases d with
 |true=>exact ha Z s1 σ H1 Q I1 q1
 |false=>exact hb Z s1 σ H1 Q I1 q1
end
end L2
variable{xs ys:O L2.V}{e tg:BW}{y:L2.V}{D:L2.Ends}{te to:L2.TE}{es:O BW}{k n:Nat}{Ù px py pt:Cg}{body:O PySem.Stmt}
namespace L2
def b9(K:Aa)(H:Hp)(a:db)(xs:O V):Prop:=
 Rd H a (.lst xs)\/
  ∃(o:Obj) (aq:Array ci) (n:Nat),K.lookup a=am o/\o.cls=.type "list"/\o.dict=ce/\o.data=.seq aq n/\aq.size<=sizeLine/\Vals xs aq.toList
def dM(K:Aa)(H:Hp)(a:db)(xs:O V):Prop:=
 Rd H a (.tup xs)\/
  ∃(o:Obj) (aq:Array ci) (n:Nat),K.lookup a=am o/\o.cls=.type "tuple"/\o.data=.seq aq n/\aq.size<=sizeLine/\Vals xs aq.toList
def ah1:ci->Option V
 |.none=>am .aM
 |.bool b=>am (.bl b)
 |.int i _=>am (.int i)
 |.str x _=>am (.str x)
 |.bytes b _=>am (.Mo b)
 |.float b _=>am (.Z6 b)
 |.ref a=>am (.ref a)
 |.type n=>am (.ty n)
 |_=>ce
def RelV.abs{x:V}(r:RelV x u):ah1 u=am x:=by
 cases x with
 |aM=>cases r;rfl
 |bl _=>cases r;rfl
 |int _=>obtain⟨t,rfl⟩:=r;rfl
 |str _=>obtain⟨t,rfl⟩:=r;rfl
 |Mo _=>obtain⟨t,rfl⟩:=r;rfl
 |Z6 _=>obtain⟨t,rfl⟩:=r;rfl
 |ref _=>cases r;rfl
 |ty _=>cases r;rfl
def RelV.inj{x:V}(r:RelV x u)(q:RelV y u):x=y:=Option.some.inj (r.abs.symm.trans q.abs)
theorem Vals.inj:∀{xs ys:O V}{us:O ci},Vals xs us->Vals ys us->xs=ys
 |_,_,_,.nil,.nil=>rfl
 |_,_,_,.cons r t,.cons r' t'=>by rw[r.inj r',Vals.inj t t']
section
variable{s:cr}{a:db}
def b9.of{K:Aa}(h:H a=am (.lst xs)):b9 K H a xs:=.inl (.inl h)
def dM.of{K:Aa}(h:H a=am (.tup xs)):dM K H a xs:=.inl (.inl h)
theorem Inv.list(I:Inv X Z σ H s)(h:b9 X.K H a xs):∃aq:O ci,Vals xs aq/\PlainL s.heap a aq.toArray/\xs.length<=sizeLine:=by
 rcases h with h|⟨o,aq,n,hk,hc,hd,hs,hz,r⟩
 .obtain⟨z,aq,n,r,e⟩:=h.ok I.br;exact⟨aq,r,⟨_,n,e,rfl,rfl,rfl⟩,z⟩
 .refine⟨aq.toList,r,⟨o,n,I.qi a o hk,hc,hd,by simpa using hs⟩,?_⟩;have e:=r.length;simp at e;lia
theorem Inv.tuple(I:Inv X Z σ H s)(h:dM X.K H a xs):∃aq:O ci,Vals xs aq/\IsTup s.heap a aq.toArray/\xs.length<=sizeLine:=by
 rcases h with h|⟨o,aq,n,hk,hc,hs,hz,r⟩
 .obtain⟨z,aq,r,p,_⟩:=h.ok I.br;exact⟨aq,r,p,z⟩
 .refine⟨aq.toList,r,⟨o,I.qi a o hk,hc,n,by simpa using hs⟩,?_⟩;have e:=r.length;simp at e;lia
def Inv.GZ(I:Inv X Z σ H s)(h:b9 X.K H a xs)(h':b9 X.K H a ys):xs=ys:=by
 obtain⟨aq,r,⟨o,n,e,_,_,d⟩,_⟩:=I.list h;obtain⟨eT,r',⟨o',n',e',_,_,d'⟩,_⟩:=I.list h';rw[e]at e';cases e';rw[d]at d';injection d' with d1 _;have:aq=eT:=by simpa using congrArg Array.toList d1
 subst this;exact r.inj r'
def Inv.kY(I:Inv X Z σ H s)(h:dM X.K H a xs)(h':dM X.K H a ys):xs=ys:=by
 obtain⟨aq,r,⟨o,e,_,n,d⟩,_⟩:=I.tuple h;obtain⟨eT,r',⟨o',e',_,n',d'⟩,_⟩:=I.tuple h';rw[e]at e';cases e';rw[d]at d';injection d' with d1 _;have:aq=eT:=by simpa using congrArg Array.toList d1
 subst this;exact r.inj r'
end
abbrev Cx.uZ(X:Cx)(E:ci->cr->Prop):Cx:={X with xe:=E}
abbrev Cx.SW(X:Cx):Cx:=X.uZ λ_ _=>False
def Cx.Ok.uZ(ok:X.Ok)(E:ci->cr->Prop):(X.uZ E).Ok:=
 ⟨ok.mod,ok.kind,ok.glob,ok.blt,ok.above,ok.inj,ok.has,ok.cab,ok.hd,ok.frames,ok.stk,ok.exf,ok.bs,ok.VZ,ok.Qz,ok.RP,ok.qQ,ok.Z3⟩
def Cx.Ok.j6(ok:(X.uZ E).Ok):X.Ok:=
 ⟨ok.mod,ok.kind,ok.glob,ok.blt,ok.above,ok.inj,ok.has,ok.cab,ok.hd,ok.frames,ok.stk,ok.exf,ok.bs,ok.VZ,ok.Qz,ok.RP,ok.qQ,ok.Z3⟩
section
variable{s:cr}
def Inv.uZ(I:Inv X Z σ H s)(E:ci->cr->Prop):Inv (X.uZ E) Z σ H s:=⟨I.ok.uZ E,I.os,I.bare,I.base,I.loc,I.cell,I.free,I.jN,I.pin,I.br,I.len⟩
def Inv.j6(I:Inv (X.uZ E) Z σ H s):Inv X Z σ H s:=⟨I.ok.j6,I.os,I.bare,I.base,I.loc,I.cell,I.free,I.jN,I.pin,I.br,I.len⟩
def SP.j6{f:Flow}(h:SP (X.uZ E) Z D f s'):SP X Z D f s':=by
 cases f with
 |next=>obtain⟨σ',H',I,q⟩:=h;exact⟨σ',H',I.j6,q⟩
 |brk=>obtain⟨σ',H',I,q⟩:=h;exact⟨σ',H',I.j6,q⟩
 |cont=>obtain⟨σ',H',I,q⟩:=h;exact⟨σ',H',I.j6,q⟩
 |ret u=>obtain⟨v,σ',H',I,r,q⟩:=h;exact⟨v,σ',H',I.j6,r,q⟩
def mz.SW{st:O sB}{t:TS}(h:mz X.SW st t):mz X st t:=λZ s σ H D I hw=>
 BF (h Z s σ H D (I.uZ _) hw) (λ_ _ q=>q.j6) λ_ _ z=>Bx z
end
section
variable{st:sB}{rest:O sB}{t u:TS}
def Wr:TS:=λD σ H=>D.nx σ H
def abA(t u:TS):TS:=λD σ H=>t {D with nx:=u D} σ H
def rA:mz X [] Wr:=λ_ _ σ H _ I h=>Ea ⟨σ,H,I,h⟩
def dW(h1:PS X st t)(h2:mz X rest u):mz X (st::rest) (abA t u):=by
 intro Z s σ H D I h;refine wpAny_execs_cons (bU (h1 Z s σ H {D with nx:=u D} I h) λf s1 q=>?_);cases f with
 |next=>
  obtain⟨σ',H',I',q⟩:=q;exact h2 Z s1 σ' H' D I' q
 |ret v=>exact q
 |brk=>exact q
 |cont=>exact q
def rz(h1:PS X st t):mz X [st] t:=by
 intro Z s σ H D I h;refine wpAny_execs_cons (bU (h1 Z s σ H D I h) λf s1 q=>?_);cases f with
 |next=>exact Ea q
 |ret v=>exact q
 |brk=>exact q
 |cont=>exact q
def abH:TS:=λD σ H=>D.ct σ H
def Gr:PS X (.Continue pos) abH:=λ_ _ σ H _ I h=>wpAny_Continue ⟨σ,H,I,h⟩
def Inv.quiet{s:cr}(I:Inv X Z σ H s):interactive X.env=false:=by simp[interactive,I.ok.kind]
def Wt(te:TE):TS:=λD σ H=>te σ H λ_ H1=>D.nx σ H1
def k6(he:PE X e te)(hs:‹pr e ce pos.line X.env=pure false›):PS X (.Expr e pos) (Wt te):=by
 intro Z s σ H D I h;exact wpAny_Expr_any (bU (he Z s σ H _ I h) λv s1 ⟨x,H1,I1,r1,q1⟩=>⟨σ,H1,I1,q1⟩) I.quiet hs
def abB(te:TE):TS:=λD σ H=>te σ H D.rt
def sH(he:PE X e te):PS X (.Return (am e) pos) (abB te):=by
 intro Z s σ H D I h;exact wpAny_Return_some (bU (he Z s σ H _ I h) λv s1 ⟨x,H1,I1,r1,q1⟩=>⟨x,σ,H1,I1,r1,q1⟩)
def abE(c:TT)(t u:TS):TS:=λD σ H=>c σ H λb H1=>if b=true then t D σ H1 else u D σ H1
def Ll{c:nw}{a b:O sB}{tc:TT}(hc:PT X c tc)(ha:mz X a t)(hb:mz X b u):PS X (.If c a b pos) (abE tc t u):=by
 intro Z s σ H D I h;refine wpAny_If (bU (hc Z s σ H _ I h) λd s1 ⟨H1,I1,q1⟩=>?_);cases d with
 |true=>exact ha Z s1 σ H1 D I1 q1
 |false=>exact hb Z s1 σ H1 D I1 q1
def Yc:TS:=λ_ _ _=>False
end
abbrev TG:=V->St->Hp->(St->Hp->Prop)->Prop
abbrev TGs:=O V->St->Hp->(St->Hp->Prop)->Prop
def PG(X:Cx)(Ê:nw)(t:TG):Prop:=
 ∀(Z:O (db×Obj)) (s:cr) (σ:St) (H:Hp) (v:V) (u:ci) (Q:St->Hp->Prop),Inv X Z σ H s->RelV v u->t v σ H Q->
  ga (im X.prog X.w) X.A (IR Ê X.env u) (λ_ s'=>∃σ' H',Inv X Z σ' H' s'/\Q σ' H') X.xe s
def PGs(X:Cx)(ts:O nw)(t:TGs):Prop:=
 ∀(Z:O (db×Obj)) (s:cr) (σ:St) (H:Hp) (vs:O V) (us:O ci) (Q:St->Hp->Prop),Inv X Z σ H s->Vals vs us->t vs σ H Q->
  ga (im X.prog X.w) X.A (assignInOrder ((Fa ts X.env).map (·.2)) us) (λ_ s'=>∃σ' H',Inv X Z σ' H' s'/\Q σ' H') X.xe s
abbrev OB:=V->V->V->Hp->(Hp->Prop)->Prop
def OC(X:Cx)(t:OB):Prop:=
 ∀(Z:O (db×Obj)) (s:cr) (σ:St) (H:Hp) (o i v:V) (ov iv u:ci) (Q:Hp->Prop),Inv X Z σ H s->RelV o ov->RelV i iv->RelV v u->t o i v H Q->
  ga (im X.prog X.w) X.A (setItem ov iv u) (λ_ s'=>∃H',Inv X Z σ H' s'/\Q H') X.xe s
section
def d6(i:Nat):TG:=λv σ H Q=>Q (σ.set i (am v)) H
def Uj(hN:X.N.Nodup)(hi:X.N[i]?=am x)(hx:Loc X.env.scope x)(hf:SI X x:=by first|exact .inl rfl|exact .inr rfl|assumption):PG X (.Name x pos) (d6 i):=by
 intro Z s σ H v u Q I r h;exact wpAny_assign_Name (nC I hN hi hx r (λs' I'=>⟨_,H,I',h⟩) hf)
def ady:TGs:=λvs σ H Q=>vs=[]/\Q σ H
def RB(t:TG)(u:TGs):TGs:=λvs σ H Q=>∃v r,vs=v::r/\t v σ H λσ' H'=>u r σ' H' Q
def cQ:PGs X [] ady:=by
 intro Z s σ H vs us Q I r h;obtain⟨e,h⟩:=h;subst e;cases r;exact assignInOrder_nil ⟨σ,H,I,h⟩
def aU{t:TG}{u:TGs}(h1:PG X e t)(h2:PGs X es u)(hs:‹(Fa (e::es) X.env).map (·.2)=IR e X.env::(Fa es X.env).map (·.2)›):PGs X (e::es) (RB t u):=by
 intro Z s σ H vs us Q I r h;obtain⟨v,vr,e1,h⟩:=h;subst e1;cases r with
 |cons r rr=>
  rw[hs];exact assignInOrder_cons (bU (h1 Z s σ H _ _ _ I r h) λ_ s1 ⟨σ1,H1,I1,q1⟩=>h2 Z s1 σ1 H1 _ _ Q I1 rr q1)
def adv(K:Aa)(n:Nat)(t:TGs):TG:=λv σ H Q=>∃a xs,v=.ref a/\dM K H a xs/\xs.length=n/\t xs σ H Q
def eJ{t:TGs}(hc:X.calm=true)(h:PGs X es t)(hn:‹(Fa es X.env).length=n›)(tV:‹(Fa es X.env).findIdx? (·.1)=ce›):PG X (.Tuple es k pos) (adv X.K n t):=by
 intro Z s σ H v u Q I r hw;obtain⟨a,xs,e1,hq,hl,hw⟩:=hw;subst e1;cases r;obtain⟨aq,rv,ht,hz⟩:=I.tuple hq;exact assign_Tuple_tuple (I.ok.hd hc) ht (by simp[hn,<- hl,rv.length]) tV λh' hx=>h Z _ σ H xs _ Q (I.kept λb o e=>hx b o (AB (Ap e)) e) (by simpa using rv) hw
def adw(to ti:TE)(t:OB):TG:=λv σ H Q=>to σ H λo H1=>ti σ H1 λi H2=>t o i v H2 λH3=>Q σ H3
def IZ{o i:nw}{ti:TE}{t:OB}(ho:PE X o to)(hi:PE X i ti)(hs:OC X t)(ha:∀v,IR (.Subscript o i pos) X.env v=(do
   let ov <- GM [v] (o0 o X.env)
   let iv <- GM [v,ov] (o0 i X.env)
   standAt pos
   GM [v,ov,iv] (setItem ov iv v)
   release [v,ov,iv] []):=by intro _;rfl):PG X (.Subscript o i pos) (adw to ti t):=by
 intro Z s σ H v u Q I r h;exact Ab (Bn (bU (ho Z s σ H _ I h) λov s1 ⟨x,H1,I1,r1,q1⟩=>Ab (Bn (bU (hi Z s1 σ H1 _ I1 q1) λiv s2 ⟨y,H2,I2,r2,q2⟩=>Ab (EM (Ab (Bn (bU (hs Z s2 σ H2 x y v ov iv u _ I2 r1 r2 r q2) λ_ s3 ⟨H3,I3,q3⟩=>wpAny_release ⟨σ,H3,I3,q3⟩))))))))
def Tq(te:TE)(g:TG):TS:=λD σ H=>te σ H λx H1=>g x σ H1 D.nx
def xB{g:TG}(he:PE X e te)(hg:PG X tg g)(hs:‹GT [tg] e pos.line X.env=pure false›)(hw:‹Ix [tg] e X.env=pure ce›)(h1:‹(Fa [tg] X.env).map (·.2)=[IR tg X.env]›):PS X (.Assign [tg] e pos) (Tq te g):=by
 intro Z s σ H D I h;refine wpAny_Assign_stores (bU (he Z s σ H _ I h) λv s1 ⟨x,H1,I1,r1,q1⟩=>?_) hs hw;rw[h1];exact bU (hg Z s1 σ H1 x v _ I1 r1 q1) λ_ s2 q=>q
def mD(hN:X.N.Nodup)(hi:X.N[i]?=am x)(hx:Loc X.env.scope x)(he:PE X e te)(hs:‹pr e (am (.Name x Ù)) pos.line X.env=pure false›)(hf:SI X x:=by first|exact .inl rfl|exact .inr rfl|assumption):PS X (.Assign [.Name x Ù] e pos) (Tq te (d6 i)):=by
 intro Z s σ H D I h;refine wpAny_Assign_Name (bU (he Z s σ H _ I h) λv s1 ⟨y,H1,I1,r1,q1⟩=>?_) hs;exact nC I1 hN hi hx r1 (λs2 I2=>⟨_,H1,I2,q1⟩) hf
def af1(i j:Nat)(ta:TA):TS:=λD σ H=>ta σ H λvs H1=>∃v w,vs=[v,w]/\D.nx ((σ.set i (am v)).set j (am w)) H1
def YN{y:Str}{b:nw}{ta:TA}{kt k2 YM}(hc:X.calm=true)(hN:X.N.Nodup)(hi:X.N[i]?=am x)(hj:X.N[j]?=am y)(ü:i≠j)(hx:X.env.scope.names.lookup x=am .local)(hy:X.env.scope.names.lookup y=am .local)(ha:PA X [a,b] ta)(hw:Ix [.Tuple [.Name x px,.Name y py] kt pt] (.Tuple [a,b] k2 YM) X.env=pure (am [x,y]))(hs:‹GT [.Tuple [.Name x px,.Name y py] kt pt] (.Tuple [a,b] k2 YM) pos.line X.env=pure false›):PS X (.Assign [.Tuple [.Name x px,.Name y py] kt pt] (.Tuple [a,b] k2 YM) pos) (af1 i j ta):=by
 intro Z s σ H D I h;refine Ab (EM ?_);refine Ab (Ag ?_);refine Ab (Tuple_ (bU (ha _ Z s σ H _ I h) λus s1 ⟨vs,H1,I1,r1,q1⟩=>?_));obtain⟨v,w,e1,q1⟩:=q1;subst e1;obtain⟨u1,u2,rfl,rv,z9⟩:∃u1 u2,us=[u1,u2]/\RelV v u1/\RelV w u2:=by
  cases r1 with
  |cons p q=>
   cases q with
   |cons p' q'=>
    cases q';exact⟨_,_,rfl,p,p'⟩
 refine Bb ?_ (by show 2<=sizeLine;decide);rw[hw];refine Ab (Ag ?_);refine Ab (Dl (Ab (unpackItems_tuple (items:=#[u1,u2]) (I.ok.hd hc) (IsTup.new s1.heap _) λh' wB=>?_)));refine Ab (assignInOrder_cons (wpAny_bindName (nC ((I1.kept λb o e=>Ae _ e).kept (t':=s1.toks) λb o e=>wB b o (AB (Ap e)) e) hN hj (.inl hy) z9 (λs2 I4=>?_) (.inr hy))));refine assignInOrder_cons (wpAny_bindName (nC I4 hN hi (.inl hx) rv (λs3 I5=>assignInOrder_nil (Ag ?_)) (.inr hx)));rw[List.set_comm _ _ (BQ ü)]at I5;exact⟨_,H1,I5,q1⟩
end
section
def X9(c:TT)(tb:TS):TS:=λD σ H=>∃W:Nat->St->Hp->Prop,(∃m,W m σ H)/\∀m σ H,W m σ H->
 c σ H λb H1=>if b=true then ∃N:St->Hp->Prop,(∀σ' H',N σ' H'->∃m',m'<m/\W m' σ' H')/\tb {D with nx:=N,ct:=N,bk:=D.nx} σ H1 else D.nx σ H1
def Gq{c:nw}{tc:TT}{tb:TS}(hp:wn (im X.prog X.w) X.A X.env X.xe)(hc:PT X c tc)(hb:mz X body tb):PS X (.While c body [] pos) (X9 tc tb):=by
 intro Z s σ H D I h;obtain⟨W,⟨m0,w0⟩,turn⟩:=h;refine wpAny_While (codeAny_whileLoop (λn s'=>∃σ' H',Inv X Z σ' H' s'/\W n σ' H') ?_ m0 ⟨σ,H,I,w0⟩);rintro n s1 ⟨σ1,H1,I1,w1⟩;refine Co hp (bU (hc Z s1 σ1 H1 _ I1 (turn n σ1 H1 w1)) λb s2 ⟨H2,I2,q2⟩=>?_);cases b with
 |true=>
  obtain⟨N,hN,q2⟩:=q2;refine Co hp (bU (hb Z s2 σ1 H2 _ I2 q2) λf s3 q3=>?_);cases f with
  |next=>
   obtain⟨σ3,H3,I3,n3⟩:=q3;obtain⟨m',hm,w3⟩:=hN σ3 H3 n3;exact⟨m',hm,σ3,H3,I3,w3⟩
  |cont=>
   obtain⟨σ3,H3,I3,n3⟩:=q3;obtain⟨m',hm,w3⟩:=hN σ3 H3 n3;exact⟨m',hm,σ3,H3,I3,w3⟩
  |brk=>exact q3
  |ret v=>exact q3
 |false=>
  exact Ea ⟨σ1,H2,I2,q2⟩
end
structure It where
 go:Nat->Hp->Prop
 Wm:Nat->Hp->V->Hp->Prop
 stop:Nat->Hp->Prop
def vO(X:Cx)(Z:O (db×Obj))(H:Hp)(b:db):Prop:=
 H b=ce/\b≠X.env.locals/\b∉X.fs/\(b∈X.ex\/X.s₀.heap.objs.size<=b)/\(∀x c,X.env.cells.lookup x=am c->c≠b)/\∀p∈X.pn++Z,p.1≠b
def Inv.Hn{s:cr}(I:Inv X Z σ H s)(hb:s.heap.objs.size<=b)(hn:H' b=ce):vO X Z H' b:=by
 refine⟨hn,Nat.ne_of_gt (AG I.lt hb),I.agC hb,.inr (Ax I.sz hb),λx c e z=>?_,λp hp z=>?_⟩
 .obtain⟨v,q⟩:=I.cell x c e;exact absurd (AG q.lt (by rw[z];exact hb)) (AR _)
 .exact absurd (AG (Ap (I.pin p hp).1) (by rw[z];exact hb)) (AR _)
structure Turn(P:wP)(w:Da)(K:Aa)(tg:nw)(J:It)(fp:List db)(it:db)(tn:Nat->r9->Prop):Prop where
 mem:it∈fp
 obj:∀i h,tn i h->∀b∈fp,∃o,h.get? b=am o/\∀v,o.data≠.cell v
 keep:∀i h h',tn i h->(∀b∈fp,∀o,h.get? b=am o->h'.get? b=am o)->tn i h'
 item:∀(X:Cx),X.prog=P->X.w=w->X.K=K->X.calm=true->∀(i:Nat) (Z:List (db×Obj)) (s:cr) (σ:St) (H:Hp) (E:ci->cr->Prop),Inv X Z σ H s->(∀b∈fp,vO X Z H b)->tn i s.heap->J.go i H->
  ga (im P w) X.A (pyNext (.ref it)) (λr s1=>∃u,r=am u/\
   ga (im P w) X.A (Pi tg (.ref it) u) (λ_ s2=>∃x H',Inv X Z σ H' s2/\RelV x u/\J.Wm i H x H'/\tn (i+1) s2.heap/\∀b∈fp,H' b=ce) E s1) E s
 done:∀(X:Cx),X.prog=P->X.w=w->X.K=K->X.calm=true->∀(i:Nat) (Z:List (db×Obj)) (s:cr) (σ:St) (H:Hp) (E:ci->cr->Prop),Inv X Z σ H s->(∀b∈fp,vO X Z H b)->tn i s.heap->J.stop i H->
  ga (im P w) X.A (pyNext (.ref it)) (λr s1=>r=ce/\Inv X Z σ H s1) E s
 self:∀(A:zn) (i:Nat) (s:cr) (Q:ci->cr->Prop) (E:ci->cr->Prop),tn i s.heap->Q (.ref it) s->ga (im P w) A (pyIter (.ref it)) Q E s
abbrev TI:=St->Hp->(It->Hp->Prop)->Prop
def PIE(X:Cx)(Z:O (db×Obj))(σ:St)(tg:nw)(R:It->Hp->Prop)(Č:ci)(s2:cr):Prop:=
 ∃(it:db) (fp:O db) (tn:Nat->r9->Prop) (J:It) (H':Hp),Č=.ref it/\Inv X Z σ H' s2/\Turn X.prog X.w X.K tg J fp it tn/\tn 0 s2.heap/\(∀b∈fp,vO X Z H' b)/\R J H'
def PI(X:Cx)(tg iter:nw)(wi:TI):Prop:=
 ∀(Z:O (db×Obj)) (s:cr) (σ:St) (H:Hp) (R:It->Hp->Prop),Inv X Z σ H s->wi σ H R->
  ga (im X.prog X.w) X.A (o0 iter X.env) (λv s1=>ga (im X.prog X.w) X.A (pyIter v) (PIE X Z σ tg R) X.xe s1) X.xe s
def Hj{s:cr}{n:String}{vs:Array ci}{Q:Unit->cr->Prop}(ho:s.heap.get? it=am o)(hc:o.cls=.type n)(hd:o.data=.fields vs)(hn:["enumerate","zip","dict_itemiterator","dict_reverseitemiterator","odict_iterator","itertools.zip_longest","itertools.pairwise"].contains n=false)(hQ:Q () s):ga M A (Pi tg (.ref it) u) Q E s:=by
 unfold Pi;cases tg<;>first
  |exact Ag hQ
  |(cases u<;>first
    |exact Ag hQ
    |(
      refine Ab (F4 ho ?_);rw[hc,hd];show ga M A (if (["enumerate","zip","dict_itemiterator","dict_reverseitemiterator","odict_iterator","itertools.zip_longest","itertools.pairwise"].contains n&&vs[0]?==am (Db _))=true then _ else _) Q E s;rw[if_neg (by intro h;rw[hn,FQ]at h;cases h)];exact Ag hQ))
def Itl(K:Aa)(a:db):It:=
 ⟨λi H=>∃xs x,b9 K H a xs/\xs[i]?=am x,λi H x H'=>H'=H/\∀xs,b9 K H a xs->xs[i]?=am x,λi H=>∃xs,b9 K H a xs/\xs.length<=i⟩
def Itt(K:Aa)(a:db):It:=
 ⟨λi H=>∃xs x,dM K H a xs/\xs[i]?=am x,λi H x H'=>H'=H/\∀xs,dM K H a xs->xs[i]?=am x,λi H=>∃xs,dM K H a xs/\xs.length<=i⟩
def Itr(lo:Int)(n:Nat):It:=⟨λi _=>i<n,λi H x H'=>H'=H/\x=.int (lo+i),λi _=>n<=i⟩
theorem MF{K:Aa}(a it:db):Turn P w K tg (Itl K a) [it] it (λi h=>h.IsListIter it a i) where
 mem:=by simp
 obj:=λi h st b hb=>by
  have e:b=it:=by simpa using hb
  subst e;obtain⟨o,e,c,d⟩:=st;exact⟨o,e,λv z=>by rw[d]at z;cases z⟩
 keep:=λi h h' st k=>st.at λo e=>k it (by simp) o e
 item:=by
  intro X hP hw hK hc i Z s σ H E I hf st hg;subst hP hw hK;obtain⟨xs,x,hq,hx⟩:=hg;obtain⟨aq,rv,p,hz⟩:=I.list hq;obtain⟨u,hu,ru⟩:=rv.get hx;obtain⟨f0,f1,f2,f3,f4,f5⟩:=hf it (by simp);refine wpAny_pyNext_list_item st p.isList (by simpa using hu) λh' rk sb=>?_;obtain⟨o,e,c,d⟩:=id rk;exact⟨u,rfl,Hj e c d ⋯ ⟨x,H,(I.turned (λb o hb e=>(sb.2 b hb).trans e) f0 f1 f3 f4 f5),ru,⟨rfl,λys hy=>by rw[I.GZ hy hq];exact hx⟩,rk,λb hb=>(hf b hb).1⟩⟩
 done:=by
  intro X hP hw hK hc i Z s σ H E I hf st hg;subst hP hw hK;obtain⟨xs,hq,hx⟩:=hg;obtain⟨aq,rv,p,hz⟩:=I.list hq;obtain⟨f0,f1,f2,f3,f4,f5⟩:=hf it (by simp);have hl:=rv.length;exact wpAny_pyNext_list_end (I.ok.hd hc) st p.isList (by simp;lia) λh' eb=>⟨rfl,I.turned (t':=s.toks) (λb o hb e=>eb b o hb e) f0 f1 f3 f4 f5⟩
 self:=λ_ _ _ _ _ st h=>wpAny_pyIter_listiter st h
theorem Iw{K:Aa}(a it:db):Turn P w K tg (Itt K a) [it] it (λi h=>h.IsTupleIter it a i) where
 mem:=by simp
 obj:=λi h st b hb=>by
  have e:b=it:=by simpa using hb
  subst e;obtain⟨o,e,c,d⟩:=st;exact⟨o,e,λv z=>by rw[d]at z;cases z⟩
 keep:=λi h h' st k=>st.at λo e=>k it (by simp) o e
 item:=by
  intro X hP hw hK hc i Z s σ H E I hf st hg;subst hP hw hK;obtain⟨xs,x,hq,hx⟩:=hg;obtain⟨aq,rv,p,hz⟩:=I.tuple hq;obtain⟨u,hu,ru⟩:=rv.get hx;obtain⟨f0,f1,f2,f3,f4,f5⟩:=hf it (by simp);refine wpAny_pyNext_tuple_item st (p) (by simpa using hu) λh' rk sb=>?_;obtain⟨o,e,c,d⟩:=id rk;exact⟨u,rfl,Hj e c d ⋯ ⟨x,H,(I.turned (λb o hb e=>(sb.2 b hb).trans e) f0 f1 f3 f4 f5),ru,⟨rfl,λys hy=>by rw[I.kY hy hq];exact hx⟩,rk,λb hb=>(hf b hb).1⟩⟩
 done:=by
  intro X hP hw hK hc i Z s σ H E I hf st hg;subst hP hw hK;obtain⟨xs,hq,hx⟩:=hg;obtain⟨aq,rv,p,hz⟩:=I.tuple hq;obtain⟨f0,f1,f2,f3,f4,f5⟩:=hf it (by simp);have hl:=rv.length;exact wpAny_pyNext_tuple_end (I.ok.hd hc) st (show s.heap.IsTuple a aq.toArray from p) (by simp;lia) λh' eb=>⟨rfl,I.turned (t':=s.toks) (λb o hb e=>eb b o hb e) f0 f1 f3 f4 f5⟩
 self:=λ_ _ _ _ _ st h=>wpAny_pyIter_tupleiter st h
theorem Iy{K:Aa}(it:db)(lo:Int)(n:Nat):Turn P w K tg (Itr lo n) [it] it (λi h=>IsRangeIter h it (lo+(i:Nat)*1) ((n:Int)-(i:Nat)) 1) where
 mem:=by simp
 obj:=λi h st b hb=>by
  have e:b=it:=by simpa using hb
  subst e;exact⟨_,st,λv z=>by
   have z':=z;cases z'⟩
 keep:=λi h h' st k=>k it (by simp) _ st
 item:=by
  intro X hP hw hK hc i Z s σ H E I hf st hg;subst hP hw hK;obtain⟨f0,f1,f2,f3,f4,f5⟩:=hf it (by simp);refine(Walks.range (prog:=X.prog) (I.ok.hd hc) it lo 1 n).item i s _ _ hg st λv h' tk hv rk kk=>?_;obtain⟨t,rfl⟩:=hv;refine⟨_,rfl,Hj rk rfl rfl ⋯ ⟨.int (lo+i),H,(I.turned (λb o hb e=>kk b o (by simpa using hb) e) f0 f1 f3 f4 f5),⟨t,?_⟩,⟨rfl,rfl⟩,rk,λb hb=>(hf b hb).1⟩⟩;rw[Int.mul_one]
 done:=by
  intro X hP hw hK hc i Z s σ H E I hf st hg;obtain⟨f0,f1,f2,f3,f4,f5⟩:=hf it (by simp);exact wpAny_pyNext_range_end (I.ok.hd hc) st (by have:n<=i:=hg;lia) λh' eb=>⟨rfl,I.turned (λb o hb e=>eb b o hb e) f0 f1 f3 f4 f5⟩
 self:=λ_ _ _ _ _ st h=>wpAny_pyIter_rangeiter st h
end L2
variable{hi:Int}{p:Cg}{fp:O A9}{iter:BW}
namespace L2
section
theorem PZ{s:cr}{R:It->Hp->Prop}{lo:Int}{t u v:Tok}{tk:Nat}(I:Inv X Z σ H s)(h1:-(2 ^ 62)<=lo)(h2:lo < 2 ^ 62)(h3:-(2 ^ 62)<=hi)(h4:hi < 2 ^ 62)(q:R (Itr lo (hi-lo).toNat) H):ga (im X.prog X.w) X.A (pyIter (.ref s.heap.objs.size)) (PIE X Z σ tg R) E {s with heap:=s.heap.push {cls:=.type "range",data:=.fields #[.int lo t,.int hi u,.int 1 v]},toks:=tk}:=by
 refine wpAny_pyIter_range (FG ..) (small_one h1 h2 h3 h4) ?_;have I1:Inv X Z σ H {s with heap:=s.heap.push {cls:=.type "range",data:=.fields #[.int lo t,.int hi u,.int 1 v]},toks:=tk}:=I.kept λb o e=>Ae _ e;refine⟨(s.heap.push {cls:=.type "range",data:=.fields #[.int lo t,.int hi u,.int 1 v]}).objs.size,[(s.heap.push {cls:=.type "range",data:=.fields #[.int lo t,.int hi u,.int 1 v]}).objs.size],_,_,H,rfl,
  I1.kept (t':=tk) λb o e=>Ae _ e,Iy _ lo (hi-lo).toNat,?_,λb hb=>?_,q⟩
 .have e1:lo+((0:Nat):Int)*1=lo:=by simp
  have e2:(((hi-lo).toNat:Nat):Int)-((0:Nat):Int)=Builtin.Range.rangeSize lo hi 1:=by rw[rangeSize_one];split<;>lia
  show IsRangeIter _ _ (lo+((0:Nat):Int)*1) ((((hi-lo).toNat:Nat):Int)-((0:Nat):Int)) 1;rw[e1,e2];exact Am _ rfl
 .have e:b=(s.heap.push {cls:=.type "range",data:=.fields #[.int lo t,.int hi u,.int 1 v]}).objs.size:=by simpa using hb
  subst e;exact I1.Hn (Al _) (I1.br.fresh (Al _))
def ac1(ta:TA):TI:=λσ H R=>ta σ H λvs H1=>∃j:Int,vs=[.int j]/\-(2 ^ 62)<=j/\j<2 ^ 62/\R (Itr 0 j.toNat) H1
theorem M9{ta:TA}(hg:Gl X "range")(hm:X.mg "range"=ce)(ha:PA X [a] ta)(hs:‹lm [a] X.env=[(false,o0 a X.env)]›):PI X tg (.Call (.Name "range" p) [a] [] pos) (ac1 ta):=by
 intro Z s σ H R I h;refine Call_ (fx I hg hm boot_range (A2 (bU (ha pos Z s σ H _ I h) λus s1 ⟨vs,H1,I1,r1,q1⟩=>?_) hs rfl));obtain⟨j,e,q1,q2,q⟩:=q1;subst e;cases r1 with
 |cons r rr=>
  cases rr;obtain⟨t,rfl⟩:=r;exact call_range_1 (PZ I1 ∅ ∅ q1 q2 (by simpa using q))
def af4(wi:TI)(g:TG)(tb:TS):TS:=λD σ H=>wi σ H λJ H1=>∃W:Nat->Nat->St->Hp->Prop,(∃m,W 0 m σ H1)/\∀i m σ H,W i m σ H->
 (J.stop i H/\D.nx σ H)\/(J.go i H/\∃N:St->Hp->Prop,(∀σ' H',N σ' H'->∃m',m'<m/\W (i+1) m' σ' H')/\∀x H',J.Wm i H x H'->g x σ H' λσ2 H2=>tb {D with nx:=N,ct:=N,bk:=D.nx} σ2 H2)
def o8(fp:O db)(h:r9):O (db×Obj):=fp.filterMap λb=>(h.get? b).map λo=>(b,o)
def jd(hb:b∈fp)(e:h.get? b=am o):(b,o)∈o8 fp h:=Eu.mpr ⟨b,hb,by rw[e];rfl⟩
def Nd{p:db×Obj}(hp:p∈o8 fp h):p.1∈fp/\h.get? p.1=am p.2:=by
 obtain⟨b,hb,e⟩:=Eu.mp hp;cases q:h.get? b with
 |none=>rw[q]at e;cases e
 |some o=>
  rw[q]at e;have e':=Option.some.inj e;subst e';exact⟨hb,q⟩
def Inv.pinned{s:cr}(I:Inv X Z σ H s)(hf:∀b∈fp,vO X Z H b)(ho:∀b∈fp,∃o,s.heap.get? b=am o/\∀v,o.data≠.cell v):Inv X (Z++o8 fp s.heap) σ H s:=
 I.Ln λp hp=>(AX.mp hp).elim (λz=>I.pin p (AZ _ z)) λz=>by
  obtain⟨hb,e⟩:=Nd z;obtain⟨f0,f1,f2,_⟩:=hf p.1 hb;obtain⟨o,e',d⟩:=ho p.1 hb;rw[e]at e';cases e';exact⟨e,f0,f1,f2,d⟩
def Inv.j8{pl:O (db×Obj)}{s:cr}(I:Inv X (Z++pl) σ H s):Inv X Z σ H s:=I.Ln λp hp=>I.pin p (AZ _ (BS _ hp))
def Qe{wi:TI}{g:TG}{tb:TS}(hp:wn (im X.prog X.w) X.A X.env X.xe)(hc:X.calm=true)(hi:PI X tg iter wi)(hg:PG X tg g)(hb:mz X body tb)(hs:oK X iter:=by intro _;rfl):PS X (.For tg iter body [] pos) (af4 wi g tb):=by
 intro Z s σ H D I h;refine wpAny_For (bU (hi Z s σ H _ I h) λv s1 h1=>bU h1 λČ s2 h2=>?_) hs;obtain⟨it,fp,tn,J,H2,e,I2,T,MU,f2,W,⟨m0,w0⟩,turn⟩:=h2;subst e;have Yg:∀{H':Hp},(∀b∈fp,H' b=ce)->∀b∈fp,vO X Z H' b:=λhn b hb=>⟨hn b hb,(f2 b hb).2⟩;refine codeAny_forLoop_any (λn s'=>∃i σ' H',Inv X Z σ' H' s'/\tn i s'.heap/\(∀b∈fp,H' b=ce)/\W i n σ' H') ?_ m0 ⟨0,σ,H2,I2,MU,λb hb=>(f2 b hb).1,w0⟩;rintro n s3 ⟨i,σ3,H3,I3,î,ā,w3⟩;rcases turn i n σ3 H3 w3 with⟨stop,qn⟩|⟨go,N,hN,step⟩
 .refine Co hp (bU (T.done X rfl rfl rfl hc i Z s3 σ3 H3 X.xe I3 (Yg ā) î stop) λr s4 ⟨hr,I4⟩=>?_);subst hr;exact Ea ⟨σ3,H3,I4,qn⟩
 .refine Co hp (bU (T.item X rfl rfl rfl hc i Z s3 σ3 H3 X.xe I3 (Yg ā) î go) λr s4 ⟨u,hr,h4⟩=>?_);subst hr;refine Co hp (bU h4 λ_ s5 ⟨x,H5,I5,r5,y5,Yh,ľ⟩=>?_);refine Co hp (bU (hg _ s5 σ3 H5 x u _ (I5.pinned (Yg ľ) (T.obj _ _ Yh)) r5 (step x H5 y5)) λ_ s6 ⟨σ6,H6,I6,q6⟩=>?_);refine Co hp (bU (hb _ s6 σ6 H6 _ I6 q6) λf s7 q7=>?_);have again:∀{σ7:St}{H7:Hp},Inv X (Z++o8 fp s5.heap) σ7 H7 s7->N σ7 H7->∃m,m<n/\∃i σ' H',Inv X Z σ' H' s7/\tn i s7.heap/\(∀b∈fp,H' b=ce)/\W i m σ' H':=λ{σ7 H7} I7 n7=>by
   obtain⟨m',hm,w7⟩:=hN σ7 H7 n7;refine⟨m',hm,i+1,σ7,H7,I7.j8,T.keep _ _ _ Yh λb hb o e=>(I7.pin (b,o) (AZ _ (AZ _ (jd hb e)))).1,λb hb=>?_,w7⟩;obtain⟨o,e,d⟩:=T.obj _ _ Yh b hb;exact(I7.pin (b,o) (AZ _ (AZ _ (jd hb e)))).2.1
  cases f with
  |next=>obtain⟨σ7,H7,I7,n7⟩:=q7;exact again I7 n7
  |cont=>obtain⟨σ7,H7,I7,n7⟩:=q7;exact again I7 n7
  |brk=>obtain⟨σ7,H7,I7,q7⟩:=q7;exact⟨σ7,H7,I7.j8,q7⟩
  |ret v=>obtain⟨x7,σ7,H7,I7,r7,q7⟩:=q7;exact⟨x7,σ7,H7,I7.j8,r7,q7⟩
end
end L2
variable{i:Int}{g:Int->Int->Int}{aq:O A8}
namespace L2
abbrev R2:=V->V->Hp->VK->Prop
def iD(X:Cx)(f:ci->ci->Sem ci)(r:R2):Prop:=
 ∀(Z:O (db×Obj)) (s:cr) (σ:St) (H:Hp) (x y:V) (v u:ci) (Q:VK),Inv X Z σ H s->RelV x v->RelV y u->r x y H Q->
  ga (im X.prog X.w) X.A (f v u) (EP X Z σ Q) X.xe s
def UnR(X:Cx)(f:ci->Sem ci)(r:V->Hp->VK->Prop):Prop:=
 ∀(Z:O (db×Obj)) (s:cr) (σ:St) (H:Hp) (x:V) (v:ci) (Q:VK),Inv X Z σ H s->RelV x v->r x H Q->
  ga (im X.prog X.w) X.A (f v) (EP X Z σ Q) X.xe s
def cj(X:Cx)(f:ci)(r:O V->Hp->VK->Prop):Prop:=
 ∀(Z:O (db×Obj)) (s:cr) (σ:St) (H:Hp) (xs:O V) (us:O ci) (Q:VK),Inv X Z σ H s->Vals xs us->r xs H Q->
  ga (im X.prog X.w) X.A (call f us) (EP X Z σ Q) X.xe s
def ah3(X:Cx)(r:V->Hp->(Bool->Hp->Prop)->Prop):Prop:=
 ∀(Z:O (db×Obj)) (s:cr) (σ:St) (H:Hp) (x:V) (v:ci) (Q:Bool->Hp->Prop),Inv X Z σ H s->RelV x v->r x H Q->
  ga (im X.prog X.w) X.A (truthy v) (TP X Z σ Q) X.xe s
def Wq(r:R2)(ta tb:TE):TE:=λσ H Q=>ta σ H λx H1=>tb σ H1 λy H2=>r x y H2 Q
def tUn(r:V->Hp->VK->Prop)(ta:TE):TE:=λσ H Q=>ta σ H λx H1=>r x H1 Q
def rI(C:Int->Int->Prop)(g:Int->Int->V):R2:=λx y H Q=>∃i j,x=.int i/\y=.int j/\C i j/\Q (g i j) H
def Ua(g:Int->Int->V):R2:=λx y H Q=>∃i j,x=.int i/\y=.int j/\Q (g i j) H
def rU(g:Int->V):V->Hp->VK->Prop:=λx H Q=>∃i,x=.int i/\Q (g i) H
section
variable{b:nw}
def aas(ha:PE X a ta)(hb:PE X b tb){s:cr}(I:Inv X Z σ H s)(h:ta σ H λx H1=>tb σ H1 λy H2=>R x y H2){f:ci->ci->Sem ci}(hf:∀v u s2 x y H2,Inv X Z σ H2 s2->RelV x v->RelV y u->R x y H2->ga (im X.prog X.w) X.A (f v u) Q X.xe s2):ga (im X.prog X.w) X.A (o0 a X.env) (λv s₁=>ga (im X.prog X.w) X.A (o0 b X.env) (λu s₂=>ga (im X.prog X.w) X.A (f v u) Q X.xe s₂) X.xe s₁) X.xe s:=by
 exact bU (ha Z s σ H _ I h) λv s1 ⟨x,H1,I1,r1,q1⟩=>bU (hb Z s1 σ H1 _ I1 q1) λu s2 ⟨y,H2,I2,r2,q2⟩=>hf v u s2 x y H2 I2 r1 r2 q2
def cX{op:Operator}{r:R2}(ho:iD X (ut op) r)(ha:PE X a ta)(hb:PE X b tb):PE X (.BinOp a op b pos) (Wq r ta tb):=by
 intro Z s σ H Q I h;exact wpAny_BinOp (aas ha hb I h λv u s2 x y H2 I2 rx ry q=>ho Z s2 σ H2 x y v u Q I2 rx ry q)
def ach{op:UnaryOp}{r:V->Hp->VK->Prop}(ho:UnR X (unaryOp op) r)(ha:PE X a ta):PE X (.UnaryOp op a pos) (tUn r ta):=by
 intro Z s σ H Q I h;exact UnaryOp_ (bU (ha Z s σ H _ I h) λv s1 ⟨x,H1,I1,r1,q1⟩=>ho Z s1 σ H1 x v Q I1 r1 q1)
def opI{f:ci->ci->Sem ci}{C:Int->Int->Prop}(rule:∀(i j:Int) (t u:Tok) (s:cr) (Q:ci->cr->Prop) (E:ci->cr->Prop),C i j->Q (.int (g i j) s.toks) {s with toks:=s.toks+1}->ga (im X.prog X.w) X.A (f (.int i t) (.int j u)) Q E s):iD X f (rI C λi j=>.int (g i j)):=by
 intro Z s σ H x y v u Q I rx ry h;obtain⟨i,j,rfl,rfl,hc,q⟩:=h;obtain⟨t,rfl⟩:=rx;obtain⟨t',rfl⟩:=ry;exact rule i j t t' s _ _ hc ⟨.int (g i j),H,I.tok _,⟨_,rfl⟩,q⟩
def acx{f:ci->ci->Sem ci}(rule:∀(i j:Int) (t u:Tok) (s:cr) (Q:ci->cr->Prop) (E:ci->cr->Prop),Q (.int (g i j) s.toks) {s with toks:=s.toks+1}->ga (im X.prog X.w) X.A (f (.int i t) (.int j u)) Q E s):iD X f (Ua λi j=>.int (g i j)):=by
 intro Z s σ H x y v u Q I rx ry h;obtain⟨i,j,rfl,rfl,q⟩:=h;obtain⟨t,rfl⟩:=rx;obtain⟨t',rfl⟩:=ry;exact rule i j t t' s _ _ ⟨.int (g i j),H,I.tok _,⟨_,rfl⟩,q⟩
def UA{f:ci->ci->Sem ci}{g:Int->Int->Bool}(rule:∀(i j:Int) (t u:Tok) (s:cr) (Q:ci->cr->Prop) (E:ci->cr->Prop),Q (.bool (g i j)) s->ga (im X.prog X.w) X.A (f (.int i t) (.int j u)) Q E s):iD X f (Ua λi j=>.bl (g i j)):=by
 intro Z s σ H x y v u Q I rx ry h;obtain⟨i,j,rfl,rfl,q⟩:=h;obtain⟨t,rfl⟩:=rx;obtain⟨t',rfl⟩:=ry;exact rule i j t t' s _ _ ⟨.bl (g i j),H,I,rfl,q⟩
def ah7(i j:Int):Prop:=0<j/\j<1073741824
def OE(i j:Int):Prop:=0<=j/\j<=1000000/\i.natAbs<2 ^ 64
def Wl(i j:Int):Prop:=(-(2 ^ 64)<i/\i<2 ^ 64)\/(-(2 ^ 64)<j/\j<2 ^ 64)
def Wl.ok{j:Int}(h:Wl i j):xz i j:=by
 rcases h with⟨h1,h2⟩|⟨h1,h2⟩
 .exact .of_left (intBits_le_64 h1 h2)
 .exact .of_right (intBits_le_64 h1 h2)
def Y4:iD X (ut .Add) (Ua λi j=>.int (i+j)):=acx λ_ _ _ _ _ _ _ q=>add_int q
def YX:iD X (ut .Sub) (Ua λi j=>.int (i-j)):=acx λ_ _ _ _ _ _ _ q=>sub_int q
theorem xJ:iD X (ut .FloorDiv) (rI ah7 λi j=>.int (i / j)):=opI λi j _ _ _ _ _ hc q=>by
 have h1:(0:Int)<j:=hc.1;have h2:j<1073741824:=hc.2;exact floordiv_int ∅ (by rw[Int.fdiv_eq_ediv_of_nonneg i ∅];exact q) (.inl (PyProof.noPylong_small ∅))
theorem o9:iD X (ut .Mod) (rI (λ_ j=>0<j) λi j=>.int (i % j)):=opI λi j _ _ _ _ _ hc q=>by
 have h1:(0:Int)<j:=hc;exact mod_int' ∅ (by rw[Int.fmod_eq_emod_of_nonneg i ∅];exact q)
def YZ:iD X (ut .Pow) (rI OE λi j=>.int (i ^ j.toNat)):=opI λ_ _ _ _ _ _ _ hc q=>pow_int_small hc.1 hc.2.1 hc.2.2 q
def unI{f:ci->Sem ci}{g:Int->Int}(rule:∀(i:Int) (t:Tok) (s:cr) (Q:ci->cr->Prop) (E:ci->cr->Prop),Q (.int (g i) s.toks) {s with toks:=s.toks+1}->ga (im X.prog X.w) X.A (f (.int i t)) Q E s):UnR X f (rU λi=>.int (g i)):=by
 intro Z s σ H x v Q I rx h;obtain⟨i,rfl,q⟩:=h;obtain⟨t,rfl⟩:=rx;exact rule i t s _ _ ⟨.int (g i),H,I.tok _,⟨_,rfl⟩,q⟩
def X3:UnR X (unaryOp .USub) (rU λi=>.int (-i)):=unI λ_ _ _ _ _ q=>neg_int q
end
def agd:V->V->Bool
 |.aM,.aM=>true|.aM,.int _=>true|.int _,.aM=>true|.aM,.bl _=>true|.bl _,.aM=>true|.aM,.str _=>true|.str _,.aM=>true
 |.int _,.int _=>true|.bl _,.bl _=>true|.str _,.str _=>true|.Mo _,.Mo _=>true
 |.int _,.str _=>true|.str _,.int _=>true|.bl _,.str _=>true|.str _,.bl _=>true
 |_,_=>false
def rEq:R2:=λx y H Q=>agd x y=true/\Q (.bl (decide (x=y))) H
def Mi{j:Int}:decide (V.int i=V.int j)=(i==j):=by
 rw[CS];simp
def aam{i j:Bool}:decide (V.bl i=V.bl j)=(i==j):=by
 rw[CS];simp
def VQ{i j:Str}:decide (V.str i=V.str j)=(i==j):=by
 rw[CS];simp
def VS{i j:Array UInt8}:decide (V.Mo i=V.Mo j)=(i.toList==j.toList):=by
 rw[CS];cases i;cases j;simp
section
variable{b c:nw}
def cK{s:cr}{Q:VK}{k k':Bool}(I:Inv X Z σ H s)(q:Q (.bl k) H)(e:k=k'):EP X Z σ Q (.bool k') s:=by
 subst e;exact⟨.bl k,H,I,rfl,q⟩
def acw:iD X (sn .Eq) rEq:=by
 intro Z s σ H x y v u Q I rx ry h;obtain⟨hs,q⟩:=h;cases x with
 |aM=>
  cases rx;cases y with
  |aM=>cases ry;exact PySem.EqNone.eq_none_none (cK I q (by simp))
  |bl j=>cases ry;exact PySem.EqNone.eq_none_bool (cK I q (by simp))
  |int j=>obtain⟨t',rfl⟩:=ry;exact PySem.EqNone.eq_none_int (cK I q (by simp))
  |str j=>obtain⟨t',rfl⟩:=ry;exact PySem.EqNone.eq_none_str (cK I q (by simp))
  |_=>exact absurd (hs) AY
 |bl i=>
  cases rx;cases y with
  |aM=>cases ry;exact PySem.EqNone.eq_bool_none (cK I q (by simp))
  |bl j=>cases ry;exact eq_bool (cK I q aam)
  |str j=>obtain⟨t',rfl⟩:=ry;exact PySem.EqMixed.eq_bool_str (cK I q (by simp))
  |_=>exact absurd (show false=true from hs) AY
 |int i=>
  obtain⟨t,rfl⟩:=rx;cases y with
  |aM=>cases ry;exact PySem.EqNone.eq_int_none (cK I q (by simp))
  |int j=>obtain⟨t',rfl⟩:=ry;exact eq_int (cK I q Mi)
  |str j=>obtain⟨t',rfl⟩:=ry;exact PySem.EqMixed.eq_int_str (cK I q (by simp))
  |_=>exact absurd (show false=true from hs) AY
 |str i=>
  obtain⟨t,rfl⟩:=rx;cases y with
  |aM=>cases ry;exact PySem.EqNone.eq_str_none (cK I q (by simp))
  |bl j=>cases ry;exact PySem.EqMixed.eq_str_bool (cK I q (by simp))
  |int j=>obtain⟨t',rfl⟩:=ry;exact PySem.EqMixed.eq_str_int (cK I q (by simp))
  |str j=>obtain⟨t',rfl⟩:=ry;exact eq_str (cK I q VQ)
  |_=>exact absurd (show false=true from hs) AY
 |Mo i=>
  obtain⟨t,rfl⟩:=rx;cases y with
  |Mo j=>obtain⟨t',rfl⟩:=ry;exact PySem.W.eq_bytes (cK I q VS)
  |_=>exact absurd (show false=true from hs) AY
 |_=>cases y<;>exact absurd (show false=true from hs) AY
def acr:iD X (sn .Lt) (Ua λi j=>.bl (decide (i<j))):=UA λ_ _ _ _ _ _ _ q=>lt_int q
def acs:iD X (sn .LtE) (Ua λi j=>.bl (decide (i<=j))):=UA λ_ _ _ _ _ _ _ q=>le_int q
def acu:iD X (sn .Gt) (Ua λi j=>.bl (decide (j<i))):=UA λ_ _ _ _ _ _ _ q=>gt_int q
def acv:iD X (sn .GtE) (Ua λi j=>.bl (decide (j<=i))):=UA λ_ _ _ _ _ _ _ q=>ge_int q
def Y1:iD X (sn .Is) (λx y H Q=>y=.aM/\Q (.bl (decide (x=.aM))) H):=by
 intro Z s σ H x y v u Q I rx ry h;obtain⟨rfl,q⟩:=h;cases ry;refine is_none_gen (cK I q ?_);cases x<;>first
  |(cases rx;rfl)
  |(obtain⟨t,rfl⟩:=rx;rfl)
def Uv:iD X (sn .IsNot) (λx y H Q=>y=.aM/\Q (.bl (!decide (x=.aM))) H):=by
 intro Z s σ H x y v u Q I rx ry h;obtain⟨rfl,q⟩:=h;cases ry;refine isnot_none_gen (cK I q ?_);cases x<;>first
  |(cases rx;rfl)
  |(obtain⟨t,rfl⟩:=rx;rfl)
def iD.or{f:ci->ci->Sem ci}{r r':R2}(h:iD X f r)(h':iD X f r'):iD X f (λx y H Q=>r x y H Q\/r' x y H Q):=by
 intro Z s σ H x y v u Q I rx ry q;rcases q with q|q
 .exact h Z s σ H x y v u Q I rx ry q
 .exact h' Z s σ H x y v u Q I rx ry q
def gw(b:nw){op:CmpOp}(h: ~~~(op≠.In))(h2: ~~~(op≠.NotIn)):tz op b=false:=by
 have e1:(op==CmpOp.In)=false:=by cases op<;>first|rfl|exact absurd rfl h
 have e2:(op==CmpOp.NotIn)=false:=by cases op<;>first|rfl|exact absurd rfl h2
 cases b<;>simp[tz,e1,e2]
def Lo{op:CmpOp}{r:R2}(ho:iD X (sn op) r)(ha:PE X a ta)(hb:PE X b tb)(hm:tz op b=false):PE X (.Compare a [op] [b] pos) (Wq r ta tb):=by
 intro Z s σ H Q I h;exact wpAny_Compare1 (aas ha hb I h λv u s2 x y H2 I2 rx ry q=>ho Z s2 σ H2 x y v u Q I2 rx ry q) hm
def Wo(t:TE):TT:=λσ H Q=>t σ H λx H'=>∃k,x=.bl k/\Q k H'
def gR{op:CmpOp}{r:R2}(ho:iD X (sn op) r)(ha:PE X a ta)(hb:PE X b tb)(hm:tz op b=false):PT X (.Compare a [op] [b] pos) (Wo (Wq r ta tb)):=by
 intro Z s σ H Q I h;refine wpAny_isTrue_Compare1 (bU (ha Z s σ H _ I h) λv s1 ⟨x,H1,I1,r1,q1⟩=>bU (hb Z s1 σ H1 _ I1 q1) λu s2 ⟨y,H2,I2,r2,q2⟩=>
  bU (ho Z s2 σ H2 x y v u _ I2 r1 r2 q2) λc s3 ⟨z,H3,I3,r3,k,e,q3⟩=>?_) hm
 subst e;cases r3;exact Dw ⟨H3,I3,q3⟩
def aau(K:Aa)(x:V)(H:Hp)(k:Bool):Prop:=
 match x with
 |.aM=>k=false
 |.bl b=>k=b
 |.int i=>k=(i != 0)
 |.str y=>y.length<=sizeLine/\k=((y.length:Int) != 0)
 |.Mo y=>y.size<=sizeLine/\k=((y.size:Int) != 0)
 |.ref p=>(∃xs,b9 K H p xs/\k=!xs.isEmpty)\/(∃xs,dM K H p xs/\k=!xs.isEmpty)\/∃aA,H p=am (.dK aA)/\k=!aA.isEmpty
 |_=>False
def JN{aA:O (κ×V)}{vs:O (κ×ci)}(r:KV aA vs):(!vs.isEmpty)=!aA.isEmpty:=by
 cases r<;>rfl
def tS(r:Vals xs aq):(!aq.toArray.isEmpty)=!xs.isEmpty:=by
 cases r<;>simp
def yc:(sizeLine:Nat)<2 ^ 63:=by rw[wT];decide
theorem X5:ah3 X (λx H Q=>∃k,aau X.K x H k/\Q k H):=by
 intro Z s σ H x v Q I rx h;obtain⟨k,e,q⟩:=h;have hs:=wT;cases x with
 |aM=>
  cases rx;have e':=e;subst e';exact truthy_none ⟨H,I,q⟩
 |bl b=>
  cases rx;have e':=e;subst e';exact Dw ⟨H,I,q⟩
 |int i=>
  obtain⟨t,rfl⟩:=rx;have e':=e;subst e';exact PySem.P.truthy_int ⟨H,I,q⟩
 |str y=>
  obtain⟨t,rfl⟩:=rx;obtain⟨hy,e'⟩:y.length<=sizeLine/\k=((y.length:Int) != 0):=e;subst e';exact PySem.P.truthy_str ∅ ⟨H,I.tok _,q⟩
 |Mo y=>
  obtain⟨t,rfl⟩:=rx;obtain⟨hy,e'⟩:y.size<=sizeLine/\k=((y.size:Int) != 0):=e;subst e';exact PySem.W.truthy_bytes ∅ ⟨H,I.tok _,q⟩
 |ref p=>
  cases rx;have e':=e;rcases e' with⟨xs,hx,e'⟩|⟨xs,hx,e'⟩|⟨aA,hx,e'⟩
  .subst e';obtain⟨aq,r,pl,hz⟩:=I.list hx;have Á:=r.length;exact wpAny_truthy_list pl.isList (by simp;lia) ⟨H,I.tok _,by rw[tS r];exact q⟩
  .subst e';obtain⟨aq,r,pl,hz⟩:=I.tuple hx;have Á:=r.length;exact truthy_tuple pl (by simp only[An];lia) ⟨H,I.tok _,by rw[tS r];exact q⟩
  .subst e';obtain⟨hz,hS,vs,r,m⟩:aA.length<=sizeLine/\(p==Gc)=false/\∃vs,KV aA vs/\s.heap.DictOf (cx X.prog X.w) p vs:=I.br p _ hx;have Á:=Paired.length r;exact wpAny_truthy_dict hS m ∅ ⟨H,I.tok _,by rw[JN r];exact q⟩
 |_=>exact(e).elim
def Qc(ha:PE X a ta)(he:∀Å,isTrue a X.env Å=(do let v <- Å;standAt a.pos;GM [v] (truthy v))):PT X a (λσ H Q=>ta σ H λx H'=>∃k,aau X.K x H' k/\Q k H'):=by
 intro Z s σ H Q I h;exact isTrue_plain (bU (ha Z s σ H _ I h) λv s1 ⟨x,H1,I1,r1,q1⟩=>X5 Z s1 σ H1 x v Q I1 r1 q1) (he _)
def Jc:iD X (ut .Add) (λx y H Q=>∃i j,x=.str i/\y=.str j/\i.length+j.length<=sizeLine/\Q (.str (i++j)) H):=by
 intro Z s σ H x y v u Q I rx ry h;obtain⟨i,j,rfl,rfl,hz,q⟩:=h;obtain⟨t,rfl⟩:=rx;obtain⟨t',rfl⟩:=ry;exact add_str (λt' tk=>⟨.str (i++j),H,I.tok _,⟨_,rfl⟩,q⟩) hz
def vals1{x:V}(r:Vals [x] us):∃u,us=[u]/\RelV x u:=by
 cases r with
 |cons r1 r2=>cases r2;exact⟨_,rfl,r1⟩
def vals2{x:V}(r:Vals [x,y] us):∃u w',us=[u,w']/\RelV x u/\RelV y w':=by
 cases r with
 |cons r1 r2=>
  cases r2 with
  |cons r3 r4=>cases r4;exact⟨_,_,rfl,r1,r3⟩
def Oq:cj X (.type "int") (λxs H Q=>(∃i,xs=[.int i]/\Q (.int i) H)\/∃k,xs=[.bl k]/\Q (.int (if k then 1 else 0)) H):=by
 intro Z s σ H xs us Q I r h;rcases h with⟨i,rfl,q⟩|⟨k,rfl,q⟩
 .obtain⟨u,rfl,t,rfl⟩:=vals1 r;exact call_int_int ⟨.int i,H,I,⟨_,rfl⟩,q⟩
 .obtain⟨u,rfl,r1⟩:=vals1 r;cases r1;exact call_int_bool ⟨.int (if k then 1 else 0),H,I.tok _,⟨_,rfl⟩,q⟩
def ael(K:Aa)(x:V)(H:Hp)(n:Nat):Prop:=
 match x with
 |.str y=>y.length<=sizeLine/\n=y.length
 |.Mo y=>y.size<=sizeLine/\n=y.size
 |.ref p=>(∃xs,b9 K H p xs/\n=xs.length)\/∃xs,dM K H p xs/\n=xs.length
 |_=>False
theorem Ss:cj X (.builtin "len") (λxs H Q=>∃x n,xs=[x]/\ael X.K x H n/\Q (.int n) H):=by
 intro Z s σ H xs us Q I r h;obtain⟨x,n,rfl,e,q⟩:=h;obtain⟨u,rfl,rx⟩:=vals1 r;have hs:=wT;cases x with
 |str y=>
  obtain⟨t,rfl⟩:=rx;obtain⟨hy,e'⟩:y.length<=sizeLine/\n=y.length:=e;subst e';exact len_str ∅ ⟨.int _,H,I.tok _,⟨_,rfl⟩,q⟩
 |Mo y=>
  obtain⟨t,rfl⟩:=rx;obtain⟨hy,e'⟩:y.size<=sizeLine/\n=y.size:=e;subst e';exact PySem.W.len_bytes ∅ ⟨.int _,H,I.tok _,⟨_,rfl⟩,q⟩
 |ref p=>
  cases rx;have e':=e;rcases e' with⟨xs,hx,e'⟩|⟨xs,hx,e'⟩
  .subst e';obtain⟨aq,r',pl,hz⟩:=I.list hx;have Á:=r'.length;exact Calls.call_len_list pl.isList (by simp;lia) ⟨.int xs.length,H,I.tok _,⟨_,by simp only[An];rw[Á]⟩,q⟩
  .subst e';obtain⟨aq,r',pl,hz⟩:=I.tuple hx;have Á:=r'.length;exact len_tuple pl (by simp only[An];lia) ⟨.int xs.length,H,I.tok _,⟨_,by simp only[An];rw[Á]⟩,q⟩
 |_=>exact(e).elim
end
end L2
variable{a:A9}{R:PySem.Result->Dv->Prop}{mA:BR->Option A8}{prog:PySem.Program}{kw:O (BR×A8)}{env:PySem.Env}{Ä:BW}{IA:Cg}
namespace L2
structure KS(h:r9)(x dx C:db)(mA:Str->Option ci):Prop where
 obj:h.get? x=am (Cb C dx)
 ns:h.Ns1 dx mA
 ne:dx≠x
def Nq{dx:db}(n:h.Ns1 dx mA):∃od,h.get? dx=am od/\∀name,FE name od=am (mA name):=by
 obtain⟨o,es,ep,ho,hd,hk,_,hm⟩:=n;refine⟨o,ho,λname=>?_⟩;have e:=hm name;unfold nsFind findBy at e;rw[<- Array.find?_toList]at e;unfold FE;rw[hd];dsimp only
 split
 .rename_i y q;rw[q]at e;exact congrArg am e
 .rename_i q;rw[q]at e;have a:es.toList.any (·.refKey)=false:=by
   rw[List.any_eq_false];intro y hy;obtain⟨z,t,ahk⟩:=hk y (Array.mem_toList_iff.mp hy);simp[DictEntry.refKey,ahk]
  have a':¬es.toList.any (·.refKey)=true:=by rw[a];exact AY
  rw[if_neg a'];exact congrArg am e
def KS.look{x dx C:db}(I:KS h x dx C mA):∃od,PySem.W.InstAt h x (Cb C dx) C (am od)/\∀name,FE name od=am (mA name):=
 let ⟨od,ho,hl⟩:=Nq I.ns
 ⟨od,⟨I.obj,rfl,rfl,ho⟩,hl⟩
section
variable{s:cr}{K:Aa}{x dx C f:db}{name:Str}{v:ci}
def get_map{expr:Bool}(X:K.In s.heap)(I:KS s.heap x dx C mA)(hg:DQ K C name=true)(hh:Dr K C=true)(ha:BK K (.ref C) name=am ce)(hv:mA name=am v)(SX:Gf v=true)(h:Q v {s with toks:=s.toks+1}):ga (im prog w) A (getAttr (.ref x) name expr) Q E s:=by
 obtain⟨od,J,hl⟩:=I.look;exact PySem.W.get_value X J (PySem.W.plainGet_of hg).1 (PySem.W.findObj_own hh ha rfl (by rw[hl,hv])) SX h
theorem TU{ns:O Str}{Q:Unit->cr->Prop}(X:K.In s.heap)(I:KS s.heap x dx C mA)(hs:BK K (.ref C) "__setattr__"=am (am (.builtin "object.__setattr__")))(hp:Ez K C=true)(ht:Fi K C name=am ce)(hh:Dr K C=true)(hw:F7 mA ns)(uR:ns.length<=sizeLine)(h:∀h',KS h' x dx C (λy=>if y=name then am v else mA y)->Ce dx s.heap h'->Q () {s with heap:=h',toks:=s.toks+2}):ga (im prog w) A (setAttr (.ref x) name v) Q E s:=by
 obtain⟨od,J,hl⟩:=I.look;refine PySem.W.set_plain X J hs (PySem.W.osa_open X J hp ht λb=>?_);obtain⟨cd,hc,ÿ⟩:=PySem.W.any_some hh;refine Ab (Ag (Ab (Ab (wpAny_loadPart I.obj (Ab (PySem.W.Looks.here (s:={s with toks:=s.toks+1}) (PySem.W.looks_clsIn X hc) ?_))))));rw[ÿ];refine Ag (Ab (Ag (Ab ?_)));refine wpAny_nsSet1 (s:={s with toks:=s.toks+1}) I.ns λh' hn2 qM=>?_;obtain⟨oD,S6,epD,hoD,hdD,hcD⟩:=hn2.count (F7.cons name v hw);exact Ab (wpAny_lookBehind hoD (by rw[hdD];exact pastItsLine_dict (Ax hcD (by rw[Aq];lia))) (Ag (h _ ⟨(qM.2 _ (BQ I.ne)).trans I.obj,hn2,I.ne⟩ qM)))
def QN{vs:O ci}(X:K.In s.heap)(hm:Fj K C=true)(hi:BK K (.ref C) "__init__"=am (am (.ref f)))(hf:PySem.W.typeIn K (.ref f)=am (.type "function"))(h:Fk (im prog w) (A.under (.builtin "type.__call__" ⟨.ref C::vs,kw⟩)) (.call (.ref f) ⟨.ref (s.heap.objs.size+1)::vs,kw⟩) (PySem.W.InitBack (s.heap.objs.size+1) R)
   {s with heap:=(s.heap.push BG).push (Cb C s.heap.objs.size)}):Fk (im prog w) A (.call (.ref C) ⟨vs,kw⟩) R s:=by
 obtain⟨hh,g,d,t,os⟩:=s;exact PySem.W.make_core (PySem.W.makes_of X hm) (PySem.W.looks_findIn X hi) (λself=>PySem.W.bind_fn X self hf) (.inl rfl) h
end
def iM(f:Str)(v:V):O (Str×V)->O (Str×V)
 |[]=>[(f,v)]
 |(g,x)::r=>if g=f then (g,v)::r else (g,x)::iM f v r
theorem qb(f g:Str)(v:V):∀fs:O (Str×V),(iM f v fs).lookup g=if g=f then am v else fs.lookup g
 |[]=>by
  show C2 g [(f,v)]=_;by_cases h:g=f
  .have hb:(g==f)=true:=beq_iff_eq.mpr h;simp only[C2,hb,if_pos h]
  .have hb:=beq_eq_false_iff_ne.mpr h;simp only[C2,hb,if_neg h]
 |(k,x)::r=>by
  rw[show iM f v ((k,x)::r)=(if k=f then (k,v)::r else (k,x)::iM f v r) from rfl];by_cases hk:k=f
  .rw[if_pos hk];by_cases h:g=k
   .simp only[C2,(beq_iff_eq.mpr h),if_pos (h.trans hk)]
   .simp only[C2,(beq_eq_false_iff_ne.mpr h),if_neg (λe:g=f=>h (e.trans hk.symm))]
  .rw[if_neg hk];by_cases h:g=k
   .simp only[C2,(beq_iff_eq.mpr h),if_neg (λe:g=f=>hk (h.symm.trans e))]
   .simp only[C2,(beq_eq_false_iff_ne.mpr h)];exact(qb f g v r)
theorem pF(f:Str)(v:V):∀fs:O (Str×V),f∈(iM f v fs).map (·.1)/\∀g,g∈fs.map (·.1)->g∈(iM f v fs).map (·.1)
 |[]=>⟨by simp[iM],λg h=>by simp at h⟩
 |(k,x)::r=>by
  obtain⟨i1,i2⟩:=pF f v r;rw[show iM f v ((k,x)::r)=(if k=f then (k,v)::r else (k,x)::iM f v r) from rfl];by_cases hk:k=f
  .subst hk;exact⟨by simp,λg h=>by simpa using h⟩
  .rw[if_neg hk];refine⟨?_,λg h=>?_⟩
   .exact AL _ i1
   .rcases AI.mp h with e|e
    .exact AI.mpr (.inl e)
    .exact AL _ (i2 g e)
theorem qc(f:Str)(v:V):∀fs:O (Str×V),(iM f v fs).length<=fs.length+1
 |[]=>by simp[iM]
 |(k,x)::r=>by
  have ih:=qc f v r;rw[show iM f v ((k,x)::r)=(if k=f then (k,v)::r else (k,x)::iM f v r) from rfl];by_cases hk:k=f
  .rw[if_pos hk,Aq,Aq];lia
  .rw[if_neg hk,Aq,Aq];lia
def qZ.some_of{o:Option ci}(r:qZ (am v) o):∃u,o=am u/\RelV v u:=by
 cases o with
 |none=>exact(r).elim
 |some u=>exact⟨u,rfl,r⟩
def wC(r:RelV v u):Gf u=true:=by
 cases v with
 |aM=>cases (r);rfl
 |bl b=>cases (r);rfl
 |int i=>obtain⟨t,e⟩:=(r);cases e;rfl
 |str x=>obtain⟨t,e⟩:=(r);cases e;rfl
 |Mo b=>obtain⟨t,e⟩:=(r);cases e;rfl
 |Z6 b=>obtain⟨t,e⟩:=(r);cases e;rfl
 |ref a=>cases (r);rfl
 |ty n=>cases (r);rfl
section
variable{C dx:db}{fs:O (Str×V)}
def yu(br:lV P w H h)(e:H a=am (.ins C dx fs)):∃mA,KS h a dx C mA/\(∀f,qZ (fs.lookup f) (mA f))/\F7 mA (fs.map (·.1))/\fs.length<=1000/\H dx=am (.own a):=by
 obtain⟨d,z,ne,ob,mA,n,r,q⟩:=(br a _ e);exact⟨mA,⟨ob,n,ne⟩,r,q,z,d⟩
end
structure OD(K:Aa)(C:db):Prop where
 pg:DQ K C Str.empty=true
 hd:Dr K C=true
 po:Ez K C=true
 sa:BK K (.ref C) "__setattr__"=am (am (.builtin "object.__setattr__"))
def OD.get{K:Aa}{C:db}(c:OD K C)(f:Str):DQ K C f=true:=c.pg
def eW(K:Aa)(C:db)(f:Str):Prop:=BK K (.ref C) f=am ce
def eW.taker{K:Aa}{C:db}{f:Str}(n:eW K C f):Fi K C f=am ce:=by
 unfold Fi;rw[show BK K (.ref C) f=am ce from n];rfl
section
variable{s:cr}{C dx:db}{fs:O (Str×V)}{f:Str}
def JU{b:Bool}(I:Inv X Z σ H s)(e:H a=am (.ins C dx fs))(c:OD X.K C)(n:eW X.K C f)(l:fs.lookup f=am v)(h:∀u s',Inv X Z σ H s'->RelV v u->Q u s'):ga (im X.prog X.w) A (getAttr (.ref a) f b) Q E s:=by
 obtain⟨mA,O_,r,_,_,_⟩:=yu I.br e;obtain⟨u,hu,ru⟩:=qZ.some_of (by rw[<- l];exact r f);exact get_map I.qi O_ (c.get f) c.hd n hu (wC ru) (h u _ (I.tok _) ru)
theorem IM{Q:Unit->cr->Prop}(I:Inv X Z σ H s)(e:H a=am (.ins C dx fs))(c:OD X.K C)(n:eW X.K C f)(hl:fs.length<1000)(ry:RelV y u)(h:∀s',Inv X Z σ (upd H a (.ins C dx (iM f y fs))) s'->Q () s'):ga (im X.prog X.w) A (setAttr (.ref a) f u) Q E s:=by
 obtain⟨mA,O_,r,wi,_,ho⟩:=yu I.br e;have hz:(fs.map (·.1)).length<=sizeLine:=by rw[Aj,wT];lia
 refine TU I.qi O_ c.sa c.po n.taker c.hd wi hz λh' O' sb=>h _ ?_;have hd:∃o,h'.get? dx=am o:=let ⟨o,_,_,e',_⟩:=O'.ns;⟨o,e'⟩;refine I.write (by rw[e];exact BV) (.inr ho) (λb q hb z=>(sb.2 b hb).trans z) hd ?_;refine⟨by rw[aj O_.ne];exact ho,?_,O_.ne,O'.obj,_,O'.ns,λg=>?_,λg hg=>?_⟩
 .have:=qc f y fs;lia
 .rw[qb];by_cases q:g=f
  .rw[if_pos q,if_pos q];exact ry
  .rw[if_neg q,if_neg q];exact r g
 .by_cases q:g=f
  .rw[q];exact(pF f y fs).1
  .refine(pF f y fs).2 g (wi g λz=>hg ?_);show(if g=f then am u else mA g)=ce;rw[if_neg q];exact z
def Inv.made(I:Inv X Z σ H s):Inv X Z σ (upd (upd H s.heap.objs.size (.own (s.heap.objs.size+1))) (s.heap.objs.size+1) (.ins C s.heap.objs.size [])) {s with heap:=(s.heap.push BG).push (Cb C s.heap.objs.size)}:=by
 have e1:(s.heap.push BG).get? s.heap.objs.size=am BG:=Am s.heap rfl;have e2:((s.heap.push BG).push (Cb C s.heap.objs.size)).get? (s.heap.objs.size+1)=am (Cb C s.heap.objs.size):=by
  have:=Am (s.heap.push BG) (o:=Cb C s.heap.objs.size) rfl
  rwa [Bm]at this
 have e3:(s.heap.push BG).Ns s.heap.objs.size (λ_=>ce):=⟨BG,#[],_,e1,rfl,(λe he=>absurd he (by simp)),λ_=>rfl⟩;have I1:=I.laid (a:=s.heap.objs.size) (o:=.own (s.heap.objs.size+1)) (h':=s.heap.push BG) (t':=s.toks) (λb u q=>Ae _ q) (Al _) ⟨_,e1⟩;refine I1.laid (a:=s.heap.objs.size+1) (o:=.ins C s.heap.objs.size []) (t':=s.toks) (λb u q=>Ae _ q) (Ga (Bm _ _)) ?_;have ne:s.heap.objs.size≠s.heap.objs.size+1:=AB (CC _);refine⟨by rw[aj ne,ay],Bc _,ne,e2,λ_=>ce,(Heap.Ns1.of_empty e3).at λo q=>Ae _ q,λ_=>BV,λy hy=>absurd rfl hy⟩
def Mr{f:Str}{s:cr}(hb:nn e f env (o0 e env)=o0 e env)(h:ga (im prog w) A (o0 e env) (λo s₁=>ga (im prog w) A (getAttr o f true) Q E s₁) E s):ga (im prog w) A (o0 (.Attribute e f pos) env) Q E s:=
 Attribute_any_ h (by rw[arm_eval_Attribute,hb])
end
def af5(K:Aa)(ta:TE)(f:Str):TE:=λσ H Q=>ta σ H λx H1=>∃a C dx fs v,x=.ref a/\H1 a=am (.ins C dx fs)/\OD K C/\eW K C f/\fs.lookup f=am v/\Q v H1
def age(K:Aa)(ta tv:TE)(f:Str):TS:=λD σ H=>tv σ H λy H1=>ta σ H1 λx H2=>∃a C dx fs,x=.ref a/\H2 a=am (.ins C dx fs)/\OD K C/\eW K C f/\fs.length<1000/\
 D.nx σ (upd H2 a (.ins C dx (iM f y fs)))
section
variable{o:nw}{f:Str}{tv:TE}
def Qo(he:PE X e ta)(hb:nn e f X.env (o0 e X.env)=o0 e X.env):PE X (.Attribute e f pos) (af5 X.K ta f):=by
 intro Z s σ H Q I h;refine Mr hb (bU (he Z s σ H _ I h) λu s1 ⟨x,H1,I1,rx,a,C,dx,fs,v,ex,ea,c,n,l,q⟩=>?_);subst ex;obtain rfl:u=Ay a:=rx;exact JU I1 ea c n l λu' s2 I2 ru=>⟨v,H1,I2,ru,q⟩
def Qf(ha:PE X o ta)(hv:PE X Ä tv)(hs:pr Ä (am (.Attribute o f Ù)) pos.line X.env=pure false):PS X (.Assign [.Attribute o f Ù] Ä pos) (age X.K ta tv f):=by
 intro Z s σ H D I h;refine plainObj_wpAny_Assign_Attribute (bU (hv Z s σ H _ I h) λu s1 ⟨y,H1,I1,ry,q⟩=>bU (ha Z s1 σ H1 _ I1 q) λov s2 ⟨x,H2,I2,rx,a,C,dx,fs,ex,ea,c,n,l,q2⟩=>?_) hs;subst ex;obtain rfl:ov=Ay a:=rx;exact IM I2 ea c n l ry λs3 I3=>⟨σ,_,I3,q2⟩
end
section
variable{s:cr}{c:ci}{b:Bool}
inductive lU(K:Aa)(H:Hp):V->ci->Prop where
 |aM:lU K H .aM (.type "NoneType")
 |bl (x:Bool):lU K H (.bl x) (.type "bool")
 |int (i:Int):lU K H (.int i) (.type "int")
 |str (x:Str):lU K H (.str x) (.type "str")
 |Z6 (x:UInt64):lU K H (.Z6 x) (.type "float")
 |lst {a:db}{xs:List V} (e:H a=am (.lst xs)):lU K H (.ref a) (.type "list")
 |bS {a:db}{o:Obj}{xs:List V} (e:H a=am (.bS o (.lst xs))):lU K H (.ref a) (.type "list")
 |tup {a:db}{xs:List V} (e:H a=am (.tup xs)):lU K H (.ref a) (.type "tuple")
 |dK {a:db}{aA:List (Key×V)} (e:H a=am (.dK aA)):lU K H (.ref a) (.type "dict")
 |dT {a:db}{aA:List (List Key×V)} (e:H a=am (.dT aA)):lU K H (.ref a) (.type "dict")
 |ins {a C dx:db}{fs:List (Str×V)} (e:H a=am (.ins C dx fs)) (cl:OD K C) (ha:BK K (.ref C) "__class__"=am (am (.builtin "object.__class__")))
   (hn:PySem.W.specialIn K (.builtin "object.__class__") "__get__"=am (am (.builtin "getset_descriptor.__get__"))) (htk:PySem.W.takesIn K (.builtin "object.__class__")=am true)
   (hm:PySem.W.mroIn K C (.type "object")=am true):lU K H (.ref a) (.ref C)
def NH{x:V}{t:ci}(I:Inv X Z σ H s)(rx:RelV x u)(ty:lU X.K H x t)(e:Bu X.K t c=am b)(h:∀tk,Q (.bool b) {s with toks:=tk}):ga (im X.prog X.w) A (call (.builtin "isinstance") [u,c]) Q E s:=by
 cases ty with
 |aM=>cases (show u=A4 from rx);exact Ba PySem.W.kitx_none I.qi BV e (λz=>nomatch z) h
 |bl y=>cases (show u=F1 y from rx);exact Ba PySem.W.kitx_bool I.qi BV e (λz=>nomatch z) h
 |int i=>obtain⟨t,q⟩:=(show ∃t,u=Ei i t from rx);cases q;exact Ba PySem.W.kitx_int I.qi BV e (λz=>nomatch z) h
 |str y=>obtain⟨t,q⟩:=(show ∃t,u=Be y t from rx);cases q;exact Ba PySem.W.kitx_str I.qi BV e (λz=>nomatch z) h
 |Z6 y=>obtain⟨t,q⟩:=(show ∃t,u=Value.float y t from rx);cases q;exact Ba PySem.W.kitx_float I.qi BV e (λz=>nomatch z) h
 | @lst a xs ea=>
  cases (show u=Ay a from rx);obtain⟨_,_,n,_,h1⟩:=(show bE X.prog X.w H s.heap a (.lst xs) from I.br a _ ea);exact Ba EB I.qi ⟨_,h1,rfl⟩ e (λz=>nomatch z) h
 | @bS a ob xs ea=>
  cases (show u=Ay a from rx);obtain⟨_,_,_,n,_,h1⟩:=(show bE X.prog X.w H s.heap a (.bS ob (.lst xs)) from I.br a _ ea);exact Ba EB I.qi ⟨_,h1,rfl⟩ e (λz=>nomatch z) h
 | @tup a xs ea=>
  cases (show u=Ay a from rx);obtain⟨_,_,_,p,_⟩:=(show bE X.prog X.w H s.heap a (.tup xs) from I.br a _ ea);obtain⟨o,h1,h2,_⟩:=p;exact Ba FZ I.qi ⟨o,h1,h2⟩ e (λz=>nomatch z) h
 | @dK a aA ea=>
  cases (show u=Ay a from rx);obtain⟨_,_,vs,_,p⟩:=(show bE X.prog X.w H s.heap a (.dK aA) from I.br a _ ea);obtain⟨o,es,ep,h1,h2,_⟩:=p;exact Ba EC I.qi ⟨o,h1,h2.1⟩ e (λz=>nomatch z) h
 | @dT a aA ea=>
  cases (show u=Ay a from rx);obtain⟨_,_,xs,_,o,es,ep,h1,h2,_⟩:=(show bE X.prog X.w H s.heap a (.dT aA) from I.br a _ ea);exact Ba EC I.qi ⟨o,h1,h2.1⟩ e (λz=>nomatch z) h
 | @ins a C dx fs ea cl ha hn htk hm=>
  cases (show u=Ay a from rx);obtain⟨mA,O_,_⟩:=yu I.br ea;obtain⟨od,J,_⟩:=O_.look;exact Ba (PySem.W.kitx_own (cl.get _) cl.hd ha hn htk hm) I.qi J e (λz=>nomatch z) h
end
end L2
variable{o:BW}{v Ç pm dc ct oc:A8}{vs:O L2.V}{mg:BR->Option A8}{base:E8}{fd:PySem.FuncData}{ps:O BR}{outer:O PySem.Env}{Â:Cg}{qual:BR}{scope:PySem.Scope}{an od:Option A9}{Qt:Array (Option A8)}
namespace L2
structure cu(k:Nat)(A:zn):Prop where
 hd:A.handled=ce
 dp:A.depth+3*k+5<recursionLimit
 un:A.units+16*k+200<ul
 gd:A.guards=am []
theorem cu.mono(r:cu k A)(h:j<=k):cu j A:=⟨r.hd,by have:=r.dp;lia,by have:=r.un;lia,r.gd⟩
theorem cu.deeper(r:cu (k+1) A)(env:Env):cu k (A.deeper env):=
 ⟨r.hd,by have:=r.dp;show A.depth+1+3*k+5<_;lia,by have:=r.un;show A.units+3+16*k+200<_;lia,r.gd⟩
def Jp{C:db}:(A.under (.builtin "type.__call__" ⟨.ref C::us,kw⟩)).depth=A.depth+1:=by
 first|rfl|simp
def Jo{C:db}:(A.under (.builtin "type.__call__" ⟨.ref C::us,kw⟩)).units=A.units+1:=by
 first|rfl|simp
theorem cu.make(r:cu (k+1) A)(C:db)(us:O ci)(kw:O (Str×ci)):cu k (A.under (.builtin "type.__call__" ⟨.ref C::us,kw⟩)):=
 ⟨r.hd,by have:=r.dp;rw[Jp];lia,by have:=r.un;rw[Jo];lia,by have h:=r.gd;simp[Around.under,Code.guards,Code.isGuard,guardIds,pushGuards,h]⟩
theorem cu.depth(r:cu k A):A.depth<recursionLimit:=by have:=r.dp;lia
theorem cu.O6(r:cu k A):A.units<ul:=by have:=r.un;lia
def Yb:TA:=λ_ H Q=>Q [] H
def Pl(ta:TE)(tr:TA):TA:=λσ H Q=>ta σ H λx H1=>tr σ H1 λxs H2=>Q (x::xs) H2
section
variable{t:TA}
def bC:PA X [] Yb:=λ_ _ _ _ H Q I h=>Cs ⟨[],H,I,.nil,h⟩
def aY(ha:PE X e te)(hr:PA X es t)(hs:‹gK X e es›):PA X (e::es) (Pl te t):=by
 intro pos Z s σ H Q I h;rw[hs];exact B1 (bU (ha Z s σ H _ I h) λu s1 ⟨x,H1,I1,r1,q1⟩=>bU (hr pos Z s1 σ H1 _ I1 q1) λus s2 ⟨xs,H2,I2,r2,q2⟩=>⟨x::xs,H2,I2,.cons r1 r2,q2⟩)
end
abbrev Sp:=O V->Hp->VK->XK->Prop
abbrev Wj:=O Env->Hp->cr->XK->ci->cr->Prop
structure KU(P:wP)(w:Da)(K:Aa)(mg:Str->Option ci)(base:r9)(A:zn)(outer:List Env)(s:cr)(H:Hp):Prop where
 frames:A.frames=am outer
 mod:Mod K mg base
 bs:∀b o,base.get? b=am o->s.heap.get? b=am o/\H b=ce
 VZ:base.objs.size<=s.heap.objs.size
 qQ:s.heap.FunFrames base outer
 Z3:∀b∈OV outer,H b=ce
 br:lV P w H s.heap
 bare:Os s.gens
def CE(outer:O Env)(P:wP)(w:Da)(H:Hp)(s:cr)(Q:VK)(u:ci)(s':cr):Prop:=
 ∃v H',s'.os=s.os/\Os s'.gens/\Un (OV outer) [] H H' s.heap s'.heap/\lV P w H' s'.heap/\RelV v u/\Q v H'
def CR(CX:Wj)(outer:O Env)(P:wP)(w:Da)(H:Hp)(s:cr)(Q:VK)(E:XK)(r:Result)(s':cr):Prop:=
 match r with
 |.ok (.ret u)=>CE outer P w H s Q u s'
 |.ok _=>False
 |.error e=>CX outer H s E e s'
structure gP(P:wP)(w:Da)(K:Aa)(mg:Str->Option ci)(base:r9)(CX:Wj)(k:Nat)(f:db)(fd:Ch)(ps:List Str)(sp:Sp):Prop where
 len:∀vs H Q E,sp vs H Q E->vs.length=ps.length
 run:∀(A:zn) (outer:List Env) (s:cr) (H:Hp) (args:Args) (us:List ci) (vs:List V) (Q:VK) (E:XK),cu k A->KU P w K mg base A outer s H->BindsTo s fd args (ps.zip us)->Vals vs us->sp vs H Q E->
  Fk (im P w) A (.call (.ref f) args) (CR CX outer P w H s Q E) s
def gP.imp{K:Aa}{CX:Wj}{f:db}{sp sp':Sp}(F:gP P w K mg base CX k f fd ps sp)(h:∀vs H Q E,sp' vs H Q E->sp vs H Q E):gP P w K mg base CX k f fd ps sp':=
 ⟨λvs H Q E q=>F.len vs H Q E (h _ _ _ _ q),λA outer s H args us vs Q E hr he hb hv hs=>F.run A outer s H args us vs Q E hr he hb hv (h _ _ _ _ hs)⟩
def KU.make{K:Aa}{s:cr}(e:KU P w K mg base A outer s H)(C:db)(us:O ci)(kw:O (Str×ci)):KU P w K mg base (A.under (.builtin "type.__call__" ⟨.ref C::us,kw⟩)) outer s H:=⟨by first | exact e.frames | (simpa[Around.under,Code.envs,Code.isFrame,pushEnvs]using e.frames),e.mod,e.bs,e.VZ,e.qQ,e.Z3,e.br,e.bare⟩
section
variable{s:cr}
def Inv.adY(I:Inv X Z σ H s):KU X.prog X.w X.K X.mg X.base X.A X.stack s H:=
 ⟨I.ok.frames,I.ok.mod,I.bs,Ax I.ok.VZ I.sz,I.stack,I.La,I.br,I.bare⟩
def Inv.after{Q:VK}(I:Inv X Z σ H s)(h:CE X.stack X.prog X.w H s Q u s'):EP X Z σ Q u s':=by
 obtain⟨v,H',os,bare,un,br,r,q⟩:=h;obtain⟨hh,g,d,t,os'⟩:=s';obtain rfl:os'=s.os:=os;exact⟨v,H',I.call (h':=hh) (g':=g) (d':=d) (t':=t) (ch:=[]) un br bare (λb z=>absurd z (by simp)),r,q⟩
end
def abD(C:db)(sp:Sp)(dvs:O V)(E:XK)(t:TA):TE:=λσ H Q=>t σ H λvs H1=>∀x dx,H1 x=ce->H1 dx=ce->dx≠x->
 sp (.ref x::(vs++dvs)) (upd (upd H1 dx (.own x)) x (.ins C dx [])) (λv H2=>v=.aM/\Q (.ref x) H2) E
def Binds(K:Aa)(fd:Ch)(ps:O Str)(ds:O ci):Prop:=
 ∀(s:cr) (us:O ci),K.In s.heap->(us++ds).length=ps.length->BindsTo s fd ⟨us,[]⟩ (ps.zip (us++ds))
def Binds.all{K:Aa}(h:∀us:O ci,us.length=ps.length->bindArgs fd ⟨us,[]⟩=pure (ps.zip us)):Binds K fd ps []:=λs us _ hl=>by
 rw[Cq]at hl ⊢;exact .of_eq (h us hl)
def Passes(CX:Wj)(X:Cx)(E:XK):Prop:=∀(Z:O (db×Obj)) (σ:St) (H:Hp) (s:cr) (e:ci) (s':cr),Inv X Z σ H s->CX X.stack H s E e s'->X.xe e s'
section
variable{CX:Wj}{f C:db}{sp:Sp}{dvs:O V}{ds:O ci}{E:XK}{t:TA}
def Yo{s:cr}{Q:VK}(F:gP X.prog X.w X.K X.mg X.base CX k f fd ps sp)(hr:cu k X.A)(hb:Binds X.K fd ps ds)(hd:Vals dvs ds)(hx:Passes CX X E)(I:Inv X Z σ H s)(r:Vals vs us)(h:sp (vs++dvs) H Q E):ga (im X.prog X.w) X.A (call (.ref f) us) (EP X Z σ Q) X.xe s:=by
 have r2:Vals (vs++dvs) (us++ds):=r.append hd;have hl:(us++ds).length=ps.length:=by rw[<- r2.length];exact F.len _ _ _ _ h
 refine wpAny_call (FM (F.run X.A X.stack s H ⟨us,[]⟩ (us++ds) (vs++dvs) Q E hr I.adY (hb s us I.qi hl) r2 h) λr s' hq=>?_);cases r with
 |error e=>exact hx Z σ H s e s' I hq
 |ok fl=>
  cases fl with
  |ret u=>exact I.after hq
  |next=>exact Bx hq
  |brk=>exact Bx hq
  |cont=>exact Bx hq
structure Mk(K:Aa)(C f:db):Prop where
 makes:Fj K C=true
 init:BK K (.ref C) "__init__"=am (am (.ref f))
 fn:PySem.W.isFn K (.ref f)=true
 kp:CB K (.ref C)=true
def PM{s:cr}{Q:VK}(M:Mk X.K C f)(F:gP X.prog X.w X.K X.mg X.base CX k f fd ps sp)(hr:cu (k+1) X.A)(hb:Binds X.K fd ps ds)(hd:Vals dvs ds)(hx:Passes CX X E)(I:Inv X Z σ H s)(r:Vals vs us)(h:∀x dx,H x=ce->H dx=ce->dx≠x->sp (.ref x::(vs++dvs)) (upd (upd H dx (.own x)) x (.ins C dx [])) (λv H2=>v=.aM/\Q (.ref x) H2) E):ga (im X.prog X.w) X.A (call (.ref C) us) (EP X Z σ Q) X.xe s:=by
 have hq:=h (s.heap.objs.size+1) s.heap.objs.size (I.br.fresh (Dn _)) (I.br.fresh (Al _)) (AB (CC _));have I2:=Inv.made (C:=C) I;have r2:Vals (V.ref (s.heap.objs.size+1)::(vs++dvs)) (Ay (s.heap.objs.size+1)::(us++ds)):=.cons rfl (r.append hd);have hl:(Ay (s.heap.objs.size+1)::us++ds).length=ps.length:=by
  have e:=r2.length;rw[F.len _ _ _ _ hq]at e;exact e.symm
 refine wpAny_call (QN I.qi M.makes M.init (beq_iff_eq.mp M.fn) (FM (F.run _ X.stack _ _ ⟨Ay (s.heap.objs.size+1)::us,[]⟩ (Ay (s.heap.objs.size+1)::(us++ds)) _ _ E (hr.make C us [])
  (I2.adY.make C us []) (hb _ (Ay (s.heap.objs.size+1)::us) I2.qi hl) r2 hq) λr s' S2=>?_))
 cases r with
 |error e=>exact hx Z σ _ _ e s' I2 S2
 |ok fl=>
  cases fl with
  |ret u=>
   obtain⟨v,H',I3,rv,ev,q3⟩:=I2.after S2;subst ev;exact⟨rv,⟨V.ref (s.heap.objs.size+1),H',I3,rfl,q3⟩⟩
  |next=>exact Bx S2
  |brk=>exact Bx S2
  |cont=>exact Bx S2
def Up(M:Mk X.K C f)(F:gP X.prog X.w X.K X.mg X.base CX k f fd ps sp)(hr:cu (k+1) X.A)(hg:Gl X x)(hm:X.mg x=am (.ref C))(hb:Binds X.K fd ps ds)(hd:Vals dvs ds)(hx:Passes CX X E)(ha:PA X (e::es) t)(jq: ~~~(gq x))(he:‹gK X e es›)(cU:‹jO X pos es›):PE X (.Call (.Name x p) (e::es) [] pos) (abD C sp dvs E t):=by
 intro Z s σ H Q I h;exact Bl (yf I hg hm (F0 I.ok.mod.kin M.kp (bU (ha pos Z s σ H _ I h) λus s1 ⟨vs,H1,I1,r,q⟩=>⟨I1.qi,PM M F hr hb hd hx I1 r q⟩) he cU) jq)
end
structure dA(N P:List Str)(sc:pc):Prop where
 kind:sc.kind=.function
 co:sc.isCoroutine=false
 gen:sc.isGenerator=false
 nd:N.Nodup
 pre:N.take P.length=P
 par:∀x∈P,sc.names.lookup x=am .local\/sc.names.lookup x=am .cell
 Y6:∀y∈sc.names,y.2≠.free
theorem wO{kindOf:Str->Option wv}:∀{binds:O (Str×ci)}{m:Str->Option ci},(∀v,(x,v)∉binds)->bindL kindOf binds m x=m x
 |[],_,_=>rfl
 |(n,v)::r,m,h=>by
  unfold bindL;rw[wO λw hw=>h w (AL _ hw)]
  split
  .have:x≠n:=by rintro rfl;exact h v Bw
   simp[this]
  .rfl
theorem wR{kindOf:Str->Option wv}:∀{binds:O (Str×ci)}{m:Str->Option ci},(∀v,(x,v)∉binds)->bindC kindOf binds m x=m x
 |[],_,_=>rfl
 |(n,v)::r,m,h=>by
  unfold bindC;rw[wR λw hw=>h w (AL _ hw)]
  split
  .rfl
  .have:x≠n:=by rintro rfl;exact h v Bw
   simp[this]
theorem wQ{kindOf:Str->Option wv}:∀{P:O Str}{vs:O ci}{i:Nat}{m:Str->Option ci},P.Nodup->P[i]?=am x->vs[i]?=am v->kindOf x=am .local->bindL kindOf (P.zip vs) m x=am v
 |[],_,_,_,_,h,_,_=>by simp at h
 |_::_,[],_,_,_,_,h,_=>by simp at h
 |p::P,w::vs,0,m,nd,h1,h2,hk=>by
  simp at h1 h2;subst h1;subst h2;show bindL kindOf ((p,w)::P.zip vs) m p=_;unfold bindL;rw[wO λv hv=>(Bz.mp nd).1 (Fs hv).1,if_pos hk];simp
 |p::P,w::vs,i+1,m,nd,h1,h2,hk=>by
  unfold bindL;exact wQ (Bz.mp nd).2 (by simpa using h1) (by simpa using h2) hk
theorem wU{kindOf:Str->Option wv}:∀{P:O Str}{vs:O ci}{i:Nat}{m:Str->Option ci},P.Nodup->P[i]?=am x->vs[i]?=am v->kindOf x≠am .local->bindC kindOf (P.zip vs) m x=am v
 |[],_,_,_,_,h,_,_=>by simp at h
 |_::_,[],_,_,_,_,h,_=>by simp at h
 |p::P,w::vs,0,m,nd,h1,h2,hk=>by
  simp at h1 h2;subst h1;subst h2;show bindC kindOf ((p,w)::P.zip vs) m p=_;unfold bindC;rw[wR λv hv=>(Bz.mp nd).1 (Fs hv).1,if_neg hk];simp
 |p::P,w::vs,i+1,m,nd,h1,h2,hk=>by
  unfold bindC;exact wU (Bz.mp nd).2 (by simpa using h1) (by simpa using h2) hk
def start(N:O Str)(vs:O V):St:=vs.map am++Ao (N.length-vs.length) ce
def qU(CX:Wj)(P:wP)(w:Da)(K:Aa)(mg:Str->Option ci)(base:r9)(N:O Str)(qual:Str)(scope:pc)(f:db)(cd:ci)(A:zn)(outer:O Env)(s:cr)(H:Hp)(E:XK):Cx where
 prog:=P
 w:=w
 K:=K
 mg:=mg
 base:=base
 A:=A.deeper (EQ qual scope s.heap.objs.size f cd)
 N:=N
 s₀:=s
 H₀:=H
 env:=EQ qual scope s.heap.objs.size f cd
 outer:=outer
 stack:=EQ qual scope s.heap.objs.size f cd::outer
 ex:=[]
 calm:=true
 fn:=λ_=>true
 pn:=[]
 xe:=λe s'=>ga (im P w) (A.deeper (EQ qual scope s.heap.objs.size f cd)) (leaving (EQ qual scope s.heap.objs.size f cd) e) (λ_ SS=>CX outer H s E e SS) (λe' SS=>CX outer H s E e' SS) s'
def HU{sc:pc}(h:sc.names.lookup x=am .cell):∃c,(t0 n sc.names []).lookup x=am c:=by
 exact Option.isSome_iff_exists.mp (E5 sc.names n [] (.inl h))
theorem NI{CX:Wj}{K:Aa}{N:O Str}{f:db}{cd:ci}{s s1:cr}{E:XK}(S:dA N ps scope)(hd:A.handled=ce)(e0:KU P w K mg base A outer s H)(hl:vs.length=ps.length)(r:Vals vs us)(x:InCallC s s.heap.objs.size (bindL (EQ qual scope s.heap.objs.size f cd).kindOf (ps.zip us) λ_=>ce) (t0 (s.heap.objs.size+1) scope.names []) (bindC (EQ qual scope s.heap.objs.size f cd).kindOf (ps.zip us) λ_=>ce) s1):Inv (qU CX P w K mg base N qual scope f cd A outer s H E) [] (start N vs) H s1:=by
 have cU:ps.length<=N.length:=by have:=congrArg Cv S.pre;rw[Ci]at this;lia
 obtain⟨h1,tk,rfl,hk⟩:=x.done;have ô:∀b:db,b∉(qU CX P w K mg base N qual scope f cd A outer s H E).ex:=λb z=>absurd (show b∈([]) from z) (by simp);refine⟨⟨e0.mod,S.kind,rfl,rfl,Al _,λy z c h1 h2=>?_,λy hy=>?_,λy c _ h=>?_,λ_=>hd,Around.frames_deeper e0.frames,.inr ⟨rfl,rfl⟩,λb z=>absurd z (ô b),e0.bs,e0.VZ,λb _ _=>ô b,λb z=>absurd z (ô b),e0.qQ,e0.Z3⟩,
  rfl,e0.bare,Un.kept hk,⟨_,x.toInCall.ns,λi y v h1 h2 h3=>?_⟩,λy c h=>⟨_,x.cell y c h⟩,e0.br.fresh (Al _),λy c h=>?_,λp hp=>absurd (show p∈([]) from hp) (by simp),e0.br.kept hk,?_⟩
 .exact name_of_addr x.apart (BE h1) (BE h2)
 .rcases hy with hy|hy
  .exact HU hy
  .exact absurd rfl (S.Y6 _ (BE hy))
 .exact C5 (x.above y c (BE h))
 .have hi:i<vs.length:=by
   unfold start at h2;by_cases hi:i<vs.length
   .exact hi
   .rw[AV (by simpa using hi)]at h2;rw[BU]at h2
    split at h2<;>cases h2
  have ha:vs[i]?=am v:=by
   unfold start at h2;rw[AH (by simpa using hi),Af]at h2;cases e:vs[i]? with
   |none=>rw[e]at h2;cases h2
   |some a=>rw[e]at h2;cases h2;rfl
  obtain⟨u,hu,rv⟩:=r.get ha;have hp:ps[i]?=am y:=by
   rw[<- S.pre,List.getElem?_take_of_lt ∅];exact h1
  have ndP:ps.Nodup:=by rw[<- S.pre];exact S.nd.sublist (DC _ _)
  refine⟨u,rv,?_⟩;rcases S.par y (AU hp) with k|k
  .exact .inl ⟨k,wQ ndP hp hu k⟩
  .obtain⟨c,e⟩:=HU k;refine .inr ⟨.inl k,c,e,?_⟩;have q:=x.cell y c e;rw[wU ndP hp hu (by show scope.names.lookup y≠_;rw[k];decide)]at q;exact q
 .exact e0.br.fresh (C5 (x.above y c (BE h)))
 .unfold start;show _=N.length;rw[Ak,Aj,Bq];lia
def adG{CX:Wj}{K:Aa}{f:db}{name:Str}{params:Arguments}{dV kV:ci}{N:O Str}{sp:Sp}(lk:K.lookup f=am ⟨oc,od,.func (BN name qual params body scope dV kV Ç pm an dc ct),Qt⟩)(gM:Ds K dc qual=true)(S:dA N ps scope)(len:∀vs H Q E,sp vs H Q E->vs.length=ps.length)(Ru:∀(A:zn) (outer:O Env) (s:cr) (H:Hp) (vs:O V) (Q:VK) (E:XK),cu k (A.deeper (EQ qual scope s.heap.objs.size f dc))->sp vs H Q E->
   ∃t,mz (qU CX P w K mg base N qual scope f dc A outer s H E) body t/\t {nx:=λ_ H'=>Q .aM H',rt:=Q} (start N vs) H):gP P w K mg base CX (k+1) f (BN name qual params body scope dV kV Ç pm an dc ct) ps sp:=by
 refine⟨len,λA outer s H args us vs Q E hr e0 hb r ZM=>?_⟩;have hl:=len _ _ _ _ ZM;have KX:K.In s.heap:=e0.mod.kin.keeps λb o e=>(e0.bs b o e).1;have lim:s.heap.NoLimit:=e0.mod.nolimit.keeps λb o e=>(e0.bs b o e).1;have adf:∀y∈ps.zip us,scope.names.lookup y.1=am .local\/(scope.names.lookup y.1=am .cell/\((t0 (s.heap.objs.size+1) scope.names []).lookup y.1).isSome=true):=λ⟨n,v⟩ hy=>by
  rcases S.par n (Fs hy).1 with q|q
  .exact .inl q
  .exact .inr ⟨q,E5 _ _ _ (.inl q)⟩
 refine codeAny_call_function hr.depth (KX _ _ lk) rfl S.co S.gen rfl (PySem.W.codeRec_of KX gM) (hb _ _ _ _ ?_);refine wpAny_newFunctionEnv_cells S.kind adf λenv he s1 x=>?_;subst he;refine⟨lim.keeps x.toInCall.keep,codeAny_func ?_⟩;obtain⟨t,ht,hq⟩:=Ru A outer s H vs Q E (hr.deeper _) ZM;have I:Inv (qU CX P w K mg base N qual scope f dc A outer s H E) [] (start N vs) H s1:=NI S hr.hd e0 hl r x;refine BF (ht [] s1 (start N vs) H _ I hq) (λfl s' hs=>?_) λe s' hs=>hs;have fin:∀{σ':St}{H':Hp}{v:V}{u:ci},Inv (qU CX P w K mg base N qual scope f dc A outer s H E) [] σ' H' s'->RelV v u->Q v H'->CE outer P w H s Q u s':=
  λ{σ' H' v u} J rv q=>⟨v,H',J.os,J.bare,J.base,J.br,rv,q⟩
 cases fl with
 |ret u=>
  obtain⟨v,σ',H',J,rv,q⟩:=hs;exact fin J rv q
 |next=>
  obtain⟨σ',H',J,q⟩:=hs;exact fin (v:=V.aM) (u:=A4) J rfl q
 |brk=>
  obtain⟨_,_,_,q⟩:=hs;exact Bx q
 |cont=>
  obtain⟨_,_,_,q⟩:=hs;exact Bx q
end L2
variable{T:String}
namespace L2
section
variable{t:TA}{id:String}{r:O V->Hp->VK->Prop}
def tCB(r:O V->Hp->VK->Prop)(t:TA):TE:=λσ H Q=>t σ H λvs H1=>r vs H1 Q
def dX(hc:cj X (.builtin id) r)(hg:Gl X x)(hm:X.mg x=ce)(hv:re x=am (.builtin id))(ha:PA X (e::es) t)(hn: ~~~(x≠"__name__"))(jq: ~~~(gq x))(he:‹gK X e es›)(cU:‹jO X pos es›):PE X (.Call (.Name x p) (e::es) [] pos) (tCB r t):=by
 intro Z s σ H Q I h;refine Bl (fx I hg hm hv ?_ hn jq);exact PyProof.Rows.callWith_builtin1 (bU (ha pos Z s σ H _ I h) λus s1 ⟨vs,H1,I1,r1,q1⟩=>hc Z s1 σ H1 vs us Q I1 r1 q1) he cU
def k7(hc:cj X (.type T) r)(hg:Gl X x)(hm:X.mg x=ce)(hv:re x=am (.type T))(ha:PA X (e::es) t)(hn: ~~~(x≠"__name__"))(jq: ~~~(gq x))(he:‹gK X e es›)(cU:‹jO X pos es›):PE X (.Call (.Name x p) (e::es) [] pos) (tCB r t):=by
 intro Z s σ H Q I h;refine Bl (fx I hg hm hv ?_ hn jq);exact A2 (bU (ha pos Z s σ H _ I h) λus s1 ⟨vs,H1,I1,r1,q1⟩=>hc Z s1 σ H1 vs us Q I1 r1 q1) he cU
end
end L2
variable{ns ms:O Int}{items:Array A8}
namespace HT
open PySem PyProof.Rows
def lexLt:O Int->O Int->Bool
 |[],[]=>false
 |[],_::_=>true
 |_::_,[]=>false
 |x::xs,y::ys=>if x=y then lexLt xs ys else decide (x<y)
theorem Jt(x y:Int)(xs ys:O Int):lexLt (x::xs) (y::ys)=if x=y then lexLt xs ys else decide (x<y):=rfl
def RY(A:zn)(s:cr)(a:Int)(t:Tok)(c:Int)(u:Tok):∃e,DR A s (.int a t) (.int c u) e/\(e=true↔a=c):=
 ⟨(a==c),El a t c u,by simp⟩
def PY(A:zn)(s:cr)(a:Int)(t:Tok)(c:Int)(u:Tok)(prog:wP)(w:Da)(E:ci->cr->Prop)(Q:ci->cr->Prop)(h:Q (.bool (decide (a<c))) s):ga (im prog w) A (richCompare .Lt (.int a t) (.int c u)) Q E s:=
 (PyProof.Rows.lt_int h)
section
open PySem.SeqAt
open PySem.AutoSeq1 (wpAny_loadPart')
open PySem.MeetsSeq PySem.MeetsSeq2 PySem.MeetsSeq3
theorem u4(l b:db)(items cq:Array ci)(n n2:Nat)(dd VT:Option db)(sl SR:Array (Option ci))(ns ms:O Int)(hi:xL items.toList ns)(hj:xL cq.toList ms):Meets (wS.«tuple.__lt__» ⟨[.ref l,.ref b],[]⟩) (λ_ R s=>s.heap.get? l=am {cls:=.type "tuple",dict:=dd,data:=.seq items n,slots:=sl}/\s.heap.get? b=am {cls:=.type "tuple",dict:=VT,data:=.seq cq n2,slots:=SR}/\
    R (.ok (.ret (.bool (lexLt ns ms)))) s):=
 .of_wp λprog w A R s h=>by
  obtain⟨hp,g,d,tk,os⟩:=s;obtain⟨hl,hb,h⟩:=h;have f2:=AutoSeq1.sub_tuple_tuple;have z1:items.size=ns.length:=by rw[<- hi.length];simp
  have z2:cq.size=ms.length:=by rw[<- hj.length];simp
  wp_walk using wpAny_loadPart' hl,wpAny_loadPart' hb,wpAny_forIn_list _ (λrest b s'=>b.1=ce/\s'=⟨hp,g,d,tk,os⟩/\∃(vs ws:O ci) (SV à:O Int),rest=vs.zip ws/\
   xL vs SV/\xL ws à/\SV.length+cq.size=à.length+items.size/\R (.ok (.ret (.bool (lexLt SV à)))) ⟨hp,g,d,tk,os⟩) _
  case turn=>
   rintro⟨y,x⟩ rest b s' ⟨Ĕ,rfl,vs,ws,SV,à,hz,hvi,hwi,Á,hR⟩;cases hvi with
   |nil=>rw[List.zip_nil_left]at hz;cases hz
   |cons a t ag2=>
    cases hwi with
    |nil=>rw[List.zip_nil_right]at hz;cases hz
    |cons c u ag1=>
     rw[List.zip_cons_cons]at hz;injection hz with hyx ac8;injection hyx with hy hx;subst hy hx;rw[Jt]at hR;simp at Á;obtain⟨e,he,adk⟩:=RY A.in1 ⟨hp,g,d,tk,os⟩ a t c u;refine Ab (he prog w _ _ ?_);cases e with
     |true=>
      rw[if_pos (adk.mp rfl)]at hR
      wp_walk
      exact⟨rfl,rfl,_,_,_,_,ac8,ag2,ag1,by lia,hR⟩
     |false=>
      rw[if_neg (λq=>absurd (adk.mpr q) AY)]at hR;have hri:=PY A.in1 ⟨hp,g,d,tk,os⟩ a t c u prog w
      wp_walk using hri
      exact⟨_,rfl,by simpa using hR⟩
  case fin=>
   rintro⟨b1,b2⟩ s' ⟨Ĕ,rfl,vs,ws,SV,à,hz,hvi,hwi,Á,hR⟩;subst Ĕ;have hv:lexLt SV à=decide (items.size<cq.size):=by
    cases hvi with
    |nil=>
     cases hwi with
     |nil=>
      exact(decide_eq_false ∅).symm
     |cons c u hw=>
      simp at Á;exact(decide_eq_true ∅).symm
    |cons a t hv=>
     cases hwi with
     |nil=>
      simp only[Ft]at Á;exact(decide_eq_false ∅).symm
     |cons c u hw=>
      cases hz
   rw[hv]at hR
   wp_walk
   exact⟨_,rfl,by simpa[Builtin.Tuple.tupleCompareSizes]using hR⟩
  case h=>
   exact⟨rfl,rfl,items.toList,cq.toList,ns,ms,rfl,hi,hj,by lia,h⟩
end
section
variable{s:cr}
def Jq{l:db}{cq:Array ci}(hl:IsTup s.heap l items)(hb:IsTup s.heap b cq)(hi:xL items.toList ns)(hj:xL cq.toList ms)(hu:A.units<ul)(h:Q (.bool (lexLt ns ms)) s):ga (im prog w) A (sn .Lt (.ref l) (.ref b)) Q E s:=by
 obtain⟨⟨cls,dd,data,sl⟩,ho,hc,n,hd⟩:=id hl;obtain⟨⟨Ń,VT,data2,SR⟩,NQ,Xo,n2,Ø⟩:=id hb;subst hc hd Xo Ø;exact richCompare_meets_room (op:=.Lt) ⟨_,ho,rfl⟩ ⟨_,NQ,rfl⟩ PySem.F.slot_tuple_lt PySem.F.entry_tuple_lt (PySem.F.args_tuple_lt_2 _ _) (u4 l b items cq n n2 dd VT sl SR ns ms hi hj)
  ⟨ho,NQ,show F1 (lexLt ns ms)≠Value.notImplemented/\Q (.bool (lexLt ns ms)) s from⟨(λx=>nomatch x),h⟩⟩ hu
def VX{t:db}{vs ws:O ci}(ht:IsTup s.heap t vs.toArray)(hb:IsTup s.heap b ws.toArray)(hv:vs≠[])(h1:ws=[]->Q (.ref t) s)(h2:ws≠[]->Q (.ref s.heap.objs.size) {s with heap:=s.heap.push {cls:=.type "tuple",data:=.seq (vs++ws).toArray}})(uR:vs.length+ws.length<=sizeLine):ga (im prog w) A (ut .Add (.ref t) (.ref b)) Q E s:=by
 obtain⟨⟨cls,dd,data,sl⟩,ho,hc,n,hd⟩:=id ht;obtain⟨⟨Ń,VT,data2,SR⟩,NQ,Xo,n2,Ø⟩:=id hb;simp only at hc hd Xo Ø;subst hc hd Xo Ø;have e:vs.toArray++ws.toArray=(vs++ws).toArray:=by simp
 by_cases hw:ws=[]
 .exact concat_meets ⟨_,ho,rfl⟩ ⟨_,NQ,rfl⟩ noFill_tuple_add seq_tuple_add Du Dm (Df _ _)
   (tuple_addW1 t b vs.toArray ws.toArray n n2 dd VT sl SR (by simpa using hv) (by simp[hw])) ⟨ho,NQ,h1 hw⟩
 .refine concat_meets ⟨_,ho,rfl⟩ ⟨_,NQ,rfl⟩ noFill_tuple_add seq_tuple_add Du Dm (Df _ _)
   (tuple_addW2 t b vs.toArray ws.toArray n n2 dd VT sl SR (by simpa using hv) (by simpa using hw) (by rw[An,An];exact uR)) ⟨ho,NQ,?_⟩
  rw[e];exact h2 hw
def va(n d:Nat):Option Int->Nat
 |none=>d
 |some v=>if v<0 then (v+(n:Int)).toNat else min v.toNat n
end
end HT
namespace L2
abbrev TO:=St->Hp->(Option Int->Hp->Prop)->Prop
def PO(X:Cx)(e:Option nw)(t:TO):Prop:=
 ∀(Z:O (db×Obj)) (s:cr) (σ:St) (H:Hp) (Q:Option Int->Hp->Prop),Inv X Z σ H s->t σ H Q->
  ga (im X.prog X.w) X.A (evalPart e X.env) (λu s'=>∃o H',Inv X Z σ H' s'/\IsPart u o/\Q o H') X.xe s
def Tp:TO:=λ_ H Q=>Q ce H
def abC(t:TE):TO:=λσ H Q=>t σ H λx H1=>∃i,x=.int i/\Q (am i) H1
def intsAre_of:∀{us:O ci},Vals (ns.map V.int) us->xL us ns:=by
 induction ns with
 |nil=>intro us r;rw[Fd]at r;cases r;exact .nil
 |cons n ns ih=>
  intro us r;cases r with
  |cons r1 r2=>
   obtain⟨t,e⟩:=r1;subst e;exact .cons n t (ih r2)
section
variable{lo hi:Option nw}{tl th:TO}{p2:Pos}
def Uh:PO X ce Tp:=by
 intro Z s σ H Q I h;exact Ag ⟨ce,H,I,.none,h⟩
def Ug(h:PE X e te):PO X (am e) (abC te):=by
 intro Z s σ H Q I hw;refine bU (h Z s σ H _ I hw) λu s1 ⟨x,H1,I1,r1,q1⟩=>?_;obtain⟨i,rfl,q⟩:=q1;obtain⟨t,rfl⟩:=r1;exact⟨am i,H1,I1,.int i t,q⟩
def SlR(X:Cx)(r:V->Option Int->Option Int->Hp->VK->Prop):Prop:=
 ∀(Z:O (db×Obj)) (s:cr) (σ:St) (H:Hp) (x:V) (v vl vu:ci) (lo hi:Option Int) (sl:db) (Q:VK),Inv X Z σ H s->RelV x v->s.heap.IsSliceOf sl vl vu .none->IsPart vl lo->IsPart vu hi->r x lo hi H Q->
  ∃T id,KF (.type T) "__getitem__"=pure (am (.builtin id))/\s.TypeIs v T/\ga (im X.prog X.w) X.A (getItem v (.ref sl)) (EP X Z σ Q) X.xe s
def tSl(r:V->Option Int->Option Int->Hp->VK->Prop)(te:TE)(tl th:TO):TE:=λσ H Q=>te σ H λx H1=>tl σ H1 λl H2=>th σ H2 λu H3=>r x l u H3 Q
def Qm{r:V->Option Int->Option Int->Hp->VK->Prop}(hr:SlR X r)(he:PE X e te)(hl:PO X lo tl)(hu:PO X hi th):PE X (.Subscript e (.Slice lo hi ce p2) pos) (tSl r te tl th):=by
 intro Z s σ H Q I h;refine Subscript_ (bU (he Z s σ H _ I h) λv s1 ⟨x,H1,I1,r1,q1⟩=>?_);refine wpAny_Slice (bU (hl Z s1 σ H1 _ I1 q1) λvl s2 ⟨l,H2,I2,pl,q2⟩=>bU (hu Z s2 σ H2 _ I2 q2) λvu s3 ⟨u,H3,I3,pu,q3⟩=>?_);rw[evalPart_none];refine Ag ?_;have I4:Inv X Z σ H3 {s3 with heap:=s3.heap.push {cls:=.type "slice",data:=.fields #[vl,vu,.none]}}:=I3.kept (t':=s3.toks) λb ob q=>Ae _ q;obtain⟨T,id,hT,ht,hg⟩:=hr Z {s3 with heap:=s3.heap.push {cls:=.type "slice",data:=.fields #[vl,vu,.none]}} σ H3 x v vl vu l u s3.heap.objs.size Q I4 r1 (Heap.IsSliceOf.new ..) pl pu q3;show ga (im X.prog X.w) X.A (subscriptTail e (.Slice lo hi ce p2) v (.ref s3.heap.objs.size)) (EP X Z σ Q) X.xe {s3 with heap:=s3.heap.push {cls:=.type "slice",data:=.fields #[vl,vu,.none]}};exact tail_any (ops:=[.ref s3.heap.objs.size,v]) ht hT hg (by with_unfolding_all rfl)
def Oh(xs:O V)(lo hi:Option Int):O V:=(xs.drop (HT.va xs.length 0 lo)).take (HT.va xs.length xs.length hi-HT.va xs.length 0 lo)
theorem HP(xs:O V)(lo hi:Option Int):(Oh xs lo hi).length<=xs.length:=by
 unfold Oh;rw[Ci,C6];lia
def WC(K:Aa):R2:=λx y H Q=>∃a b xs ys,x=.ref a/\y=.ref b/\dM K H a xs/\dM K H b ys/\xs≠[]/\xs.length+ys.length<=sizeLine/\
 (ys=[]->Q (.ref a) H)/\(ys≠[]->∀p,H p=ce->Q (.ref p) (upd H p (.tup (xs++ys))))
def Vals.jc(r:Vals xs us):us=[]↔xs=[]:=by
 cases r with
 |nil=>simp
 |cons _ _=>simp
def Lu:iD X (ut .Add) (WC X.K):=by
 intro Z s σ H x y v u Q I rx ry h;obtain⟨a,b,xs,ys,rfl,rfl,ha,hb,hx,hz,q1,q2⟩:=h;cases rx;cases ry;obtain⟨aq,r1,p1,_⟩:=I.tuple ha;obtain⟨cT,r2,p2,_⟩:=I.tuple hb;refine HT.VX p1 p2 (λz=>hx (r1.jc.mp z)) (λz=>⟨.ref a,H,I,rfl,q1 (r2.jc.mp z)⟩) (λz=>?_) (by rw[<- r1.length,<- r2.length];exact hz);refine⟨.ref s.heap.objs.size,_,I.laid (λb ob q=>Ae _ q) (Al _) ?_,rfl,q2 (λw=>z (r2.jc.mpr w)) _ (I.br.fresh (Al _))⟩;exact⟨by rw[Ak];exact hz,_,r1.append r2,IsTup.new _ _,_,Am _ rfl,rfl⟩
end
end L2
variable{p:A9}{eT:O A8}
namespace L2
def rN(n:Nat)(i:Int):Option Nat:=if 0<=i then (if i<n then am i.toNat else ce) else if -(n:Int)<=i then am (i+n).toNat else ce
def fC(xs:List α)(i:Int):Option α:=(rN xs.length i).bind λj=>xs[j]?
theorem rM(h:rN n i=am j):seqIndex? i n=am j/\j<n/\-(n:Int)<=i/\i<n:=by
 unfold rN at h;by_cases h0:0<=i
 .rw[if_pos h0]at h;by_cases h1:i<n
  .rw[if_pos h1]at h;have e:=Option.some.inj h;exact⟨by rw[seqIndex_of h0 h1,e],by lia,by lia,h1⟩
  .rw[if_neg h1]at h;cases h
 .rw[if_neg h0]at h;by_cases h1:-n<=i
  .rw[if_pos h1]at h;have e:=Option.some.inj h;exact⟨by rw[seqIndex_neg ∅ h1,e],by lia,h1,by lia⟩
  .rw[if_neg h1]at h;cases h
def zk{xs:List α}{v:α}(h:fC xs i=am v):∃j,seqIndex? i xs.length=am j/\xs[j]?=am v/\j<xs.length/\-(xs.length:Int)<=i/\i<xs.length:=by
 unfold fC at h;cases e:rN xs.length i with
 |none=>rw[e]at h;cases h
 |some j=>
  rw[e]at h;obtain⟨h1,h2,h3,h4⟩:=rM e;exact⟨j,h1,h,h2,h3,h4⟩
theorem gh{xs:List α}{v:α}(h:xs[j]?=am v):fC xs (j:Int)=am v:=by
 have hj:=(Ai.mp h).1;have e:rN xs.length j=am j:=by
  unfold rN;rw[if_pos ∅,if_pos ∅];simp
 unfold fC;rw[e];exact h
def Mx(b:nw):Prop:=∀o i,subscripted b false o i=operate [o,i] (getItem o i)
def S7(X:Cx)(r:R2):Prop:=
 ∀(Ä Æ:nw) (Z:O (db×Obj)) (s:cr) (σ:St) (H:Hp) (x y:V) (v u:ci) (Q:VK),Inv X Z σ H s->RelV x v->RelV y u->r x y H Q->
  subscripted Æ false v u=operate [v,u] (getItem v u)->ga (im X.prog X.w) X.A (subscriptTail Ä Æ v u) (EP X Z σ Q) X.xe s
def MtR(X:Cx)(id:String)(r:V->O V->Hp->VK->Prop):Prop:=
 ∀(Z:O (db×Obj)) (s:cr) (σ:St) (H:Hp) (x:V) (xs:O V) (v:ci) (us:O ci) (Q:VK),Inv X Z σ H s->RelV x v->Vals xs us->r x xs H Q->
  ga (im X.prog X.w) X.A (call (.builtin id) (v::us)) (EP X Z σ Q) X.xe s
section
variable{X:Cx}{a b:nw}{ta tb:TE}{pos:Pos}
def S7.or{r r':R2}(h:S7 X r)(h':S7 X r'):S7 X (λx y H Q=>r x y H Q\/r' x y H Q):=by
 intro Ä Æ Z s σ H x y v u Q I rx ry q hs;rcases q with q|q
 .exact h Ä Æ Z s σ H x y v u Q I rx ry q hs
 .exact h' Ä Æ Z s σ H x y v u Q I rx ry q hs
def fF{r:R2}(hr:S7 X r)(ha:PE X a ta)(hb:PE X b tb)(hs:Mx b):PE X (.Subscript a b pos) (Wq r ta tb):=by
 intro Z s σ H Q I h;exact Subscript_ (aas ha hb I h λv u s2 x y H2 I2 rx ry q=>hr a b Z s2 σ H2 x y v u Q I2 rx ry q (hs _ _))
def ab8(K:Aa):R2:=λx y H Q=>∃p xs i v,x=.ref p/\y=.int i/\b9 K H p xs/\fC xs i=am v/\Q v H
def ab6(K:Aa):R2:=λx y H Q=>∃p xs i v,x=.ref p/\y=.int i/\dM K H p xs/\fC xs i=am v/\Q v H
def ab7:R2:=λx y H Q=>∃z i c,x=.str z/\y=.int i/\z.length<=sizeLine/\fC z.cps.toList i=am c/\Q (.str ⟨#[c]⟩) H
theorem Va:S7 X (ab8 X.K):=by
 intro Ä Æ Z s σ H x y v u Q I rx ry h hs;obtain⟨p,xs,i,z,rfl,rfl,hq,he,q⟩:=h;cases rx;obtain⟨t,rfl⟩:=ry;obtain⟨aq,r,pl,hz⟩:=I.list hq;obtain⟨j,h1,h2,h3,h4,h5⟩:=zk he;obtain⟨w,ew,z9⟩:=r.get h2;have hl:=r.length;have hn:=yc;have fin:EP X Z σ Q w s:=⟨z,H,I,z9,q⟩;by_cases h0:0<=i
 .have hj:i.toNat=j:=by
   rw[seqIndex_of h0 h5]at h1;exact Option.some.inj h1
  exact item_listR pl.isList h0 ∅ (by rw[hj];simpa using ew) fin hs
 .have hj:(i+aq.toArray.size).toNat=j:=by
   rw[seqIndex_neg ∅ h4]at h1;rw[An,<- hl];exact Option.some.inj h1
  exact subscriptTail_builtinR pl.isList.typeIs slot_list_getitem.lookup
   (wpAny_getItem_list_neg pl.isList ∅ (by rw[An]<;>lia) ∅ (by rw[hj];simpa using ew) ⟨rfl,fin⟩) hs
theorem Zw:S7 X (ab6 X.K):=by
 intro Ä Æ Z s σ H x y v u Q I rx ry h hs;obtain⟨p,xs,i,z,rfl,rfl,hq,he,q⟩:=h;cases rx;obtain⟨t,rfl⟩:=ry;obtain⟨aq,r,pl,hz⟩:=I.tuple hq;obtain⟨j,h1,h2,h3,h4,h5⟩:=zk he;obtain⟨w,ew,z9⟩:=r.get h2;have hn:=yc;have fin:EP X Z σ Q w s:=⟨z,H,I,z9,q⟩;exact subscriptTail_builtinR pl.typeIs slot_tuple_getitem.lookup
  (getItem_tuple pl ∅ ∅ (by rw[An,<- r.length];exact h1) (by simpa using ew) ⟨rfl,fin⟩) hs
theorem Zx:S7 X ab7:=by
 intro Ä Æ Z s σ H x y v u Q I rx ry h hs;obtain⟨z,i,c,rfl,rfl,hz,he,q⟩:=h;obtain⟨t,rfl⟩:=rx;obtain⟨t',rfl⟩:=ry;obtain⟨j,h1,h2,h3,h4,h5⟩:=zk he;have hl:z.cps.toList.length=z.length:=by simp[Str.length]
 rw[hl]at h1 h4 h5;have hn:=yc;exact tail_any (typeIs_str s z t) slot_str_getitem.lookup (getItem_str (by
  rw[(decide_eq_false ∅),(decide_eq_false ∅),Bool.or_false]) (by rw[h1];simpa using h2) ⟨.str ⟨#[c]⟩,H,I.tok _,⟨_,rfl⟩,q⟩) hs
def rIx(K:Aa):R2:=λx y H Q=>ab8 K x y H Q\/ab6 K x y H Q\/ab7 x y H Q
def Zy:S7 X (rIx X.K):=Va.or (Zw.or Zx)
def Jm(aq:O ci)(n j:Nat)(u:ci):Bg (·.setIfInBounds j u) {cls:=.type "list",data:=.seq aq.toArray n}={cls:=.type "list",data:=.seq (aq.set j u).toArray n}:=by
 simp[Bg]
def Inv.lst{Z:O (db×Obj)}{σ:St}{H:Hp}{s:cr}{p:db}{xs:O V}(I:Inv X Z σ H s)(h:H p=am (.lst xs)):∃(aq:O ci) (n:Nat),Vals xs aq/\s.heap.get? p=am {cls:=.type "list",data:=.seq aq.toArray n}/\xs.length<=sizeLine:=by
 obtain⟨z,aq,n,r,e⟩:=I.br p _ h;exact⟨aq,n,r,e,z⟩
def Inv.Zg{s:cr}{n':Nat}{f:Obj->Obj}(I:Inv X Z σ H s)(h:H p=am (.lst xs))(ho:s.heap.get? p=am {cls:=.type "list",data:=.seq aq.toArray n})(hf:f {cls:=.type "list",data:=.seq aq.toArray n}={cls:=.type "list",data:=.seq eT.toArray n'})(r:Vals ys eT)(hz:ys.length<=sizeLine)(t:Nat):Inv X Z σ (upd H p (.lst ys)) {s with heap:=s.heap.update p f,toks:=t}:=by
 have e:(s.heap.update p f).get? p=am {cls:=.type "list",data:=.seq eT.toArray n'}:=by
  rw[BH f ho (by rw[hf]<;>rfl),hf]
 refine I.write (x:=p) (e:=p) (by rw[h];trivial) (.inl rfl) (λb u hb q=>(BC _ _ (BQ hb)).trans q) ⟨_,e⟩ ?_;exact⟨hz,eT,n',r,e⟩
def ab3:V->V->V->Hp->(Hp->Prop)->Prop:=λo i v H Q=>∃p xs k j,o=.ref p/\i=.int k/\H p=am (.lst xs)/\rN xs.length k=am j/\Q (upd H p (.lst (xs.set j v)))
theorem set_list:OC X ab3:=by
 intro Z s σ H o i v ov iv u Q I ro ri rv h;obtain⟨p,xs,k,j,rfl,rfl,hp,hj,q⟩:=h;cases ro;obtain⟨t,rfl⟩:=ri;obtain⟨aq,n,r,ho,hz⟩:=I.lst hp;obtain⟨h1,h2,h3,h4⟩:=rM hj;have hl:=r.length;have hn:=yc;have I':=
  I.Zg hp ho (Jm aq n j u) (r.set rv j) (by rw[BA];exact hz) s.toks
 by_cases h0:0<=k
 .have hk:k.toNat=j:=by
   rw[seqIndex_of h0 h4]at h1;exact Option.some.inj h1
  exact PySem.W.ki_setAt ho h0 ∅ (by rw[An,<- hl];exact h4) (by rw[hk];exact⟨_,I',q⟩)
 .have hk:(k+aq.toArray.size).toNat=j:=by
   rw[seqIndex_neg ∅ h3]at h1;rw[An,<- hl];exact Option.some.inj h1
  exact PySem.W.ki_setBack ho ∅ (by rw[An,<- hl];exact h3) ∅ (by rw[hk];exact⟨_,I',q⟩)
theorem xu(lo hi:Option Int)(n:Nat):(v4 lo hi ce n).1=((HT.va n 0 lo:Nat):Int)/\(v4 lo hi ce n).2.1=((HT.va n n hi:Nat):Int)/\(v4 lo hi ce n).2.2=1:=by
 refine⟨?_,?_,rfl⟩
 .cases lo with
  |none=>simp[v4,HT.va]
  |some i=>
   simp only[v4,HT.va,Option.getD_none];by_cases h:i<0
   .simp only[h,if_true]<;>lia
   .simp only[h,if_false]<;>lia
 .cases hi with
  |none=>simp[v4,HT.va]
  |some i=>
   simp only[v4,HT.va,Option.getD_none,if_true];by_cases h:i<0
   .simp only[h,if_true]<;>lia
   .simp only[h,if_false]<;>lia
def u7(aq:O ci)(lo hi:Option Int):FS aq.toArray lo hi ce=((aq.drop (HT.va aq.length 0 lo)).take (HT.va aq.length aq.length hi-HT.va aq.length 0 lo)).toArray:=by
 obtain⟨h1,h2,h3⟩:=xu lo hi aq.toArray.size;unfold FS;rw[h1,h2,h3];simp only[sliceRange_one,pick_run]<;>rfl
def agt(K:Aa):V->Option Int->Option Int->Hp->VK->Prop:=λx lo hi H Q=>∃a xs,x=.ref a/\b9 K H a xs/\∀p,H p=ce->Q (.ref p) (upd H p (.lst (Oh xs lo hi)))
theorem TR:SlR X (agt X.K):=by
 intro Z s σ H x v vl vu lo hi sl Q I rx hs pl pu h;obtain⟨a,xs,rfl,hx,q⟩:=h;cases rx;obtain⟨aq,r,ht,hz⟩:=I.list hx;have Á:=r.length;refine⟨"list",_,slot_list_getitem.lookup,ht.isList.typeIs,?_⟩;refine EO ht.isList hs pl pu .none (by simp) ?_ (by rw[An] <;> lia);rw[u7,<- Á];refine⟨.ref s.heap.objs.size,_,I.laid (λb ob q=>Ae _ q) (Al _) ?_,rfl,q _ (I.br.fresh (Al _))⟩;exact⟨Ax (HP xs lo hi) hz,_,0,(r.drop (HT.va xs.length 0 lo)).take (HT.va xs.length xs.length hi-HT.va xs.length 0 lo),Am _ rfl⟩
theorem zh:cj X (.type "list") (λxs H Q=>∃p ys,xs=[.ref p]/\(b9 X.K H p ys\/dM X.K H p ys)/\∀l,H l=ce->Q (.ref l) (upd H l (.lst ys))):=by
 intro Z s σ H xs us Q I r h;obtain⟨p,ys,rfl,hq,q⟩:=h;obtain⟨u,rfl,rx⟩:=vals1 r;cases rx;have fin:∀aq,Vals ys aq->ys.length<=sizeLine->∀(h':r9) c',(∀b o',s.heap.get? b=am o'->h'.get? b=am o')->
   h'.get? s.heap.objs.size=am {cls:=.type "list",dict:=ce,data:=.seq aq.toArray c',slots:=#[]}->EP X Z σ Q (.ref s.heap.objs.size) {s with heap:=h'}:=λaq r' hz h' c' kp e=>
  ⟨.ref s.heap.objs.size,_,I.laid (t':=s.toks) kp (Al _) (show bE X.prog X.w _ h' _ (.lst ys) from⟨hz,aq,c',r',e⟩),rfl,q _ (I.br.fresh (Al _))⟩
 rcases hq with hq|hq
 .obtain⟨aq,r',pl,hz⟩:=I.list hq;have Á:=r'.length;obtain⟨o,ho,hc,n,hd⟩:=pl.isList;exact call_list_seq p (.inl rfl) ho hc hd (λh' c' kp e=>fin aq r' hz h' c' kp e) (by simp only[An]<;>lia)
 .obtain⟨aq,r',pl,hz⟩:=I.tuple hq;have Á:=r'.length;obtain⟨o,ho,hc,n,hd⟩:=pl;exact call_list_seq p (.inr rfl) ho hc hd (λh' c' kp e=>fin aq r' hz h' c' kp e) (by simp only[An]<;>lia)
theorem vH:cj X (.type "tuple") (λxs H Q=>∃p ys,xs=[.ref p]/\((b9 X.K H p ys/\∀l,H l=ce->Q (.ref l) (upd H l (.tup ys)))\/(dM X.K H p ys/\Q (.ref p) H))):=by
 intro Z s σ H xs us Q I r h;obtain⟨p,ys,rfl,h⟩:=h;obtain⟨u,rfl,rx⟩:=vals1 r;cases rx;rcases h with⟨hq,q⟩|⟨hq,q⟩
 .obtain⟨aq,r',pl,hz⟩:=I.list hq;have Á:=r'.length;refine call_tuple_list pl.isList (λh' kp=>?_) (by simp<;>lia);have I1:=I.kept (t':=s.toks) kp;have I2:=
   I1.laid (t':=s.toks) (λb o e=>Ae _ e) (Al _) (show bE X.prog X.w _ _ _ (.tup ys) from⟨hz,aq,r',IsTup.new _ _,_,Am _ rfl,rfl⟩)
  exact⟨.ref h'.objs.size,_,I2,rfl,q _ (I1.br.fresh (Al _))⟩
 .obtain⟨aq,r',pl,hz⟩:=I.tuple hq;exact call_tuple_same pl ⟨.ref p,H,I,rfl,q⟩
def tyV(K:Aa)(T:String)(x:V)(H:Hp):Prop:=match x with
 |.str _=>T="str"
 |.int _=>T="int"
 |.ref p=>(T="list"/\∃xs,b9 K H p xs)\/(T="tuple"/\∃o,K.lookup p=am o/\o.cls=.type "tuple"/\o.dict=ce)\/
   (T="dict"/\((∃aA,H p=am (.dK aA))\/∃aA,H p=am (.dT aA)))\/(T="set"/\∃S n,H p=am (.set S n))
 |_=>False
def O7{s:cr}{x:V}(I:Inv X Z σ H s)(r:RelV x v)(ty:tyV X.K T x H):s.TypeIs v T/\∀a,v=.ref a->∃ob,s.heap.get? a=am ob/\ob.dict=ce:=by
 cases x with
 |str z=>
  obtain⟨t,rfl⟩:=r;cases (ty);exact⟨typeIs_str s z t,λ_ e=>nomatch e⟩
 |int i=>
  obtain⟨t,rfl⟩:=r;cases (ty);exact⟨typeIs_int s i t,λ_ e=>nomatch e⟩
 |ref p=>
  cases r;rcases ty with⟨rfl,xs,hq⟩|⟨rfl,o,hk,hc,hd⟩|⟨rfl,hk⟩|⟨rfl,S,n,hk⟩
  .obtain⟨aq,_,pl,_⟩:=I.list hq;refine⟨pl.isList.typeIs,λa e=>?_⟩;cases e;obtain⟨o,n,e,c,hd,_⟩:=pl;exact⟨o,e,hd⟩
  .refine⟨⟨o,I.qi p o hk,hc⟩,λa e=>?_⟩;cases e;exact⟨o,I.qi _ o hk,hd⟩
  .have z:∃o,s.heap.get? p=am o/\o.ExactDict:=by
    rcases hk with⟨aA,hk⟩|⟨aA,hk⟩
    .obtain⟨_,_,_,_,o,_,_,e,ex,_⟩:=I.br p _ hk;exact⟨o,e,ex⟩
    .obtain⟨_,_,_,_,o,_,_,e,ex,_⟩:=I.br p _ hk;exact⟨o,e,ex⟩
   obtain⟨o,e,ex⟩:=z;refine⟨⟨o,e,ex.1⟩,λa e2=>?_⟩;cases e2;exact⟨o,e,ex.2.1⟩
  .obtain⟨o,_,_,_,e,ex,_⟩:=I.br p _ hk;refine⟨⟨o,e,ex.1⟩,λa e2=>?_⟩;cases e2;exact⟨o,e,ex.2.1⟩
 |_=>exact Bx ty
def abJ(K:Aa)(T:String)(r:V->O V->Hp->VK->Prop)(to:TE):TE:=λσ H Q=>to σ H λx H1=>tyV K T x H1/\r x [] H1 Q
def tBM(K:Aa)(T:String)(r:V->O V->Hp->VK->Prop)(to:TE)(t:TA):TE:=λσ H Q=>to σ H λx H1=>tyV K T x H1/\t σ H1 λxs H2=>r x xs H2 Q
variable{o e:nw}{es:O nw}{to:TE}{t:TA}{name:Str}{Â bD:Pos}{T id:String}{r:V->O V->Hp->VK->Prop}
def YT(pa:PlainAttrs T)(slot:Slot T name id)(ZL:typeOf (.builtin id)=pure (.type "method_descriptor"))(hm:MtR X id r)(ho:PE X o to)(dm:‹nn o name X.env (o0 o X.env)=o0 o X.env›)(di:‹SN Â bD›):PE X (.Call (.Attribute o name Â) [] [] bD) (abJ X.K T r to):=by
 intro Z s σ H Q I h;refine wpAny_Call_method0_late dm di (bU (ho Z s σ H _ I h) λv s1 ⟨x,H1,I1,r1,ty,q1⟩=>?_);obtain⟨h1,h2⟩:=O7 I1 r1 ty;exact⟨T,id,pa,slot,ZL,h1,h2,E7 rfl (PySem.evalArgs_none (hm Z s1 σ H1 x [] v [] Q I1 r1 .nil q1))⟩
def acj(pa:PlainAttrs T)(slot:Slot T name id)(ZL:typeOf (.builtin id)=pure (.type "method_descriptor"))(hm:MtR X id r)(ho:PE X o to)(ha:PA X (e::es) t)(dm:‹nn o name X.env (o0 o X.env)=o0 o X.env›)(mO:‹HWa X bD (e::es)›)(di:‹SN Â bD›)(hs:‹gK X e es›)(dD:‹jO X bD es›):PE X (.Call (.Attribute o name Â) (e::es) [] bD) (tBM X.K T r to t):=by
 intro Z s σ H Q I h;refine wpAny_Call_method_late dm mO di rfl (bU (ho Z s σ H _ I h) λv s1 ⟨x,H1,I1,r1,ty,q1⟩=>?_);obtain⟨h1,h2⟩:=O7 I1 r1 ty;refine⟨T,id,pa,slot,ZL,h1,h2,?_⟩;have hA:=ha bD Z s1 σ H1 _ I1 q1;rw[hs]at hA ⊢;exact E7 (by show(false||(BT bD (lm es X.env)).any (·.1))=false;rw[dD]<;>rfl) (Calls.evalArgs_plain (bU hA λus s2 ⟨vs,H2,I2,r2,q2⟩=>hm Z s2 σ H2 x vs v us Q I2 r1 r2 q2))
end
def Mz(X:Cx)(id:String)(r:V->O V->Hp->VK->Prop):Prop:=
 ∀(Z:O (db×Obj)) (s:cr) (σ:St) (H:Hp) (x:V) (xs:O V) (v:ci) (us:O ci) (Q:VK),Inv X Z σ H s->RelV x v->Vals xs us->r x xs H Q->
  ga (im X.prog X.w) X.A (call (.builtin id) (v::us)) (EP X Z σ Q) X.xe s
def Vals.one:∀{x:V}{us:O ci},Vals [x] us->∃u,us=[u]/\RelV x u
 |_,_,.cons r .nil=>⟨_,rfl,r⟩
def Vals.zero:∀{us:O ci},Vals [] us->us=[]
 |_,.nil=>rfl
def Vals.dropLast(h:Vals xs us):Vals xs.dropLast us.dropLast:=by
 induction h with
 |nil=>exact .nil
 |cons r t ih=>
  cases t with
  |nil=>exact .nil
  |cons q t'=>exact .cons r ih
theorem Vals.eraseIdx:∀{xs:O V}{us:O ci} (i:Nat),Vals xs us->Vals (xs.eraseIdx i) (us.eraseIdx i)
 |_,_,_,.nil=>.nil
 |_,_,0,.cons _ t=>t
 |_,_,i+1,.cons r t=>.cons r (Vals.eraseIdx i t)
theorem Vals.rep(h:Vals xs us):∀k:Nat,Vals (Ao k xs).flatten (Ao k us).flatten
 |0=>.nil
 |k+1=>by
  exact Vals.append h (Vals.rep h k)
theorem J4(l:List α):l.eraseIdx (l.length-1)=l.dropLast:=by
 induction l with
 |nil=>rfl
 |cons a r ih=>
  cases r with
  |nil=>rfl
  |cons b r=>
   have e:(a::b::r).length-1=((b::r).length-1)+1:=by
    have h1:(a::b::r).length=r.length+2:=rfl;have h2:(b::r).length=r.length+1:=rfl;lia
   rw[e,Dq,ih]
   all_goals rfl
theorem wq:∀(l:List α) (i:Nat),(l.eraseIdx i).length<=l.length
 |[],_=>Al _
 |_::_,0=>Dn _
 |_::r,i+1=>Nat.succ_le_succ (wq r i)
theorem foldl_rep(aq:O ci):∀(k:Nat) (acc:O ci),List.foldl (λx1 x2=>x1++x2) acc.toArray (Ao k aq.toArray)=(acc++(Ao k aq).flatten).toArray
 |0,acc=>by simp
 |k+1,acc=>by
  have e:acc.toArray++aq.toArray=(acc++aq).toArray:=by simp
  have e2:(acc++aq)++(Ao k aq).flatten=acc++(Ao (k+1) aq).flatten:=by
   rw[Dc,EI,AD]
  rw[<- e2,<- foldl_rep aq k (acc++aq),<- e,Dc,Dj]
section
variable{s:cr}{l:db}
def Inv.Jr{f:Array ci->Array ci}{t':Nat}(I:Inv X Z σ H s)(hH:H l=am (.lst xs))(e:s.heap.get? l=am {cls:=.type "list",data:=.seq aq.toArray n})(hf:f aq.toArray=eT.toArray)(hv:Vals ys eT)(hz:ys.length<=sizeLine):Inv X Z σ (upd H l (.lst ys)) {s with heap:=s.heap.update l (Bg f),toks:=t'}:=by
 have q:=PySem.IsL.update e f;rw[hf]at q;refine I.write (by rw[hH];exact trivial) (.inl rfl) (λb' u hb hu=>(BC s.heap (Bg f) (BQ hb)).trans hu) ⟨_,q⟩ ?_;exact⟨hz,eT,_,hv,q⟩
def Inv.Zh{t':Nat}(I:Inv X Z σ H s)(hv:Vals ys aq)(hz:ys.length<=sizeLine):Inv X Z σ (upd H s.heap.objs.size (.lst ys)) {s with heap:=s.heap.push {cls:=.type "list",data:=.seq aq.toArray},toks:=t'}:=
 I.laid (λ_ _ q=>Ae _ q) (Al _) ⟨hz,aq,0,hv,Am _ rfl⟩
def Inv.fresh(I:Inv X Z σ H s):H s.heap.objs.size=ce:=I.br.fresh (Al _)
def Inv.qC(I:Inv X Z σ H s)(hH:H l=am (.lst xs)):xs.length<=sizeLine/\∃(aq:O ci) (n:Nat),Vals xs aq/\xs.length=aq.length/\s.heap.get? l=am {cls:=.type "list",data:=.seq aq.toArray n}:=by
 obtain⟨z,aq,n,r,e⟩:=I.br l _ hH;exact⟨z,aq,n,r,r.length,e⟩
theorem nP(h:n<=sizeLine):Builtin.List.listTooLong n=false:=by
 exact decide_eq_false ∅
end
section
def Ud:V->O V->Hp->VK->Prop:=λx vs H Q=>∃l xs y,x=.ref l/\vs=[y]/\H l=am (.lst xs)/\xs.length<sizeLine/\Q .aM (upd H l (.lst (xs++[y])))
theorem Ng:Mz X "list.append" Ud:=by
 intro Z s σ H x vs v us Q I rx rv h;obtain⟨l,xs,y,rfl,rfl,hH,hz,q⟩:=h;cases rx;obtain⟨u,rfl,ru⟩:=rv.one;obtain⟨z,aq,n,r,hl,e⟩:=I.qC hH;refine wE F.slot_list_append ⟨_,e,rfl⟩ F.entry_list_append (F.args_list_append_2 _ _) (PySem.list_append l aq.toArray n u (by rw[An];lia)) ⟨e,?_⟩;refine⟨.aM,_,I.Jr hH e (by simp) (r.append (.cons ru .nil)) ?_,rfl,q⟩;rw[Ak,Fy];lia
def Ub:V->O V->Hp->VK->Prop:=λx vs H Q=>∃l b xs zs,x=.ref l/\vs=[.ref b]/\H l=am (.lst xs)/\H b=am (.lst zs)/\xs.length+zs.length<=sizeLine/\Q .aM (upd H l (.lst (xs++zs)))
theorem aaK:Mz X "list.extend" Ub:=by
 intro Z s σ H x vs v us Q I rx rv h;obtain⟨l,b,xs,zs,rfl,rfl,hH,hB,hz,q⟩:=h;cases rx;obtain⟨u,rfl,ru⟩:=rv.one;cases ru;obtain⟨z,aq,n,r,hl,e⟩:=I.qC hH;obtain⟨z2,cT,n2,r2,Xi,e2⟩:=I.qC hB;have uR:aq.toArray.size+cT.toArray.size<=sizeLine:=by rw[An,An];lia
 have tY:¬(!aq.toArray.isEmpty&&Builtin.List.listTooLong (aq.toArray.size+cT.toArray.size))=true:=by
  rw[nP uR,DH];exact AY
 refine wE Em ⟨_,e,rfl⟩ Ec (D2 _ _)
  (AutoSeq1.list_extend_list_list_0 l aq.toArray n b cT.toArray n2 tY (by rw[An];lia) ∅) ⟨e,e2,?_⟩
 refine⟨.aM,_,I.Jr hH e (by simp) (r.append r2) ?_,rfl,q⟩;rw[Ak];lia
def agv:V->O V->Hp->VK->Prop:=λx vs H Q=>∃l xs y,x=.ref l/\vs=[]/\H l=am (.lst xs)/\xs[xs.length-1]?=am y/\Q y (upd H l (.lst xs.dropLast))
theorem Zd:Mz X "list.pop" agv:=by
 intro Z s σ H x vs v us Q I rx rv h;obtain⟨l,xs,y,rfl,rfl,hH,hy,q⟩:=h;cases rx;have hus:=rv.zero;subst hus;obtain⟨z,aq,n,r,hl,e⟩:=I.qC hH;obtain⟨u,hu,ru⟩:=r.get hy;have hy':aq.toArray[aq.toArray.size-1]?=am u:=by
  show aq.toArray[aq.length-1]?=am u;rw[<- DP,<- hl];exact hu
 refine wE F.slot_list_pop ⟨_,e,rfl⟩ F.entry_list_pop (F.args_list_pop_1 _) (MeetsSeq.list_pop_last l aq.toArray n u hy' (by rw[An];lia)) ⟨e,?_⟩;refine⟨y,_,I.Jr hH e ?_ r.dropLast ?_,ru,q⟩
 .rw[An,DK,J4]
 .rw[List.length_dropLast];lia
def YE:V->O V->Hp->VK->Prop:=λx vs H Q=>∃l xs i k y,x=.ref l/\vs=[.int i]/\H l=am (.lst xs)/\-(2 ^ 63)<=i/\i<2 ^ 63/\seqIndex? i xs.length=am k/\xs[k]?=am y/\Q y (upd H l (.lst (xs.eraseIdx k)))
theorem GO:Mz X "list.pop" YE:=by
 intro Z s σ H x vs v us Q I rx rv h;obtain⟨l,xs,i,k,y,rfl,rfl,hH,h1,h2,hk,hy,q⟩:=h;cases rx;obtain⟨u,rfl,ru⟩:=rv.one;obtain⟨t,rfl⟩:=ru;obtain⟨z,aq,n,r,hl,e⟩:=I.qC hH;obtain⟨w,hw,z9⟩:=r.get hy;refine wE F.slot_list_pop ⟨_,e,rfl⟩ F.entry_list_pop (F.args_list_pop_2 _ _)
  (MeetsSeq.list_pop_at l aq.toArray n i t k w (fitsIndex_both h1 h2) (by rw[An,<- hl];exact hk) (by rw[<- DP];exact hw) (by rw[An];lia)) ⟨e,?_⟩
 refine⟨y,_,I.Jr hH e ?_ (r.eraseIdx k) ?_,z9,q⟩
 .rw[DK]
 .have:=wq xs k;lia
def agx:R2:=λx y H Q=>∃l b xs zs,x=.ref l/\y=.ref b/\H l=am (.lst xs)/\H b=am (.lst zs)/\xs.length+zs.length<=sizeLine/\∀p,H p=ce->Q (.ref p) (upd H p (.lst (xs++zs)))
theorem Y3:iD X (ut .Add) agx:=by
 intro Z s σ H x y v u Q I rx ry h;obtain⟨l,b,xs,zs,rfl,rfl,hH,hB,hz,q⟩:=h;cases rx;cases ry;obtain⟨z,aq,n,r,hl,e⟩:=I.qC hH;obtain⟨z2,cT,n2,r2,Xi,e2⟩:=I.qC hB;refine PySem.P.add_list e e2 ?_ (by rw[An,An];lia);have ea:aq.toArray++cT.toArray=(aq++cT).toArray:=by simp
 rw[ea];exact⟨.ref _,_,I.Zh (r.append r2) (by rw[Ak];lia),rfl,q _ I.fresh⟩
def agu:R2:=λx y H Q=>∃l k xs,x=.ref l/\y=.int k/\H l=am (.lst xs)/\-(2 ^ 63)<=k/\k<2 ^ 63/\xs.length*k.toNat<=sizeLine/\
 ∀p,H p=ce->Q (.ref p) (upd H p (.lst (Ao k.toNat xs).flatten))
def len_rep(xs:List α)(k:Nat):(Ao k xs).flatten.length=k*xs.length:=by
 induction k with
 |zero=>simp
 |succ k ih=>rw[Dc,EI,Ak,ih,Dy,Nat.add_comm]
theorem YY:iD X (ut .Mult) agu:=by
 intro Z s σ H x y v u Q I rx ry h;obtain⟨l,k,xs,rfl,rfl,hH,h1,h2,hz,q⟩:=h;cases rx;obtain⟨t,rfl⟩:=ry;obtain⟨z,aq,n,r,hl,e⟩:=I.qC hH;have Á:aq.toArray.size*k.toNat<=sizeLine:=by rw[An,<- hl];exact hz
 have ahv:¬aq.toArray.size*k.toNat > (2 ^ 63-1) / 8:=by
  have:(sizeLine:Nat)<=(2 ^ 63-1) / 8:=by decide
  lia
 have ahn:¬(!Builtin.List.listFitsIndex k)=true:=by
  rw[fitsIndex_both h1 h2];exact AY
 have tY:¬Builtin.List.listTooLong (aq.toArray.size*k.toNat)=true:=by
  rw[nP Á];exact AY
 have Vh:List.foldl (λx1 x2=>x1++x2) #[] (Ao (if aq.toArray.isEmpty=true then 0 else k.toNat) aq.toArray)=(Ao k.toNat aq).flatten.toArray:=by
  have f0:∀m:Nat,List.foldl (λx1 x2=>x1++x2) #[] (Ao m aq.toArray)=(Ao m aq).flatten.toArray:=λm=>by
   have:=foldl_rep aq m [];exact this
  rw[f0];cases aq with
  |nil=>simp
  |cons a r'=>rw[if_neg (by simp)]
 refine wpAny_binaryOp_repeat_ref (T:="list") ⋯ ⟨_,e,rfl⟩ (λs'=>typeIs_int s' k t) noFill_list_mul F.fills_int_mul F.slot_int_rmul repeat_list F.slot_int_index.lookup
  (wE F.slot_int_rmul (typeIs_int s k t) F.entry_int_rmul (F.args_int_rmul_2 _ _) (int___rmul___int_list k t l aq.toArray n)
   ⟨e,rfl,⟨_,e,rfl⟩,wE F.slot_list_mul ⟨_,e,rfl⟩ F.entry_list_mul (F.args_list_mul_2 _ _) (AutoListH.list___mul___list_int_3 l aq.toArray n k t ahn ahv tY) ⟨e,?_⟩⟩)
 rw[Vh];exact⟨.ref _,_,I.Zh (r.rep k.toNat) (by rw[len_rep,F9];exact hz),rfl,q _ I.fresh⟩
end
end L2
variable{xs:O (O L2.Key×A9×A8)}{v:L2.V}{aA:O (O L2.Key×L2.V)}
namespace L2
section
variable{κ:Type}[DecidableEq κ]
def iG(aA:O (κ×V))(k:κ):Option V:=(aA.find? λkv=>decide (kv.1=k)).map (·.2)
def jY{p:κ×V}{r:O (κ×V)}{k:κ}(e:p.1=k):iG (p::r) k=am p.2:=by simp[iG,e]
def jZ{p:κ×V}{r:O (κ×V)}{k:κ}(e:¬p.1=k):iG (p::r) k=iG r k:=by simp[iG,e]
theorem zI(k:κ):∀aA:O (κ×V),(aA.any λkv=>decide (kv.1=k))=(iG aA k).isSome
 |[]=>rfl
 |p::r=>by
  rw[CU];by_cases e:p.1=k
  .simp only[jY e,decide_eq_true e,Bool.true_or,F5]
  .rw[jZ e,decide_eq_false e,Bool.false_or];exact zI k r
def KV.val{aA:O (κ×V)}{vs:O (κ×ci)}(r:KV aA vs)(k:κ):qZ (iG aA k) (valueAt vs k):=by
 unfold KV at r
 induction r with
 |nil=>exact BV
 | @cons p q ps qs h t ih=>
  obtain⟨h1,h2⟩:=h;by_cases e:p.1=k
  .have e':q.1=k:=h1.symm.trans e;have b:valueAt (q::qs) k=am q.2:=by simp[valueAt,Eb,e']
   rw[jY e,b];exact h2
  .have e':¬q.1=k:=λz=>e (h1.trans z);have b:valueAt (q::qs) k=valueAt qs k:=by simp[valueAt,Eb,e']
   rw[jZ e,b];exact ih
end
def W7{k:Key}(r:RelV (kV k) u):(cx P w).is k u=true:=by
 cases k with
 |inl i=>obtain⟨t,e⟩:=(r);subst e;exact GR P w i t
 |inr x=>obtain⟨t,e⟩:=(r);subst e;exact GQ P w x t
theorem wy:∀{ks:O Key}{us:O ci},Vals (ks.map kV) us->ItemsAre (cx P w) ks us
 |[],_,r=>by rw[Fd]at r;cases r;exact .nil
 |k::ks,_,r=>by
  cases r with
  |cons h t=>exact .cons (W7 h) (wy t)
abbrev KT(H:Hp):O (O Key×V)->O (O Key×db×ci)->Prop:=Paired λp q=>p.1=q.1/\H q.2.1=am (.tup (p.1.map kV))/\RelV p.2 q.2.2
def KT.val(r:KT H aA xs)(k:O Key):qZ (iG aA k) ((atKey xs k).map (·.2)):=by
 induction r with
 |nil=>exact BV
 | @cons p q ps qs h t ih=>
  obtain⟨h1,_,h2⟩:=h;by_cases e:p.1=k
  .have e':=h1.symm.trans e;have b:atKey (q::qs) k=am q.2:=by simp[atKey,Eb,e']
   rw[jY e,b];exact h2
  .have e':¬q.1=k:=λz=>e (h1.trans z);have b:atKey (q::qs) k=atKey qs k:=by simp[atKey,Eb,e']
   rw[jZ e,b];exact ih
def KT.keeps(r:KT H aA xs)(ht:∀b ys,H b=am (.tup ys)->H' b=am (.tup ys)):KT H' aA xs:=
 Paired.Ze r λ_ _ z=>⟨z.1,ht _ _ z.2.1,z.2.2⟩
section
def Wz{u:HO}(ok:lV P w H h)(e:Rd H a u):bE P w H h a u:=e.ok ok
def HK{aA:O (Key×V)}(ok:lV P w H h)(e:Rd H a (.dK aA)):aA.length<=sizeLine/\(a==Gc)=false/\∃vs,KV aA vs/\h.DictOf (cx P w) a vs:=
 show bE P w H h a (.dK aA) from Wz ok e
def Jw{ks:O Key}(ok:lV P w H h)(e:H a=am (.tup (ks.map kV))):(sK (cx P w)).is h ks a:=by
 obtain⟨_,aq,r,⟨o,h1,h2,n,h3⟩,_⟩:=(show bE P w H h a (.tup (ks.map kV)) from ok a _ e);exact⟨o,aq.toArray,n,h1,h2,h3,by simpa using wy r⟩
def HJ(ok:lV P w H h)(e:Rd H a (.dT aA)):aA.length<=sizeLine/\(a==Gc)=false/\ ∃xs,KT H aA xs/\h.DictOfH (sK (cx P w)) a xs:=by
 obtain⟨z,y,xs,r,o,es,ep,h1,h2,h3,h4,h5⟩:=(Wz ok e);refine⟨z,y,xs,r,o,es,ep,h1,h2,h3,h4,λx hx=>?_,h5⟩;have all:∀{l:O (O Key×V)}{m:O (O Key×db×ci)},KT H l m->∀x∈m,(sK (cx P w)).is h x.1 x.2.1:=by
  intro l m q
  induction q with
  |nil=>intro x hx;exact nomatch hx
  | @cons p q ps qs hq t ih=>
   intro x hx;rcases AI.mp hx with e|hx
   .subst e;exact Jw ok (by rw[<- hq.1];exact hq.2.1)
   .exact ih x hx
 exact all r x hx
end
def Wi(H:Hp)(a:db)(y:V)(r:Option V):Prop:=
 (∃aA k,Rd H a (.dK aA)/\y=kV k/\r=iG aA k)\/∃aA k b,Rd H a (.dT aA)/\y=.ref b/\H b=am (.tup (k.map kV))/\r=iG aA k
section
variable{s:cr}{o:Option V}
def Inv.big(I:Inv X Z σ H s):Gc<s.heap.objs.size:=by
 exact Nat.lt_trans ⋯ ((I.mod.glob.keeps I.bk).lt)
def Og(hu:A.units+1<ul)(I:Inv X Z σ H s)(g:Wi H a y (am v))(ry:RelV y u)(h:∀w' s',Inv X Z σ H s'->RelV v w'->Q w' s'):ga (im X.prog X.w) A (getItem (.ref a) u) Q E s:=by
 rcases g with⟨aA,k,e,ey,l⟩|⟨aA,k,b,e,ey,eb,l⟩
 .subst ey;obtain⟨z,hd,vs,rel,dd⟩:=HK I.br e;obtain⟨w',hw,z9⟩:=qZ.some_of (v:=v) (o:=valueAt vs k) (by rw[l];exact rel.val k);exact wpAny_getItem_of (W7 ry) dd.mapOf hw (h w' _ (I.tok _) z9)
 .subst ey;cases (show u=Ay b from ry);obtain⟨z,hd,xs,rel,dd⟩:=HJ I.br e;obtain⟨w',hw,z9⟩:=qZ.some_of (v:=v) (o:=(atKey xs k).map (·.2)) (by rw[l];exact rel.val k);obtain⟨p,hp,zD⟩:=Option.map_eq_some_iff.mp hw;refine wpAny_getItem_heap (tupleKind_room_in1 hu) (Jw I.br eb) dd hp ?_;rw[zD];exact h w' _ (I.tok _) z9
end
def aay(i:nw):Prop:=∀ov iv,subscripted i false ov iv=operate [ov,iv] (getItem ov iv)
def Tv{s:cr}{Æ:nw}{id:String}(hl:KF (.type T) "__getitem__"=pure (am (.builtin id)))(hs:aay Æ)(h:ga (im prog w) A (o0 Ä env) (λo s₁=>ga (im prog w) A (o0 Æ env) (λi s₂=>s₂.TypeIs o T/\ga (im prog w) A (getItem o i) Q E s₂) E s₁) E s):ga (im prog w) A (o0 (.Subscript Ä Æ pos) env) Q E s:=by
 refine Subscript_ (BF h (λo s₁ h₁=>BF h₁ (λi s₂ h₂=>?_) λ_ _ x=>x) λ_ _ x=>x);obtain⟨hT,h₂⟩:=h₂;refine Ab ?_;refine Ab (Fo hT hl ?_);have fin:ga (im prog w) A (subscripted Æ false o i) (λr s₃=>ga (im prog w) A (letTemporaryGo Ä o r >>= λ_=>pure r) Q E s₃) E s₂:=by
  rw[hs o i];exact wpAny_operating (BF h₂ (λr s₃ h₃=>Ab (wpAny_letTemporaryGo (Ag h₃))) λ_ _ x=>x)
 first
  |exact Ag (Ab fin)
  |exact Ab (Ag (Ab fin))
  |exact Ab fin
def HL{s:cr}{o:Option V}(I:Inv X Z σ H s)(g:Wi H a y o):s.TypeIs (.ref a) "dict":=by
 rcases g with⟨aA,k,e,_,_⟩|⟨aA,k,b,e,_,_,_⟩
 .obtain⟨_,_,vs,_,dd⟩:=HK I.br e;exact dd.typeIs
 .obtain⟨_,_,xs,_,dd⟩:=HJ I.br e;exact dd.typeIs
def abG(td ty:TE):TE:=λσ H Q=>td σ H λx H1=>ty σ H1 λy H2=>∃a v,x=.ref a/\Wi H2 a y (am v)/\Q v H2
section
variable{i:nw}{td ty:TE}
def Ur(hu:X.A.units+1<ul)(ho:PE X o td)(hi:PE X i ty)(hs:aay i):PE X (.Subscript o i pos) (abG td ty):=by
 intro Z s σ H Q I h;refine Tv PySem.F.slot_dict_getitem.lookup hs (bU (ho Z s σ H _ I h) λu s1 ⟨x,H1,I1,rx,q1⟩=>bU (hi Z s1 σ H1 _ I1 q1) λiv s2 ⟨y,H2,I2,ry,a,v,ex,g,q2⟩=>?_);subst ex;obtain rfl:u=Ay a:=rx;exact⟨HL I2 g,Og hu I2 g ry λw' s3 I3 z9=>⟨v,H2,I3,z9,q2⟩⟩
end
structure M2(X:Cx)(o:nw)(m:Str)(Â:Pos)(e f:nw)(bD:Pos):Prop where
 base:nn o m X.env (o0 o X.env)=o0 o X.env
 few:((BT bD (lm [e,f] X.env)).all (λx=>!x.1)&&(backToKw bD (keywordEach [] X.env)).all (λx=>x.1.isSome)
  && decide (([e,f]:List nw).length+([]:List Keyword).length+(if ([]:List Keyword).isEmpty then 0 else 1)<30))=true
 line:(Â.endLine==bD.line)=true
 trees:BT bD (lm [e,f] X.env)=[(false,o0 e X.env),(false,o0 f X.env)]
def IsD(H:Hp)(a:db):Prop:=(∃aA,Rd H a (.dK aA))\/∃aA,Rd H a (.dT aA)
end L2
variable{Ó:O BR}{XP:(BR->Option A8)->E8->Prop}{YP:PySem.World->E8->Prop}
namespace Att
open PySem PySem.W PySem.Calls PyProof.Rows
def qK{P:Params}:∀(ns:O Int) (vs:O ci),WellAll P h vs (ns.map WData.int)->xL vs ns:=by
 intro ns
 induction ns with
 |nil=>
  intro vs w;cases w;exact .nil
 |cons n ns ih=>
  intro vs w;cases w with
  |cons a b=>
   cases a;exact .cons _ _ (ih _ b)
theorem MY{l:OpenLaw}(hn:l.most=am n){P:Params}{args:O WData}{vals:O ci}(Vg:l.row.toRowW.claim.pre args=true)(Ĭ:WellAll P h vals args):∃a vs ns,vals=[Ay a]/\args=[WData.list (ns.map WData.int)]/\h.get? a=am {cls:=.type "list",data:=.seq vs.toArray}/\xL vs ns/\ns.length<=n:=by
 have hc:l.pre.holds [] {args:=args}=true:=(pre_splitW Vg).2;obtain⟨d,r,rfl,h1,h2⟩:=hasAllW_cons ((pre_splitW Vg).1);obtain rfl:=hasAllW_nil h2;obtain⟨xs,rfl,h3⟩:=hasW_list h1;obtain⟨ns,rfl⟩:=items_int h3;have Á:ns.length<=n:=by
  unfold OpenLaw.pre at hc;have h4:(WTm.not (.lt (.lit (.int (n:Int))) (.len (.arg 0)))).holds [] {args:=[.list (ns.map .int)]}=true:=by
   have h4:=(holds_andW hc).1;rw[hn]at h4;exact h4
  have h5:=condW_of h4 (w_not (w_lt w_lit (w_len_list (w_arg rfl))));refine Nat.le_of_not_lt λq=>?_
  first
   |(rw[decide_eq_true q']at h5;exact absurd h5 ⋯)
   |(simp at h5;lia)
 cases Ĭ with
 |cons w1 w2=>
  cases w2;cases w1 with
  |list ho ahx=>exact⟨_,_,ns,rfl,rfl,ho,qK ns _ ahx,Á⟩
def M7(l:OpenLaw)(args:O WData):l.row.toRowW.claim.post args (.bool true) args=true:=
 postW_of
  (show WShape.has [] (.bool true) .bool=true by first|rfl|decide|simp[WShape.has,WShape.arms])
  (w_eq_bool (w_res rfl) w_lit) rfl
def HZ{l:OpenLaw}{q:wP}{d:DefRec}(hn:l.most=am n)(Ĺ:d.params.defaults=[])(call:∀(w:Da) (s₀ s₁:cr) (mg mb:Str->Option ci) (fa:db) (o:Obj) (pm cd Ç:ci) (a:db) (vs:O ci) (ns:O Int),
   Ground q Ó [] XP w s₀ mg mb s₁.heap->YP w s₁.heap->
   s₁.heap.get? fa=am o->o.data=.func (docDef d.name d.params d.body d.scope pm cd Ç)->s₁.heap.CodeRec cd d.name->mg d.name=am (.ref fa)->
   s₁.heap.get? a=am {cls:=.type "list",data:=.seq vs.toArray}->xL vs ns->ns.length<=n->s₁.gens=#[]->
   Fk (im l.prog w) callerA (.call (.ref fa) ⟨[.ref a],[]⟩) (λr s'=>r=.ok (.ret (.bool true))/\OldK s₁.heap s'.heap/\s'.os=s₁.os/\Os s'.gens) s₁):WalkO q Ó XP YP l.row.toRowW d [] (λf vs=>PySem.call f vs):=by
 intro w s₀ s₁ mg mb G Y fa o pm cd Ç dV kV ho hd gM hD hmg hg args vals as Vg alp hrd Ĭ hlo;obtain rfl:dV=.none:=Dflts.none hD Ĺ;obtain rfl:kV=.none:=Dflts.noKw hD;obtain⟨a,vs,ns,rfl,rfl,ZO,Õ,Á⟩:=MY hn Vg Ĭ;refine enter_call (FM (call w s₀ s₁ mg mb fa o pm cd Ç a vs ns G Y ho (fd_plain hd) gM hmg ZO Õ Á hg) λr s' hq=>?_);obtain⟨rfl,h2,h3,h4⟩:=hq;exact⟨.inl ⟨.bool true,.bool true,[],rfl,λ_=>rfl,.bool true,M7 l _,λ_=>⟨List.Pairwise.nil,λ_ hm=>(nomatch hm)⟩⟩,h2,h3,h4⟩
end Att
namespace L2
theorem kW:∀{vs:O ci}{ns:O Int},xL vs ns->Vals (ns.map V.int) vs
 |_,_,.nil=>.nil
 |_,_,.cons n t h=>.cons ⟨t,rfl⟩ (kW h)
end L2
variable{sp:L2.Sp}{B:Prop}
namespace L2
def dw(s:sB):Arguments:=match s with
 |.FunctionDef _ a _ _ _ _ _ _ _ _=>a
 |_=>{posonlyargs:=[],args:=[],vararg:=ce,kwonlyargs:=[],kw_defaults:=[],kwarg:=ce,defaults:=[]}
def bR(s:sB):O sB:=match s with
 |.FunctionDef _ _ b _ _ _ _ _ _ _=>b
 |_=>[]
def aF(s:sB):pc:=match s with
 |.FunctionDef _ _ _ _ _ _ sc _ _ _=>sc
 |_=>{kind:=.function,names:=[],isGenerator:=false,isCoroutine:=false}
abbrev uP:Wj:=λ_ _ _ _ _ _=>False
abbrev E0:XK:=λ_ _ _=>False
def WD:Passes uP X E0:=λ_ _ _ _ _ _ _ h=>h.elim
structure OY(K:Aa)(x qual:Str)(st:sB)(f:db)(fd:Ch):Prop where
 ex:∃(oc:ci) (od:Option db) (kV Ç pm:ci) (an:Option db) (dc ct:ci) (Qt:Array (Option ci)),
  fd=BN x qual (dw st) (bR st) (aF st) .none kV Ç pm an dc ct/\K.lookup f=am ⟨oc,od,.func fd,Qt⟩/\Ds K dc qual=true
 kp:CB K (.ref f)=true
section
variable{K:Aa}
def OY.ok{st:sB}{f:db}{N:O Str}(F:OY K x qual st f fd)(S:dA N ps (aF st))(len:∀vs H Q E,sp vs H Q E->vs.length=ps.length)(Ru:∀(dc:ci) (A:zn) (outer:O Env) (s:cr) (H:Hp) (vs:O V) (Q:VK) (E:XK),cu k (A.deeper (EQ qual (aF st) s.heap.objs.size f dc))->sp vs H Q E->
   ∃t,mz (qU uP P w K mg base N qual (aF st) f dc A outer s H E).SW (bR st) t/\t {nx:=λ_ H'=>Q .aM H',rt:=Q} (start N vs) H):gP P w K mg base uP (k+1) f fd ps sp:=by
 obtain⟨oc,od,kV,Ç,pm,an,dc,ct,Qt,rfl,lk,gM⟩:=F.ex;refine adG lk gM S len λA outer s H vs Q E hr ZM=>?_;obtain⟨t,h,q⟩:=Ru dc A outer s H vs Q E hr ZM;exact⟨t,h.SW,q⟩
def OY.binds{st:sB}{f:db}(F:OY K x qual st f fd)(h:∀(kV Ç pm:ci) (an:Option db) (dc ct:ci) (us:O ci),us.length=ps.length->bindArgs (BN x qual (dw st) (bR st) (aF st) .none kV Ç pm an dc ct) ⟨us,[]⟩=pure (ps.zip us)):Binds K fd ps []:=by
 obtain⟨oc,od,kV,Ç,pm,an,dc,ct,Qt,rfl,lk,gM⟩:=F.ex;exact .all (h kV Ç pm an dc ct)
def RD{st:sB}{f:db}{kV:ci}(l:K.lookup f=am ⟨oc,od,.func (BN x qual (dw st) (bR st) (aF st) .none kV Ç pm an dc ct),Qt⟩)(c:Ds K dc qual=true)(k:CB K (.ref f)=true):OY K x qual st f (BN x qual (dw st) (bR st) (aF st) .none kV Ç pm an dc ct):=⟨⟨oc,od,kV,Ç,pm,an,dc,ct,Qt,rfl,l,c⟩,k⟩
end
def MX(h:n<=1000):n<sizeLine:=CM h ⋯
section
def pv(i:Nat)(hN:‹X.N[i]?=am x›)(hv:wX X.env.scope x:=by first|exact B4 rfl|exact B3 (B4 rfl)|exact B3 (B3 rfl))(hd: ~~~(gq x))(gM: ~~~(zy x)):PE X (.Name x pos) (Ya i):=c8 hN hv hd gM
end
def yt{A:Prop}(h:B):if false=true then A else B:=by
 exact h
def yr{A:Prop}(h:A):if true=true then A else B:=by
 exact h
def iZ(H H':Hp):Prop:=∀b o,H b=am o->H' b=am o
def iZ.refl(H:Hp):iZ H H:=λ_ _ h=>h
end L2
variable{b:Nat}{H2:L2.Hp}{Xs:PySem.Scope}{N':O BR}{ix:O (Option Nat)}{cl:O (BR×A9)}{Ã:BW}{È:O BW}{jP:Cg}
namespace L2
def lsz{o:Obj}(e:h.get? b=am o):b<h.objs.size:=Ap e
def neN{a:Nat}(h:a≠b):a≠b:=h
def ltN{a:Nat}(h:a<b):a<b:=h
def XF{c:Nat}{v:Option ci}(q:h.IsCell c v):c<h.objs.size:=q.lt
structure aV(Xs:pc)(N:List Str)(sc:pc)(N':List Str)(ix:List (Option Nat)):Prop where
 kind:sc.kind=.function
 nc:∀y∈sc.names,y.2=.cell->sc.names.lookup y.1=am .cell
 loc:∀y∈sc.names,y.2=.local->sc.names.lookup y.1=am .local
 fr:∀y∈sc.names,y.2=.free->(Xs.names.lookup y.1=am .cell\/Xs.names.lookup y.1=am .free)
 nd:N'.Nodup
 len:ix.length=N'.length
 map:((ix.zip N').all λp=>match p.1 with|none=>true|some j=>decide (N[j]?=am p.2)&&decide (sc.names.lookup p.2=am .free))=true
def aV.at{N:O Str}{sc:pc}(S:aV Xs N sc N' ix){i:Nat}(h1:ix[i]?=am (am j))(h2:N'[i]?=am x):N[j]?=am x/\sc.names.lookup x=am .free:=by
 have hm:((am j,x):Option Nat×Str)∈ix.zip N':=by
  refine AU (i:=i) ?_;rw[List.getElem?_zip_eq_some];exact⟨h1,h2⟩
 have q:=C7.mp S.map _ hm;simp at q;exact q
def oC(ix:O (Option Nat))(σ:St):St:=ix.map λo=>match o with|some j=>(σ[j]?).getD ce|none=>ce
def dF(X:Cx)(sc:pc)(N':O Str)(cl:O (Str×db))(C:db)(s2:cr)(H2:Hp)(fp:O db):Cx where
 prog:=X.prog
 w:=X.w
 K:=X.K
 mg:=X.mg
 base:=X.base
 A:=X.A
 N:=N'
 s₀:=s2
 H₀:=H2
 env:=compEnvC sc cl C X.env
 outer:=X.stack
 stack:=X.stack
 ex:=fp
 calm:=X.calm
 fn:=λx=>sc.names.lookup x==am .cell
 pn:=[]
 xe:=λ_ _=>False
theorem m8:∀(names:O (Str×wv)) (cs:O (Str×db)),(∀y∈names,y.2=.free->∃c,env.cells.lookup y.1=am c)->
  ∃cl,(forIn names cs λ(x:Str×wv) (c:O (Str×db))=>(match x with|(name,kind)=>do
    let c <- if (kind==Bj)=true then do let a <- cellOf env name;pure ((name,a)::c) else pure c
    pure (Cr c):Sem (ForInStep (O (Str×db)))))=pure cl/\(∀x c,cl.lookup x=am c->cs.lookup x=am c\/(env.cells.lookup x=am c/\(x,Bj)∈names))/\(∀x,((x,Bj)∈names\/(∃c,cs.lookup x=am c))->∃c,cl.lookup x=am c)
 |[],cs,_=>⟨cs,rfl,λ_ _ h=>.inl h,λx h=>h.elim (λz=>nomatch z) λz=>z⟩
 |(n,k)::r,cs,h=>by
  by_cases hk:k=.free
  .subst hk;obtain⟨c,hc⟩:=h (n,.free) Bw rfl;obtain⟨cl,e,h1,h2⟩:=m8 r ((n,c)::cs) λy hy=>h y (AL _ hy);refine⟨cl,?_,λx d hd=>?_,λx hx=>?_⟩
   .rw[Cp,<- e];simp only[beq_self_eq_true,if_true,cellOf,hc,pure_bind]
   .rcases h1 x d hd with z|⟨z1,z2⟩
    .rw[AA]at z;by_cases hx:(x==n)=true
     .rw[hx]at z;have wB:x=n:=eq_of_beq hx;subst wB;cases z;exact .inr ⟨hc,Bw⟩
     .have wB:(x==n)=false:=by simpa using hx
      rw[wB]at z;exact .inl z
    .exact .inr ⟨z1,AL _ z2⟩
   .refine h2 x ?_;rcases hx with hx|⟨d,hd⟩
    .rcases AI.mp hx with z|z
     .injection z with z1 _;subst z1;exact .inr ⟨c,by rw[AA];simp⟩
     .exact .inl z
    .by_cases hx:(x==n)=true
     .exact .inr ⟨c,by rw[AA,hx]⟩
     .have wB:(x==n)=false:=by simpa using hx
      exact .inr ⟨d,by rw[AA,wB];exact hd⟩
  .obtain⟨cl,e,h1,h2⟩:=m8 r cs λy hy=>h y (AL _ hy);refine⟨cl,?_,λx d hd=>?_,λx hx=>?_⟩
   .have hb:(k==Bj)=false:=by simpa using hk
    rw[Cp,<- e];simp only[hb,AM,if_false,pure_bind]
   .rcases h1 x d hd with z|⟨z1,z2⟩
    .exact .inl z
    .exact .inr ⟨z1,AL _ z2⟩
   .refine h2 x ?_;rcases hx with hx|hx
    .rcases AI.mp hx with z|z
     .injection z with _ z2;exact absurd z2.symm hk
     .exact .inl z
    .exact .inr hx
def mr{sc:pc}(h:∀y∈sc.names,y.2=.free->∃c,env.cells.lookup y.1=am c):∃cl,closureFor sc env=pure cl/\(∀x c,cl.lookup x=am c->env.cells.lookup x=am c/\(x,Bj)∈sc.names)/\(∀x,(x,Bj)∈sc.names->∃c,cl.lookup x=am c):=by
 obtain⟨cl,e,h1,h2⟩:=m8 sc.names [] h;refine⟨cl,?_,λx c hc=>(h1 x c hc).resolve_left (λz=>nomatch z),λx hx=>h2 x (.inl hx)⟩;unfold closureFor;have e':(forIn sc.names ([]) λx r=>(match x with|(name,kind)=>if (kind==Bj)=true then do let a <- cellOf env name;pure (Cr ((name,a)::r)) else pure (Cr r):Sem (ForInStep (O (Str×db)))))=pure cl:=by
  rw[<- e]
  first
   |rfl
   |(
     congr 1;funext x r;by_cases hk)
   |simp
 simpa using e'
theorem zf:∀(names:O (Str×wv)) (n:Nat) (acc:O (Str×db)) (x:Str) (c:db),(t0 n names acc).lookup x=am c->(acc.lookup x=am c/\(x,CT)∉names)\/((x,CT)∈names/\n<=c)
 |[],_,_,_,_,e=>.inl ⟨e,λh=>nomatch h⟩
 |(y,k)::r,n,acc,x,c,e=>by
  unfold t0 at e
  split at e
  .rename_i hk;have OQ:k=.cell:=eq_of_beq hk;subst OQ;rcases zf r _ _ x c e with⟨a,b⟩|⟨a,b⟩
   .rw[AA]at a;cases hx:x==y with
    |true=>
     rw[hx]at a;cases a;exact .inr ⟨by rw[eq_of_beq hx];exact Bw,Al _⟩
    |false=>
     rw[hx]at a;refine .inl ⟨a,λh=>?_⟩;rcases AI.mp h with z|z
     .cases z;simp at hx
     .exact b z
   .exact .inr ⟨AL _ a,Nat.le_of_succ_le b⟩
  .rename_i hk;rcases zf r _ _ x c e with⟨a,b⟩|⟨a,b⟩
   .refine .inl ⟨a,λh=>?_⟩;rcases AI.mp h with z|z
    .cases z;simp at hk
    .exact b z
   .exact .inr ⟨AL _ a,b⟩
theorem Kt:∀(names:O (Str×wv)) (n:Nat) (acc:O (Str×db)) (x:Str),((x,CT)∈names\/∃c,acc.lookup x=am c)->∃c,(t0 n names acc).lookup x=am c
 |[],_,_,_,h=>h.elim (λz=>nomatch z) id
 |(y,k)::r,n,acc,x,h=>by
  unfold t0
  split
  .refine Kt r _ _ x ?_;cases hx:x==y with
   |true=>exact .inr ⟨n,by rw[AA,hx]⟩
   |false=>
    rcases h with h|⟨c,h⟩
    .rcases AI.mp h with z|z
     .cases z;simp at hx
     .exact .inl z
    .exact .inr ⟨c,by rw[AA,hx];exact h⟩
  .rename_i hk;refine Kt r _ _ x ?_;rcases h with h|h
   .rcases AI.mp h with z|z
    .cases z;simp at hk
    .exact .inl z
   .exact .inr h
theorem Ks:∀(names:O (Str×wv)) (n:Nat) (acc:O (Str×db)),(∀x y c,acc.lookup x=am c->acc.lookup y=am c->x=y)->(∀x c,acc.lookup x=am c->c<n)->∀x y c,(t0 n names acc).lookup x=am c->(t0 n names acc).lookup y=am c->x=y
 |[],_,_,h,_=>h
 |(z,k)::r,n,acc,h,hl=>by
  unfold t0
  split
  .refine Ks r _ _ (λx y c e1 e2=>?_) λx c e=>?_
   .rw[AA]at e1 e2;cases hx:x==z<;>cases hy:y==z<;>rw[hx]at e1<;>rw[hy]at e2
    .exact h x y c e1 e2
    .cases e2;exact absurd (hl _ _ e1) (AR _)
    .cases e1;exact absurd (hl _ _ e2) (AR _)
    .rw[eq_of_beq hx,eq_of_beq hy]
   .rw[AA]at e;cases hx:x==z<;>rw[hx]at e
    .exact Cu (hl _ _ e)
    .cases e;exact CC _
  .exact Ks r _ _ h hl
theorem zg:∀(names:O (Str×wv)) (h:r9) (acc:O (Str×db)) (x:Str) (c:db),(t0 h.objs.size names acc).lookup x=am c->acc.lookup x=am c\/(pushCells h names).IsCell c ce
 |[],_,_,_,_,e=>.inl e
 |(y,k)::r,h,acc,x,c,e=>by
  unfold t0 at e;unfold pushCells
  split at e
  .rename_i hk;rw[if_pos hk];rw[<- Bm h {cls:=.type "cell",data:=.cell ce}]at e;rcases zg r _ _ x c e with a | a
   .rw[AA]at a;cases hx:x==y<;>rw[hx]at a
    .exact .inl a
    .cases a;exact .inr ⟨_,pushCells_keeps _ _ _ _ (by rw[Bm]at *;exact Am _ rfl),rfl⟩
   .exact .inr a
  .rename_i hk;rw[if_neg hk];exact zg r h acc x c e
def sh{s:cr}{sc:pc}{globals:db}{builtins:db}{Q:Env->cr->Prop}(hQ:∀h',h'.Ns s.heap.objs.size (λ_=>ce)->(∀b o,s.heap.get? b=am o->h'.get? b=am o)->(∀x c,(t0 (s.heap.objs.size+1) sc.names cl).lookup x=am c->cl.lookup x=am c\/h'.IsCell c ce)->
   Q (newEnv sc s.heap.objs.size globals (t0 (s.heap.objs.size+1) sc.names cl) qual ce .none (am env) builtins) {s with heap:=h'}):ga M A (newFunctionEnv sc globals cl [] qual ce .none (am env) builtins) Q E s:=by
 simp only[newFunctionEnv,F5,if_true];refine Ab (wpAny_alloc ?_);refine Ab (wpAny_layCells _ (λname kind cells=>by cases hkc:kind==CT <;> simp[hkc]) _ _ _ _ ?_);rw[List.forIn_nil,show({s with heap:=s.heap.push {cls:=.type "dict",data:=.dict #[]}}:cr).heap.objs.size=s.heap.objs.size+1 from Bm ..];refine Ab (Ag (Ag (hQ _ ((Heap.Ns.new s.heap (.type "dict")).keeps (pushCells_keeps _ _)) (λb o e=>pushCells_keeps _ _ b o (Ae _ e)) λx c e=>?_)));rw[<- Bm s.heap {cls:=.type "dict",data:=.dict #[]}]at e;exact zg _ _ _ _ _ e
theorem d3{env:Env}:∀{names:O (Str×wv)}{x:Str},(names.map λ(n,k)=>if (k==Bj&&env.scope.kind==.function&&env.kindOf n==am .cell) then (n,CT) else (n,k)).lookup x = (names.lookup x).map λk=>if (k==Bj&&env.scope.kind==.function&&env.kindOf x==am .cell) then CT else k
 |[],_=>rfl
 |(n,k)::r,x=>by
  have ih:=@d3 env r x;show C2 x ((if (k==Bj&&env.scope.kind==.function&&env.kindOf n==am .cell)=true then (n,CT) else (n,k))::_)=_;cases hx:x==n with
  |true=>
   have e:=eq_of_beq hx;subst e;by_cases hc:(k==Bj&&env.scope.kind==.function&&env.kindOf x==am .cell)=true
   .rw[if_pos hc,AA,AA,hx];simp only[CP,hc,if_true]
   .rw[if_neg hc,AA,AA,hx];simp only[CP,hc];simp
  |false=>
   by_cases hc:(k==Bj&&env.scope.kind==.function&&env.kindOf n==am .cell)=true
   .rw[if_pos hc,AA,AA,hx];exact ih
   .rw[if_neg hc,AA,AA,hx];exact ih
def PFs(X:Cx)(È:O nw)(t:TT):Prop:=
 ∀(Z:O (db×Obj)) (s:cr) (σ:St) (H:Hp) (Q:Bool->Hp->Prop),Inv X Z σ H s->t σ H Q->
  ga (im X.prog X.w) X.A (forIn È true λc r=>if r=true then do let ok <- isTrue c X.env (o0 c X.env);pure (Cr ok) else pure (Cr r)) (TP X Z σ Q) X.xe s
def af8:TT:=λ_ H Q=>Q true H
def Ul:PFs X [] af8:=λZ s σ H Q I h=>by
 exact Ag ⟨H,I,h⟩
def Uk{c:nw}{t:TT}(hc:PT X c t):PFs X [c] t:=λZ s σ H Q I h=>by
 rw[Cp];simp only[if_true,bind_assoc];exact Ab (bU (hc Z s σ H Q I h) λb s1 q=>Ag q)
def tLc(ix:O (Option Nat))(wi:TI)(g:TG)(tf:TT)(te:TE):TE:=λσ H Q=>wi σ H λJ H1=>∀D,H1 D=ce->∃W:Nat->Nat->St->O V->Hp->Prop,
 (∃m,W 0 m (oC ix σ) [] (upd H1 D (.lst [])))/\∀i m σ' ys H,W i m σ' ys H->H D=am (.lst ys)/\
  ((J.stop i H/\Q (.ref D) H)\/(J.go i H/\∀x H',J.Wm i H x H'->g x σ' H' λσ2 H2=>tf σ2 H2 λb H3=>
   if b=true then te σ2 H3 λy H4=>H4 D=am (.lst ys)/\ys.length+1<=sizeLine/\∃m',m'<m/\W (i+1) m' σ2 (ys++[y]) (upd H4 D (.lst (ys++[y]))) else ∃m',m'<m/\W (i+1) m' σ2 ys H3))
def lS{s:cr}{Ê:nw}{it acc:ci}(I:Nat->cr->Prop)(turn:∀n s,I n s->ga (im prog w) A (pyNext it) (λr s₁=>match r with
   |none=>R (.ok .next) s₁
   |some v=>ga (im prog w) A (Pi Ê it v) (λ_ Wu=>ga (im prog w) A (IR Ê env v) (λ_ s₂=>
     ga (im prog w) A (forIn È true λc r=>if r=true then do let ok <- isTrue c env (o0 c env);pure (Cr ok) else pure (Cr r)) (λok s₃=>
      if ok=true then ga (im prog w) A (o0 Ã env) (λx s₄=>
       ga (im prog w) A (call (.builtin "list.append") [acc,x]) (λ_ s₅=>∃m,m < n/\I m s₅) (λ_ _=>False) s₄) (λ_ _=>False) s₃
      else ∃m,m<n/\I m s₃) (λ_ _=>False) s₂) (λ_ _=>False) Wu) (λ_ _=>False) s₁) (λ_ _=>False) s) n(h:I n s):Fk (im prog w) A (.compLoop (.ListComp Ã [⟨Ê,iter,È,0⟩] scope pos) 0 it acc env) R s:=by
 refine codeAny_loop rfl I (λn s hI=>?_) n h;refine wpAny_noted ?_;refine Ab (EM (Ab (BF (turn n s hI) (λr s₁ h₁=>?_) λ_ _ h'=>h'.elim)));cases r with
 |none=>exact Ag h₁
 |some v=>
  refine Ab (BF h₁ (λ_ Wu ac2=>?_) λ_ _ h'=>h'.elim);refine Ab (BF ac2 (λ_ s₂ h₂=>Ab (BF h₂ (λok s₃ h₃=>?_) λ_ _ h'=>h'.elim)) λ_ _ h'=>h'.elim);cases ok with
  |false=>exact Ag ⟨rfl,h₃⟩
  |true=>
   exact Ab (Ab (BF h₃ (λx s₄ h₄=>Ab (BF h₄ (λ_ s₅ h₅=>Ag (Ag ⟨rfl,h₅⟩)) λ_ _ h'=>h'.elim)) λ_ _ h'=>h'.elim))
section
variable{sc:pc}{wi:TI}{g:TG}{tf:TT}
structure aeq(X:Cx)(Z:List (db×Obj))(H:Hp)(C:db):Prop where
 hn:H C=ce
 hL:C≠X.env.locals
 ab:X.s₀.heap.objs.size<=C
 cl:∀x c,X.env.cells.lookup x=am c->c≠C
 pn:∀p∈X.pn++Z,p.1≠C
theorem LP(hc:X.calm=true)(S:aV X.env.scope X.N sc N' ix)(hg:∀cl C s2 H2 fp,PG (dF X sc N' cl C s2 H2 fp) tg g)(hf:∀cl C s2 H2 fp,PFs (dF X sc N' cl C s2 H2 fp) È tf)(he:∀cl C s2 H2 fp,PE (dF X sc N' cl C s2 H2 fp) Ã te){s2:cr}(vo:∀x c,cl.lookup x=am c->X.env.cells.lookup x=am c/\(x,Bj)∈sc.names)(NU:∀x,(x,Bj)∈sc.names->∃c,cl.lookup x=am c){tn:Nat->r9->Prop}{J:It}{Q:VK}(I2:Inv X Z σ H2 s2)(T:Turn X.prog X.w X.K tg J fp it tn)(MU:tn 0 s2.heap)(f2:∀b∈fp,vO X Z H2 b)(hW:∀D,H2 D=ce->∃W:Nat->Nat->St->O V->Hp->Prop,
   (∃m,W 0 m (oC ix σ) [] (upd H2 D (.lst [])))/\∀i m σ' ys H,W i m σ' ys H->H D=am (.lst ys)/\
    ((J.stop i H/\Q (.ref D) H)\/(J.go i H/\∀x H',J.Wm i H x H'->g x σ' H' λσ2 H2=>tf σ2 H2 λb H3=>
     if b=true then te σ2 H3 λy H4=>H4 D=am (.lst ys)/\ys.length+1<=sizeLine/\∃m',m'<m/\W (i+1) m' σ2 (ys++[y]) (upd H4 D (.lst (ys++[y]))) else ∃m',m'<m/\W (i+1) m' σ2 ys H3))){RR:ci->db->Result->cr->Prop}{E:ci->cr->Prop}(hRR:∀D C m s' H',Inv X Z σ H' s'->Q (.ref D) H'->s'.heap.Ns C m->aeq X Z H' C->RR (.ref D) C (.ok .next) s'):ga (im X.prog X.w) X.A (newList []) (λacc s₃=>ga (im X.prog X.w) X.A (newFunctionEnv sc X.env.globals cl [] X.env.qual ce .none (am X.env)) (λaed s₄=>
   Fk (im X.prog X.w) X.A (.compStart (.ListComp Ã [⟨tg,iter,È,0⟩] sc pos) 0 (.ref it) acc {aed with scope:=KM sc X.env}) (RR acc aed.locals) s₄) E s₃) E s2:=by
 refine Bb (sh λh₁ JS yx ZX=>?_);generalize hH2:s2.heap.push {cls:=.type "list",dict:=ce,data:=.seq ([]).toArray}=G2 at JS yx ZX ⊢;have hC:G2.objs.size=s2.heap.objs.size+1:=by rw[<- hH2,Bm]
 obtain⟨D,hD⟩:∃D:Nat,s2.heap.objs.size=D:=⟨_,rfl⟩;obtain⟨C,hCC⟩:∃C:Nat,G2.objs.size=C:=⟨_,rfl⟩;simp only[hD,hCC]at JS yx ZX hC ⊢;have hDC:D≠C:=by lia
 have k1:=zf sc.names (C+1) cl;have k2:=Kt sc.names (C+1) cl;have k3:=Ks sc.names (C+1) cl;generalize t0 (C+1) sc.names cl=So at ZX k1 k2 k3 ⊢;have Ë:∀b o,s2.heap.get? b=am o->h₁.get? b=am o:=λb o e=>yx b o (hH2▸Ae _ e);have JT:h₁.get? D=am {cls:=.type "list",data:=.seq ([]:O ci).toArray}:=by
  refine yx D _ ?_;rw[<- hH2,<- hD];exact Am _ rfl
 have hD2:H2 D=ce:=I2.br.fresh ∅;obtain⟨W,⟨m0,w0⟩,turn⟩:=hW D hD2;have XE:∀x c,cl.lookup x=am c->∃v,s2.heap.IsCell c v:=λx c e=>I2.cell x c (vo x c e).1;have aea:∀x c,cl.lookup x=am c->c<D:=λx c e=>by
  obtain⟨v,q⟩:=XE x c e;have:=XF q;exact ltN ∅
 have Ė:∀b∈fp,b<D:=λb hb=>by
  obtain⟨o,e,_⟩:=T.obj 0 _ MU b hb;have:=lsz e;exact ltN ∅
 have fpC:∀b∈fp,∀x c,So.lookup x=am c->c≠b:=λb hb x c e=>by
  rcases k1 x c e with⟨z,_⟩|⟨_,z⟩
  .exact(f2 b hb).2.2.2.2.1 x c (vo x c z).1
  .have:=ltN (Ė b hb);exact neN (a:=c) (b:=b) ∅
 have Yok:(dF X sc N' So C s2 H2 fp).Ok:=by
  refine⟨I2.ok.mod,S.kind,I2.ok.glob,I2.ok.blt,?_,?_,?_,?_,I2.ok.hd,I2.ok.frames,.inl rfl,?_,I2.bs,?_,?_,?_,I2.stack,I2.La⟩
  .show s2.heap.objs.size<=C;lia
  .exact k3 (λx y c e1 e2=>I2.ok.inj x y c (vo x c e1).1 (vo y c e2).1) λx c e=>by
    have h1:C=D+1:=by lia
    exact h1▸Cu (Cu (aea x c e))
  .intro x hx;have wB:(KM sc X.env).names.lookup x=am .cell\/(KM sc X.env).names.lookup x=am .free:=hx;unfold KM at wB;rw[d3]at wB;cases q:sc.names.lookup x with
   |none=>rw[q]at wB;simp at wB
   |some k=>
    have hm:=BE q;refine k2 x ?_;by_cases hk:k=.free
    .subst hk;exact .inr (NU x hm)
    .rw[q]at wB;have hb:(k==Bj)=false:=by simpa using hk
     simp only[CP,hb,FQ,AM,if_false]at wB;rcases wB with z|z
     .rw[Option.some.inj z]at hm;exact .inl hm
     .exact absurd (Option.some.inj z) hk
  .intro x c ý e;have ahm:sc.names.lookup x=am .cell:=eq_of_beq ý;rcases k1 x c e with⟨_,z⟩|⟨_,z⟩
   .exact absurd (BE ahm) z
   .show s2.heap.objs.size<=c;lia
  .intro b hb;refine⟨?_,λx c e z=>fpC b hb x c e z⟩;show b≠C;have:=ltN (Ė b hb);exact neN ∅
  .exact Ax I2.ok.VZ I2.sz
  .intro b o e hb;rcases (f2 b hb).2.2.2.1 with z|z
   .exact I2.ok.Qz b o e z
   .have h1:=lsz (h:=X.base) e;have h2:=I2.ok.VZ;lia
  .intro b hb z;rcases AI.mp (I2.IG b z) with q|q
   .exact(f2 b hb).2.1 q
   .exact(f2 b hb).2.2.1 q
 have un0:Un (OV X.stack) fp H2 (upd H2 D (.lst [])) s2.heap h₁:=Un.laid Ë ∅ hD2;have IY:∀tk,Inv (dF X sc N' So C s2 H2 fp) [] (oC ix σ) (upd H2 D (.lst [])) {s2 with heap:=h₁,toks:=tk}:=λtk=>by
  refine⟨Yok,rfl,I2.bare,un0,⟨_,JS,λi x v e1 e2 e3=>?_⟩,λx c e=>?_,?_,λx c e=>?_,λp hp=>absurd (show p∈([]) from hp) (by simp),(I2.br.laid Ë ∅ ⟨Bc _,[],0,.nil,JT⟩),?_⟩
  .have uT:=e1;unfold oC at e2;rw[Af]at e2;cases q:ix[i]? with
   |none=>rw[q]at e2;cases e2
   |some o=>
    cases o with
    |none=>rw[q]at e2;cases e2
    |some j=>
     rw[q]at e2;have Ě:(σ[j]?).getD ce=am v:=Option.some.inj e2;have e4:σ[j]?=am (am v):=by
      cases z:σ[j]? with
      |none=>rw[z]at Ě;cases Ě
      |some y=>rw[z]at Ě;exact congrArg am Ě
     obtain⟨a1,a2⟩:=S.at q uT;have ade:=BE a2;have hk:=S.fr _ ade rfl;obtain⟨m,_,hl⟩:=I2.loc;obtain⟨u,r,l⟩:=hl j x v a1 e4 (.inr hk);refine⟨u,r,.inr ⟨?_,?_⟩⟩
     .show(KM sc X.env).names.lookup x=am .cell\/(KM sc X.env).names.lookup x=am .free;unfold KM;rw[d3,a2];by_cases hb:(X.env.scope.kind==.function&&X.env.kindOf x==am .cell)=true
      .left
       simp only[CP,beq_self_eq_true,FY,hb,if_true]
      .right
       simp only[CP,beq_self_eq_true,FY,hb,if_false,AM]
     .obtain⟨c,ĺ⟩:=NU x ade;have hcy:So.lookup x=am c:=by
       obtain⟨c',q'⟩:=k2 x (.inr ⟨c,ĺ⟩);rcases k1 x c' q' with⟨z,_⟩|⟨z,_⟩
       .rw[ĺ]at z;cases z;exact q'
       .rw[S.nc _ z rfl]at a2;cases a2
      refine⟨c,hcy,?_⟩;rcases l with⟨k,_⟩|⟨k,c',e',z⟩
      .have k':X.env.scope.names.lookup x=am .local:=k;rcases hk with y|y<;>rw[k']at y<;>cases y
      .rw[((vo x c ĺ).1)]at e';cases e';obtain⟨o,ho,hd⟩:=z;exact⟨o,Ë _ _ ho,hd⟩
  .rcases ZX x c e with z|z
   .obtain⟨v,o,ho,hd⟩:=XE x c z;exact⟨v,o,Ë _ _ ho,hd⟩
   .exact⟨_,z⟩
  .show upd H2 D (.lst []) C=ce;rw[aj (BQ hDC)];exact(I2.br.fresh ∅)
  .rcases k1 x c e with⟨z,_⟩|⟨_,z⟩
   .have gC:=ltN (aea x c z);rw[aj (neN ∅)];exact I2.jN x c (vo x c z).1
   .rw[aj (neN (a:=c) (b:=D) ∅)];exact I2.br.fresh ∅
  .unfold oC;rw[Aj];exact S.len
 have Ŀ:∀{Gw:O (db×Obj)}{H':Hp},(∀b∈fp,H' b=ce)->(∀p∈Gw,p.1∉fp)->∀b∈fp,vO (dF X sc N' So C s2 H2 fp) Gw H' b:=λhn hp b hb=>by
  refine⟨hn b hb,?_,?_,.inl hb,λx c e z=>fpC b hb x c e z,λp ä z=>?_⟩
  .show b≠C;have:=ltN (Ė b hb);exact neN ∅
  .exact Yok.RP b hb
  .exact hp p ä (z▸hb)
 have ö:∀s₃:cr,s₃={s2 with heap:=h₁}->
   Fk (im X.prog X.w) X.A (.compLoop (.ListComp Ã [⟨tg,iter,È,0⟩] sc pos) 0 (.ref it) (.ref D) (compEnvC sc So C X.env)) (RR (.ref D) C) s₃:=by
  rintro s₃ rfl;refine lS (λn s'=>∃i σ' ys H',Inv (dF X sc N' So C s2 H2 fp) [] σ' H' s'/\tn i s'.heap/\(∀b∈fp,H' b=ce)/\W i n σ' ys H') ?_ m0
   ⟨0,_,[],_,IY _,T.keep _ _ _ MU (λb _ o e=>Ë b o e),λb hb=>by rw[aj (AB (Ė b hb))];exact(f2 b hb).1,w0⟩
  rintro n s3 ⟨i,σ3,ys,H3,I3,î,ā,w3⟩;obtain⟨hDl,w3⟩:=turn i n σ3 ys H3 w3;rcases w3 with⟨stop,qn⟩|⟨go,step⟩
  .refine bU (T.done (dF X sc N' So C s2 H2 fp) rfl rfl rfl hc i [] s3 σ3 H3 _ I3 (Ŀ ā (by simp)) î stop) λr s4 ⟨hr,I4⟩=>?_;subst hr;obtain⟨m,hn,_⟩:=I4.loc;refine hRR D C m s4 H3 (I2.aee I4.os I4.base I4.br I4.bare λb hb=>?_) qn hn ?_
   .obtain⟨a0,a1,a2,a3,a4,a5⟩:=f2 b hb;exact⟨a3,a1,a4,a5⟩
   .refine⟨I4.free,?_,?_,λx c e z=>?_,λp hp z=>?_⟩
    .have:=ltN I2.lt;exact neN ∅
    .have:=I2.sz;lia
    .obtain⟨v,q⟩:=I2.cell x c e;have:=XF q;exact neN (a:=c) (b:=C) ∅ z
    .have:=lsz (I2.pin p hp).1;exact neN (b:=C) ∅ z
  .refine bU (T.item (dF X sc N' So C s2 H2 fp) rfl rfl rfl hc i [] s3 σ3 H3 (λ_ _=>False) I3 (Ŀ ā (by simp)) î go) λr s4 ⟨u,hr,h4⟩=>?_;subst hr;refine bU h4 λ_ s5 ⟨x,H5,I5,r5,y5,Yh,ľ⟩=>?_;refine bU (hg _ _ _ _ _ _ s5 σ3 H5 x u _ (I5.pinned (Ŀ ľ (by simp)) (T.obj _ _ Yh)) r5 (step x H5 y5)) λ_ s6 ⟨σ6,H6,I6,q6⟩=>?_;refine bU (hf _ _ _ _ _ _ s6 σ6 H6 _ I6 q6) λb s7 ⟨H7,I7,q7⟩=>?_;have Q4:∀{s8:cr}{σ8:St}{H8:Hp},Inv (dF X sc N' So C s2 H2 fp) ([]++o8 fp s5.heap) σ8 H8 s8->tn (i+1) s8.heap/\∀b∈fp,H8 b=ce:=λ{s8 σ8 H8} I8=>by
    refine⟨T.keep _ _ _ Yh λb hb o e=>(I8.pin (b,o) (AZ _ (AZ _ (jd hb e)))).1,λb hb=>?_⟩;obtain⟨o,e,d⟩:=T.obj _ _ Yh b hb;exact(I8.pin (b,o) (AZ _ (AZ _ (jd hb e)))).2.1
   cases b with
   |false=>
    obtain⟨m',hm,w7⟩:=q7;obtain⟨t7,fr7⟩:=Q4 I7;exact⟨m',hm,i+1,σ6,ys,H7,I7.j8,t7,fr7,w7⟩
   |true=>
    refine bU (he _ _ _ _ _ _ s7 σ6 H7 _ I7 q7) λyv s8 ⟨y,H8,I8,r8,hD8,hz8,m',hm,w8⟩=>?_;obtain⟨z,aq,k,rv,hl8,e8⟩:=I8.qC hD8;obtain⟨t8,fr8⟩:=Q4 I8;refine wpAny_list_append_plain (s:=s8) ⟨_,e8⟩ λh9 hl9 hs9=>?_;obtain⟨k9,e9⟩:=hl9;have I9:Inv (dF X sc N' So C s2 H2 fp) ([]++o8 fp s5.heap) σ6 (upd H8 D (.lst (ys++[y]))) {s8 with heap:=h9,toks:=s8.toks}:=by
     refine I8.write (x:=D) (e:=D) (by rw[hD8];exact trivial) (.inl rfl) (λb u hb hu=>(hs9.2 b hb).trans hu) ⟨_,e9⟩ ?_;refine⟨by rw[Ak,Fy];exact hz8,aq++[yv],k9,(Vals.append rv (.cons r8 .nil)),?_⟩;rw[e9];simp
    obtain⟨t9,fr9⟩:=Q4 I9;exact⟨m',hm,i+1,σ6,_,_,I9.j8,t9,fr9,w8⟩
 exact codeAny_compStart_list (ö _ rfl) (T.self _ 0 _ _ _ (T.keep _ _ _ MU λb _ o e=>Ë b o e) (ö _ rfl))
def aci(hc:X.calm=true)(S:aV X.env.scope X.N sc N' ix)(hi:PI X tg iter wi)(hg:∀cl C s2 H2 fp,PG (dF X sc N' cl C s2 H2 fp) tg g)(hf:∀cl C s2 H2 fp,PFs (dF X sc N' cl C s2 H2 fp) È tf)(he:∀cl C s2 H2 fp,PE (dF X sc N' cl C s2 H2 fp) Ã te)(hs:oK X iter:=by intro _;rfl):PE X (.ListComp Ã [⟨tg,iter,È,0⟩] sc pos) (tLc ix wi g tf te):=by
 intro Z s σ H Q I h;obtain⟨cl,Rt,vo,NU⟩:=mr (λy hy hk=>I.ok.has y.1 (S.fr y hy hk));refine ER rfl hs Rt S.kind S.loc (bU (hi Z s σ H _ I h) λv s1 h1=>bU h1 λČ s2 h2=>?_);obtain⟨it,fp,tn,J,H2,rfl,I2,T,MU,f2,hW⟩:=h2;exact LP hc S hg hf he vo NU I2 T MU f2 hW λD C m s' H' I' q hn F=>⟨m,hn,λh' İ=>⟨.ref D,H',I'.turned (λb o hb e=>(İ.2 b hb).trans e) F.hn F.hL (.inr F.ab) F.cl F.pn,rfl,q⟩⟩
def Qd{i:Nat}(hc:X.calm=true)(hN:X.N.Nodup)(vn:X.N[i]?=am x)(hx:X.env.scope.names.lookup x=am .local)(S:aV X.env.scope X.N sc N' ix)(hi:PI X tg iter wi)(hg:∀cl C s2 H2 fp,PG (dF X sc N' cl C s2 H2 fp) tg g)(hf:∀cl C s2 H2 fp,PFs (dF X sc N' cl C s2 H2 fp) È tf)(he:∀cl C s2 H2 fp,PE (dF X sc N' cl C s2 H2 fp) Ã te)(kF:‹pr (.ListComp Ã [⟨tg,iter,È,0⟩] sc pos) (am (.Name x px)) jP.line X.env=pure true›)(hs:oK X iter:=by intro _;rfl):PS X (.Assign [.Name x px] (.ListComp Ã [⟨tg,iter,È,0⟩] sc pos) jP) (Tq (tLc ix wi g tf te) (d6 i)):=by
 intro Z s σ H D0 I h;rw[exec_Assign_Name_used _ _ _ _ kF];refine Ab (EM (Ab ?_));show ga _ X.A (do let _ <- comprehension (.ListComp Ã [⟨tg,iter,È,0⟩] sc pos) sc X.env _ (newList []) false (o0 iter X.env) (am (IR (.Name x px) X.env))) _ _ s;have ZW:∀y∈sc.names,y.2=.free->∃c,X.env.cells.lookup y.1=am c:=λy hy hk=>I.ok.has y.1 (S.fr y hy hk);obtain⟨cl,Rt,vo,NU⟩:=mr ZW;refine Ab (BF (ER (use:=am (IR (.Name x px) X.env)) (Q:=λ_ s'=>SP X Z D0 .next s') rfl hs Rt S.kind S.loc (bU (hi Z s σ H _ I h) λv s1 h1=>bU h1 λČ s2 h2=>?_)) (λ_ s' hq=>Ag (Ag hq)) λ_ _ e=>e);obtain⟨it,fp,tn,J,H2,rfl,I2,T,MU,f2,hW⟩:=h2;refine LP (RR:=λacc C=>compPost (im X.prog X.w) X.A X.xe (am (IR (.Name x px) X.env)) (λ_ s'=>SP X Z D0 .next s') acc C) (Q:=λx H1=>d6 i x σ H1 D0.nx) hc S hg hf he vo NU I2 T MU f2 hW λD C m s' H' I' q hn F=>?_;show ga _ X.A (IR (.Name x px) X.env (.ref D)) _ _ _;refine wpAny_assign_Name (vT (v:=.ref D) I' hN vn (.inl hx) rfl (λSS I'' į=>?_) (.inr hx));obtain⟨a,į,ha⟩:=į;have haC:C≠a:=by
  rcases ha with z|z
  .rw[z];exact F.hL
  .exact BQ (F.cl _ _ z)
 refine⟨m,hn.sameBut į haC,λh' İ=>⟨_,H',?_,q⟩⟩;exact I''.turned (it:=C) (t':=SS.toks) (λb o hb e=>(İ.2 b hb).trans e) F.hn F.hL (.inr F.ab) F.cl F.pn
end
section
variable{b:nw}
def qt:cj X (.builtin "isinstance") (λxs H Q=>∃x c t b,xs=[x,.ty c]/\lU X.K H x t/\Bu X.K t (.type c)=am b/\Q (.bl b) H):=by
 intro Z s σ H xs us Q I r h;obtain⟨x,c,t,b,rfl,ty,hk,q⟩:=h;obtain⟨u,w',rfl,ru,z9⟩:=vals2 r;cases (z9);exact NH I ru ty hk λtk=>⟨.bl b,H,I.tok _,rfl,q⟩
def Nc(hu:X.A.units<ul):iD X (sn .NotEq) (λx y H Q=>∃p q xs,x=.ref p/\y=.ref q/\b9 X.K H p xs/\b9 X.K H q []/\Q (.bl (!xs.isEmpty)) H):=by
 intro Z s σ H x y v u Q I rx ry h;obtain⟨p,q,xs,rfl,rfl,hp,hq,k⟩:=h;cases rx;cases ry;obtain⟨aq,r,pl,hz⟩:=I.list hp;obtain⟨cT,r2,ð,ĩ⟩:=I.list hq;cases r2;cases xs with
 |nil=>
  cases r;exact EE (F2 (e:=λ_=>true) pl.isList ð.isList rfl hu λj h1=>absurd h1 (by simp)) ⟨.bl false,H,I,rfl,k⟩
 |cons y ys=>
  have hl:=r.length;exact EE (Ek pl.isList ð.isList (by simp at hl ⊢;intro z;subst z;simp at hl) hu) ⟨.bl true,H,I,rfl,k⟩
def qH(l:db)(items:Array ci)(n:Nat)(b:db)(cq:Array ci)(n2:Nat)(dd:Option db)(sl:Array (Option ci))(ď:¬(!items.isEmpty&&Builtin.List.listTooLong (items.size+cq.size))=true)(tX:items.size<=sizeLine)(qM:items.size+cq.size<=sizeLine+1):Meets (wS.«list.extend» ⟨[.ref l,.ref b],[]⟩) (λ_ R s=>s.heap.get? l=am {cls:=.type "list",dict:=ce,data:=.seq items n,slots:=#[]}/\s.heap.get? b=am {cls:=.type "tuple",dict:=dd,data:=.seq cq n2,slots:=sl}/\R (.ok (.ret A4)) {s with heap:=s.heap.update l (Bg λx=>x++cq),toks:=s.toks}):=
 .of_wp λprog w A R s h=>by
  obtain⟨hp,g,d,tk,os⟩:=s;obtain⟨hl,hb,h⟩:=h;have f5:=D3;
  wp_walk using (CO hl rfl),BD hl,BD hb;exact⟨_,rfl,h⟩
def P8(K:Aa):V->O V->Hp->VK->Prop:=λx vs H Q=>∃l b xs zs,x=.ref l/\vs=[.ref b]/\H l=am (.lst xs)/\dM K H b zs/\xs.length+zs.length<=sizeLine/\Q .aM (upd H l (.lst (xs++zs)))
theorem Jk:Mz X "list.extend" (P8 X.K):=by
 intro Z s σ H x vs v us Q I rx rv h;obtain⟨l,b,xs,zs,rfl,rfl,hH,hB,hz,q⟩:=h;cases rx;obtain⟨u,rfl,ru⟩:=rv.one;cases ru;obtain⟨z,aq,n,r,hl,e⟩:=I.qC hH;obtain⟨cT,r2,⟨⟨cls,dd,data,sl⟩,e2,hc,n2,hd⟩,z2⟩:=I.tuple hB;subst hc hd;have Xi:=r2.length;have uR:aq.toArray.size+cT.toArray.size<=sizeLine:=by rw[An,An];lia
 have tY:¬(!aq.toArray.isEmpty&&Builtin.List.listTooLong (aq.toArray.size+cT.toArray.size))=true:=by
  rw[nP uR,DH];exact AY
 refine wE Em ⟨_,e,rfl⟩ Ec (D2 _ _)
  (qH l aq.toArray n b cT.toArray n2 dd sl tY (by rw[An];lia) ∅) ⟨e,e2,?_⟩
 refine⟨.aM,_,I.Jr hH e (by simp) (r.append r2) ?_,rfl,q⟩;rw[Ak];lia
end
end L2
variable{xs:O L2.V}{b:Int}{k':Nat}{bD:Cg}
namespace L2
def ft(l:db)(H H':Hp):Prop:=∀b u,b≠l->H b=am u->H' b=am u
def kg(h:H p=ce)(o:HO):iZ H (upd H p o):=λb u q=>by rw[aj (bG q h)];exact q
def vW(o:HO):ft p H (upd H p o):=λb u n q=>by rw[aj n];exact q
def gL(H:Hp)(o:HO)(Q:VK):Prop:=∀p H',iZ H H'->H' p=am o->H p=ce->Q (.ref p) H'
def gL.at{o:HO}{Q:VK}(h:gL H o Q)(p:db)(hp:H p=ce):Q (.ref p) (upd H p o):=h p _ (kg hp o) ay hp
def zK(H:Hp)(l:db)(o:HO)(Q:Hp->Prop):Prop:=∀H',ft l H H'->H' l=am o->Q H'
def zK.at{l:db}{o:HO}{Q:Hp->Prop}(h:zK H l o Q):Q (upd H l o):=h _ (vW o) ay
def iD.mono{f:ci->ci->Sem ci}{r r':R2}(h:iD X f r)(hr:∀x y H Q,r' x y H Q->r x y H Q):iD X f r':=λZ s σ H x y v u Q I rx ry q=>h Z s σ H x y v u Q I rx ry (hr _ _ _ _ q)
def cj.mono{f:ci}{r r':O V->Hp->VK->Prop}(h:cj X f r)(hr:∀xs H Q,r' xs H Q->r xs H Q):cj X f r':=λZ s σ H xs us Q I rx q=>h Z s σ H xs us Q I rx (hr _ _ _ q)
def Mz.mono{id:String}{r r':V->O V->Hp->VK->Prop}(h:Mz X id r)(hr:∀x xs H Q,r' x xs H Q->r x xs H Q):Mz X id r':=λZ s σ H x xs v us Q I rx rv q=>h Z s σ H x xs v us Q I rx rv (hr _ _ _ _ q)
def OC.mono{r r':OB}(h:OC X r)(hr:∀o i v H Q,r' o i v H Q->r o i v H Q):OC X r':=λZ s σ H o i v ov iv u Q I ro ri rv q=>h Z s σ H o i v ov iv u Q I ro ri rv (hr _ _ _ _ _ q)
def SlR.mono{r r':V->Option Int->Option Int->Hp->VK->Prop}(h:SlR X r)(hr:∀x lo hi H Q,r' x lo hi H Q->r x lo hi H Q):SlR X r':=λZ s σ H x v vl vu lo hi sl Q I rx hs pl pu q=>h Z s σ H x v vl vu lo hi sl Q I rx hs pl pu (hr _ _ _ _ _ q)
section
variable{t:TA}
def abz(t:TA):TE:=λσ H Q=>t σ H λxs H1=>xs.length<=sizeLine/\gL H1 (.tup xs) Q
def Ws(t:TA):TE:=λσ H Q=>t σ H λxs H1=>xs.length<=sizeLine/\gL H1 (.lst xs) Q
def Um{x1}(h:PA X es t):PE X (.Tuple es x1 pos) (abz t):=by
 intro Z s σ H Q I hq;refine wpAny_Tuple_spliced (bU (h pos Z s σ H _ I hq) λus s1 ⟨xs,H1,I1,r,z,q⟩=>⟨by rw[<- r.length];exact z,?_⟩);have hf:=I1.br.fresh (Al _);refine⟨.ref s1.heap.objs.size,upd H1 s1.heap.objs.size (.tup xs),I1.laid (λb u e=>Ae _ e) (Al _) ?_,rfl,q.at _ hf⟩;exact⟨z,us,r,⟨_,Am _ rfl,rfl,_,rfl⟩,_,Am _ rfl,rfl⟩
def xD(h:PA X es t):PE X (.List es pos) (Ws t):=by
 intro Z s σ H Q I hq;refine wpAny_List_spliced (bU (h pos Z s σ H _ I hq) λus s1 ⟨xs,H1,I1,r,z,q⟩=>⟨by rw[<- r.length];exact z,?_⟩);have hf:=I1.br.fresh (Al _);refine⟨.ref s1.heap.objs.size,upd H1 s1.heap.objs.size (.lst xs),I1.laid (λb u e=>Ae _ e) (Al _) ?_,rfl,q.at _ hf⟩;exact⟨z,us,0,r,Am _ rfl⟩
def P4(K:Aa):R2:=λx y H Q=>match x with
 |.int i=>∃j,y=.int j/\Q (.int (i+j)) H
 |.str i=>∃j,y=.str j/\i.length+j.length<=sizeLine/\Q (.str (i++j)) H
 |.ref a=>(∃b xs zs,y=.ref b/\H a=am (.lst xs)/\H b=am (.lst zs)/\xs.length+zs.length<=sizeLine/\gL H (.lst (xs++zs)) Q)\/WC K x y H Q
 |_=>False
def Uz:iD X (ut .Add) (P4 X.K):=by
 refine((Y4.or Jc).or (Y3.or Lu)).mono λx y H Q h=>?_;cases x with
 |int i=>obtain⟨j,rfl,q⟩:=h;exact .inl (.inl ⟨i,j,rfl,rfl,q⟩)
 |str i=>obtain⟨j,rfl,hl,q⟩:=h;exact .inl (.inr ⟨i,j,rfl,rfl,hl,q⟩)
 |ref a=>
  rcases h with⟨b,xs,zs,rfl,h1,h2,hz,q⟩|h
  .exact .inr (.inl ⟨a,b,xs,zs,rfl,rfl,h1,h2,hz,λp hp=>q.at p hp⟩)
  .exact .inr (.inr h)
 |_=>exact h.elim
def k8:iD X (ut .Mult) (rI xz λi j=>.int (i*j)):=opI λ_ _ _ _ _ _ _ hc q=>mul_int q hc
def WA(K:Aa):V->Option Int->Option Int->Hp->VK->Prop:=λx lo hi H Q=>∃a xs,x=.ref a/\b9 K H a xs/\gL H (.lst (Oh xs lo hi)) Q
def Py:SlR X (WA X.K):=TR.mono λx lo hi H Q ⟨a,xs,e,h,q⟩=>⟨a,xs,e,h,λp hp=>q.at p hp⟩
def Ky:cj X (.type "list") (λxs H Q=>∃p ys,xs=[.ref p]/\(b9 X.K H p ys\/dM X.K H p ys)/\gL H (.lst ys) Q):=zh.mono λxs H Q ⟨p,ys,e,h,q⟩=>⟨p,ys,e,h,λl hl=>q.at l hl⟩
def P9:V->O V->Hp->VK->Prop:=λx vs H Q=>∃l xs y,x=.ref l/\vs=[y]/\H l=am (.lst xs)/\xs.length<sizeLine/\zK H l (.lst (xs++[y])) (Q .aM)
def sX:Mz X "list.append" P9:=Ng.mono λx xs H Q ⟨l,ys,y,e1,e2,h,hz,q⟩=>⟨l,ys,y,e1,e2,h,hz,q.at⟩
def M4(K:Aa):V->O V->Hp->VK->Prop:=λx vs H Q=>∃l b xs zs,x=.ref l/\vs=[.ref b]/\H l=am (.lst xs)/\dM K H b zs/\xs.length+zs.length<=sizeLine/\zK H l (.lst (xs++zs)) (Q .aM)
def GP:Mz X "list.extend" (M4 X.K):=Jk.mono λx xs H Q ⟨l,b,ys,zs,e1,e2,h1,h2,hz,q⟩=>⟨l,b,ys,zs,e1,e2,h1,h2,hz,q.at⟩
def ab4:V->O V->Hp->VK->Prop:=λx vs H Q=>∃l xs y,x=.ref l/\vs=[]/\H l=am (.lst (xs++[y]))/\zK H l (.lst xs) (Q y)
def UL:Mz X "list.pop" ab4:=Zd.mono λx xs H Q ⟨l,ys,y,e1,e2,h,q⟩=>⟨l,ys++[y],y,e1,e2,h,by simp,by rw[List.dropLast_concat];exact q.at⟩
def P1:OB:=λo i v H Q=>∃p xs k j,o=.ref p/\i=.int k/\H p=am (.lst xs)/\rN xs.length k=am j/\zK H p (.lst (xs.set j v)) Q
def oX:OC X P1:=set_list.mono λo i v H Q ⟨p,xs,k,j,e1,e2,h,hj,q⟩=>⟨p,xs,k,j,e1,e2,h,hj,q.at⟩
end
section
variable(K:Aa)(hK:X.K=K){a:nw}{t:TA}{name:Str}{á:String}{r:V->O V->Hp->VK->Prop}
include hK
def ck:S7 X (rIx K):=hK▸Zy
def lg:iD X (ut .Add) (P4 K):=hK▸Uz
def Px:SlR X (WA K):=hK▸Py
def YG(K:Aa):O V->Hp->VK->Prop:=λxs H Q=>∃x n,xs=[x]/\ael K x H n/\Q (.int n) H
def wN:cj X (.builtin "len") (YG K):=hK▸Ss
def P6(K:Aa):O V->Hp->VK->Prop:=λxs H Q=>∃p ys,xs=[.ref p]/\(b9 K H p ys\/dM K H p ys)/\gL H (.lst ys) Q
def Kx:cj X (.type "list") (P6 K):=hK▸Ky
def YF(K:Aa):R2:=λx y H Q=>∃p q xs,x=.ref p/\y=.ref q/\b9 K H p xs/\b9 K H q []/\Q (.bl (!xs.isEmpty)) H
def mJ(hu:X.A.units<ul):iD X (sn .NotEq) (YF K):=hK▸Nc hu
def afZ(K:Aa)(ta:TE):TT:=λσ H Q=>ta σ H λx H'=>∃k,aau K x H' k/\Q k H'
def vZ(ha:PE X a ta)(he:∀Å,isTrue a X.env Å=(do let v <- Å;standAt a.pos;GM [v] (truthy v))):PT X a (afZ K ta):=hK▸Qc ha he
def Us(pa:PlainAttrs T)(slot:Slot T name á)(ZL:typeOf (.builtin á)=pure (.type "method_descriptor"))(hm:MtR X á r)(ho:PE X o to)(dm:‹nn o name X.env (o0 o X.env)=o0 o X.env›)(di:‹SN Â bD›):PE X (.Call (.Attribute o name Â) [] [] bD) (abJ K T r to):=hK▸YT pa slot ZL hm ho dm di
def mE(pa:PlainAttrs T)(slot:Slot T name á)(ZL:typeOf (.builtin á)=pure (.type "method_descriptor"))(hm:MtR X á r)(ho:PE X o to)(ha:PA X (e::es) t)(dm:‹nn o name X.env (o0 o X.env)=o0 o X.env›)(mO:‹HWa X bD (e::es)›)(di:‹SN Â bD›)(hs:‹gK X e es›)(dD:‹jO X bD es›):PE X (.Call (.Attribute o name Â) (e::es) [] bD) (tBM K T r to t):=hK▸acj pa slot ZL hm ho ha dm mO di hs dD
omit hK
end
structure SK(P:wP)(w:Da)(K:Aa)(mg:Str->Option ci)(base:r9)(x:Str)(k:Nat)(ps:List Str)(sp:Sp) where
 f:db
 fd:Ch
 ok:gP P w K mg base uP k f fd ps sp
 bi:Binds K fd ps []
 kp:CB K (.ref f)=true
 at':mg x=am (.ref f)
section
variable{p:Pos}{t:TA}
def abI(sp:Sp)(t:TA):TE:=λσ H Q=>t σ H λvs H1=>sp vs H1 Q E0
def Ja(G:SK X.prog X.w X.K X.mg X.base x k ps sp)(hr:cu k' X.A)(hk:k<=k')(hg:Gl X x)(ha:PA X (e::es) t)(jq: ~~~(gq x))(he:‹gK X e es›)(cU:‹jO X pos es›):PE X (.Call (.Name x p) (e::es) [] pos) (abI sp t):=by
 intro Z s σ H Q I h;refine Bl (yf I hg G.at' ?_ jq);refine F0 I.ok.mod.kin G.kp (bU (ha pos Z s σ H _ I h) λus s1 ⟨vs,H1,I1,r,q⟩=>⟨I1.qi,?_⟩) he cU;refine Yo G.ok (hr.mono hk) G.bi .nil WD I1 r ?_;rw[Cq];exact q
end
section
variable{t u:TS}{tA Yd:TT}{g:TG}{Q:VK}{QT:Bool->Hp->Prop}{QA:O V->Hp->Prop}{QS:St->Hp->Prop}{i:Nat}{ts:TA}
def Yv(h:t {D with nx:=u D} σ H):abA t u D σ H:=h
def T3(h:D.nx σ H):Wr D σ H:=h
def YA(h:te σ H λx H1=>g x σ H1 D.nx):Tq te g D σ H:=h
def T4(h:QS (σ.set i (am v)) H):d6 i v σ H QS:=h
def Ys(e:σ[i]?=am (am v))(h:Q v H):Ya i σ H Q:=⟨v,e,h⟩
def agp(h:Q v H):tC v σ H Q:=h
def abX{r:R2}(h:ta σ H λx H1=>tb σ H1 λy H2=>r x y H2 Q):Wq r ta tb σ H Q:=h
def ags{C:Int->Int->Prop}{f:Int->Int->V}{a:Int}(c:C a b)(h:Q (f a b) H):rI C f (.int a) (.int b) H Q:=⟨a,b,rfl,rfl,c,h⟩
def Yw(h:te σ H D.rt):abB te D σ H:=h
def T5(h:te σ H λ_ H1=>D.nx σ H1):Wt te D σ H:=h
def Yz(h:tA σ H λb H1=>if b=true then t D σ H1 else u D σ H1):abE tA t u D σ H:=h
def TZ(h:te σ H λx H'=>∃k,x=.bl k/\QT k H'):Wo te σ H QT:=h
def YB(h:tA σ H λc H1=>if c=true then Yd σ H1 QT else QT false H1):abL tA Yd σ H QT:=h
def Yx(h:QA [] H):Yb σ H QA:=h
def T6(h:ta σ H λx H1=>ts σ H1 λxs H2=>QA (x::xs) H2):Pl ta ts σ H QA:=h
def Yy(h:ts σ H λxs H1=>xs.length<=sizeLine/\gL H1 (.lst xs) Q):Ws ts σ H Q:=h
def ab1{k:Bool}{R:Bool->Prop}(h:R k):∃c,V.bl k=.bl c/\R c:=⟨k,rfl,h⟩
def ab0{K:Aa}{r:V->O V->Hp->VK->Prop}(h:te σ H λx H1=>tyV K T x H1/\ts σ H1 λxs H2=>r x xs H2 Q):tBM K T r te ts σ H Q:=h
def Yu{ti:TE}{tt:OB}(h:to σ H λo H1=>ti σ H1 λi H2=>tt o i v H2 λH3=>QS σ H3):adw to ti tt v σ H QS:=h
def T7{K:Aa}{a:Int}(h:Q (.int (a+b)) H):P4 K (.int a) (.int b) H Q:=⟨b,rfl,h⟩
def c7{K:Aa}{n:Int}(h1:b9 K H a xs)(h2:fC xs n=am v)(h:Q v H):rIx K (.ref a) (.int n) H Q:=.inl ⟨a,xs,n,v,rfl,rfl,h1,h2,h⟩
end
section
def Lj{k:Int}{QH:Hp->Prop}(h1:H p=am (.lst xs))(hj:rN xs.length k=am j)(h:∀H',ft p H H'->H' p=am (.lst (xs.set j v))->QH H'):P1 (.ref p) (.int k) v H QH:=⟨p,xs,k,j,rfl,rfl,h1,hj,h⟩
def Yt{K:Aa}{l:db}(h:H l=am (.lst xs)):tyV K "list" (.ref l) H:=.inl ⟨rfl,_,b9.of h⟩
def WM{j:Int}(h1:-18446744073709551616<i)(h2:i<18446744073709551616):xz i j:=Wl.ok (.inl ⟨h1,h2⟩)
def mul_r{j:Int}(h1:-18446744073709551616<j)(h2:j<18446744073709551616):xz i j:=Wl.ok (.inr ⟨h1,h2⟩)
end
def bO(h:n<=1000):n<=sizeLine:=C5 (MX h)
section
variable(K:Aa)(hK:X.K=K)
include hK
def YI(K:Aa):R2:=λx y H Q=>∃p q xs,x=.ref p/\y=.ref q/\b9 K H p xs/\b9 K H q []/\Q (.bl xs.isEmpty) H
def Jb(hu:X.A.units<ul):iD X (sn .Eq) (YI K):=by
 subst hK;intro Z s σ H x y v u Q I rx ry h;obtain⟨p,q,xs,rfl,rfl,hp,hq,k⟩:=h;cases rx;cases ry;obtain⟨aq,r,pl,hz⟩:=I.list hp;obtain⟨cT,r2,ð,ĩ⟩:=I.list hq;cases r2;cases xs with
 |nil=>
  cases r;refine Fm (Gg (e:=λ_=>true) pl.isList ð.isList rfl hu λj h1=>absurd h1 (by simp)) ?_;exact⟨.bl true,H,I,rfl,k⟩
 |cons y ys=>
  have hl:=r.length;refine Fm (EJ pl.isList ð.isList (by simp at hl ⊢;intro z;subst z;simp at hl) hu) ?_;exact⟨.bl false,H,I,rfl,k⟩
omit hK
end
end L2
variable{p1:Cg}
namespace L2
theorem Vals.Gp:∀{xs:O V}{us:O ci},Vals xs us->Vals xs.reverse us.reverse
 |_,_,.nil=>.nil
 |_,_,.cons h t=>by rw[DE,DE];exact(Vals.Gp t).append (.cons h .nil)
def Zi:KF (.type "list_reverseiterator") (C3 "__len__")=pure ce:=by kernel_rfl
def UQ:KF (.type "list_reverseiterator") (C3 "__length_hint__")=pure (am (.builtin "list_reverseiterator.__length_hint__")):=by kernel_rfl
def TC:splitId "list_reverseiterator.__length_hint__"=am ("list_reverseiterator","__length_hint__"):=by kernel_rfl
def Tu:isSubtype (.type "list_reverseiterator") (.type "list_reverseiterator")=pure true:=by kernel_rfl
def Rp{s:cr}{r l:db}{Q:Bool->cr->Prop}(h:s.heap.IsRevIter r l i)(q:Q false s):ga (im prog w) A (Builtin.List.listLengthHint (Ay r)) Q E s:=by
 refine Ab (Fo h.typeIs Zi ?_);refine Ab (Fo h.typeIs UQ ?_);dsimp only;rw[TC];dsimp only;exact Ab (DT h.typeIs Tu (Ag q))
def vg{s:cr}{r l S:db}(hA:A.handled=ce)(h:s.heap.IsRevIter r l (items.size-1))(hl:s.heap.IsList l items)(OP:l≠r)(Ļ:S≠r)(hSl:S≠l)(hz:items.size<=sizeLine)(hS:s.heap.get? S=am {cls:=CY "list",data:=FI #[]})(q:∀(h':r9) (tk:Nat) (acc:Array ci) (c:Nat),(∀b o,b≠S->b≠r->s.heap.get? b=am o->h'.get? b=am o)->h'.get? S=am {cls:=CY "list",data:=FI acc c}->ItemsOf (λi v=>items[items.size-1-i]?=am v) acc items.size->R (.ok (.ret .none)) {s with heap:=h',toks:=tk}):
  ga (im prog w) A.in1 (wS.«list.__init__» {pos:=[Ay S,Ay r]})
   (λfin s'=>match fin with|FH f=>R (Except.ok f) s'|Fin.again c'=>c'.quiet=true/\Fk (im prog w) A c' R s') (λe s'=>R (Except.error e) s') s:=by
 unfold wS.«list.__init__»;refine Ab (wpAny_listItems hS rfl ?_);refine Ab ?_;refine CO hS rfl ?_ (by simp) (by simp);refine Ab (CJ ?_);have k1:∀b o,b≠S->s.heap.get? b=am o->(s.heap.update S (Bg λ_=>#[])).get? b=am o:=λb o hb e=>by rw[BC _ _ (BQ hb)];exact e
 have hS1:=BH (Bg λ_=>#[]) hS rfl;generalize s.heap.update S (Bg λ_=>#[])=h1 at k1 hS1 ⊢;have Đ:h1.IsRevIter r l (items.size-1):=let ⟨o,e,p⟩:=h;⟨o,k1 _ _ (BQ Ļ) e,p⟩;have ĵ:h1.IsList l items:=let ⟨o,e,p⟩:=hl;⟨o,k1 _ _ (BQ hSl) e,p⟩;unfold Builtin.List.listExtendWith;refine Ab (E9 Đ.typeIs ?_);rw[if_neg (by
  have e1:Builtin.List.listSameRef (Ay S) (Ay r)=false:=by
   unfold Builtin.List.listSameRef;simpa using Ļ
  rw[e1];decide)]
 refine Ab (wpAny_pyIter_revIter Đ ?_);refine Ab (Bn (Rp Đ ?_));refine Ag ⟨wf F.plain_extend_loop _,?_⟩;refine codeAny_extend_loopS (Walks.toS (Walks.listRev (A:=A.in1) hA r l OP items)) hz S (by simp[Ļ,hSl]) .none items.size 0 _ #[] _ (Fb _) (Bc _) ⟨Bc _,by simpa using Đ,ĵ⟩ hS1 (ItemsOf.nil _) ?_;intro s' acc c mv e io;rw[mv.eq_with];exact q s'.heap s'.toks acc c (λb o n1 n2 e'=>mv.heap b o (by simp[n1,n2]) (k1 b o n1 e')) e io
def vI{s:cr}{r l:db}(hA:A.handled=ce)(h:s.heap.IsRevIter r l (items.size-1))(hl:s.heap.IsList l items)(OP:l≠r)(hz:items.size<=sizeLine)(q:∀(h':r9) (tk:Nat) (acc:Array ci) (c:Nat),(∀b o,b≠r->s.heap.get? b=am o->h'.get? b=am o)->h'.get? s.heap.objs.size=am {cls:=CY "list",data:=FI acc c}->ItemsOf (λi v=>items[items.size-1-i]?=am v) acc items.size->Q (.ref s.heap.objs.size) {s with heap:=h',toks:=tk}):ga (im prog w) A (call (CY "list") [Ay r]) Q E s:=by
 have lr:=let ⟨_,e,_⟩:=h;Ap e;have ll:=let ⟨_,e,_⟩:=hl;Ap e;refine callType_codes F.called_list (F.typeCall_list_1 _) F.entry_list_init (code_list_new (Q₁:=λv s₁=>v=.ref s.heap.objs.size/\s₁={s with heap:=s.heap.push {cls:=CY "list",data:=FI #[]}}) _ ⟨rfl,rfl⟩) ?_;rintro obj s₁ ⟨rfl,rfl⟩;refine⟨⟨_,Am _ rfl,rfl⟩,F.args_list_init_2 _ _,?_⟩;have kp:∀b o,s.heap.get? b=am o->(s.heap.push {cls:=CY "list",data:=FI #[]}).get? b=am o:=λb o e=>Ae _ e;refine vg hA (let ⟨o,e,p⟩:=h;⟨o,kp _ _ e,p⟩) (let ⟨o,e,p⟩:=hl;⟨o,kp _ _ e,p⟩) OP (λz=>by rw[z]at lr;exact AR _ lr) (λz=>by rw[z]at ll;exact AR _ ll) hz (Am _ rfl) ?_;intro h' tk acc c k e io;exact⟨rfl,q h' tk acc c (λb o n e'=>k b o (λz=>by rw[z]at e';exact AR _ (Ap e')) n (kp b o e')) e io⟩
def tLR(K:Aa)(te:TE):TE:=λσ H Q=>te σ H λx H1=>∃p ys,x=.ref p/\b9 K H1 p ys/\gL H1 (.lst ys.reverse) Q
section
variable(K:Aa)(hK:X.K=K){p2 q1 q2:Pos}
include hK
theorem I0(hc:X.calm=true)(ZV:Gl X "list")(ZS:X.mg "list"=ce)(ZU:Gl X "reversed")(S3:X.mg "reversed"=ce)(he:PE X e te)(tX:‹lm [.Call (.Name "reversed" q1) [e] [] q2] X.env=(false,o0 (.Call (.Name "reversed" q1) [e] [] q2) X.env)::lm [] X.env›)(qM:‹gK X e []›):PE X (.Call (.Name "list" p1) [.Call (.Name "reversed" q1) [e] [] q2] [] p2) (tLR K te):=by
 intro Z s σ H Q I h;subst hK;refine Bl (fx I ZV ZS boot_list ?_ ⋯ ⋯);refine A2 ?_ tX rfl;refine B1 ?_;refine Bl (fx I ZU S3 boot_reversed ?_ ⋯ ⋯);refine A2 ?_ qM rfl;rw[qM];refine B1 (bU (he Z s σ H _ I h) λu s1 ⟨x,H1,I1,r1,pa,ys,ex,hS,q⟩=>Cs ?_);subst ex;cases r1;obtain⟨aq,rv,pl,hz⟩:=I1.list hS;have Á:=rv.length;have lp:=let ⟨_,e,_⟩:=pl.isList;Ap e;refine call_reversed_list pl.isList ?_;refine Cs ?_;have kp:∀b o,s1.heap.get? b=am o->(s1.heap.push (revObj pa (aq.toArray.size-1))).get? b=am o:=λb o e=>Ae _ e;refine vI (I1.ok.hd hc) ⟨_,Am _ rfl,rfl,rfl⟩ (let ⟨o,e,p⟩:=pl.isList;⟨o,kp _ _ e,p⟩) (λz=>by rw[z]at lp;exact AR _ lp) (by rw[An];lia) ?_;intro h' tk acc c k e io;have ea:acc=aq.reverse.toArray:=by
  obtain⟨z1,z2⟩:=io;apply Array.ext
  .rw[z1,An,An,CA]
  .intro j h1 h2;have:=z2 j acc[j] (C9 h1);rw[An]at this;have hj:j<aq.length:=by rw[z1,An]at h1;exact h1
   rw[Fz]at this;have e3:aq.reverse[j]?=am acc[j]:=by rw[DN hj];exact this
   rw[List.getElem_toArray];exact(Option.some.inj (((Ad (by rw[CA];exact hj)).symm.trans e3))).symm
 subst ea;have qM:s1.heap.objs.size<=(s1.heap.push (revObj pa (aq.toArray.size-1))).objs.size:=by simp
 exact⟨.ref _,upd H1 _ (.lst ys.reverse),I1.laid (λb o eb=>k b o (λz=>by rw[z]at eb;exact AR _ (Ap eb)) (kp b o eb)) qM ⟨by rw[CA];exact hz,aq.reverse,c,rv.Gp,e⟩,rfl,q.at _ (I1.br.fresh qM)⟩
end
end L2
namespace My
inductive Tr where
 |leaf (x:Str)
 |node (l r:Tr)
def Tr.aw:Tr->O Str
 |.leaf x=>[x]
 |.node l r=>l.aw++r.aw
def Tr.size:Tr->Nat
 |.leaf _=>1
 |.node l r=>l.size+r.size+1
def Tr.depth:Tr->Nat
 |.leaf _=>0
 |.node l r=>max l.depth r.depth+1
theorem Tr.tJ:∀t:Tr,1<=t.aw.length
 |.leaf _=>Al _
 |.node l r=>by have:=l.tJ;show 1<=(l.aw++r.aw).length;rw[Ak];lia
theorem Tr.ox:∀t:Tr,t.depth<t.aw.length
 |.leaf _=>CC 0
 |.node l r=>by
  have h1:=l.ox;have h2:=r.ox;have h4:=r.tJ;show max l.depth r.depth+1<(l.aw++r.aw).length;rw[Ak];lia
theorem Tr.size_eq:∀t:Tr,t.size+1=2*t.aw.length
 |.leaf _=>rfl
 |.node l r=>by
  have h1:=l.size_eq;have h2:=r.size_eq;show l.size+r.size+1+1=2*(l.aw++r.aw).length;rw[Ak];lia
def eD(ts:O Tr):Nat:=(ts.map Tr.size).sum
def fP(a b:O Tr):eD (a++b)=eD a+eD b:=by unfold eD;rw[Az,List.sum_append]
def oW(t:Tr):eD [t]=t.size:=by simp[eD]
theorem Tr.size_pos:∀t:Tr,1<=t.size
 |.leaf _=>Al _
 |.node l r=>by show 1<=l.size+r.size+1;lia
theorem wo:∀ts:O Tr,ts.length<=eD ts
 |[]=>Al _
 |t::r=>by have:=wo r;have:=t.size_pos;show r.length+1<=t.size+eD r;lia
def Tr.post:Tr->O Tr
 |.leaf x=>[.leaf x]
 |.node l r=>l.post++r.post++[.node l r]
def Tr.kh:∀t:Tr,t.post.length=t.size
 |.leaf _=>rfl
 |.node l r=>by show(l.post++r.post++[_]).length=l.size+r.size+1;rw[Ak,Ak,l.kh,r.kh];rfl
def iO(ts:O Tr):O Tr:=(ts.map Tr.post).flatten
def jb(a b:O Tr):iO (a++b)=iO a++iO b:=by unfold iO;rw[Az,List.flatten_append]
def o6(t:Tr):iO [t]=t.post:=by simp[iO]
def M6(t u:Tr):iO [t,u]=t.post++u.post:=by simp[iO]
inductive Ent where
 |word (x:Str)
 |pair (a b:Nat)
def Tr.nd:Tr->Nat->O Ent
 |.leaf x,_=>[.word x]
 |.node l r,o=>l.nd o++r.nd (o+l.size)++[.pair (o+l.size-1) (o+l.size+r.size-1)]
def Tr.bJ:∀(t:Tr) (o:Nat),(t.nd o).length=t.size
 |.leaf _,_=>rfl
 |.node l r,o=>by show(l.nd o++r.nd (o+l.size)++[_]).length=l.size+r.size+1;rw[Ak,Ak,l.bJ,r.bJ];rfl
def run:O Tr->O Ent->O Nat->Option (O Ent×O Nat)
 |[],À,ls=>am (À,ls)
 |.leaf x::k,À,ls=>run k (À++[.word x]) (À.length::ls)
 |.node _ _::k,À,b::a::ls=>run k (À++[.pair a b]) (À.length::ls)
 |.node _ _::_,_,_=>ce
theorem sF:∀(t:Tr) (k:O Tr) (À:O Ent) (ls:O Nat),run (t.post++k) À ls=run k (À++t.nd À.length) ((À.length+t.size-1)::ls)
 |.leaf x,k,À,ls=>rfl
 |.node l r,k,À,ls=>by
  have e1:(Tr.node l r).post++k=l.post++(r.post++(Tr.node l r::k)):=by show l.post++r.post++[_]++k=_;simp
  rw[e1,sF l,sF r];have e2:(À++l.nd À.length).length=À.length+l.size:=by rw[Ak,l.bJ]
  rw[e2];show run k _ _=run k _ _;have e3:(À++l.nd À.length++r.nd (À.length+l.size)).length=À.length+(Tr.node l r).size-1:=by
   rw[Ak,Ak,l.bJ,r.bJ];show _=À.length+(l.size+r.size+1)-1;lia
  rw[e3];have e4:À++(Tr.node l r).nd À.length=À++l.nd À.length++r.nd (À.length+l.size)++[.pair (À.length+l.size-1) (À.length+l.size+r.size-1)]:=by
   show À++(l.nd À.length++r.nd (À.length+l.size)++[_])=_;simp
  rw[e4]
def M0(t:Tr):run t.post [] []=am (t.nd 0,[t.size-1]):=by
 have:=sF t [] [] [];rw[Cq]at this;rw[this];show am ([]++t.nd 0,[0+t.size-1])=_;simp
end My
variable{x:A8}{i:Nat}
namespace L2
def gU{s:cr}{t:db}(h:s.heap.IsTupleIter it t i)(ht:s.heap.IsTuple t items)(hx:items[i]?=am x)(q:∀h':r9,h'.IsTupleIter it t (i+1)->Ce it s.heap h'->Q x {s with heap:=h'}):ga (im prog w) A (Builtin.SmallTypes.nextOf (.ref it)) Q E s:=by
 unfold Builtin.SmallTypes.nextOf;refine Ab (Bh h.typeIs Ck (Bo Ck h.typeIs Eh ?_ (D9 _)));obtain⟨o,ho,hc,hd⟩:=id h;obtain⟨ot,Ĵ,htc,n,Į⟩:=id ht;show ga _ _ (field (.ref it) 0 >>= λseq=>_) _ _ s;refine Ab (Bk ho hd rfl ?_);refine Ab (Bk ho hd rfl ?_);refine Ab (Bv Ĵ Į ?_);show ga _ _ (match items[i]? with|some x=>(do setField (.ref it) 1 (Db (i+1));ret x)|none=>_) _ _ s;rw[hx];refine Ab (Ep ho hd (show 1<2 by decide) ?_);refine Ag ⟨x,rfl,Ag (q _ ⟨_,BH _ ho (by rw[Fw (Dk hd _)]),by rw[Obj.cls_mapFields];exact hc,by rw[Dk hd];rfl⟩ (Ce.update ..))⟩
def Tw{s:cr}{Q:α->cr->Prop}(hA:A.handled=ce)(q:∀(h':r9) (e:db),(∀b o,s.heap.get? b=am o->h'.get? b=am o)->(∃o,h'.get? e=am o/\o.cls=.type "StopIteration")->E (.ref e) {s with heap:=h'}):ga (im prog w) A (Builtin.SmallTypes.stopIteration (α:=α)) Q E s:=by
 refine Ab ?_;refine Ab (CZ ?_ ⋯);refine Ab (CH rfl ?_);refine Bb ?_ (sizeOk_excFields ..);unfold raiseNew;refine Ab (wpAny_handled ?_);rw[hA];refine wpAny_throw (q _ _ (λb o e=>Ae _ (Ae _ e)) ⟨_,Am _ rfl,rfl⟩)
def iP{s:cr}{t:db}(hA:A.handled=ce)(h:s.heap.IsTupleIter it t i)(ht:s.heap.IsTuple t items)(hx:items[i]?=ce)(q:∀(h':r9) (e:db),Gi it s.heap h'->(∃o,h'.get? e=am o/\o.cls=.type "StopIteration")->E (.ref e) {s with heap:=h'}):ga (im prog w) A (Builtin.SmallTypes.nextOf (.ref it)) Q E s:=by
 unfold Builtin.SmallTypes.nextOf;refine Ab (Bh h.typeIs Ck (Bo Ck h.typeIs Eh ?_ (D9 _)));obtain⟨o,ho,hc,hd⟩:=id h;obtain⟨ot,Ĵ,htc,n,Į⟩:=id ht;show ga _ _ (field (.ref it) 0 >>= λseq=>_) _ _ s;refine Ab (Bk ho hd rfl ?_);refine Ab (Bk ho hd rfl ?_);refine Ab (Bv Ĵ Į ?_);show ga _ _ (match items[i]? with|some x=>(do setField (.ref it) 1 (Db (i+1));ret x)|none=>(do rule _;setField (.ref it) 0 .none;Builtin.SmallTypes.stopIteration)) _ _ s;rw[hx];refine Ab (Dl ?_);refine Ab (Ep ho hd (show 0<2 by decide) ?_);refine Tw hA λh' e k ex=>q h' e (λb o n eb=>k b o ?_) ex;rw[(Ce.update _ _ _).2 b n];exact eb
def Inv.sD{σ:L2.St}{s:cr}{t':Nat}{o:HO}(I:Inv X Z σ H s)(hf:∀b∈ch,vO X Z H b)(k:∀b u,b∉ch->s.heap.get? b=am u->h'.get? b=am u)(hp:s.heap.objs.size<=a)(new:bE X.prog X.w (upd H a o) h' a o):Inv X Z σ (upd H a o) {s with heap:=h',toks:=t'}:=by
 have hn:=I.br.fresh hp;have WK:∀b u,H b=am u->b∉ch:=λb u e z=>by rw[(hf b z).1]at e;cases e
 refine I.step (λb hb=>⟨(hf b hb).2.2.2.1,(hf b hb).2.1,(hf b hb).2.2.2.2.1,(hf b hb).2.2.2.2.2⟩) (λb u _ _ hc e _=>k b u hc e) (λb u _ _ hc e _=>⟨u.slots,k b u hc e⟩)
  (λb u _ e n=>by rw[aj (AB (AG (Ap e) hp))];exact n) (λb u hc e=>⟨u,k b u hc e⟩) (λb xs e=>by rw[aj (bG e hn)];exact e) (λb u xs e=>by rw[aj (bG e hn)];exact e)
  (λb ps e=>⟨#[],by rw[aj (bG e hn),e];simp⟩) (λm hm=>?_) (λb u e=>?_) I.bare
 .obtain⟨o',es,ep,ho,r⟩:=hm;exact⟨o',es,ep,k _ o' (λz=>(hf _ z).2.1 rfl) ho,r⟩
 .by_cases hb:b=a
  .subst hb;rw[ay]at e;cases e;exact new
  .rw[aj hb]at e;refine(I.br b u e).xn (λc v hc q=>k c v ?_ q) (λc q=>by rw[aj (bG q hn)];exact q) λc xs q=>by rw[aj (bG q hn)];exact q
   rcases hc with z|z
   .rw[z];exact WK b u e
   .exact WK c _ z
def Inv.xf{σ:L2.St}{s:cr}{t':Nat}(I:Inv X Z σ H s)(hf:∀b∈ch,vO X Z H b)(k:∀b u,b∉ch->s.heap.get? b=am u->h'.get? b=am u):Inv X Z σ H {s with heap:=h',toks:=t'}:=by
 have WK:∀b u,H b=am u->b∉ch:=λb u e z=>by rw[(hf b z).1]at e;cases e
 refine I.step (λb hb=>⟨(hf b hb).2.2.2.1,(hf b hb).2.1,(hf b hb).2.2.2.2.1,(hf b hb).2.2.2.2.2⟩) (λb u _ _ hc e _=>k b u hc e) (λb u _ _ hc e _=>⟨u.slots,k b u hc e⟩)
  (λ_ _ _ _ n=>n) (λb u hc e=>⟨u,k b u hc e⟩) (λ_ _ e=>e) (λ_ _ _ e=>e) (λb ps e=>⟨#[],by rw[e];simp⟩) (λm hm=>?_) (λb u e=>?_) I.bare
 .obtain⟨o',es,ep,ho,r⟩:=hm;exact⟨o',es,ep,k _ o' (λz=>(hf _ z).2.1 rfl) ho,r⟩
 .refine(I.br b u e).xn (λc v hc q=>k c v ?_ q) (λ_ q=>q) λ_ _ q=>q;rcases hc with z|z
  .rw[z];exact WK b u e
  .exact WK c _ z
def nv(h:Vals xs us):∀{i:Nat}{x:V},xs[i]?=am x->∃u,us[i]?=am u/\RelV x u:=by
 induction h with
 |nil=>intro i x e;simp at e
 |cons r t ih=>
  intro i x e;cases i with
  |zero=>simp at e;subst e;exact⟨_,rfl,r⟩
  |succ i=>exact ih (by simpa using e)
end L2
variable{e:A9}{Ë:A8}{Í:O BW}
namespace L2
def qS{E:ci->cr->Prop}{s:cr}{t:db}(OT:e≠it)(Ď:t≠e)(Vf:t≠it)(hz:IsEnum s.heap e it i Ë)(hi:s.heap.IsTupleIter it t i)(ht:s.heap.IsTuple t items)(hx:items[i]?=am x)(q:∀(h':r9) (tk:Nat),IsEnumOut h' e it (i+1:Nat) x s.heap.objs.size->h'.IsTupleIter it t (i+1)->IsPair h' s.heap.objs.size (.int i s.toks) x->(∀c o,c≠e->c≠it->s.heap.get? c=am o->h'.get? c=am o)->Q (.ref s.heap.objs.size) {s with heap:=h',toks:=tk}):ga (im prog w) A (wS.«enumerate.__next__» {pos:=[.ref e]}) (λfin s'=>∃v,fin=FH (Gn v)/\Q v s') E s:=by
 show ga _ _ (field (.ref e) 2 >>= λr=>_) _ _ s;refine Ab (Bk hz rfl rfl ?_);refine Ab (gU hi ht hx λh1 j1 b1=>?_);have z1:=(b1.2 _ OT).trans hz;refine Ab (Bk z1 rfl rfl ?_);refine Ab (Bk z1 rfl rfl ?_);refine Ab (wpAny_mkInt ?_);refine Ab (Bd z1 (show 3 < 6 by decide) λh2 z2 b2=>?_);refine Ab (Bd z2 (show 4 < 6 by decide) λh3 z3 b3=>?_);refine Ab (CZ ?_ (by show 2<=sizeLine;decide));have kp:∀b o,h3.get? b=am o->(h3.push {cls:=.type "tuple",data:=.seq [Ei i s.toks,x].toArray}).get? b=am o:=λb o e=>Ae _ e;have Za:(h3.push {cls:=.type "tuple",data:=.seq [Ei i s.toks,x].toArray}).get? h3.objs.size=am {cls:=.type "tuple",data:=.seq #[.int i s.toks,x]}:=Am _ rfl;generalize h3.push {cls:=.type "tuple",data:=.seq [Ei i s.toks,x].toArray}=h4 at kp Za ⊢;have z4:=kp _ _ z3;refine Ab ?_;refine Ab (Bk z4 rfl rfl ?_);refine Ag ?_;refine Ab (Dl ?_);refine Ab (Bk z4 rfl rfl ?_);refine Ab (Bd z4 (show 5 < 6 by decide) λh5 z5 b5=>?_);refine Ab ?_;refine Ab (Bd z5 (show 0 < 6 by decide) λh6 z6 b6=>?_);refine Bd z6 (show 1 < 6 by decide) λh7 z7 b7=>?_;refine Ab (CJ ?_);have Z1:∀b,b≠e->h7.get? b=h4.get? b:=λb n=>(b7.2 b n).trans ((b6.2 b n).trans (b5.2 b n));have ne:s.heap.objs.size≠e:=λz=>by have:=Ap hz;rw[<- z]at this;exact AR _ this
 refine Ag ⟨.ref h3.objs.size,rfl,?_⟩;rw[(b3.1.trans (b2.1.trans b1.1))]at z7 Za ⊢;refine q h7 _ ?_ ?_ ?_ ?_
 .exact z7
 .obtain⟨o,eo,p⟩:=j1;refine⟨o,?_,p⟩;rw[Z1 _ (BQ OT)];exact kp _ _ ((b3.2 _ (BQ OT)).trans ((b2.2 _ (BQ OT)).trans eo))
 .rw[IsPair,Z1 _ ne];exact Za
 .intro c o n1 n2 ec;rw[Z1 _ n1];exact kp _ _ (((λb n1 n2=>(b3.2 b n1).trans ((b2.2 b n1).trans (b1.2 b n2))) _ n1 n2).trans ec)
def uq{s:cr}{t:db}{Q:PySem.Fin->cr->Prop}(hA:A.handled=ce)(hz:IsEnum s.heap e it i Ë)(hi:s.heap.IsTupleIter it t i)(ht:s.heap.IsTuple t items)(hx:items[i]?=ce)(q:∀(h':r9) (x:db),(∀c o,c≠it->s.heap.get? c=am o->h'.get? c=am o)->(∃o,h'.get? x=am o/\o.cls=.type "StopIteration")->E (.ref x) {s with heap:=h'}):ga (im prog w) A (wS.«enumerate.__next__» {pos:=[.ref e]}) Q E s:=by
 show ga _ _ (field (.ref e) 2 >>= λr=>_) _ _ s;exact Ab (Bk hz rfl rfl (Ab (iP hA hi ht hx λh' x k ex=>q h' x (λc o n e'=>k c o n e') ex)))
def nH{s:cr}{t:db}{Q:Option ci->cr->Prop}(OT:e≠it)(Ď:t≠e)(Vf:t≠it)(hz:IsEnum s.heap e it i Ë)(hi:s.heap.IsTupleIter it t i)(ht:s.heap.IsTuple t items)(hx:items[i]?=am x)(q:∀(h':r9) (tk:Nat),IsEnumOut h' e it (i+1:Nat) x s.heap.objs.size->h'.IsTupleIter it t (i+1)->IsPair h' s.heap.objs.size (.int i s.toks) x->(∀c o,c≠e->c≠it->s.heap.get? c=am o->h'.get? c=am o)->Q (am (.ref s.heap.objs.size)) {s with heap:=h',toks:=tk}):ga (im prog w) A (pyNext (.ref e)) Q E s:=by
 have ty:s.TypeIs (.ref e) "enumerate":=⟨_,hz,rfl⟩;refine Ab (Dh (Bh ty CV (Bo CV ty E6 ?_ (EW _))));exact qS OT Ď Vf hz hi ht hx λh' tk a b c d=>Ag (q h' tk a b c d)
def o5{s:cr}{t:db}{Q:Option ci->cr->Prop}(hA:A.handled=ce)(hz:IsEnum s.heap e it i Ë)(hi:s.heap.IsTupleIter it t i)(ht:s.heap.IsTuple t items)(hx:items[i]?=ce)(q:∀h':r9,(∀c o,c≠it->s.heap.get? c=am o->h'.get? c=am o)->Q ce {s with heap:=h'}):ga (im prog w) A (pyNext (.ref e)) Q E s:=by
 have ty:s.TypeIs (.ref e) "enumerate":=⟨_,hz,rfl⟩;refine Ab (Dh (Bh ty CV (Bo CV ty E6 ?_ (EW _))));refine uq hA hz hi ht hx λh' x k ex=>?_;obtain⟨o,eo,hc⟩:=ex;exact Ab (DT ⟨o,eo,hc⟩ isSubtype_stop (Ag (q h' k)))
def qB(t:db)(items:Array ci):Meets (wS.«enumerate.__new__» {pos:=[.type "enumerate",.ref t]}) (λ_ R s=>s.heap.IsTuple t items/\
  ∀h':r9,IsEnum h' (s.heap.objs.size+1) s.heap.objs.size (0:Nat) .none->h'.IsTupleIter s.heap.objs.size t 0->(∀b o,s.heap.get? b=am o->h'.get? b=am o)->R (.ok (.ret (.ref (s.heap.objs.size+1)))) {s with heap:=h'}):=
 .of_wp λprog w A R s h=>by
  obtain⟨h1,q⟩:=h;refine Ab ?_;refine Ab (CH rfl ?_);refine Ab (CH sub_enumerate ?_);refine Ag ?_;refine Ab ?_;refine Ab (wpAny_stack_any λst=>Ag ?_);have fin:ga (im prog w) A.in1 (pyIter (.ref t) >>= λit=>(Builtin.SmallTypes.newRecord (.type "enumerate") (Builtin.SmallTypes.ownedTupleFields++[it,Db 0,.none,.none]) >>= λr=>ret r)) (λfin s'=>∃v,fin=FH (Gn v)/\R (Except.ok (Gn v)) s') (λe s'=>R (Except.error e) s') s:=by
   refine Ab (Er h1 ?_);have k1:∀b o,s.heap.get? b=am o->(s.heap.push {cls:=.type "tuple_iterator",data:=.fields #[.ref t,.int 0 0]}).get? b=am o:=λb o e=>Ae _ e;have g1:(s.heap.push {cls:=.type "tuple_iterator",data:=.fields #[.ref t,.int 0 0]}).get? s.heap.objs.size=am {cls:=.type "tuple_iterator",data:=.fields #[.ref t,.int 0 0]}:=Am _ rfl;have z1:(s.heap.push {cls:=.type "tuple_iterator",data:=.fields #[.ref t,.int 0 0]}).objs.size=s.heap.objs.size+1:=Bm ..;generalize s.heap.push {cls:=.type "tuple_iterator",data:=.fields #[.ref t,.int 0 0]}=zE at k1 g1 z1 ⊢;show ga _ _ (newObj (.type "enumerate") (.fields #[.none,.bool false,.ref s.heap.objs.size,Db 0,.none,.none]) >>= λr=>ret r) _ _ _;refine Ab (Bb ?_ (by simp[sizeOk];decide));have g2:(zE.push {cls:=.type "enumerate",data:=.fields #[.none,.bool false,.ref s.heap.objs.size,Db 0,.none,.none]}).get? zE.objs.size=am {cls:=.type "enumerate",data:=.fields #[.none,.bool false,.ref s.heap.objs.size,Db 0,.none,.none]}:=Am _ rfl;refine Ag ⟨.ref zE.objs.size,rfl,?_⟩;rw[z1]at g2 ⊢;exact q _ g2 ⟨_,Ae _ g1,rfl,rfl⟩ λb o e=>Ae _ (k1 _ _ e)
  refine wpAny_ite_split (λ_=>?_) (λ_=>?_)
  .exact Ab (CH rfl fin)
  .exact Ab (CH rfl fin)
def Kz{s:cr}{t:db}(h1:s.heap.IsTuple t items)(q:∀h':r9,IsEnum h' (s.heap.objs.size+1) s.heap.objs.size (0:Nat) .none->h'.IsTupleIter s.heap.objs.size t 0->(∀b o,s.heap.get? b=am o->h'.get? b=am o)->Q (.ref (s.heap.objs.size+1)) {s with heap:=h'}):ga (im prog w) A (call (.type "enumerate") [.ref t]) Q E s:=
 callType_new F.called_enumerate ⋯ (F.typeCall_enumerate_1 _) (F.newCall_enumerate_1 _) (λo=>F.args_object_init_2 o _) F.entry_enumerate_new (qB t items) ⟨h1,λh' z i k=>⟨⟨_,z,rfl⟩,q h' z i k⟩⟩
def Ite(K:Aa)(a:db):It where
 go:=λi H=>∃xs x,dM K H a xs/\xs[i]?=am x
 Wm:=λi H v H'=>∃p x,v=.ref p/\H p=ce/\H'=upd H p (.tup [.int i,x])/\∀xs,dM K H a xs->xs[i]?=am x
 stop:=λi H=>∃xs,dM K H a xs/\xs.length<=i
theorem MH{K:Aa}{kk:Nat}{t:db}(OT:e≠it)(Ď:t≠e)(Vf:t≠it):Turn P w K (.Tuple Í kk pos) (Ite K t) [e,it] e (λi h=>(∃Ë,IsEnum h e it (i:Nat) Ë)/\h.IsTupleIter it t i) where
 mem:=by simp
 obj:=λi h st b hb=>by
  simp at hb;rcases hb with rfl|rfl
  .obtain⟨⟨_,e⟩,_⟩:=st;exact⟨_,e,λv z=>by cases z⟩
  .obtain⟨_,⟨o,e,_,d⟩⟩:=st;exact⟨o,e,λv z=>by rw[d]at z;cases z⟩
 keep:=λi h h' st k=>⟨let ⟨o,e'⟩:=st.1;⟨o,k e (by simp) _ e'⟩,let ⟨o,e',p⟩:=st.2;⟨o,k it (by simp) _ e',p⟩⟩
 item:=by
  intro X hP hw hK hc i Z s σ H E I hf st hg;subst hP hw hK;obtain⟨xs,x,hx,gx⟩:=hg;obtain⟨aq,rx,tx,_⟩:=I.tuple hx;obtain⟨u,gu,ru⟩:=nv rx gx;obtain⟨⟨Ë,hz⟩,hi⟩:=st;refine nH OT Ď Vf hz hi tx (by simpa using gu) λh' tk zo j np k=>?_;refine⟨_,rfl,?_⟩;refine Es zo λh2 z2 b2=>?_;have le:=Ap hz;have li:=let ⟨_,e',_⟩:=hi;Ap e';have lt:∀b∈[e,it],b<s.heap.objs.size:=λb hb=>by
   simp at hb;rcases hb with rfl|rfl
   .exact le
   .exact li
  have ø:∀b o,b∉[e,it]->s.heap.get? b=am o->h2.get? b=am o:=λb o hb e'=>by
   have Xb:b≠e:=λq=>hb (by simp[q]);rw[b2.2 b Xb];exact k b o Xb (λq=>hb (by simp[q])) e'
  refine⟨.ref s.heap.objs.size,upd H s.heap.objs.size (.tup [.int i,x]),I.sD hf ø (Al _) ⟨by show 2<=sizeLine;decide,[.int i s.toks,u],.cons ⟨_,rfl⟩ (.cons ru .nil),⟨_,((b2.2 _ (λz=>AR _ (by have:=le;rw[<- z]at this;exact this))).trans np),rfl,_,rfl⟩,_,((b2.2 _ (λz=>AR _ (by have:=le;rw[<- z]at this;exact this))).trans np),rfl⟩,rfl,⟨_,x,rfl,(I.br.fresh (Al s.heap.objs.size)),rfl,λxs' h'=>by rw[I.kY h' hx];exact gx⟩,⟨⟨_,z2⟩,let ⟨o,e',p⟩:=j;⟨o,(b2.2 _ (BQ OT)).trans e',p⟩⟩,λb hb=>?_⟩;rw[aj (AB (lt b hb))];exact(hf b hb).1
 done:=by
  intro X hP hw hK hc i Z s σ H E I hf st hg;subst hP hw hK;obtain⟨xs,hx,hl⟩:=hg;obtain⟨aq,rx,tx,_⟩:=I.tuple hx;have el:=rx.length;obtain⟨⟨Ë,hz⟩,hi⟩:=st;refine o5 (I.ok.hd hc) hz hi tx (by simp;lia) λh' k=>⟨rfl,I.xf hf λb o hb e'=>k b o (λz=>hb (by simp[z])) e'⟩
 self:=λA i s Q E st h=>let ⟨_,e'⟩:=st.1;Dx e' h
end L2
namespace My
def SA(l:O V)(i:Nat):Ent->O V
 |.word _=>l
 |.pair a b=>(l.set a (.int i)).set b (.int i)
def ah:O Ent->Nat->O V->O V
 |[],_,l=>l
 |e::es,i,l=>ah es (i+1) (SA l i e)
theorem zp:∀(es:O Ent) (e:Ent) (i:Nat) (l:O V),ah (es++[e]) i l=SA (ah es i l) (i+es.length) e
 |[],e,i,l=>rfl
 |x::es,e,i,l=>by
  show ah (es++[e]) (i+1) (SA l i x)=SA (ah es (i+1) (SA l i x)) (i+(es.length+1)) e;rw[zp es e];congr 1;lia
def V9(l:O V)(i:Nat)(e:Ent):(SA l i e).length=l.length:=by cases e with
 |word=>rfl
 |pair=>show((l.set _ _).set _ _).length=_;rw[BA,BA]
theorem KD:∀(es:O Ent) (i:Nat) (l:O V),(ah es i l).length=l.length
 |[],_,_=>rfl
 |e::es,i,l=>by show(ah es (i+1) (SA l i e)).length=_;rw[KD es,V9]
end My
variable{b:BW}{p:Cg}
namespace L2
def Itd(lo:Int)(n:Nat):It:=⟨λi _=>i<n,λi H x H'=>H'=H/\x=.int (lo-i),λi _=>n<=i⟩
theorem zM{K:Aa}(it:db)(lo:Int)(n:Nat):Turn P w K tg (Itd lo n) [it] it (λi h=>IsRangeIter h it (lo+(i:Nat)*(-1)) ((n:Int)-(i:Nat)) (-1)) where
 mem:=by simp
 obj:=λi h st b hb=>by
  have e:b=it:=by simpa using hb
  subst e;exact⟨_,st,λv z=>by
   have z':=z;cases z'⟩
 keep:=λi h h' st k=>k it (by simp) _ st
 item:=by
  intro X hP hw hK hc i Z s σ H E I hf st hg;subst hP hw hK;obtain⟨f0,f1,f2,f3,f4,f5⟩:=hf it (by simp);refine(Walks.range (prog:=X.prog) (I.ok.hd hc) it lo (-1) n).item i s _ _ hg st λv h' tk hv rk kk=>?_;obtain⟨t,rfl⟩:=hv;refine⟨_,rfl,Hj rk rfl rfl ⋯ ⟨.int (lo-i),H,(I.turned (λb o hb e=>kk b o (by simpa using hb) e) f0 f1 f3 f4 f5),⟨t,?_⟩,⟨rfl,rfl⟩,rk,λb hb=>(hf b hb).1⟩⟩;rw[show lo+i*(-1)=lo-i by lia]
 done:=by
  intro X hP hw hK hc i Z s σ H E I hf st hg;obtain⟨f0,f1,f2,f3,f4,f5⟩:=hf it (by simp);exact wpAny_pyNext_range_end (I.ok.hd hc) st (by have:n<=i:=hg;lia) λh' eb=>⟨rfl,I.turned (λb o hb e=>eb b o hb e) f0 f1 f3 f4 f5⟩
 self:=λ_ _ _ _ _ st h=>wpAny_pyIter_rangeiter st h
section
theorem M3{s:cr}{R:It->Hp->Prop}{lo:Int}{t u v:Tok}{tk:Nat}(I:Inv X Z σ H s)(h1:-(2 ^ 62)<=lo)(h2:lo < 2 ^ 62)(h3:-(2 ^ 62)<=hi)(h4:hi < 2 ^ 62)(q:R (Itd lo (lo-hi).toNat) H):ga (im X.prog X.w) X.A (pyIter (.ref s.heap.objs.size)) (PIE X Z σ tg R) E {s with heap:=s.heap.push {cls:=.type "range",data:=.fields #[.int lo t,.int hi u,.int (-1) v]},toks:=tk}:=by
 refine wpAny_pyIter_range (FG ..) (PySem.W.small_down h1 h2 h3 h4) ?_;have I1:Inv X Z σ H {s with heap:=s.heap.push {cls:=.type "range",data:=.fields #[.int lo t,.int hi u,.int (-1) v]},toks:=tk}:=I.kept λb o e=>Ae _ e;refine⟨(s.heap.push {cls:=.type "range",data:=.fields #[.int lo t,.int hi u,.int (-1) v]}).objs.size,[(s.heap.push {cls:=.type "range",data:=.fields #[.int lo t,.int hi u,.int (-1) v]}).objs.size],_,_,H,rfl,
  I1.kept λb o e=>Ae _ e,zM _ lo (lo-hi).toNat,?_,λb hb=>?_,q⟩
 .have e1:lo+((0:Nat))*(-1)=lo:=by simp
  have e2:(((lo-hi).toNat))-((0:Nat):Int)=Builtin.Range.rangeSize lo hi (-1):=by rw[PySem.W.rangeSize_down];split<;>lia
  rw[e1,e2];exact Am _ rfl
 .have e:b=(s.heap.push {cls:=.type "range",data:=.fields #[.int lo t,.int hi u,.int (-1) v]}).objs.size:=by simpa using hb
  subst e;exact I1.Hn (Al _) (I1.br.fresh (Al _))
def ac0(ta:TA):TI:=λσ H R=>ta σ H λvs H1=>∃i j:Int,vs=[.int i,.int j,.int (-1)]/\(-(2 ^ 62)<=i/\i<2 ^ 62/\-(2 ^ 62)<=j/\j<2 ^ 62)/\R (Itd i (i-j).toNat) H1
def M8{a c:nw}{ta:TA}(hg:Gl X "range")(hm:X.mg "range"=ce)(ha:PA X [a,b,c] ta)(hs:‹lm [a,b,c] X.env=[(false,o0 a X.env),(false,o0 b X.env),(false,o0 c X.env)]›)(qM:‹lm [b,c] X.env=[(false,o0 b X.env),(false,o0 c X.env)]›):PI X tg (.Call (.Name "range" p) [a,b,c] [] pos) (ac0 ta):=by
 intro Z s σ H R I h;refine Call_ (fx I hg hm boot_range (A2 (bU (ha pos Z s σ H _ I h) λus s1 ⟨vs,H1,I1,r1,q1⟩=>?_) (by show lm _ _=_;rw[hs,qM]) (by rw[qM];rfl)));obtain⟨i,j,e,⟨q1,q2,q3,q4⟩,q⟩:=q1;subst e;cases r1 with
 |cons r rr=>
  cases rr with
  |cons r' rr=>
   cases rr with
   |cons r'' rr=>
    cases rr;obtain⟨t,rfl⟩:=r;obtain⟨t',rfl⟩:=r';obtain⟨t'',rfl⟩:=r'';refine call_range_3 ⋯ (M3 I1 q1 q2 q3 q4 q) (.inl ?_);unfold Builtin.divisionGoesByPylong;have e1:decide ((if ((-1)==0)=true then 0 else (-1:Int).natAbs.log2 / 30+1) > 300)=false:=by decide
    simp only[e1,FQ]
end
def aen(K:Aa)(a:db):It where
 go:=λi H=>∃xs x,b9 K H a xs/\xs[i]?=am x
 Wm:=λi H v H'=>∃p x,v=.ref p/\H p=ce/\H'=upd H p (.tup [.int i,x])/\∀xs,b9 K H a xs->xs[i]?=am x
 stop:=λi H=>∃xs,b9 K H a xs/\xs.length<=i
theorem Iz{K:Aa}{kk:Nat}{t:db}(OT:e≠it):Turn P w K (.Tuple Í kk pos) (aen K t) [e,it] e (λi h=>(∃Ë,IsEnum h e it (i:Nat) Ë)/\h.IsListIter it t i) where
 mem:=by simp
 obj:=λi h st b hb=>by
  simp at hb;rcases hb with rfl|rfl
  .obtain⟨⟨_,e⟩,_⟩:=st;exact⟨_,e,λv z=>by cases z⟩
  .obtain⟨_,⟨o,e,_,d⟩⟩:=st;exact⟨o,e,λv z=>by rw[d]at z;cases z⟩
 keep:=λi h h' st k=>⟨let ⟨o,e'⟩:=st.1;⟨o,k e (by simp) _ e'⟩,let ⟨o,e',p⟩:=st.2;⟨o,k it (by simp) _ e',p⟩⟩
 item:=by
  intro X hP hw hK hc i Z s σ H E I hf st hg;subst hP hw hK;obtain⟨xs,x,hx,gx⟩:=hg;obtain⟨aq,rx,tx,_⟩:=I.list hx;obtain⟨u,gu,ru⟩:=nv rx gx;obtain⟨⟨Ë,hz⟩,hi⟩:=st;refine wpAny_pyNext_enum_item hz hi tx.isList (by simpa using gu) OT λh' zo j np _ k=>?_;refine⟨_,rfl,?_⟩;refine Es zo λh2 z2 b2=>?_;have le:=Ap hz;have li:=let ⟨_,e',_⟩:=hi;Ap e';have lt:∀b∈[e,it],b<s.heap.objs.size:=λb hb=>by
   simp only[AI,DW,or_false]at hb;rcases hb with rfl|rfl
   .exact le
   .exact li
  have ø:∀b o,b∉[e,it]->s.heap.get? b=am o->h2.get? b=am o:=λb o hb e'=>by
   have Xb:b≠e:=λq=>hb (by simp[q]);rw[b2.2 b Xb];exact k b o Xb (λq=>hb (by simp[q])) e'
  refine⟨.ref s.heap.objs.size,upd H s.heap.objs.size (.tup [.int i,x]),I.sD hf ø (Al _) ⟨by show 2<=sizeLine;decide,[.int i s.toks,u],.cons ⟨_,rfl⟩ (.cons ru .nil),⟨_,((b2.2 _ (λz=>AR _ (by have:=le;rw[<- z]at this;exact this))).trans np),rfl,_,rfl⟩,_,((b2.2 _ (λz=>AR _ (by have:=le;rw[<- z]at this;exact this))).trans np),rfl⟩,rfl,⟨_,x,rfl,(I.br.fresh (Al s.heap.objs.size)),rfl,λxs' h'=>by rw[I.GZ h' hx];exact gx⟩,⟨⟨_,z2⟩,let ⟨o,e',p⟩:=j;⟨o,(b2.2 _ (BQ OT)).trans e',p⟩⟩,λb hb=>?_⟩;rw[aj (AB (lt b hb))];exact(hf b hb).1
 done:=by
  intro X hP hw hK hc i Z s σ H E I hf st hg;subst hP hw hK;obtain⟨xs,hx,hl⟩:=hg;obtain⟨aq,rx,tx,_⟩:=I.list hx;have el:=rx.length;obtain⟨⟨Ë,hz⟩,hi⟩:=st;refine wpAny_pyNext_enum_end (I.ok.hd hc) hz hi tx.isList (by simp;lia) λh' k=>⟨rfl,I.xf hf λb o hb e'=>k b o (λz=>hb (by simp[z])) e'⟩
 self:=λA i s Q E st h=>let ⟨_,e'⟩:=st.1;Dx e' h
def aV.rel{so:pc}{N:O Str}{sc:pc}(S:aV so N sc N' ix):aV (KM so env) N sc N' ix:=by
 refine⟨S.kind,S.nc,S.loc,λy hy hk=>?_,S.nd,S.len,S.map⟩;unfold KM;rw[d3];rcases S.fr y hy hk with h|h
 .rw[h];left;rfl
 .rw[h];by_cases c:(env.scope.kind==.function&&env.kindOf y.1==am .cell)=true
  .left;simpa using c
  .right;simp at c ⊢;exact c
end L2
namespace My
def en:Tr->Nat->Nat->Ent
 |.leaf x,_,_=>.word x
 |.node l r,o,j=>if j<l.size then en l o j else if j<l.size+r.size then en r (o+l.size) (j-l.size) else .pair (o+l.size-1) (o+l.size+r.size-1)
def up:Tr->Nat->Nat->O Nat->O Nat
 |.leaf _,o,_,ab=>o::ab
 |.node l r,o,j,ab=>if j<l.size then up l o j ((o+l.size+r.size)::ab) else if j<l.size+r.size then up r (o+l.size) (j-l.size) ((o+l.size+r.size)::ab) else (o+l.size+r.size)::ab
def jU:Tr->Nat->Nat->V->V
 |.leaf _,_,_,p=>p
 |.node l r,o,j,p=>if j<l.size then jU l o j (.int (o+l.size+r.size:Nat)) else if j<l.size+r.size then jU r (o+l.size) (j-l.size) (.int (o+l.size+r.size:Nat)) else p
def be:Tr->Nat->Nat->O Nat
 |.leaf _,o,_=>[o]
 |.node l r,o,j=>if j<l.size then be l o j else if j<l.size+r.size then be r (o+l.size) (j-l.size) else be l o (l.size-1)++be r (o+l.size) (r.size-1)
theorem gV:∀(t:Tr) (o j:Nat),j<t.size->(t.nd o)[j]?=am (en t o j)
 |.leaf x,o,j,h=>by
  have:j=0:=by have:j<1:=h;lia
  subst this;rfl
 |.node l r,o,j,h=>by
  have es:(Tr.node l r).size=l.size+r.size+1:=rfl;have hn:(Tr.node l r).nd o=l.nd o++r.nd (o+l.size)++[.pair (o+l.size-1) (o+l.size+r.size-1)]:=rfl;have ln:=l.bJ o;have rn:=r.bJ (o+l.size);unfold en;by_cases c1:j<l.size
  .rw[if_pos c1,hn,AD,AH ∅];exact gV l o j c1
  .rw[if_neg c1];by_cases c2:j<l.size+r.size
   .rw[if_pos c2,hn,AD,AV ∅,AH ∅,ln];exact gV r _ _ ∅
   .rw[if_neg c2,hn,AV (by rw[Ak];lia),Ak,ln,rn];have:j-(l.size+r.size)=0:=by lia
    rw[this];rfl
theorem Mq:∀(t:Tr) (o j:Nat),j<t.size->(∃x,en t o j=.word x/\be t o j=[o+j])\/∃a b,en t o j=.pair (o+a) (o+b)/\a<j/\b<j/\be t o j=be t o a++be t o b
 |.leaf x,o,j,h=>by
  have:j=0:=by have:j<1:=h;lia
  subst this;exact .inl ⟨x,rfl,rfl⟩
 |.node l r,o,j,h=>by
  have es:(Tr.node l r).size=l.size+r.size+1:=rfl;have lp:=l.size_pos;have rp:=r.size_pos;by_cases c1:j<l.size
  .have e1:en (.node l r) o j=en l o j:=by rw[en,if_pos c1]
   have e2:∀k,k<l.size->be (.node l r) o k=be l o k:=λk hk=>by rw[be,if_pos hk]
   rw[e1];rcases Mq l o j c1 with⟨x,q1,q2⟩|⟨a,b,q1,q2,q3,q4⟩
   .exact .inl ⟨x,q1,by rw[e2 j c1];exact q2⟩
   .exact .inr ⟨a,b,q1,q2,q3,by rw[e2 j c1,e2 a ∅,e2 b ∅];exact q4⟩
  .by_cases c2:j<l.size+r.size
   .have e1:en (.node l r) o j=en r (o+l.size) (j-l.size):=by rw[en,if_neg c1,if_pos c2]
    have e2:∀k,k<r.size->be (.node l r) o (l.size+k)=be r (o+l.size) k:=λk hk=>by
     rw[be,if_neg ∅,if_pos ∅];congr 1;lia
    have ej:j=l.size+(j-l.size):=by lia
    rw[e1];rcases Mq r (o+l.size) (j-l.size) ∅ with⟨x,q1,q2⟩|⟨a,b,q1,q2,q3,q4⟩
    .refine .inl ⟨x,q1,?_⟩;rw[ej,e2 _ ∅,q2];congr 1;lia
    .refine .inr ⟨l.size+a,l.size+b,?_,by lia,by lia,?_⟩
     .rw[q1,A6,A6]
     .rw[e2 a ∅,e2 b ∅,ej,e2 _ ∅,q4]
   .have ej:j=l.size+r.size:=by lia
    refine .inr ⟨l.size-1,l.size+r.size-1,?_,by lia,by lia,?_⟩
    .rw[en,if_neg c1,if_neg c2];congr 1<;>lia
    .rw[be,if_neg c1,if_neg c2,be,if_pos ∅,be,if_neg ∅,if_pos ∅];congr 2;lia
theorem sC:∀(t:Tr) (o j:Nat) (p:V) (ab:O Nat),j<t.size->(j=t.size-1/\jU t o j p=p/\up t o j ab=(o+j)::ab)\/∃a,j<a/\a<t.size/\jU t o j p=.int (o+a:Nat)/\up t o j ab=(o+j)::up t o a ab
 |.leaf x,o,j,p,ab,h=>by
  have:j=0:=by have:j<1:=h;lia
  subst this;exact .inl ⟨rfl,rfl,rfl⟩
 |.node l r,o,j,p,ab,h=>by
  have es:(Tr.node l r).size=l.size+r.size+1:=rfl;have lp:=l.size_pos;have rp:=r.size_pos;have er:up (.node l r) o (l.size+r.size) ab=(o+l.size+r.size)::ab:=by rw[up,if_neg ∅,if_neg ∅]
  by_cases c1:j<l.size
  .have e1:jU (.node l r) o j p=jU l o j (.int (o+l.size+r.size:Nat)):=by rw[jU,if_pos c1]
   have e2:∀k,k<l.size->up (.node l r) o k ab=up l o k ((o+l.size+r.size)::ab):=λk hk=>by rw[up,if_pos hk]
   rw[e1,e2 j c1];rcases sC l o j (.int (o+l.size+r.size:Nat)) ((o+l.size+r.size)::ab) c1 with⟨q1,q2,q3⟩|⟨a,q1,q2,q3,q4⟩
   .refine .inr ⟨l.size+r.size,by lia,by lia,by rw[q2,A6],by rw[q3,er]⟩
   .exact .inr ⟨a,q1,by lia,q3,by rw[q4,e2 a q2]⟩
  .by_cases c2:j<l.size+r.size
   .have e1:jU (.node l r) o j p=jU r (o+l.size) (j-l.size) (.int (o+l.size+r.size:Nat)):=by rw[jU,if_neg c1,if_pos c2]
    have e2:∀k,k<r.size->up (.node l r) o (l.size+k) ab=up r (o+l.size) k ((o+l.size+r.size)::ab):=λk hk=>by
     rw[up,if_neg ∅,if_pos ∅];congr 1;lia
    obtain⟨i,rfl⟩:∃i,j=l.size+i:=⟨j-l.size,by lia⟩;have ei:l.size+i-l.size=i:=by lia
    rw[e1,e2 i ∅,ei];rcases sC r (o+l.size) i (.int (o+l.size+r.size:Nat)) ((o+l.size+r.size)::ab) ∅ with⟨q1,q2,q3⟩|⟨a,q1,q2,q3,q4⟩
    .refine .inr ⟨l.size+r.size,by lia,by lia,by rw[q2,A6],by rw[q3,er,A6]⟩
    .exact .inr ⟨l.size+a,by lia,by lia,by rw[q3,A6],by rw[q4,e2 a q2,A6]⟩
   .have ej:j=l.size+r.size:=by lia
    refine .inl ⟨by lia,by rw[jU,if_neg c1,if_neg c2],?_⟩;rw[ej,er,A6]
def mw:Tr->Nat->V->O V
 |.leaf _,_,p=>[p]
 |.node l r,o,p=>mw l o (.int (o+l.size+r.size:Nat))++mw r (o+l.size) (.int (o+l.size+r.size:Nat))++[p]
theorem jF:∀(t:Tr) (o:Nat) (p:V),(mw t o p).length=t.size
 |.leaf _,_,_=>rfl
 |.node l r,o,p=>by
  unfold mw;rw[Ak,Ak,jF l,jF r];rfl
theorem Ms(t:Tr)(o:Nat)(p q:V)(A B:O V):(A++mw t o p++B).set (A.length+t.size-1) q=A++mw t o q++B:=by
 have key:∃I,mw t o p=I++[p]/\mw t o q=I++[q]:=by
  cases t with
  |leaf _=>exact⟨[],rfl,rfl⟩
  |node l r=>exact⟨_,rfl,rfl⟩
 obtain⟨I,e1,e2⟩:=key;have h1:=jF t o p;rw[e1,Ak]at h1;have fZ:I.length+1=t.size:=h1;rw[e1,e2];have ei:A.length+t.size-1=(A++I).length:=by rw[Ak];lia
 rw[ei,show A++(I++[p])++B=(A++I)++p::B by simp,List.set_append_right _ _ (Al _),Dz];simp
theorem Sz:∀(es fs:O Ent) (i:Nat) (l:O V),ah (es++fs) i l=ah fs (i+es.length) (ah es i l)
 |[],fs,i,l=>rfl
 |e::es,fs,i,l=>by
  show ah (es++fs) (i+1) (SA l i e)=ah fs (i+(es.length+1)) (ah es (i+1) (SA l i e));rw[Sz es fs];congr 1;lia
theorem KG:∀(t:Tr) (A B:O V),ah (t.nd A.length) A.length (A++Ao t.size .aM++B)=A++mw t A.length .aM++B
 |.leaf x,A,B=>rfl
 |.node l r,A,B=>by
  have es:(Tr.node l r).size=l.size+r.size+1:=rfl;have hn:(Tr.node l r).nd A.length=l.nd A.length++r.nd (A.length+l.size)++[.pair (A.length+l.size-1) (A.length+l.size+r.size-1)]:=rfl;have ln:=l.bJ A.length;have h1:=KG l A (Ao r.size .aM++([V.aM]++B));have e0:A++Ao (Tr.node l r).size V.aM++B=A++Ao l.size .aM++(Ao r.size .aM++([V.aM]++B)):=by
   rw[es,<- DJ,<- DJ];simp only[AD];rfl
  rw[hn,zp,Sz,e0,h1,ln];have la:(A++mw l A.length V.aM).length=A.length+l.size:=by rw[Ak,jF]
  have h2:=KG r (A++mw l A.length V.aM) ([V.aM]++B);rw[la]at h2;have e1:A++mw l A.length V.aM++(Ao r.size V.aM++([V.aM]++B))=A++mw l A.length V.aM++Ao r.size V.aM++([V.aM]++B):=by simp[AD]
  rw[e1,h2,Ak,ln,(r.bJ (A.length+l.size))];show((_:O V).set (A.length+l.size-1) _).set (A.length+l.size+r.size-1) _=_;have e2:A++mw l A.length V.aM++mw r (A.length+l.size) V.aM++([V.aM]++B)=A++mw l A.length V.aM++(mw r (A.length+l.size) V.aM++([V.aM]++B)):=by simp[AD]
  rw[e2,(Ms l A.length .aM (.int (A.length+(l.size+r.size):Nat)) A (mw r (A.length+l.size) V.aM++([V.aM]++B)))];have lb:(A++mw l A.length (V.int (A.length+(l.size+r.size):Nat))).length=A.length+l.size:=by rw[Ak,jF]
  have s2:=Ms r (A.length+l.size) .aM (.int (A.length+(l.size+r.size):Nat)) (A++mw l A.length (V.int (A.length+(l.size+r.size):Nat))) ([V.aM]++B);rw[lb]at s2;have e3:A++mw l A.length (V.int (A.length+(l.size+r.size):Nat))++(mw r (A.length+l.size) V.aM++([V.aM]++B))=A++mw l A.length (V.int (A.length+(l.size+r.size):Nat))++mw r (A.length+l.size) V.aM++([V.aM]++B):=by simp[AD]
  rw[e3,s2];have e4:mw (.node l r) A.length .aM=mw l A.length (.int (A.length+l.size+r.size:Nat))++mw r (A.length+l.size) (.int (A.length+l.size+r.size:Nat))++[.aM]:=rfl;rw[e4,A6 A.length l.size r.size];simp[AD]
theorem zl:∀(t:Tr) (o j:Nat) (p:V),j<t.size->(mw t o p)[j]?=am (jU t o j p)
 |.leaf x,o,j,p,h=>by
  have:j=0:=by have:j<1:=h;lia
  subst this;rfl
 |.node l r,o,j,p,h=>by
  have es:(Tr.node l r).size=l.size+r.size+1:=rfl;have ln:=jF l o (.int (o+l.size+r.size:Nat));have rn:=jF r (o+l.size) (.int (o+l.size+r.size:Nat));unfold mw jU;by_cases c1:j<l.size
  .rw[if_pos c1,AD,AH ∅];exact zl l _ _ _ c1
  .rw[if_neg c1];by_cases c2:j<l.size+r.size
   .rw[if_pos c2,AD,AV ∅,AH ∅,ln];exact zl r _ _ _ ∅
   .rw[if_neg c2,AV (by rw[Ak];lia),Ak,ln,rn];have:j-(l.size+r.size)=0:=by lia
    rw[this];rfl
def aat(t:Tr)(h:j<t.size):(ah (t.nd 0) 0 (Ao t.size .aM))[j]?=am (jU t 0 j .aM):=by
 have q:=KG t [] [];have e:([]:O V)++Ao t.size .aM++[]=Ao t.size .aM:=by simp
 have e2:([]:O V)++mw t ([]:O V).length .aM++[]=mw t 0 .aM:=by simp
 rw[e,e2]at q;have q':ah (t.nd 0) 0 (Ao t.size .aM)=mw t 0 .aM:=q;rw[q'];exact zl t 0 j .aM h
end My
variable{H1:L2.Hp}{ι:O A9}
namespace PL
section
variable{K:Aa}
def SJ(K:Aa)(H:Hp)(a:db)(xs:O V):Prop:=(∃o,H a=am (.bS o (.lst xs)))\/
  ∃(o:Obj) (aq:Array ci) (n:Nat),K.lookup a=am o/\o.cls=.type "list"/\o.dict=ce/\o.data=.seq aq n/\aq.size<=sizeLine/\Vals xs aq.toList
def SJ.sq(h:SJ K H a xs):b9 K H a xs:=h.elim (λh=>.inl (.inr h)) .inr
def Ij(b:db)(h:r9):Prop:=∃(ns:O Int) (aq:O ci) (n:Nat),ns.length<=sizeLine/\Vals (ns.map V.int) aq/\h.get? b=am {cls:=.type "list",data:=.seq aq.toArray n}
def cO(H:Hp)(b:db):Prop:=H b=am (.ext (Ij b))
def xk(h:∀p φ,H p=am (.ext φ)->H' p=am (.ext φ)):∀b,cO H b->cO H' b:=λ_ e=>h _ _ e
structure bh(K:Aa)(H H':Hp):Prop where
 t:∀p vs,H p=am (.tup vs)->H' p=am (.tup vs)
 z:∀p o u,H p=am (.bS o u)->H' p=am (.bS o u)
 x:∀b,cO H b->cO H' b
def bh.f{H H':Hp}(t:bh K H H')(p:db)(vs:O V)(h:SJ K H p vs):SJ K H' p vs:=h.elim (λ⟨o,h⟩=>.inl ⟨o,t.z _ _ _ h⟩) .inr
def bh.refl(H:Hp):bh K H H:=⟨λ_ _ h=>h,λ_ _ _ h=>h,λ_ h=>h⟩
def bh.trans(a:bh K H H1)(b:bh K H1 H2):bh K H H2:=⟨λp vs h=>b.t p vs (a.t p vs h),λp o w h=>b.z p o w (a.z p o w h),λp h=>b.x p (a.x p h)⟩
def _root_.L2.iZ.ff(s:iZ H H'):bh K H H':=⟨λp vs h=>s _ _ h,λp o u h=>s _ _ h,xk λp φ h=>s _ _ h⟩
inductive PV where
 |aM|bl (b:Bool)|int (i:Int)|str (x:Str)|tup (l:List PV)|ref (n:Nat)|ty (n:String)|cl (l:List PV)|dv (ks vs:List PV)|ob (ns:List Str) (l:List PV)|hand
def kP:Key->PV
 |.inl i=>.int i
 |.inr x=>.str x
inductive PO where
 |lst (xs:List PV)|dk (aA:List (Key×PV))|dt (aA:List (List Key×PV))|opq (φ:List V->Prop)
abbrev PH:=O PO
abbrev zF:=O (Option PV)
mutual
inductive VR(K:Aa)(ι:List db)(H:Hp):V->PV->Prop
 |aM:VR K ι H .aM .aM
 |bl (b:Bool):VR K ι H (.bl b) (.bl b)
 |int (i:Int):VR K ι H (.int i) (.int i)
 |str (x:Str):VR K ι H (.str x) (.str x)
 |ty (n:String):VR K ι H (.ty n) (.ty n)
 |tup {p:db}{vs:List V}{l:List PV} (h:H p=am (.tup vs)) (r:aE K ι H vs l):VR K ι H (.ref p) (.tup l)
 |ref {n:Nat}{a:db} (h:ι[n]?=am a):VR K ι H (.ref a) (.ref n)
 |cl {a:db}{vs:List V}{l:List PV} (h:SJ K H a vs) (r:aE K ι H vs l):VR K ι H (.ref a) (.cl l)
 |dk {a:db}{o:Obj}{aA:List (Key×V)}{ks l:List PV} (h:H a=am (.bS o (.dK aA))) (e:ks=aA.map λkv=>kP kv.1) (r:aE K ι H (aA.map (·.2)) l):VR K ι H (.ref a) (.dv ks l)
 |dt {a:db}{o:Obj}{aA:List (List Key×V)}{ks l:List PV} (h:H a=am (.bS o (.dT aA))) (e:ks=aA.map λkv=>.tup (kv.1.map kP)) (r:aE K ι H (aA.map (·.2)) l):VR K ι H (.ref a) (.dv ks l)
 |ob {a C dx:db}{o:Obj}{fs:List (Str×V)}{ns:List Str}{l:List PV} (h:H a=am (.bS o (.ins C dx fs))) (c:OD K C) (na:∀f∈ns,eW K C f) (e:ns=fs.map (·.1)) (r:aE K ι H (fs.map (·.2)) l):VR K ι H (.ref a) (.ob ns l)
 |hand {a:db} (h:cO H a):VR K ι H (.ref a) .hand
inductive aE(K:Aa)(ι:List db)(H:Hp):List V->List PV->Prop
 |nil:aE K ι H [] []
 |cons {v:V}{p:PV}{vs:List V}{ps:List PV} (r:VR K ι H v p) (t:aE K ι H vs ps):aE K ι H (v::vs) (p::ps)
end
section
variable{ι':O db}
mutual
theorem VR.mono(ht:bh K H H')(hi:∀(n:Nat) (a:db),ι[n]?=am a->ι'[n]?=am a):∀{v:V}{p:PV},VR K ι H v p->VR K ι' H' v p
 |_,_,.aM=>.aM
 |_,_,.bl b=>.bl b
 |_,_,.int i=>.int i
 |_,_,.str x=>.str x
 |_,_,.ty n=>.ty n
 |_,_,.tup h r=>.tup (ht.t _ _ h) (aE.mono ht hi r)
 |_,_,.cl h r=>.cl (ht.f _ _ h) (aE.mono ht hi r)
 |_,_,.dk h e r=>.dk (ht.z _ _ _ h) e (aE.mono ht hi r)
 |_,_,.dt h e r=>.dt (ht.z _ _ _ h) e (aE.mono ht hi r)
 |_,_,.ob h c na e r=>.ob (ht.z _ _ _ h) c na e (aE.mono ht hi r)
 |_,_,.ref h=>.ref (hi _ _ h)
 |_,_,.hand h=>.hand (ht.x _ h)
theorem aE.mono(ht:bh K H H')(hi:∀(n:Nat) (a:db),ι[n]?=am a->ι'[n]?=am a):∀{vs:O V}{ps:O PV},aE K ι H vs ps->aE K ι' H' vs ps
 |_,_,.nil=>.nil
 |_,_,.cons r t=>.cons (VR.mono ht hi r) (aE.mono ht hi t)
end
theorem aE.length:∀{vs:O V}{ps:O PV},aE K ι H vs ps->vs.length=ps.length
 |_,_,.nil=>rfl
 |_,_,.cons _ t=>by rw[Aq,Aq,aE.length t]
theorem aE.get:∀{vs:O V}{ps:O PV}{i:Nat}{p:PV},aE K ι H vs ps->ps[i]?=am p->∃v,vs[i]?=am v/\VR K ι H v p
 |_,_,_,_,.nil,e=>by simp at e
 |_,_,0,_,.cons r _,e=>by simp at e;subst e;exact⟨_,rfl,r⟩
 |_,_,i+1,p,.cons _ t,e=>by
  obtain⟨v,h1,h2⟩:=aE.get t (by simpa using e);exact⟨v,by simpa using h1,h2⟩
theorem aE.adt:∀{vs:O V}{ps:O PV}{i:Nat}{v:V},aE K ι H vs ps->vs[i]?=am v->∃p,ps[i]?=am p/\VR K ι H v p
 |_,_,_,_,.nil,e=>by simp at e
 |_,_,0,_,.cons r _,e=>by simp at e;subst e;exact⟨_,rfl,r⟩
 |_,_,i+1,p,.cons _ t,e=>by
  obtain⟨v,h1,h2⟩:=aE.adt t (by simpa using e);exact⟨v,by simpa using h1,h2⟩
theorem aE.set{p:PV}(r:VR K ι H v p):∀{vs:O V}{ps:O PV} (i:Nat),aE K ι H vs ps->aE K ι H (vs.set i v) (ps.set i p)
 |_,_,_,.nil=>.nil
 |_,_,0,.cons _ t=>.cons r t
 |_,_,i+1,.cons q t=>.cons q (aE.set r i t)
theorem aE.append:∀{xs ys:O V}{us ws:O PV},aE K ι H xs us->aE K ι H ys ws->aE K ι H (xs++ys) (us++ws)
 |_,_,_,_,.nil,s=>s
 |_,_,_,_,.cons r t,s=>.cons r (aE.append t s)
theorem aE.take:∀{xs:O V}{us:O PV} (n:Nat),aE K ι H xs us->aE K ι H (xs.take n) (us.take n)
 |_,_,0,_=>.nil
 |_,_,_+1,.nil=>.nil
 |_,_,n+1,.cons r t=>.cons r (aE.take n t)
theorem aE.drop:∀{xs:O V}{us:O PV} (n:Nat),aE K ι H xs us->aE K ι H (xs.drop n) (us.drop n)
 |_,_,0,r=>r
 |_,_,_+1,.nil=>.nil
 |_,_,n+1,.cons _ t=>aE.drop n t
theorem aE.reverse:∀{xs:O V}{us:O PV},aE K ι H xs us->aE K ι H xs.reverse us.reverse
 |_,_,.nil=>.nil
 |_,_,.cons r t=>by rw[DE,DE];exact(aE.reverse t).append (.cons r .nil)
def aE.one{p:PV}(r:VR K ι H v p):aE K ι H [v] [p]:=.cons r .nil
end
structure Go(ι ι':List db)(H H':Hp):Prop where
 ext:∃m,ι'=ι++m
 new:∀a,a∈ι'->a∉ι->H a=ce
 keep:∀a o,a∉ι->H a=am o->H' a=am o
def Go.refl(ι:O db)(H:Hp):Go ι ι H H:=⟨⟨[],by simp⟩,λa h n=>absurd h n,λ_ _ _ h=>h⟩
def OR(K:Aa)(ι:O db)(H:Hp)(a:db):PO->Prop
 |.lst xs=>∃vs,H a=am (.lst vs)/\aE K ι H vs xs
 |.dk aA=>∃vs:O (Key×V),H a=am (.dK vs)/\vs.map (·.1)=aA.map (·.1)/\aE K ι H (vs.map (·.2)) (aA.map (·.2))
 |.dt aA=>∃vs:O (O Key×V),H a=am (.dT vs)/\vs.map (·.1)=aA.map (·.1)/\aE K ι H (vs.map (·.2)) (aA.map (·.2))
 |.opq φ=>∃vs,H a=am (.lst vs)/\φ vs
structure HR(K:Aa)(ι:List db)(H:Hp)(h:PH):Prop where
 nd:ι.Nodup
 len:ι.length=h.length
 obj:∀(n:Nat) (a:db) (o:PO),ι[n]?=am a->h[n]?=am o->OR K ι H a o
end
end PL
variable{a e:BW}
namespace PL
section
variable{K:Aa}
abbrev QV:=PV->PH->Prop
structure ME where
 run:zF->PH->QV->Prop
 mono:∀{ps h}{Q Q':QV},(∀v h',Q v h'->Q' v h')->run ps h Q->run ps h Q'
structure MT where
 run:zF->PH->(Bool->PH->Prop)->Prop
 mono:∀{ps h}{Q Q':Bool->PH->Prop},(∀v h',Q v h'->Q' v h')->run ps h Q->run ps h Q'
structure MA where
 run:zF->PH->(List PV->PH->Prop)->Prop
 mono:∀{ps h}{Q Q':List PV->PH->Prop},(∀v h',Q v h'->Q' v h')->run ps h Q->run ps h Q'
structure ML where
 run:zF->PH->(List PV->PH->Prop)->Prop
 mono:∀{ps h}{Q Q':List PV->PH->Prop},(∀v h',Q v h'->Q' v h')->run ps h Q->run ps h Q'
structure Src where
 items:List PV
 ok:PH->Prop
 fz:Bool
structure MI where
 run:zF->PH->(Src->PH->Prop)->Prop
 mono:∀{ps h}{Q Q':Src->PH->Prop},(∀v h',Q v h'->Q' v h')->run ps h Q->run ps h Q'
structure PD where
 nx:zF->PH->Prop
 rt:QV
 bk:zF->PH->Prop
 ct:zF->PH->Prop
structure PD.Le(D D':PD):Prop where
 nx:∀ps h,D.nx ps h->D'.nx ps h
 rt:∀v h,D.rt v h->D'.rt v h
 bk:∀ps h,D.bk ps h->D'.bk ps h
 ct:∀ps h,D.ct ps h->D'.ct ps h
structure MS where
 run:PD->zF->PH->Prop
 mono:∀{D D' ps h},PD.Le D D'->run D ps h->run D' ps h
structure MG where
 run:PV->zF->PH->(zF->PH->Prop)->Prop
 mono:∀{v ps h}{Q Q':zF->PH->Prop},(∀ps h,Q ps h->Q' ps h)->run v ps h Q->run v ps h Q'
def pQ(K:Aa)(ι:O db)(H:Hp)(Q:VK):QV:=λp h'=>∀ι' v H',Go ι ι' H H'->HR K ι' H' h'->VR K ι' H' v p->Q v H'
def PE.imp{t t':TE}(h:PE X e t)(f:∀σ H Q,t' σ H Q->t σ H Q):PE X e t':=λZ s σ H Q I q=>h Z s σ H Q I (f _ _ _ q)
def PT.imp{t t':TT}(h:PT X e t)(f:∀σ H Q,t' σ H Q->t σ H Q):PT X e t':=λZ s σ H Q I q=>h Z s σ H Q I (f _ _ _ q)
def PW.imp{t t':TT}(h:PW X e t)(f:∀σ H Q,t' σ H Q->t σ H Q):PW X e t':=λw Z s σ H Q I q=>h w Z s σ H Q I (f _ _ _ q)
def PA.imp{e:O nw}{t t':TA}(h:PA X e t)(f:∀σ H Q,t' σ H Q->t σ H Q):PA X e t':=λpos Z s σ H Q I q=>h pos Z s σ H Q I (f _ _ _ q)
def PS.imp{e:sB}{t t':TS}(h:PS X e t)(f:∀D σ H,t' D σ H->t D σ H):PS X e t':=λZ s σ H D I q=>h Z s σ H D I (f _ _ _ q)
def mz.imp{e:O sB}{t t':TS}(h:mz X e t)(f:∀D σ H,t' D σ H->t D σ H):mz X e t':=λZ s σ H D I q=>h Z s σ H D I (f _ _ _ q)
def PG.imp{t t':TG}(h:PG X e t)(f:∀v σ H Q,t' v σ H Q->t v σ H Q):PG X e t':=λZ s σ H v u Q I r q=>h Z s σ H v u Q I r (f _ _ _ _ q)
def PI.imp{t t':TI}(h:PI X tg e t)(f:∀σ H Q,t' σ H Q->t σ H Q):PI X tg e t':=λZ s σ H R I q=>h Z s σ H R I (f _ _ _ q)
section
abbrev P2:=PV->PV->PH->QV->Prop
structure M2 where
 f:P2
 mono:∀{x y h}{Q Q':QV},(∀v h',Q v h'->Q' v h')->f x y h Q->f x y h Q'
def M2.Ok(K:Aa)(r:R2)(m:M2):Prop:=∀{ι H h u v x y Q},HR K ι H h->VR K ι H u x->VR K ι H v y->m.f x y h (pQ K ι H Q)->r u v H Q
end
end
section
variable{K:Aa}
section
def kE:∀{vs:O V}{l:O PV},aE K ι H vs l->(!l.isEmpty)=!vs.isEmpty
 |_,_,.nil=>rfl
 |_,_,.cons _ _=>rfl
structure MQ where
 run:zF->PH->(Src->PH->Prop)->Prop
 mono:∀{ps h}{Q Q':Src->PH->Prop},(∀v h',Q v h'->Q' v h')->run ps h Q->run ps h Q'
end
end
section
structure MGs where
 run:List PV->zF->PH->(zF->PH->Prop)->Prop
 mono:∀{v ps h}{Q Q':zF->PH->Prop},(∀ps h,Q ps h->Q' ps h)->run v ps h Q->run v ps h Q'
end
section
variable{K:Aa}
section
structure MB where
 f:List PV->PH->QV->Prop
 mono:∀{l h}{Q Q':QV},(∀v h',Q v h'->Q' v h')->f l h Q->f l h Q'
def MB.Ok(K:Aa)(r:O V->Hp->VK->Prop)(m:MB):Prop:=∀{ι H h vs l Q},HR K ι H h->aE K ι H vs l->m.f l h (pQ K ι H Q)->r vs H Q
end
end
end PL
variable{g':Int->Int->L2.V}{g:Int->Int->PL.PV}
namespace PL
section
variable{K:Aa}
def aI(g:Int->Int->PV):M2:=⟨λx y h Q=>match x,y with|.int i,.int j=>Q (g i j) h|_,_=>False,λf q=>by
 revert q
 split
 .exact f _ _
 .exact λz=>z⟩
def aIc(C:Int->Int->Prop)(g:Int->Int->PV):M2:=⟨λx y h Q=>match x,y with|.int i,.int j=>C i j/\Q (g i j) h|_,_=>False,λf q=>by
 revert q
 split
 .exact λq=>⟨q.1,f _ _ q.2⟩
 .exact λz=>z⟩
def Ie(hg:∀ι H i j,VR K ι H (g' i j) (g i j)):M2.Ok K (Ua g') (aI g):=by
 intro ι H h u v x y Q hr hu hv q;unfold aI at q;dsimp only at q;revert q
 split
 .intro q;cases hu;cases hv;exact⟨_,_,rfl,rfl,q ι _ H (Go.refl _ _) hr (hg _ _ _ _)⟩
 .exact Bx
def KH{C:Int->Int->Prop}(hg:∀ι H i j,VR K ι H (g' i j) (g i j)):M2.Ok K (rI C g') (aIc C g):=by
 intro ι H h u v x y Q hr hu hv q;unfold aIc at q;dsimp only at q;revert q
 split
 .intro q;cases hu;cases hv;exact⟨_,_,rfl,rfl,q.1,q.2 ι _ H (Go.refl _ _) hr (hg _ _ _ _)⟩
 .exact Bx
def GI:=aI λi j=>.int (i-j)
def Qy:=aIc xz λi j=>.int (i*j)
def oMod:=aIc (λ_ j=>0<j) λi j=>.int (i % j)
def Qw:=aIc OE λi j=>.int (i ^ j.toNat)
def oLt:=aI λi j=>.bl (decide (i<j))
def oLe:=aI λi j=>.bl (decide (i<=j))
def oGt:=aI λi j=>.bl (decide (j<i))
def oGe:=aI λi j=>.bl (decide (j<=i))
section
def aE.jc:∀{vs:O V}{l:O PV},aE K ι H vs l->(vs=[]↔l=[])
 |_,_,.nil=>by simp
 |_,_,.cons _ _=>by simp
end
mutual
def PV.dat:PV->Bool
 |.tup l=>pR l
 |.ref _=>false
 |.ty _=>false
 |.cl _=>false
 |.dv _ _=>false
 |.ob _ _=>false
 |.hand=>false
 |_=>true
def pR:O PV->Bool
 |[]=>true
 |x::l=>x.dat&&pR l
end
end
section
variable{K:Aa}
section
def PV.jL:PV->Bool
 |.aM=>true
 |_=>false
def Jf:M2:=⟨λx y h Q=>match y with|.aM=>Q (.bl x.jL) h|_=>False,λf q=>by
 revert q
 split
 .exact f _ _
 .exact λz=>z⟩
def GJ:M2:=⟨λx y h Q=>match y with|.aM=>Q (.bl (!x.jL)) h|_=>False,λf q=>by
 revert q
 split
 .exact f _ _
 .exact λz=>z⟩
def wz{x:PV}(h:VR K ι H v x):decide (v=.aM)=x.jL:=by cases h<;>simp[PV.jL]
def UE:M2.Ok K (λx y H Q=>y=.aM/\Q (.bl (decide (x=.aM))) H) Jf:=by
 intro ι H h u v x y Q hr hu hv q;cases hv with
 |aM=>exact⟨rfl,q ι _ H (Go.refl _ _) hr (by rw[wz hu];exact .bl _)⟩
 |_=>exact q.elim
def Qx:M2.Ok K (λx y H Q=>y=.aM/\Q (.bl (!decide (x=.aM))) H) GJ:=by
 intro ι H h u v x y Q hr hu hv q;cases hv with
 |aM=>exact⟨rfl,q ι _ H (Go.refl _ _) hr (by rw[wz hu];exact .bl _)⟩
 |_=>exact q.elim
end
end
section
variable{K:Aa}
section
def PX{v':V}{w:ci}(h:RelV v w)(h':RelV v' w):v=v':=Option.some.inj (h.abs.symm.trans h'.abs)
end
section
variable{c:nw}
def mIx(a:MQ)(b:ME):ME:=⟨λps h Q=>a.run ps h λS h1=>b.run ps h1 λy h2=>match y with
 |.int k=>S.ok h2/\match fC S.items k with|some v=>Q v h2|none=>False
 |_=>False,λf q=>a.mono (λ_ _ q=>b.mono (λ_ _ q=>by
  revert q
  split
  .rintro⟨q0,q⟩;refine⟨q0,?_⟩;revert q
   split
   .exact f _ _
   .exact λz=>z
  .exact λz=>z) q) q⟩
def aE.fC{l:O PV}(r:aE K ι H vs l){k:Int}{p:PV}(e:L2.fC l k=am p):∃v,L2.fC vs k=am v/\VR K ι H v p:=by
 unfold L2.fC at e ⊢;rw[r.length];cases z:rN l.length k with
 |none=>rw[z]at e;cases e
 |some j=>
  rw[z]at e;exact r.get e
def akh:M2:=⟨λx y h Q=>match x,y with
 |.str z,.int k=>z.length<=sizeLine/\match L2.fC z.cps.toList k with|some c=>Q (.str ⟨#[c]⟩) h|none=>False
 |_,_=>False,λf q=>by
  revert q
  split
  .rintro⟨q0,q⟩;refine⟨q0,?_⟩;revert q
   split
   .exact f _ _
   .exact λz=>z
  .exact λz=>z⟩
def gb:MB:=⟨λl h Q=>match l with
 |[.str y]=>y.length<=sizeLine/\Q (.int y.length) h
 |[.tup l]=>Q (.int l.length) h
 |[.cl l]=>Q (.int l.length) h
 |[.ref n]=>match h[n]? with
  |some (.lst xs)=>Q (.int xs.length) h
  |_=>False
 |_=>False,λf q=>by
  revert q
  split
  .exact λq=>⟨q.1,f _ _ q.2⟩
  .exact f _ _
  .exact f _ _
  .split
   .exact f _ _
   .exact λz=>z
  .exact λz=>z⟩
def V2(K:Aa):MB.Ok K (YG K) gb:=by
 intro ι H h vs l Q hr hv q;unfold gb at q;dsimp only at q;revert q
 split
 .intro q;cases hv with
  |cons x t=>cases t;cases x;exact⟨_,_,rfl,⟨q.1,rfl⟩,q.2 ι _ H (Go.refl _ _) hr (.int _)⟩
 .intro q;cases hv with
  |cons x t=>
   cases t;cases x with
   |tup e r=>exact⟨_,_,rfl,.inr ⟨_,dM.of e,r.length.symm⟩,q ι _ H (Go.refl _ _) hr (.int _)⟩
 .intro q;cases hv with
  |cons x t=>
   cases t;cases x with
   |cl e r=>exact⟨_,_,rfl,.inl ⟨_,e.sq,r.length.symm⟩,q ι _ H (Go.refl _ _) hr (.int _)⟩
 .rename_i n;cases hv with
  |cons x t=>
   cases t;cases x with
   | @ref _ a e=>
   split
   .rename_i xs hn;intro q;obtain⟨ws,e1,e2⟩:=hr.obj n a _ e hn;exact⟨_,_,rfl,.inl ⟨ws,b9.of e1,e2.length.symm⟩,q ι _ H (Go.refl _ _) hr (.int _)⟩
   .exact Bx
 .exact Bx
inductive Kd where
 |str|tup|int|bool
def Kd.name:Kd->String
 |.str=>"str" | .tup=>"tuple" | .int=>"int" | .bool=>"bool"
def Kd.is:Kd->PV->Bool
 |.str,.str _=>true
 |.tup,.tup _=>true
 |.int,.int _=>true
 |.int,.bl _=>true
 |.bool,.bl _=>true
 |_,_=>false
def ab9(K:Aa):O V->Hp->VK->Prop:=λxs H Q=>∃x c t b,xs=[x,.ty c]/\(lU K H x t\/(t=.type "tuple"/\∃a vs,x=.ref a/\dM K H a vs))/\Bu K t (.type c)=am b/\Q (.bl b) H
def Ol(K:Aa)(hK:X.K=K):cj X (.builtin "isinstance") (ab9 K):=by
 subst hK;intro Z s σ H xs us Q I r h;obtain⟨x,c,t,b,rfl,ty|⟨rfl,a,vs,rfl,hT⟩,e,q⟩:=h
 .exact qt Z s σ H _ us Q I r ⟨x,c,t,b,rfl,ty,e,q⟩
 .obtain⟨u,w,rfl,r1,r2⟩:=vals2 r;cases r1;cases r2;obtain⟨aq,_,⟨o,h1,h2,_⟩,_⟩:=I.tuple hT;exact Ba FZ I.qi ⟨o,h1,h2⟩ e (λz=>nomatch z) λtk=>⟨.bl b,H,I.tok _,rfl,q⟩
def rJ(K:Aa):(∀k:Kd,Bu K (.type "NoneType") (.type k.name)=am false)/\(∀k:Kd,Bu K (.type "list") (.type k.name)=am false)/\(∀k:Kd,Bu K (.type "dict") (.type k.name)=am false):=
 ⟨λk=>by cases k<;>kernel_rfl,λk=>by cases k<;>kernel_rfl,λk=>by cases k<;>kernel_rfl⟩
def Zp(K:Aa)(b:Bool)(k:Kd):Bu K (.type "bool") (.type k.name)=am (k.is (.bl b)):=by cases k <;> kernel_rfl
def U1(K:Aa)(b:Int)(k:Kd):Bu K (.type "int") (.type k.name)=am (k.is (.int b)):=by cases k <;> kernel_rfl
def U0(K:Aa)(b:Str)(k:Kd):Bu K (.type "str") (.type k.name)=am (k.is (.str b)):=by cases k <;> kernel_rfl
def UZ(K:Aa)(b:O PV)(k:Kd):Bu K (.type "tuple") (.type k.name)=am (k.is (.tup b)):=by cases k <;> kernel_rfl
def KC:MB:=⟨λl h Q=>match l with|[.int i]=>Q (.int i) h|[.bl k]=>Q (.int (if k then 1 else 0)) h|_=>False,λf q=>by
 revert q
 split
 .exact f _ _
 .exact f _ _
 .exact λz=>z⟩
def V3:MB.Ok K (λxs H Q=>(∃i,xs=[.int i]/\Q (.int i) H)\/∃k,xs=[.bl k]/\Q (.int (if k then 1 else 0)) H) KC:=by
 intro ι H h vs l Q hr hv q;unfold KC at q;dsimp only at q;revert q
 split
 .intro q;cases hv with
  |cons x t=>cases t;cases x;exact .inl ⟨_,rfl,q ι _ H (Go.refl _ _) hr (.int _)⟩
 .intro q;cases hv with
  |cons x t=>cases t;cases x;exact .inr ⟨_,rfl,q ι _ H (Go.refl _ _) hr (.int _)⟩
 .exact Bx
end
end
section
variable{K:Aa}
section
def P0(K:Aa):O V->Hp->VK->Prop:=λxs H Q=>∃p ys,xs=[.ref p]/\((b9 K H p ys/\gL H (.tup ys) Q)\/(dM K H p ys/\Q (.ref p) H))
def Oj(K:Aa)(hK:X.K=K):cj X (.type "tuple") (P0 K):=by
 subst hK;exact vH.mono λxs H Q ⟨p,ys,e,h⟩=>⟨p,ys,e,h.imp (λ⟨h1,h2⟩=>⟨h1,λl hl=>h2.at l hl⟩) λz=>z⟩
structure MQL where
 run:zF->PH->(Src->PH->Prop)->Prop
 mono:∀{ps h}{Q Q':Src->PH->Prop},(∀v h',Q v h'->Q' v h')->run ps h Q->run ps h Q'
structure MO where
 run:zF->PH->(Option Int->PH->Prop)->Prop
 mono:∀{ps h}{Q Q':Option Int->PH->Prop},(∀v h',Q v h'->Q' v h')->run ps h Q->run ps h Q'
def PO.imp{e:Option nw}{t t':TO}(h:L2.PO X e t)(f:∀σ H Q,t' σ H Q->t σ H Q):L2.PO X e t':=λZ s σ H Q I q=>h Z s σ H Q I (f _ _ _ q)
def uA(xs:O PV)(lo hi:Option Int):O PV:=(xs.drop (HT.va xs.length 0 lo)).take (HT.va xs.length xs.length hi-HT.va xs.length 0 lo)
def aE.cut{l:O PV}(r:aE K ι H vs l)(lo hi:Option Int):aE K ι H (Oh vs lo hi) (uA l lo hi):=by
 unfold Oh uA;rw[r.length];exact(r.drop _).take _
end
end
end PL
variable{t1:L2.TE}{tp:Cg}
namespace PL
section
variable{K:Aa}
section
variable{c:nw}
def g8(lo:Int)(n:Nat):O PV:=(Ar n).map λ(i:Nat)=>.int (lo+(i:Int))
def gk(lo:Int)(n:Nat):(g8 lo n).length=n:=by unfold g8;simp
def pJ{lo:Int}{p:PV}(h:(g8 lo n)[i]?=am p):i<n/\p=.int (lo+i):=by
 unfold g8 at h;rw[Af]at h;cases z:(Ar n)[i]? with
 |none=>rw[z]at h;cases h
 |some k=>
  rw[z]at h;obtain⟨h1,h2⟩:=Ai.mp z;simp at h1 h2;subst h2;exact⟨h1,(Option.some.inj h).symm⟩
def qr(lo:Int)(n:Nat):O PV:=(Ar n).map λ(i:Nat)=>.int (lo-(i:Int))
def wJ(lo:Int)(n:Nat):(qr lo n).length=n:=by unfold qr;simp
def wK{lo:Int}{p:PV}(h:(qr lo n)[i]?=am p):i<n/\p=.int (lo-i):=by
 unfold qr at h;rw[Af]at h;cases z:(Ar n)[i]? with
 |none=>rw[z]at h;cases h
 |some k=>
  rw[z]at h;obtain⟨h1,h2⟩:=Ai.mp z;simp at h1 h2;subst h2;exact⟨h1,(Option.some.inj h).symm⟩
def TQ(i:Int):Prop:=-(2 ^ 62)<=i/\i<2 ^ 62
def aeQ(m:MA):MI:=⟨λps h Q=>m.run ps h λl h1=>match l with|[.int j]=>TQ j/\Q ⟨g8 0 j.toNat,λ_=>True,false⟩ h1|_=>False,λf q=>m.mono (λl h1 q=>by
 revert q
 split
 .exact λq=>⟨q.1,f _ _ q.2⟩
 .exact λz=>z) q⟩
def eE(k:Nat):O PV->O PV
 |[]=>[]
 |x::l=>.tup [.int (k:Int),x]::eE (k+1) l
theorem bu:∀(k:Nat) (l:O PV),(eE k l).length=l.length
 |_,[]=>rfl
 |k,x::l=>by rw[eE,Aq,Aq,bu]
theorem dH:∀{k:Nat}{l:O PV}{i:Nat}{p:PV},(eE k l)[i]?=am p->∃x,l[i]?=am x/\p=.tup [.int ((k+i:Nat):Int),x]
 |_,[],_,_,h=>by simp[eE]at h
 |k,x::l,0,p,h=>by simp[eE]at h;subst h;exact⟨x,rfl,by simp⟩
 |k,x::l,i+1,p,h=>by
  obtain⟨y,h1,h2⟩:=dH (by simpa[eE]using h);exact⟨y,by simpa using h1,by rw[h2,show k+1+i=k+(i+1) by lia]⟩
def ZH(K:Aa)(t1:TE):TI:=λσ H R=>t1 σ H λx H1=>∃a,x=.ref a/\(((∃xs,b9 K H1 a xs)/\R (aen K a) H1)\/((∃xs,dM K H1 a xs)/\R (Ite K a) H1))
def Qj{X:Cx}(K:Aa)(hK:X.K=K){e1:nw}{kk:Nat}{p2:Pos}(hg:Gl X "enumerate")(hm:X.mg "enumerate"=ce)(h1:PE X e1 t1)(tX:‹gK X e1 []›):PI X (.Tuple Í kk tp) (.Call (.Name "enumerate" p1) [e1] [] p2) (ZH K t1):=by
 subst hK;intro Z s σ H R I h;refine Bl (fx I hg hm boot_enumerate ?_ ⋯ ⋯);refine A2 ?_ tX rfl;rw[tX];refine B1 (bU (h1 Z s σ H _ I h) λu1 s1 ⟨x,H1,I1,r1,a,ex,hh⟩=>Cs ?_);subst ex;cases r1;have d1:s1.heap.objs.size+1≠s1.heap.objs.size:=Nat.succ_ne_self _;rcases hh with⟨⟨xs,hx⟩,q⟩|⟨⟨xs,hx⟩,q⟩
 .obtain⟨aq,rx,tx,_⟩:=I1.list hx;refine call_enumerate_list tx.isList λh' ze hi _ k=>?_;refine Dx ze ?_;refine⟨_,_,_,_,H1,rfl,I1.kept k,Iz d1,⟨⟨_,ze⟩,hi⟩,λc hc=>?_,q⟩;have Ô:s1.heap.objs.size<=c:=by
   simp at hc;rcases hc with rfl|rfl
   .exact Bi _ _
   .exact Al _
  exact I1.Hn Ô (I1.br.fresh Ô)
 .obtain⟨aq,rx,tx,_⟩:=I1.tuple hx;have l1:=let ⟨_,e,_⟩:=tx;Ap e;refine Kz tx λh' ze hi k=>?_;refine Dx ze ?_;refine⟨_,_,_,_,H1,rfl,I1.kept k,MH d1 (AB (AG l1 (Bi _ 1))) (AB l1),⟨⟨_,ze⟩,hi⟩,λc hc=>?_,q⟩;have Ô:s1.heap.objs.size<=c:=by
   simp at hc;rcases hc with rfl|rfl
   .exact Bi _ _
   .exact Al _
  exact I1.Hn Ô (I1.br.fresh Ô)
def oS:O PV->O PV->O PV
 |x::l,y::m=>.tup [x,y]::oS l m
 |_,_=>[]
theorem sf:∀{l m:O PV}{i:Nat}{p:PV},(oS l m)[i]?=am p->∃x y,l[i]?=am x/\m[i]?=am y/\p=.tup [x,y]
 |[],m,i,p,h=>by simp[oS]at h
 |x::l,[],i,p,h=>by simp[oS]at h
 |x::l,y::m,0,p,h=>by simp[oS]at h;subst h;exact⟨x,y,rfl,rfl,rfl⟩
 |x::l,y::m,i+1,p,h=>by
  obtain⟨u,w,h1,h2,h3⟩:=sf (by simpa[oS]using h);exact⟨u,w,by simpa using h1,by simpa using h2,h3⟩
end
end
end PL
variable{op:PySem.CmpOp}{p3 p4:Cg}
namespace PL
section
variable{K:Aa}
section
structure JC(X:Cx)(K:Aa)(op:CmpOp)(b:nw)(m:M2):Prop where
 p:∃r,iD X (sn op) r/\M2.Ok K r m
 k:tz op b=false
def W9:JC X K .Lt b oLt:=⟨⟨_,acr,Ie λ_ _ _ _=>.bl _⟩,gw _⟩
def acU:JC X K .LtE b oLe:=⟨⟨_,acs,Ie λ_ _ _ _=>.bl _⟩,gw _⟩
def acV:JC X K .Gt b oGt:=⟨⟨_,acu,Ie λ_ _ _ _=>.bl _⟩,gw _⟩
def acW:JC X K .GtE b oGe:=⟨⟨_,acv,Ie λ_ _ _ _=>.bl _⟩,gw _⟩
def yq:JC X K .Is b Jf:=⟨⟨_,Y1,UE⟩,gw _⟩
def U9:JC X K .IsNot b GJ:=⟨⟨_,Uv,Qx⟩,gw _⟩
end
end
end PL
variable{u v:Gh}{i j:Int}
namespace L2
def jM(lo:Int)(n:Nat):O V:=(Ar n).map λ(i:Nat)=>.int (lo+(i:Int))
theorem sA{lo:Int}{acc:Array ci}(h:ItemsOf (λ(i:Nat) v=>∃t,v=.int (lo+(i:Int)*1) t) acc n):Vals (jM lo n) acc.toList:=by
 obtain⟨hs,hi⟩:=h;have go:∀k,k<=n->Vals ((Ar k).map λ(i:Nat)=>V.int (lo+i)) (acc.toList.take k):=by
  intro k
  induction k with
  |zero=>intro _;simp;exact .nil
  |succ k ih=>
   intro hk;have OQ:k<acc.size:=by lia
   rw[Di,Az,C1];have e:acc.toList[k]?=am acc[k]:=by simp[OQ]
   rw[e];refine Vals.append (ih ∅) ?_;obtain⟨t,ht⟩:=hi k acc[k] (by simp[OQ]);refine .cons ⟨t,?_⟩ .nil;rw[ht];simp
 have:=go n (Al _);rw[BX (by simp[hs])]at this;exact this
def vG{s:cr}{Q:O ci->cr->Prop}{r:db}{a b c:Int}{t:Tok}(hh:A.handled=ce)(hr:IsRange s.heap r a b c t u v)(tW:Builtin.Range.small a b c=true)(hn:Builtin.Range.rangeSize a b c=n)(Á:n<=2 ^ 24)(hQ:∀h' tk qW,(∀b o',s.heap.get? b=am o'->h'.get? b=am o')->ItemsOf (λi v=>∃t,v=.int (a+i*c) t) qW n->Q qW.toList {s with heap:=h',toks:=tk}):ga (im prog w) A (collect (.ref r)) Q E s:=by
 unfold collect;refine Ab (wpAny_runValue (u8 F.entry_proto_collect ?_));refine Ab (Bb ?_);refine Ag ⟨wf F.plain_list_iadd _,u8 F.entry_list_iadd ?_⟩;rw[FJ F.plain_list_iadd _];refine BF (wpAny_extend_range (R:=λr' s'=>r'=.ok (.ret (.ref s.heap.objs.size))/\∃h' tk qW c',s'={s with heap:=h',toks:=tk}/\
   (∀b o,b≠s.heap.objs.size->(s.heap.push {cls:=.type "list",data:=.seq ([]).toArray}).get? b=am o->h'.get? b=am o)/\h'.get? s.heap.objs.size=am {cls:=.type "list",dict:=ce,data:=.seq qW c',slots:=#[]}/\ItemsOf (λi v=>∃t,v=.int (a+i*c) t) qW n)
  hh (Ae _ hr) tW hn Á s.heap.objs.size _ 0 (Am _ rfl) λh' tk qW c' k1 k2 k3=>⟨rfl,h',tk,qW,c',rfl,k1,k2,k3⟩) (λfin s' h=>?_) (λe s' h=>?_)
 .have adN:∀SS,(∃h' tk qW c',SS={s with heap:=h',toks:=tk}/\
   (∀b o,b≠s.heap.objs.size->(s.heap.push {cls:=.type "list",data:=.seq ([]:O ci).toArray}).get? b=am o->h'.get? b=am o)/\h'.get? s.heap.objs.size=am {cls:=.type "list",dict:=ce,data:=.seq qW c',slots:=#[]}/\ItemsOf (λi v=>∃t,v=.int (a+i*c) t) qW n)->
   ga (im prog w) A (match Ay s.heap.objs.size with
   |Ay a=>do
    match (<- load a).data with
     |FI xs _=>pure xs.toList
     |_=>unsupported "internal:collect"
   |_=>unsupported "internal:collect") Q E SS:=by
   rintro SS ⟨h',tk,qW,c',rfl,k1,k2,k3⟩;exact Ab (F4 k2 (Ag (hQ h' tk qW (λb o' hb=>k1 b o' (AB (Ap hb)) (Ae _ hb)) k3)))
  cases fin with
  |done f=>
   obtain⟨e,h⟩:=h;cases e;exact adN _ h
  |again c'=>exact⟨h.1,FM h.2 λr SS hr=>by obtain⟨rfl,h⟩:=hr;exact adN _ h⟩
 .exact absurd h.1 (by simp)
theorem jR(r:db)(a b:Int)(t u v:Tok)(n:Nat)(tW:Builtin.Range.small a b 1=true)(hn:Builtin.Range.rangeSize a b 1=n)(Á:n<=2 ^ 24):Meets (wS.«tuple.__new__» ⟨[.type "tuple",.ref r],[]⟩) (λA R s=>A.handled=ce/\IsRange s.heap r a b 1 t u v/\∀(h':r9) (tk:Nat) (acc:Array ci),(∀b o',s.heap.get? b=am o'->h'.get? b=am o')->ItemsOf (λ(i:Nat) v=>∃t,v=.int (a+(i:Int)*1) t) acc n->R (.ok (.ret (.ref h'.objs.size))) {s with heap:=h'.push {cls:=.type "tuple",data:=.seq acc},toks:=tk}):=
 .of_wp λprog w A R s h=>by
  obtain⟨hp,g,d,tk,os⟩:=s;obtain⟨hh,ht,h⟩:=h;have ald:=sub_tuple_self;have aiY:=init_tuple_lookup;have hmh:=madeHere_tuple;have ht':=ht
  wp_walk using BD ht',E9 hT,vG (by exact hh) ht tW hn Á
  intro h' SO acc hk JT;show ga _ _ (Builtin.Tuple.tupleExact acc.toList.toArray >>= λv=>ret v) _ _ _;unfold Builtin.Tuple.tupleExact;have hz:acc.size<=sizeLine:=by rw[JT.1,wT];lia
  refine Ab (Bb ?_ (by show acc.toList.toArray.size<=sizeLine;simpa using hz));refine Ag ⟨_,rfl,?_⟩;have e:acc.toList.toArray=acc:=by simp
  rw[e];exact h h' SO acc hk JT
def pW{s:cr}{r:db}{a b:Int}{t:Tok}(hh:A.handled=ce)(hr:IsRange s.heap r a b 1 t u v)(tW:Builtin.Range.small a b 1=true)(hn:Builtin.Range.rangeSize a b 1=n)(Á:n<=2 ^ 24)(h:∀(h':r9) (tk:Nat) (acc:Array ci),(∀b o',s.heap.get? b=am o'->h'.get? b=am o')->ItemsOf (λ(i:Nat) v=>∃t,v=.int (a+(i:Int)*1) t) acc n->Q (.ref h'.objs.size) {s with heap:=h'.push {cls:=.type "tuple",data:=.seq acc},toks:=tk}):ga (im prog w) A (call (.type "tuple") [.ref r]) Q E s:=
 callType_new F.called_tuple ⋯ (F.typeCall_tuple_1 _) (F.newCall_tuple_1 _) (λobj=>F.args_object_init_2 obj _) F.entry_tuple_new
  (jR r a b t u v n tW hn Á) ⟨hh,hr,λh' tk acc hk JT=>⟨⟨_,Am _ rfl,rfl⟩,h h' tk acc hk JT⟩⟩
section
variable{ta:TA}{p2:Pos}
theorem Fl:Builtin.Range.rangeSize i j 1=(((j-i).toNat:Nat):Int):=by rw[rangeSize_one];split<;>lia
theorem aex{s:cr}{Q:VK}{t u v:Tok}{tk:Nat}(hc:X.calm=true)(I:Inv X Z σ H s)(hb:-(2 ^ 62)<=i/\i < 2 ^ 62/\-(2 ^ 62)<=j/\j < 2 ^ 62)(hz:(j-i).toNat<=1000000)(q:gL H (.tup (jM i (j-i).toNat)) Q):ga (im X.prog X.w) X.A (call (.type "tuple") [.ref s.heap.objs.size]) (EP X Z σ Q) E {s with heap:=s.heap.push {cls:=.type "range",data:=.fields #[.int i t,.int j u,.int 1 v]},toks:=tk}:=by
 refine pW (I.ok.hd hc) (FG ..) (small_one hb.1 hb.2.1 hb.2.2.1 hb.2.2.2) Fl ∅ λh' SO acc kp it=>?_;have I2:=(I.kept λb o e=>Ae _ e).kept (t':=SO) kp;obtain⟨aq,rfl⟩:∃aq:O ci,acc=aq.toArray:=⟨acc.toList,by simp⟩;have rv:=sA it;have hl:(jM i (j-i).toNat).length<=sizeLine:=by unfold jM;rw[Aj,Bs,wT];lia
 refine⟨.ref h'.objs.size,upd H h'.objs.size (.tup (jM i (j-i).toNat)),I2.laid (t':=SO) (λb o e=>Ae _ e) (Al _) ?_,rfl,q.at _ (I2.br.fresh (Al _))⟩;exact⟨hl,aq,by simpa using rv,⟨_,Am _ rfl,rfl,_,rfl⟩,_,Am _ rfl,rfl⟩
theorem TV{s:cr}{Q:VK}{t u v:Tok}{tk:Nat}(hc:X.calm=true)(I:Inv X Z σ H s)(hb:-(2 ^ 62)<=i/\i < 2 ^ 62/\-(2 ^ 62)<=j/\j < 2 ^ 62)(hz:(j-i).toNat<=1000000)(q:gL H (.lst (jM i (j-i).toNat)) Q):ga (im X.prog X.w) X.A (call (.type "list") [.ref s.heap.objs.size]) (EP X Z σ Q) E {s with heap:=s.heap.push {cls:=.type "range",data:=.fields #[.int i t,.int j u,.int 1 v]},toks:=tk}:=by
 have I1:Inv X Z σ H {s with heap:=s.heap.push {cls:=.type "range",data:=.fields #[.int i t,.int j u,.int 1 v]},toks:=tk}:=I.kept λb o e=>Ae _ e;refine call_list_range (I.ok.hd hc) (FG ..) (small_one hb.1 hb.2.1 hb.2.2.1 hb.2.2.2) Fl ∅ λh' SO acc c' kp hS it=>?_;have hl:(jM i (j-i).toNat).length<=sizeLine:=by unfold jM;rw[Aj,Bs,wT];lia
 exact⟨.ref (s.heap.push {cls:=.type "range",data:=.fields #[.int i t,.int j u,.int 1 v]}).objs.size,upd H _ (.lst (jM i (j-i).toNat)),I1.laid kp (Al _) ⟨hl,acc.toList,c',(sA it),by simpa using hS⟩,rfl,q.at _ (I1.br.fresh (Al _))⟩
def okR(i j:Int):Prop:=(-(2 ^ 62)<=i/\i<2 ^ 62/\-(2 ^ 62)<=j/\j<2 ^ 62)/\(j-i).toNat<=1000000
section
variable{T:Str}{Tn:String}{r:VK->Hp->Int->Int->Prop}
def M1(ZU:Gl X "range")(S3:X.mg "range"=ce)(ZV:Gl X T)(ZS:X.mg T=ce)(hb1:re T=am (.type Tn))(ha:PA X [a] ta)(Ñ:∀{Z:O (db×Obj)}{σ:St}{H:Hp}{s:cr}{Q:VK}{i j:Int}{t u v:Tok}{tk:Nat},Inv X Z σ H s->r Q H i j->ga (im X.prog X.w) X.A (call (.type Tn) [.ref s.heap.objs.size]) (EP X Z σ Q) X.xe {s with heap:=s.heap.push {cls:=.type "range",data:=.fields #[.int i t,.int j u,.int 1 v]},toks:=tk})(hn:T≠"__name__")(hd:(T==("__debug__":Str))=false)(ď:lm [.Call (.Name "range" p1) [a] [] p2] X.env=(false,o0 (.Call (.Name "range" p1) [a] [] p2) X.env)::lm [] X.env)(hs:lm [a] X.env=[(false,o0 a X.env)]):PE X (.Call (.Name T p) [.Call (.Name "range" p1) [a] [] p2] [] pos) (λσ H Q=>ta σ H λvs H1=>∃j:Int,vs=[.int j]/\r Q H1 0 j):=by
 intro Z s σ H Q I h;refine Bl (fx I ZV ZS hb1 ?_ hn hd);refine A2 ?_ ď rfl;refine B1 ?_;refine Call_ (fx I ZU S3 boot_range (A2 (bU (ha p2 Z s σ H _ I h) λus s1 ⟨vs,H1,I1,r1,q1⟩=>?_) hs rfl));obtain⟨j,rfl,q⟩:=q1;obtain⟨w,rfl,t,rfl⟩:=vals1 r1;exact call_range_1 (Cs (Ñ I1 q))
end
end
def kj(xs:List α)(lo hi st:Option Int):List α:=(sliceRange (v4 lo hi st xs.length).1 (v4 lo hi st xs.length).2.1 (v4 lo hi st xs.length).2.2).filterMap (xs[·]?)
def v5(r:Vals xs aq)(lo hi st:Option Int):Vals (kj xs lo hi st) (FS aq.toArray lo hi st).toList:=by
 unfold kj FS;rw[An,r.length];generalize sliceRange _ _ _=l
 induction l with
 |nil=>exact .nil
 |cons k l ih=>
  rw[AJ,AJ];cases e:xs[k]? with
  |none=>
   have e2:=r.none_of e;have e3:aq.toArray[k]?=ce:=by simpa using e2
   rw[e3];exact ih
  |some x=>
   obtain⟨u,hu,ru⟩:=r.get e;have e3:aq.toArray[k]?=am u:=by simpa using hu
   rw[e3];exact .cons ru ih
section
variable{st:nw}{lo hi:Option nw}{tl th ts:TO}{p2:Pos}
def af0(K:Aa)(te:TE)(tl th ts:TO):TE:=λσ H Q=>te σ H λx H1=>tl σ H1 λl H2=>th σ H2 λu H3=>ts σ H3 λs H4=>∃a xs,x=.ref a/\b9 K H4 a xs/\s≠am 0/\gL H4 (.lst (kj xs l u s)) Q
theorem Na(K:Aa)(hK:X.K=K)(he:PE X e te)(hl:PO X lo tl)(hu:PO X hi th)(hs:PO X (am st) ts):PE X (.Subscript e (.Slice lo hi (am st) p2) pos) (af0 K te tl th ts):=by
 subst hK;intro Z s σ H Q I h;refine Subscript_ (bU (he Z s σ H _ I h) λv s1 ⟨x,H1,I1,r1,q1⟩=>?_);refine wpAny_Slice (bU (hl Z s1 σ H1 _ I1 q1) λvl s2 ⟨l,H2,I2,pl,q2⟩=>bU (hu Z s2 σ H2 _ I2 q2) λvu s3 ⟨u,H3,I3,pu,q3⟩=>bU (hs Z s3 σ H3 _ I3 q3) λvs s4 ⟨c,H4,I4,ps,a,xs,ea,hx,c0,q⟩=>?_);subst ea;cases r1;have I5:Inv X Z σ H4 {s4 with heap:=s4.heap.push {cls:=.type "slice",data:=.fields #[vl,vu,vs]}}:=I4.kept λb ob q=>Ae _ q;obtain⟨aq,r,pL,hz⟩:=I5.list hx;have Á:=r.length;refine tail_any pL.isList.typeIs list_getitem_lookup ?_ (by with_unfolding_all rfl);refine EO pL.isList (Heap.IsSliceOf.new ..) pl pu ps c0 ?_ (by simp;lia);have ĩ:(kj xs l u c).length<=sizeLine:=by
  have h1:=(v5 r l u c).length;have h2:=slicePick_size_le aq.toArray l u c;have h3:(FS aq.toArray l u c).toList.length=(FS aq.toArray l u c).size:=by simp
  have h4:aq.toArray.size=aq.length:=by simp
  lia
 refine⟨.ref _,upd H4 _ (.lst (kj xs l u c)),I5.laid (t':=s4.toks) (λb ob q=>Ae _ q) (Al _) ?_,rfl,q.at _ (I5.br.fresh (Al _))⟩;exact⟨ĩ,_,0,v5 r l u c,by rw[show(FS aq.toArray l u c).toList.toArray=FS aq.toArray l u c by simp];exact Am _ rfl⟩
end
end L2
namespace PL
section
variable{K:Aa}
section
variable{st:nw}
def O4(lo:Int)(n:Nat):aE K ι H (jM lo n) (g8 lo n):=by
 unfold jM g8
 induction Ar n with
 |nil=>exact .nil
 |cons k l ih=>exact .cons (.int _) ih
def aE.pick{l:O PV}(r:aE K ι H vs l)(lo hi st:Option Int):aE K ι H (kj vs lo hi st) (kj l lo hi st):=by
 unfold kj;rw[r.length];generalize sliceRange _ _ _=ks
 induction ks with
 |nil=>exact .nil
 |cons k ks ih=>
  rw[AJ,AJ];cases e:l[k]? with
  |none=>
   have e2:vs[k]?=ce:=by
    rw[C8]at e ⊢;rw[r.length];exact e
   rw[e2];exact ih
  |some x=>
   obtain⟨u,hu,ru⟩:=r.get e;rw[hu];exact .cons ru ih
end
end
theorem HN:∀{l:O PV},pR l=true↔∀x∈l,x.dat=true
 |[]=>by simp[pR]
 |x::l=>by rw[pR,A1,HN];simp
section
variable{K:Aa}
section
def R0{l:O PV}(h:aE K ι H vs l):vs.isEmpty=l.isEmpty:=by cases h<;>rfl
def aE.rep{l:O PV}(h:aE K ι H vs l):∀k:Nat,aE K ι H (Ao k vs).flatten (Ao k l).flatten
 |0=>.nil
 |k+1=>by
  exact h.append (h.rep k)
theorem lA:∀{ns:O Int}{vs:O V},aE K ι H vs (ns.map PV.int)->vs=ns.map V.int
 |[],_,h=>by cases h;rfl
 |b::bs,_,h=>by
  cases h with
  |cons x t=>cases x;rw[lA t];rfl
theorem rO(ι:O db)(H:Hp):∀ns:O Int,aE K ι H (ns.map V.int) (ns.map PV.int)
 |[]=>.nil
 |n::ns=>.cons (.int n) (rO ι H ns)
def YD(K:Aa):O V->Hp->VK->Prop:=λxs H Q=>∃(p:db) (ns:O Int),xs=[.ref p]/\b9 K H p (ns.map V.int)/\ns.length<64/\∀ms:O Int,ms.Perm ns->ms.Pairwise (·<=·)->gL H (.lst (ms.map V.int)) Q
theorem Kv(K:Aa)(hK:X.K=K):cj X (.builtin "sorted") (YD K):=by
 subst hK;intro Z s σ H xs us Q I r h;obtain⟨p,ns,rfl,hq,é,q⟩:=h;obtain⟨u,rfl,rx⟩:=vals1 r;cases rx;obtain⟨aq,r',pl,hz⟩:=I.list hq;have hl:=r'.length;rw[Aj]at hl hz;refine PyProof.Rows.sorted_ints pl.isList (intsAre_of r') ∅ λout ms a1 a2 a3=>?_;obtain⟨e,he⟩:=sortedAll_at s.heap aq out;refine⟨.ref (s.heap.objs.size+1),_,I.laid (λ_ _=>sortedAll_old) (Dn _) (show bE X.prog X.w _ _ _ (.lst (ms.map V.int)) from⟨?_,out.toList,e,kW a1,?_⟩),rfl,(q ms a2 a3).at _ (I.br.fresh (Dn _))⟩
 .rw[Aj,a2.length_eq];exact hz
 .exact he
end
end
end PL
variable{xs:Array A8}{a:A9}{o:FR}
namespace L2
def mP{s:cr}{name:Str}{Q:Option ci->cr->Prop}(hx:s.heap.get? a=am o)(hc:o.cls=.type "list")(qN:o.data=.seq xs k)(hd:o.dict=ce)(adb:KF (.type "list") name=pure ce)(ada:(["__module__","__name__","__qualname__","__doc__","__annotations__"]:O Str).contains name=false)(hA:A.handled=ce)(h:∀h' tk e,Heap.NewExcOf s.heap h' e "AttributeError"->Q ce {s with heap:=h',toks:=tk})(uR:name.length+100<=sizeLine:=by size_fits):ga (im prog w) A (getAttr? (.ref a) name) Q E s:=by
 obtain⟨c,dct,dat,sl⟩:=o;simp only at hc qN hd;subst hc qN hd;obtain⟨hp,g,d,tk,os⟩:=s;have hT:∀SO,(⟨hp,g,d,SO,os⟩:cr).TypeIs (.ref a) "list":=λ_=>⟨_,hx,rfl⟩;have f1:=sub_AttributeError;have f3:=Dg.lookup;have f4:=Dg.bind (.ref a);have f5:=am_list_getattr_none
 repeat (any_goals (first | assumption | exact hT _ | ((with_reducible show ga _ _ (call (Value.builtin "list.__getattribute__") _ _) _ _ _);refine wE Dg (hT _) am_entry_list_getattribute (F.args_list_getattribute_2 _ _) (meets_getattribute_miss_list a xs k sl name _ adb ada uR) ⟨hx,hA,λh' SO e wB=>?_⟩) | wp_step))
 obtain⟨t',u',he⟩:=wB.there;unfold getattributeRaised
 repeat (any_goals (first|assumption|wp_step))
 exact h _ _ _ wB.of
end L2
variable{b d:A9}{v:A8}
namespace L2
def hV:entryFor table "dict.update.loop"=am wS.«dict.update.loop»:=entryFor_of_fast (by kernel_rfl)
def gT:plainId "dict.update.loop"=true:=by decide +kernel
section
variable{K:Type}[DecidableEq K]{knd:KeyKind prog w K}
def zx(knd:KeyKind prog w K)(h:r9)(it d:db)(v:ci)(x:O K×db×ci):Prop:=
 ∃pa o n,v=.ref pa/\pa≠it/\pa≠d/\x.2.1≠it/\x.2.1≠d/\h.get? pa=am o/\o.cls=.type "tuple"/\o.data=.seq #[.ref x.2.1,x.2.2] n/\(sK knd).is h x.1 x.2.1
def xi{k:O K}(x:(sK knd).is h k b)(kp:∀o,h.get? b=am o->h'.get? b=am o):(sK knd).is h' k b:=by
 obtain⟨o,aq,n,h1,h2⟩:=x;exact⟨o,aq,n,kp _ h1,h2⟩
def zx.keep{x:O K×db×ci}(p:zx knd h it d v x)(kp:∀b o,b≠it->b≠d->h.get? b=am o->h'.get? b=am o):zx knd h' it d v x:=by
 obtain⟨pa,o,n,e,n1,n2,n3,n4,h1,h2,h3,h4⟩:=p;exact⟨pa,o,n,e,n1,n2,n3,n4,kp _ _ n1 n2 h1,h2,h3,xi h4 λo q=>kp _ _ n3 n4 q⟩
def y8{xs:O (O K×db×ci)}(m:h.DictOfH (sK knd) d xs)(hd:d≠it)(hx:∀x∈xs,x.2.1≠it)(kp:∀b o,b≠it->h.get? b=am o->h'.get? b=am o):h'.DictOfH (sK knd) d xs:=by
 obtain⟨o,es,ep,ho,hc,ÿ,he,Xj,hn⟩:=m;exact⟨o,es,ep,kp _ _ hd ho,hc,ÿ,he,λx q=>xi (Xj x q) λo z=>kp _ _ (hx x q) z,hn⟩
def zQ{xs:O (O K×db×ci)}{k:O K}(hx:∀x∈xs,x.2.1≠it)(hb:b≠it):∀x∈storedH xs k b v,x.2.1≠it:=by
 intro x q;unfold storedH at q
 split at q
 .obtain⟨y,hy,rfl⟩:=Au.mp q;have e:(putAt k v y).2.1=y.2.1:=by unfold putAt;split<;>rfl
  rw[e];exact hx y hy
 .rcases AX.mp q with q|q
  .exact hx x q
  .rw[Aw.mp q];exact hb
def zR{xs:O (O K×db×ci)}{k:O K}:(storedH xs k b v).length<=xs.length+1:=by
 unfold storedH
 split<;>simp
theorem zJ(hA:A.handled=ce)(hu:A.units+1 < ul){l:db}(hz:items.size+items.size<=sizeLine)(ĸ:d≠it)(hli:l≠it)(hld:l≠d):∀(k i:Nat) (ys xs:O (O K×db×ci)) (s:cr),items.size-i=k->i<=items.size->ys.length=items.size-i->xs.length<=i->s.heap.IsListIter it l i->s.heap.IsList l items->s.heap.DictOfH (sK knd) d xs->(∀x∈xs,x.2.1≠it)->(∀j x,ys[j]?=am x->∃v,items[i+j]?=am v/\zx knd s.heap it d v x)->(∀h' tk,h'.DictOfH (sK knd) d (ys.foldl (λa y=>storedH a y.1 y.2.1 y.2.2) xs)->(∀b o,b≠it->b≠d->s.heap.get? b=am o->h'.get? b=am o)->R (.ok (.ret .none)) {s with heap:=h',toks:=tk})->Fk (im prog w) A (.builtin "dict.update.loop" ⟨[.ref d,.ref it,Db i,.none],[]⟩) R s:=by
 intro k
 induction k with
 |zero=>
  intro i ys xs s hk hi hy hxl Ð hl hd hx hp q;have e0:ys=[]:=B7 ∅;subst e0;refine u8 hV ?_;refine Ab (wpAny_pyNext_list_end hA Ð hl (by rw[Fh];lia) λh' ex=>?_);have kp:=ex;exact Ab (Ag (Ag (q h' s.toks (y8 hd ĸ hx kp) λb o n1 _ e=>kp b o n1 e)))
 |succ k ih=>
  intro i ys xs s hk hi hy hxl Ð hl hd hx hp q
  match ys,hy,hp,q with
  |[],hy,_,_=>exact absurd hy (by simp;lia)
  |y::ys,hy,hp,q=>
  obtain⟨v,hv,pa⟩:=hp 0 y rfl;refine u8 hV ?_;refine Ab (wpAny_pyNext_list_item Ð hl (by simpa using hv) λh1 ahl sb=>?_);have UY:∀b o,b≠it->s.heap.get? b=am o->h1.get? b=am o:=λb o hb e=>(sb.2 b hb).trans e;have ĵ:h1.IsList l items:=let ⟨o,e,p⟩:=hl;⟨o,UY _ _ hli e,p⟩;obtain⟨p,o,n,rfl,n1,n2,n3,n4,g1,g2,g3,g4⟩:=(pa.keep λb o n1 _ e=>UY b o n1 e);refine Ab (Bn (Ab (Eo ?_)));refine Ab (E9 ⟨_,g1,g2⟩ ?_);refine Ab (Bv g1 g3 (Ag ?_));refine Bn (wpAny_dictSet_heap (tupleKind_room_in1 hu) g4 (y8 hd ĸ hx UY) (λh2 Ø sb2=>?_) ∅);have ģ:∀b o,b≠d->h1.get? b=am o->h2.get? b=am o:=λb o hb e=>(sb2.2 b hb).trans e;refine Ag ⟨wf gT _,?_⟩;have kp:∀b o,b≠it->b≠d->s.heap.get? b=am o->h2.get? b=am o:=λb o a1 a2 e=>ģ _ _ a2 (UY _ _ a1 e);refine ih (i+1) ys (storedH xs y.1 y.2.1 y.2.2) _ ∅ ∅ (by rw[Aq]at hy;lia) (Ax zR ∅) ?_ ?_ Ø (zQ hx n3) (λj x hj=>?_) (λh' tk dd k3=>?_)
  .obtain⟨o',e1,e2⟩:=ahl;exact⟨o',ģ _ _ (BQ ĸ) e1,e2⟩
  .obtain⟨o',e1,e2⟩:=ĵ;exact⟨o',ģ _ _ hld e1,e2⟩
  .obtain⟨v',h3,h4⟩:=hp (j+1) x hj;exact⟨v',by rw[show i+1+j=i+(j+1) by lia];exact h3,h4.keep kp⟩
  .exact q h' tk dd λb o a1 a2 e=>k3 b o a1 a2 (kp b o a1 a2 e)
end
def ya:KF (.type "list") (C3 "keys")=pure ce:=am_miss_of_fast (by decide +kernel)
section
variable{K:Type}[DecidableEq K]{knd:KeyKind prog w K}{s:cr}
theorem qV{l:db}{ys:O (O K×db×ci)}(hA:A.handled=ce)(hu:A.units+2 < ul)(ho:s.heap.get? l=am o)(hc:o.cls=.type "list")(qN:o.data=.seq items n)(hd:o.dict=ce)(hz:items.size+items.size<=sizeLine)(hy:ys.length=items.size)(hp:∀(j:Nat) (x:O K×db×ci),ys[j]?=am x->∃(pa:db) (op:Obj) (m:Nat),items[j]?=am (Ay pa)/\s.heap.get? pa=am op/\op.cls=.type "tuple"/\op.data=.seq #[Ay x.2.1,x.2.2] m/\(sK knd).is s.heap x.1 x.2.1)(q:∀h' tk,(∀b o,s.heap.get? b=am o->h'.get? b=am o)->h'.DictOfH (sK knd) s.heap.objs.size (ys.foldl (λa y=>storedH a y.1 y.2.1 y.2.2) [])->Q (.ref s.heap.objs.size) {s with heap:=h',toks:=tk}):ga (im prog w) A (call (.type "dict") [.ref l]) Q E s:=by
 refine callType_codes (Q₁:=λobj s₁=>obj=.ref s.heap.objs.size/\s₁={s with heap:=s.heap.push {cls:=.type "dict",data:=.dict #[]}}) F.kt_called_dict (F.kt_typeCall_dict_1 _) F.entry_dict_init (kt_code_dict_new _ ⟨rfl,rfl⟩) ?_;rintro obj s₁ ⟨rfl,rfl⟩;have ċ:∀b o,s.heap.get? b=am o->(s.heap.push {cls:=.type "dict",data:=.dict #[]}).get? b=am o:=λb o e=>Ae _ e;have Vh:(s.heap.push {cls:=.type "dict",data:=.dict #[]}).DictOf knd s.heap.objs.size []:=Heap.DictOf.new s.heap;have ls:∀b o,s.heap.get? b=am o->b≠s.heap.objs.size:=λb o e z=>by subst z;exact AR _ (Ap e)
 refine⟨Vh.typeIs,F.args_dict_init_2 _ _,?_⟩;refine Ab ?_;refine Ab (wpAny_notOrdered_dict Vh.typeIs ?_);refine Ag ?_;refine Ab (E9 ⟨_,ċ _ _ ho,hc⟩ ?_);refine Ab (mP (ċ _ _ ho) hc qN hd ya (by decide +kernel) hA (λh1 tk e nx=>?_) ⋯);refine Ab (Dl (Ab ?_));refine EG ⟨_,nx.keeps _ _ (ċ _ _ ho),hc,n,qN⟩ ?_;have uR:=Ap (nx.keeps _ _ (Am s.heap rfl));have UY:∀b o,s.heap.get? b=am o->(h1.push {cls:=.type "list_iterator",data:=.fields #[.ref l,.int 0 0]}).get? b=am o:=λb o e=>Ae _ (nx.keeps _ _ (ċ _ _ e));have ni:∀b o,s.heap.get? b=am o->b≠h1.objs.size:=λb o e z=>by
  subst z;exact AR _ (Nat.lt_trans (Ap e) uR)
 refine Ag ⟨wf gT _,?_⟩;refine zJ (A:=A.in1) (knd:=knd) hA (by show A.units+1+1<_;lia) (items:=items) (l:=l) hz (AB uR) (ni _ _ ho) (ls _ _ ho) items.size 0 ys [] _ (Fb _) (Bc _) (by rw[hy];rfl) (Al _)
  ⟨_,Am _ rfl,rfl,rfl⟩ ⟨_,UY _ _ ho,hc,n,qN⟩ ?_ (λx hx=>nomatch hx) (λj x hj=>?_) (λh' SO dd kp=>?_)
 .refine y8 (it:=h1.objs.size) (⟨_,#[],0,Am _ rfl,⟨rfl,rfl,rfl⟩,rfl,rfl,λx hx=>absurd hx (DW),FN⟩) (AB uR) (λx hx=>nomatch hx) λb o _ e=>Ae _ (nx.keeps _ _ e)
 .obtain⟨pa,op,m,e1,e2,e3,e4,e5⟩:=hp j x hj;have kb:∃ob,s.heap.get? x.2.1=am ob:=let ⟨ob,_,_,z,_⟩:=e5;⟨ob,z⟩;obtain⟨ob,eb⟩:=kb;exact⟨.ref pa,by rw[AW];exact e1,pa,op,m,rfl,ni _ _ e2,ls _ _ e2,ni _ _ eb,ls _ _ eb,UY _ _ e2,e3,e4,xi e5 λo z=>UY _ _ z⟩
 .exact⟨rfl,q h' SO (λb o e=>kp b o (ni _ _ e) (ls _ _ e) (UY _ _ e)) dd⟩
end
structure Pz where
 pa:db
 k:List Key
 b:db
 v:V
def Pz.At(H:Hp)(z:Pz):Prop:=H z.pa=am (.tup [.ref z.b,z.v])/\H z.b=am (.tup (z.k.map kV))
def YJ(K:Aa):O V->Hp->VK->Prop:=λxs H Q=>∃(p:db) (zs:O Pz),xs=[.ref p]/\b9 K H p (zs.map λz=>.ref z.pa)/\(∀z∈zs,z.At H)/\(zs.map (·.k)).Nodup/\zs.length<=1000/\gL H (.dT (zs.map λz=>(z.k,z.v))) Q
theorem ql{K:Type}[DecidableEq K]:∀(ys xs:O (K×db×ci)),((xs++ys).map (·.1)).Nodup->ys.foldl (λa y=>storedH a y.1 y.2.1 y.2.2) xs=xs++ys
 |[],xs,_=>by simp
 |y::ys,xs,h=>by
  have hn:atKey xs y.1=ce:=by
   cases e:atKey xs y.1 with
   |none=>rfl
   |some p=>
    exfalso;rw[Az,Av]at h;have hm:y.1∈xs.map (·.1):=by
     by_cases hc:y.1∈xs.map (·.1)
     .exact hc
     .rw[atKey_none_of_get (λj q hj=>?_)]at e
      .cases e
      .exact hc (Au.mpr ⟨_,AU hj,rfl⟩)
    exact((CW.mp h).2.2) _ hm _ Bw rfl
  rw[Dj,storedH_new hn,ql ys (xs++[(y.1,y.2.1,y.2.2)]) (by simpa using h)];simp
section
theorem KA(K:Aa)(hK:X.K=K)(hc:X.calm=true)(hu:X.A.units+2 < ul):cj X (.type "dict") (YJ K):=by
 subst hK;intro Z s σ H xs us Q I r h;obtain⟨p,zs,rfl,hq,hz,hn,hl,q⟩:=h;obtain⟨u,rfl,rx⟩:=vals1 r;cases rx;obtain⟨aq,rv,pl,uR⟩:=I.list hq;obtain⟨o,n,ho,Xp,hd,qN⟩:=pl;have Ą:∀(zs:O Pz) aq,(∀z∈zs,z.At H)->Vals (zs.map λz=>V.ref z.pa) aq->∃ys:O (O Key×db×ci),ys.map (·.1)=zs.map (·.k)/\KT H (zs.map λz=>(z.k,z.v)) ys/\
   ∀(j:Nat) x,ys[j]?=am x->∃(pa:db) (op:Obj) (m:Nat),aq[j]?=am (Ay pa)/\s.heap.get? pa=am op/\op.cls=.type "tuple"/\op.data=.seq #[Ay x.2.1,x.2.2] m/\(sK (cx X.prog X.w)).is s.heap x.1 x.2.1:=by
  intro zs
  induction zs with
  |nil=>intro aq _ _;exact⟨[],rfl,.nil,λj x h=>by simp at h⟩
  |cons z zs ih=>
   intro aq ha hv;cases hv with
   | @cons _ u _ us ru rus=>
   cases ru;obtain⟨ys,e1,e2,e3⟩:=ih us (λy hy=>ha y (AL _ hy)) rus;obtain⟨a1,a2⟩:=ha z Bw;obtain⟨_,eT,r',⟨op,h1,h2,m,h3⟩,_⟩:=(I.br _ _ a1);obtain⟨w,rfl,z9⟩:∃w,eT=[Ay z.b,w]/\RelV z.v w:=by
    cases r' with
    |cons q1 q2=>cases q1;cases q2 with
     |cons q3 q4=>cases q4;exact⟨_,rfl,q3⟩
   refine⟨(z.k,z.b,w)::ys,by rw[Av,Av,e1],.cons ⟨rfl,a2,z9⟩ e2,λj x hj=>?_⟩;cases j with
   |zero=>
    cases hj;exact⟨z.pa,op,m,rfl,h1,h2,h3,Jw I.br a2⟩
   |succ j=>exact e3 j x hj
 obtain⟨ys,e1,e2,e3⟩:=Ą zs aq hz rv;have Á:=rv.length;rw[Aj]at Á;have č:ys.length=zs.length:=by have:=congrArg Cv e1;simpa using this
 have hs:1000+1000<=sizeLine:=by decide
 refine qV (knd:=cx X.prog X.w) (ys:=ys) (I.ok.hd hc) hu ho Xp qN hd (by rw[An];lia) (by rw[An];lia) (λj x hj=>?_) (λh' tk kp dd=>?_)
 .obtain⟨pa,op,m,g1,g2⟩:=e3 j x hj;exact⟨pa,op,m,by rw[Fz];exact g1,g2⟩
 .rw[ql ys [] (by rw[List.nil_append,e1];exact hn),List.nil_append]at dd;obtain⟨od,es,ep,S2,h2,h3,h4,_,h5⟩:=dd;have fr:=I.br.fresh (Al s.heap.objs.size);refine⟨.ref s.heap.objs.size,_,I.laid kp (Al _) (show bE X.prog X.w (upd H s.heap.objs.size (.dT (zs.map λz=>(z.k,z.v)))) h' _ (.dT _) from⟨?_,(beq_eq_false_iff_ne.mpr (BQ (AB I.big))),ys,?_,od,es,ep,S2,h2,h3,h4,h5⟩),rfl,q.at _ fr⟩
  .rw[Aj];exact Ax hl ⋯
  .refine e2.keeps λc xs ec=>?_;rw[aj (λz=>by subst z;rw[fr]at ec;cases ec)];exact ec
end
end L2
variable{i ep:Nat}{es:Array PySem.DictEntry}
namespace L2
section
variable{s:cr}
def We(h:r9)(d:db)(es:Array DictEntry)(ep:Nat):Prop:=∃o,h.get? d=am o/\o.ExactDict/\o.data=.dict es ep
def QC{Q:Option ci->cr->Prop}(Ð:s.heap.IsKeyIter it d i es.size ep)(hm:We s.heap d es ep)(hi:i<es.size)(q:∀h',h'.IsKeyIter it d (i+1) es.size ep->Ce it s.heap h'->Q (am es[i].key) {s with heap:=h'}):ga (im prog w) A (pyNext (.ref it)) Q E s:=by
 have ty:=Ð.typeIs;obtain⟨o,ho,hc,hd⟩:=id Ð;obtain⟨od,NP,-,Xl⟩:=hm;have adi:(s.heap.update it (Obj.mapFields (·.setIfInBounds 1 (Db (i+1))))).IsKeyIter it d (i+1) es.size ep:=⟨_,BH _ ho (Fw (Dk hd _)),(Obj.cls_mapFields ..).trans hc,by rw[Dk hd];simp[Db]⟩;refine Ab (Dh (Bh ty BO (Bo BO ty D1 ?_ (DS _))));refine Ab (Ag (Ab (Ab ?_)))
 first|refine Ab (B2 ty (Ag ?_))|refine Ab (Cy ty (Ag ?_))
 refine Ab (wpAny_fieldsOf ho hd ?_);show ga _ _ (if (Ay d==A4)=true then _ else _) _ _ s;refine Ab (Ag (Ab (EH NP Xl ?_)));rw[if_neg (by simp)];refine Ab (Ag (Ab (Fp NP Xl ?_)));rw[if_neg (by simp)];refine Ag ?_;simp only[if_false,Ca,C9 hi];refine Ab ?_
 first|refine Ab (B2 ty (Ag ?_))|refine Ab (Cy ty (Ag ?_))
 refine Ab (wpAny_isOneOf_keyiter ty ?_);show ga _ _ (setField (.ref it) 1 (Db ((i:Int)+1)) >>= _) _ _ s;exact Ab (Ep ho hd (by simp) (Ab (Bn (Ab (wpAny_isOneOf_keyiter adi.typeIs (Ag (Ag ⟨_,rfl,Ag (q _ adi (Ce.update ..))⟩)))))))
def VA{Q:Option ci->cr->Prop}(hh:A.handled=ce)(Ð:s.heap.IsKeyIter it d i es.size ep)(hm:We s.heap d es ep)(hi:es.size<=i)(q:∀h',Gi it s.heap h'->Q ce {s with heap:=h'}):ga (im prog w) A (pyNext (.ref it)) Q E s:=by
 have ty:=Ð.typeIs;obtain⟨o,ho,hc,hd⟩:=id Ð;obtain⟨od,NP,-,Xl⟩:=hm;refine Ab (Dh (Bh ty BO (Bo BO ty D1 ?_ (DS _))));refine Ab (Ag (Ab (Ab ?_)))
 first|refine Ab (B2 ty (Ag ?_))|refine Ab (Cy ty (Ag ?_))
 refine Ab (wpAny_fieldsOf ho hd ?_);show ga _ _ (if (Ay d==A4)=true then _ else _) _ _ s;refine Ab (Ag (Ab (EH NP Xl ?_)));rw[if_neg (by simp)];refine Ab (Ag (Ab (Fp NP Xl ?_)));rw[if_neg (by simp)];refine Ag ?_;simp only[if_false,Ca,Fh hi];refine Ab ?_
 first|refine Ab (B2 ty (Ag ?_))|refine Ab (Cy ty (Ag ?_))
 show ga _ _ (setField (.ref it) 0 .none >>= _) _ _ s;refine Ab (Ep ho hd (by simp) ?_);refine Ab ?_;refine Ab (Bb (Ab (CH (by first|rfl|(simp;rfl)) (Bb ?_ (by size_fits)))) (by size_fits));unfold raiseNew;refine Ab (wpAny_handled ?_);rw[show A.in1.handled=ce from hh];refine Ab (Ag (wpAny_throw ?_));refine Ab (DT ⟨_,Am _ rfl,rfl⟩ isSubtype_stop ?_);exact Ag (q _ (((Ce.update ..).extBut.push _).push _))
def Rj(hs:(d==Gc)=false)(hm:We s.heap d es ep)(q:Q (.ref s.heap.objs.size) {s with heap:=s.heap.push {cls:=.type "dict_keyiterator",data:=.fields #[.ref d,.int 0 0,.int es.size 0,.int ep 0]}}):ga (im prog w) A (pyIter (.ref d)) Q E s:=by
 obtain⟨od,NP,hx,Xl⟩:=hm;have ty:s.TypeIs (.ref d) "dict":=⟨_,NP,hx.1⟩;refine wpAny_pyIter_slot ty F.slot_dict_iter (Bo F.slot_dict_iter ty F.entry_dict_iter ?_ (F.args_dict_iter_1 _));refine Ab ?_;refine Ab (wpAny_notOrdered_dict ty ?_);refine Ag ?_;show ga _ _ (Builtin.Dict.showsAll d >>= _) _ _ s;unfold Builtin.Dict.showsAll;rw[if_neg (by rw[hs];exact AY)];exact Ab (Ag (Ab (EH NP Xl (Ab (Fp NP Xl (Ab (Bb (Ag ⟨_,rfl,"dict_keyiterator",_,⟨_,Am _ rfl,rfl⟩,BO.lookup,q⟩))))))))
end
end L2
variable{u:L2.HO}
namespace L2
section
variable{s:cr}
def Inv.freeze(I:Inv X Z σ H s)(e:H a=am (.dT aA)):∃o,Inv X Z σ (upd H a (.bS o (.dT aA))) s:=by
 obtain⟨z,hs,xs,r,o,es,ep,h1,h2,h3,h4,h5⟩:=(show bE X.prog X.w H s.heap a (.dT aA) from I.br a _ e);refine⟨o,?_⟩;have q:=I.write (x:=a) (e:=a) (o:=.bS o (.dT aA)) (h':=s.heap) (t':=s.toks) (by rw[e];exact BV) (.inl rfl) (λb u _ z=>z) ⟨o,h1⟩
  ⟨h1,z,hs,xs,KT.keeps r λb ys eb=>by rw[aj (Ly eb e (λz=>nomatch z))];exact eb,o,es,ep,h1,h2,h3,h4,h5⟩
 exact q
def Inv.Pa(I:Inv X Z σ H s)(e:H a=am (.bS o u))(h0:∀o u,X.H₀ a≠am (.bS o u))(hu:bE X.prog X.w (upd H a u) s.heap a u)(br:lV X.prog X.w (upd H a u) s.heap):Inv X Z σ (upd H a u) s:=by
 have ne:∀b v,H b=v->v≠am (.bS o u)->b≠a:=λb v q n z=>by subst z;exact n (q.symm.trans e)
 refine⟨I.ok,I.os,I.bare,⟨I.base.keep,I.base.slot,λb ob q n hx=>?_,I.base.there,λb xs q=>?_,λb ob xs q=>?_,λb ps q=>?_⟩,I.loc,I.cell,?_,λx c q=>?_,λp hp=>?_,br,I.len⟩
 .have:=I.base.free b ob q n hx;rw[aj (ne b _ this (by simp))];exact this
 .have:=I.base.dB b xs q;rw[aj (ne b _ this (by simp))];exact this
 .have:=I.base.qR b ob xs q;have hb:b≠a:=λz=>by subst z;exact h0 _ _ q
  rw[aj hb];exact this
 .obtain⟨m,this⟩:=I.base.u5 b ps q;exact⟨m,by rw[aj (ne b _ this (by simp))];exact this⟩
 .rw[aj (ne _ _ I.free (by simp))];exact I.free
 .rw[aj (ne _ _ (I.jN x c q) (by simp))];exact I.jN x c q
 .obtain⟨p1,p2,p3⟩:=I.pin p hp;exact⟨p1,by rw[aj (ne _ _ p2 (by simp))];exact p2,p3⟩
def Hh(ok:lV P w H h)(e:H a=am (.bS o u)):lV P w (upd H a u) h:=λb u' q=>by
 have ne:∀c v,H c=am v->v≠.bS o u->upd H a u c=am v:=λc v z n=>by
  rw[aj (λy=>by subst y;rw[e]at z;cases z;exact n rfl)];exact z
 by_cases hb:b=a
 .subst hb;rw[ay]at q;cases q;exact bE.xn (ok b _ e).2 (λ_ _ _ z=>z) (λc z=>ne c _ z (by simp)) λc xs z=>ne c _ z (by simp)
 .rw[aj hb]at q;exact bE.xn (ok b _ q) (λ_ _ _ z=>z) (λc z=>ne c _ z (by simp)) λc xs z=>ne c _ z (by simp)
end
def aeo(a:db)(o:Obj):It:=
 ⟨λi H=>∃aA,H a=am (.bS o (.dT aA))/\i<aA.length,λi H x H'=>H'=H/\∀aA,H a=am (.bS o (.dT aA))->∃b k v,x=.ref b/\aA[i]?=am (k,v)/\H b=am (.tup (k.map kV)),λi H=>∃aA,H a=am (.bS o (.dT aA))/\aA.length<=i⟩
theorem RC(x:bE P w H h a (.bS o (.dT aA)))(hd:o.data=.dict es ep):We h a es ep/\es.size=aA.length/\∀(i:Nat) (hi:i<es.size),∃b k v,es[i].key=.ref b/\aA[i]?=am (k,v)/\H b=am (.tup (k.map kV)):=by
 obtain⟨e,z,hs,xs,r,o',ė,Ę,h1,h2,h3,h4,h5⟩:=x;rw[e]at h1;cases h1;rw[hd]at h3;cases h3;have hl:es.size=xs.length:=by have:=congrArg Cv h4;simpa using this
 refine⟨⟨o,e,h2,hd⟩,hl.trans (Paired.length r).symm,λi hi=>?_⟩;have hx:xs[i]?=am (xs[i]'∅):=Ad _;have pg:∀{l:O (O Key×V)}{m:O (O Key×db×ci)}{i:Nat}{q:O Key×db×ci},KT H l m->m[i]?=am q->∃v,l[i]?=am (q.1,v)/\H q.2.1=am (.tup (q.1.map kV)):=by
  intro l m i q t
  induction t generalizing i with
  |nil=>intro h;simp at h
  | @cons p q' ps qs hq t ih=>
   intro h;cases i with
   |zero=>
    cases h;obtain⟨p1,p2⟩:=p;have e1:=hq.1;subst e1;exact⟨p2,rfl,hq.2.1⟩
   |succ i=>exact ih (by simpa using h)
 obtain⟨v,g1,g2⟩:=pg r hx;refine⟨_,_,v,?_,g1,g2⟩;have:es[i]=entryOfKey (sK (cx P w)) (xs[i]'∅):=by
  have h6:es.toList[i]?=am (entryOfKey (sK (cx P w)) (xs[i]'∅)):=by rw[h4,Af,hx];rfl
  rw[DP,C9 hi]at h6;exact Option.some.inj h6
 rw[this];rfl
theorem MJ{K:Aa}(a it:db)(o:Obj)(hd:o.data=.dict es ep):Turn P w K tg (aeo a o) [it] it (λi h=>h.IsKeyIter it a i es.size ep) where
 mem:=by simp
 obj:=λi h st b hb=>by
  have e:b=it:=by simpa using hb
  subst e;obtain⟨o,e,c,d⟩:=st;exact⟨o,e,λv z=>by rw[d]at z;cases z⟩
 keep:=λi h h' st k=>st.at λo e=>k it (by simp) o e
 item:=by
  intro X hP hw hK hc i Z s σ H E I hf st hg;obtain⟨aA,hq,hx⟩:=hg;obtain⟨Ģ,hl,ky⟩:=RC (I.br a _ hq) hd;obtain⟨b,k,v,k1,k2,k3⟩:=ky i ∅;obtain⟨f0,f1,f2,f3,f4,f5⟩:=hf it (by simp);refine QC st Ģ ∅ λh' rk sb=>?_;obtain⟨oi,e,c,d⟩:=id rk;refine⟨_,rfl,Hj e c d ⋯ ⟨.ref b,H,(I.turned (λb o hb e=>(sb.2 b hb).trans e) f0 f1 f3 f4 f5),k1,⟨rfl,λakG S2=>?_⟩,rk,λb hb=>(hf b hb).1⟩⟩;rw[hq]at S2;cases S2;exact⟨b,k,v,rfl,k2,k3⟩
 done:=by
  intro X hP hw hK hc i Z s σ H E I hf st hg;obtain⟨aA,hq,hx⟩:=hg;obtain⟨Ģ,hl,ky⟩:=RC (I.br a _ hq) hd;obtain⟨f0,f1,f2,f3,f4,f5⟩:=hf it (by simp);exact VA (I.ok.hd hc) st Ģ ∅ λh' eb=>⟨rfl,I.turned (t':=s.toks) (λb o hb e=>eb b o hb e) f0 f1 f3 f4 f5⟩
 self:=λ_ _ _ _ _ st h=>wpAny_pyIter_keyiter st h
def ZI(tl:TE):TI:=λσ H R=>tl σ H λx H1=>∃a o aA,x=.ref a/\H1 a=am (.bS o (.dT aA))/\R (aeo a o) H1
def Qk{l:nw}{tl:TE}(hl:PE X l tl):PI X tg l (ZI tl):=by
 intro Z s σ H R I h;refine bU (hl Z s σ H _ I h) λv s1 ⟨x,H1,I1,r1,q1⟩=>?_;obtain⟨a,o,aA,e,hq,q⟩:=q1;subst e;cases r1;obtain⟨eo,z,hs,xs,r,o',es,ep,h1,h2,h3,h4,h5⟩:=(I1.br a _ hq);rw[eo]at h1;cases h1;refine Rj hs ⟨o,eo,h2,h3⟩ ?_;refine⟨s1.heap.objs.size,[s1.heap.objs.size],_,_,H1,rfl,I1.kept λb o e=>Ae _ e,MJ a _ o h3,⟨_,Am _ rfl,rfl,rfl⟩,λb hb=>?_,q⟩;have e:b=s1.heap.objs.size:=by simpa using hb
 subst e;exact I1.Hn (Al _) (I1.br.fresh (Al _))
end L2
variable{x:A9}{o:L2.HO}{j:Nat}{v:PL.PV}{ws:O (BR×L2.V)}{fz:O (A9×FR)}{ψ:Nat->O L2.V->Prop}{φ:E8->Prop}
noncomputable section
namespace FL
section
variable{K:Aa}
structure W(α:Type) where
 run:(α->Prop)->Prop
 mono:∀{Q Q':α->Prop},(∀a,Q a->Q' a)->run Q->run Q'
namespace W
variable{α β γ:Type}
def ext'{a b:W α}(h:∀Q,a.run Q↔b.run Q):a=b:=by
 cases a;cases b;congr;funext Q;exact propext (h Q)
noncomputable def ret(a:α):W α:=⟨λQ=>Q a,λh q=>h _ q⟩
noncomputable def bind(w:W α)(k:α->W β):W β:=⟨λQ=>w.run λa=>(k a).run Q,λh q=>w.mono (λa q=>(k a).mono h q) q⟩
def fail:W α:=⟨λ_=>False,λ_ q=>q⟩
def dN(p:Prop)(w:W α):W α:=⟨λQ=>p/\w.run Q,λh q=>⟨q.1,w.mono h q.2⟩⟩
def any(p:α->Prop):W α:=⟨λQ=>∀a,p a->Q a,λh q a pa=>h a (q a pa)⟩
def OK:Option α->W α
 |some a=>ret a
 |none=>fail
@[simp] theorem aa(a:α)(k:α->W β):bind (ret a) k=k a:=(rfl)
@[simp] theorem bind_assoc(w:W α)(f:α->W β)(g:β->W γ):bind (bind w f) g=bind w λa=>bind (f a) g:=(rfl)
@[simp] theorem aeg(w:W α):bind w ret=w:=(rfl)
@[simp] theorem aa2(k:α->W β):bind fail k=fail:=(rfl)
@[simp] theorem ag(a:α)(Q:α->Prop):(ret a).run Q=Q a:=(rfl)
@[simp] theorem run_bind(w:W α)(k:α->W β)(Q:β->Prop):(bind w k).run Q=w.run λa=>(k a).run Q:=(rfl)
@[simp] theorem abT(Q:α->Prop):(fail:W α).run Q=False:=(rfl)
@[simp] theorem aew(p Q:α->Prop):(any p).run Q=∀a,p a->Q a:=(rfl)
@[simp] theorem Li(p:Prop)(w:W α)(Q:α->Prop):(dN p w).run Q=(p/\w.run Q):=(rfl)
@[simp] theorem aec(p:Prop)(w:W α)(k:α->W β):bind (dN p w) k=dN p (bind w k):=(rfl)
def au{p:Prop}{w:W α}(h:p):dN p w=w:=ext' λQ=>⟨λq=>q.2,λq=>⟨h,q⟩⟩
@[simp] theorem aeb{w:W α}:dN True w=w:=au trivial
@[simp] theorem bo(a:α):OK (am a)=ret a:=(rfl)
@[simp] theorem acA:OK (ce:Option α)=fail:=(rfl)
end W
inductive FD where
 |v (p:PV)|o (b:db) (l:List PV)
def hG:O (Str×FD)->O db
 |[]=>[]
 |(_,.v _)::l=>hG l
 |(_,.o b _)::l=>b::hG l
inductive lW(K:Aa)(H:Hp):List (Str×V)->List (Str×FD)->Prop
 |nil:lW K H [] []
 |v {n:Str}{u:V}{p:PV}{ws:List (Str×V)}{fd:List (Str×FD)} (r:VR K [] H u p) (t:lW K H ws fd):lW K H ((n,u)::ws) ((n,.v p)::fd)
 |o {n:Str}{b:db}{vs:List V}{l:List PV}{ws:List (Str×V)}{fd:List (Str×FD)} (e:H b=am (.lst vs)) (r:aE K [] H vs l) (t:lW K H ws fd):lW K H ((n,.ref b)::ws) ((n,.o b l)::fd)
inductive SL where
 |val (v:PV)|adr (b:db) (us:List V) (ps:List PV) (fz:List (db×Obj))|ol (q:Option db) (l:List PV)|oll (bs:List db) (ls:List (List PV))|od (aA:List (Key×PV))|ot (aA:List (List Key×PV))|cC (ψ:Nat->List V->Prop) (n m:Nat)|ob (q C:db) (fd:List (Str×FD))
abbrev aQ:=O (Option SL)
def FzO(H:Hp)(fz:O (db×Obj)):Prop:=∀p∈fz,∃u,H p.1=am (.bS p.2 u)
def FzO.tk(h:FzO H fz)(t:bh K H H'):FzO H' fz:=λp hp=>let ⟨u,e⟩:=h p hp;⟨u,t.z _ _ _ e⟩
def _root_.L2.HO.nt:HO->Bool
 |.zN _=>false
 |_=>true
def _root_.L2.HO.ow:HO->Bool
 |.lst _=>true
 |.dK _=>true
 |.dT _=>true
 |.ins _ _ _=>true
 |_=>false
def Lr(h:o.ow=true):o.nt=true:=by cases o<;>first|rfl|cases h
def acq(k:bE P w H h a o)(e:h.get? a=am ob)(ho:o.ow=true)(vs:Array ci):ob.data≠.fields vs:=by
 cases o with
 |lst xs=>obtain⟨_,_,_,_,q⟩:=k;rw[e]at q;cases q;nofun
 |dK xs=>obtain⟨_,_,_,_,o,_,_,q,_,q2,_⟩:=k;rw[e]at q;cases q;rw[q2];nofun
 |dT xs=>obtain⟨_,_,_,_,o,_,_,q,_,q2,_⟩:=k;rw[e]at q;cases q;rw[q2];nofun
 |ins C dx fs=>obtain⟨_,_,_,q,_⟩:=k;rw[e]at q;cases q;nofun
 |_=>cases ho
class bN where
 ts:List (db×Str)
def FzC(H:Hp)(c:ci)(q:Str):Prop:=∃a o u vs t,c=.ref a/\H a=am (.bS o u)/\o.data=.fields vs/\vs[1]?=am (.str q t)
variable[bN]
def TB(H:Hp):Prop:=∀p∈bN.ts,∃ps,H p.1=am (.zN ps)/\TriplesOk ps.toList/\∀pos c,codeAmong pos ps.toList=am c->FzC H c p.2
def TB.mono(h:TB H)(h1:∀a ps,H a=am (.zN ps)->H' a=am (.zN ps))(h2:∀a o u vs,H a=am (.bS o u)->o.data=.fields vs->∃u,H' a=am (.bS o u)):TB H':=λp hp=>by
 obtain⟨ps,e,q,k⟩:=h p hp;refine⟨ps,h1 _ _ e,q,λpos c z=>?_⟩;obtain⟨a,o,u,vs,t,e1,e2,e3,e4⟩:=k pos c z;obtain⟨u',e5⟩:=h2 a o u vs e2 e3;exact⟨a,o,u',vs,t,e1,e5,e3,e4⟩
def TB.same(h:TB H)(s:iZ H H'):TB H':=h.mono (λa _ z=>s a _ z) λa _ _ _ z _=>⟨_,s a _ z⟩
def TB.Pa(t:TB H)(k:lV P w H h)(e:H a=am (.bS ob o))(ho:o.ow=true):TB (upd H a o):=
 t.mono (λb _ z=>by rw[aj (λy=>by subst y;rw[e]at z;cases z)];exact z) λb o' u vs z d=>⟨u,by
  rw[aj (λy=>by subst y;rw[e]at z;cases z;exact acq (k b _ e).2 (k b _ e).1 ho vs d)];exact z⟩
def TB.vX{ob:HO}(h:TB H)(s:ft a H H')(e:H a=am ob)(n1:ob.nt=true)(n2:∀o u,ob≠.bS o u):TB H':=
 h.mono (λb _ z=>s b _ (λy=>by subst y;rw[e]at z;cases z;cases n1) z) λb _ _ _ z _=>⟨_,s b _ (λy=>by subst y;rw[e]at z;cases z;exact n2 _ _ rfl) z⟩
def SL.own:SL->Bool
 |.val _=>false
 |.adr _ _ _ _=>false
 |_=>true
def SL.Rn:SL->O db
 |.oll bs _=>bs
 |.ob _ _ fd=>hG fd
 |_=>[]
def SL.has(s:SL)(x a:db):Prop:=a=x\/a∈s.Rn
def IW:Nat:=2 ^ 250
def w4(H:Hp)(a:db)(ψ:Nat->O V->Prop)(n:Nat):Prop:=∃j vs,j<=n/\H a=am (.lst vs)/\ψ j vs/\∀b,V.ref b∈vs->cO H b
def fK(K:Aa)(H:Hp)(a:db):SL->Prop
 |.val _=>False
 |.adr b us ps fz=>a=b/\aE K [] H us ps/\FzO H fz
 |.oll bs ls=>H a=am (.lst (bs.map V.ref))/\a∉bs/\bs.Nodup/\bs.length=ls.length/\∀(j:Nat) (b:db) (l:O PV),bs[j]?=am b->ls[j]?=am l->∃ws,H b=am (.lst ws)/\aE K [] H ws l
 |.ol q l=>(∀b,q=am b->a=b)/\∃vs,H a=am (.lst vs)/\aE K [] H vs l
 |.od aA=>∃vs:O (Key×V),H a=am (.dK vs)/\vs.map (·.1)=aA.map (·.1)/\aE K [] H (vs.map (·.2)) (aA.map (·.2))
 |.ot aA=>∃vs:O (O Key×V),H a=am (.dT vs)/\vs.map (·.1)=aA.map (·.1)/\aE K [] H (vs.map (·.2)) (aA.map (·.2))
 |.cC ψ n m=>w4 H a ψ n/\n<=m/\m<=IW
 |.ob q C fd=>a=q/\OD K C/\(∀p∈fd,eW K C p.1)/\a∉hG fd/\(hG fd).Nodup/\∃dx ws,H a=am (.ins C dx ws)/\lW K H ws fd
def qw(K:Aa)(H:Hp)(u:V)(s:SL):Prop:=(∃v,s=.val v/\VR K [] H u v)\/∃a,u=.ref a/\fK K H a s
def bT(σ:L2.St)(fs:aQ)(a:db):Prop:=∃(i:Nat) (s:SL) (x:db),fs[i]?=am (am s)/\s.own=true/\σ[i]?=am (am (.ref x))/\s.has x a
def eF(σ:L2.St)(fs:aQ)(ψ:Nat->O V->Prop)(m:Nat)(a:db):Prop:=∃i n:Nat,fs[i]?=am (am (.cC ψ n m))/\σ[i]?=am (am (.ref a))
structure Ev(fs aN:aQ):Prop where
 len:fs.length=aN.length
 at':∀i:Nat,fs[i]?=aN[i]?\/∃ψ n n' m,fs[i]?=am (am (.cC ψ n m))/\aN[i]?=am (am (.cC ψ n' m))
structure aR(K:Aa)(H:Hp)(σ:L2.St)(fs:aQ):Prop where
 len:σ.length=fs.length
 at':∀(i:Nat) (s:SL),fs[i]?=am (am s)->∃u,σ[i]?=am (am u)/\qw K H u s
 nd:∀(i j:Nat) (s t:SL) (x y a:db),fs[i]?=am (am s)->fs[j]?=am (am t)->s.own=true->t.own=true->σ[i]?=am (am (.ref x))->σ[j]?=am (am (.ref y))->s.has x a->t.has y a->i=j
 tb:TB H
structure cF(σ:L2.St)(fs:aQ)(H:Hp)(σ':L2.St)(aN:aQ)(H':Hp):Prop where
 keep:∀a o,H a=am o->¬bT σ fs a->(o.nt=true->H' a=am o)/\¬bT σ' aN a
 there:∀a,H' a=ce->H a=ce
 pk:∀a ψ m,eF σ fs ψ m a->eF σ' aN ψ m a\/(¬bT σ' aN a/\w4 H' a ψ m)
 x:∀b,cO H b->cO H' b
structure bZ(σ:L2.St)(fs:aQ)(H H':Hp)(aN:aQ:=fs):Prop where
 keep:∀a o,H a=am o->(∀ψ m,¬eF σ fs ψ m a)->(nt:‹o.nt=true›)->H' a=am o
 there:∀a,H' a=ce->H a=ce
 ev:Ev fs aN
 x:∀b,cO H b->cO H' b
section
variable{σ σ' σ1 σ2:L2.St}{fs aN az fs2:aQ}{H H' H1 H2:Hp}
def eF.eK{m:Nat}(p:eF σ fs ψ m a):bT σ fs a:=let ⟨i,n,e1,e2⟩:=p;⟨i,_,_,e1,rfl,e2,.inl rfl⟩
def Ev.refl(fs:aQ):Ev fs fs:=⟨rfl,λ_=>.inl rfl⟩
def Ev.symm(e:Ev fs aN):Ev aN fs:=⟨e.len.symm,λi=>(e.at' i).imp Eq.symm λ⟨ψ,n,n',m,a,b⟩=>⟨ψ,n',n,m,b,a⟩⟩
def Ev.trans(e:Ev fs az)(k:Ev az fs2):Ev fs fs2:=⟨e.len.trans k.len,λi=>by
 rcases e.at' i with h|⟨ψ,n,n',m,h1,h2⟩
 .rw[h];exact k.at' i
 .rcases k.at' i with h|⟨ψ',j,j',m',h3,h4⟩
  .exact .inr ⟨ψ,n,n',m,h1,h▸h2⟩
  .rw[h2]at h3;cases h3;exact .inr ⟨ψ,n,j',m,h1,h4⟩⟩
def Ev.get(e:Ev fs aN){t:SL}(h:aN[i]?=am (am t)):(fs[i]?=am (am t))\/∃ψ n n' m,t=.cC ψ n' m/\fs[i]?=am (am (.cC ψ n m)):=by
 rcases e.at' i with h2|⟨ψ,n,n',m,h1,h2⟩
 .exact .inl (h2.trans h)
 .rw[h]at h2;cases h2;exact .inr ⟨ψ,n,n',m,rfl,h1⟩
def Ev.same(e:Ev fs aN){t:SL}(h:fs[i]?=am (am t))(n:∀ψ j m,t≠.cC ψ j m):aN[i]?=am (am t):=(e.symm.get h).resolve_right λ⟨_,_,_,_,z,_⟩=>n _ _ _ z
def Ev.cC(e:Ev fs aN){m:Nat}(p:eF σ aN ψ m a):eF σ fs ψ m a:=by
 obtain⟨i,n,h1,h2⟩:=p;rcases e.get h1 with h|⟨_,j,_,_,h,k⟩
 .exact⟨i,n,h,h2⟩
 .cases h;exact⟨i,j,k,h2⟩
def Ev.eK(e:Ev fs aN)(p:bT σ aN a):bT σ fs a:=by
 obtain⟨i,t,x,h1,h2,h3,h4⟩:=p;rcases e.get h1 with h|⟨_,j,_,_,rfl,k⟩
 .exact⟨i,t,x,h,h2,h3,h4⟩
 .exact⟨i,_,x,k,rfl,h3,h4⟩
def bZ.refl:bZ σ fs H H:=⟨λ_ _ h _ _=>h,λ_ h=>h,.refl _,λ_ h=>h⟩
def bZ.trans(a:bZ σ fs H H1 az)(b:bZ σ az H1 H2 fs2):bZ σ fs H H2 fs2:=⟨λx o h n t=>b.keep x o (a.keep x o h n t) (λψ m p=>n ψ m (a.ev.cC p)) t,λx h=>a.there x (b.there x h),a.ev.trans b.ev,λx h=>b.x x (a.x x h)⟩
def bZ.f(g:bZ σ fs H H' aN):cF σ fs H σ aN H':=⟨λa o h n=>⟨λt=>g.keep a o h (λ_ _ p=>n p.eK) t,λz=>n (g.ev.eK z)⟩,g.there,λa ψ m p=>.inl (g.ev.symm.cC p),g.x⟩
def bZ.tR(g:bZ σ fs H H' aN)(h:H a=am o)(n:¬bT σ fs a)(t:‹o.nt=true›):H' a=am o:=g.keep a o h (λ_ _ p=>n p.eK) t
def bZ.same(h:iZ H H'):bZ σ fs H H':=⟨λa o e _ _=>h a o e,λa e=>(by
 cases z:H a with
 |none=>rfl
 |some o=>rw[h a o z]at e;cases e),.refl _,λ_ z=>h _ _ z⟩
def lW.ex{fd:O (Str×FD)}(h:lW K H ws fd){c:db}(hc:c∈hG fd):∃vs,H c=am (.lst vs):=by
 induction h with
 |nil=>cases hc
 |v r t ih=>exact ih hc
 | @o n b vs l ws fd e r t ih=>
  rcases AI.mp (hc) with rfl|hc
  .exact⟨vs,e⟩
  .exact ih hc
def fK.ex{c:db}{s:SL}(h:fK K H a s)(ho:s.own=true)(hc:s.has a c):∃o,H c=am o/\(∀vs,o≠.tup vs)/\(∀ob u,o≠.bS ob u)/\o.ow=true:=by
 cases s with
 |val _=>exact h.elim
 |adr _ _ _ _=>cases ho
 |ol q l=>obtain⟨_,vs,e,_⟩:=h;rcases hc with rfl|hc;exact⟨_,e,by simp,by simp,rfl⟩;cases hc
 |oll bs ls=>
  obtain⟨e,_,_,hl,hb⟩:=h;rcases hc with rfl|hc
  .exact⟨_,e,by simp,by simp,rfl⟩
  .obtain⟨j,hj⟩:=Cw (hc);obtain⟨ws,e,_⟩:=hb j c _ hj (Ad (by rw[<- hl];exact((Ai.mp hj).1)));exact⟨_,e,by simp,by simp,rfl⟩
 |od l=>obtain⟨vs,e,_⟩:=h;rcases hc with rfl|hc;exact⟨_,e,by simp,by simp,rfl⟩;cases hc
 |ot l=>obtain⟨vs,e,_⟩:=h;rcases hc with rfl|hc;exact⟨_,e,by simp,by simp,rfl⟩;cases hc
 |cC ψ n m=>obtain⟨⟨_,vs,_,e,_⟩,_⟩:=h;rcases hc with rfl|hc;exact⟨_,e,by simp,by simp,rfl⟩;cases hc
 |ob q C fd=>
  obtain⟨_,_,_,_,_,dx,ws,e,r⟩:=h;rcases hc with rfl|hc
  .exact⟨_,e,by simp,by simp,rfl⟩
  .obtain⟨vs,e⟩:=r.ex hc;exact⟨_,e,by simp,by simp,rfl⟩
def aR.ownAt(s:aR K H σ fs){t:SL}(h1:fs[i]?=am (am t))(h2:t.own=true)(h3:σ[i]?=am (am (.ref a))):fK K H a t:=by
 obtain⟨u,e,r⟩:=s.at' i t h1;rw[h3]at e;cases e;rcases r with⟨v,rfl,_⟩|⟨b,e,r⟩
 .cases h2
 .cases e;exact r
def aR.eK(s:aR K H σ fs)(h:bT σ fs a):∃o,H a=am o/\(∀vs,o≠.tup vs)/\(∀ob u,o≠.bS ob u)/\o.ow=true:=by
 obtain⟨i,t,x,h1,h2,h3,h4⟩:=h;exact(s.ownAt h1 h2 h3).ex h2 h4
def aR.noOwn(s:aR K H σ fs)(h:H a=ce):¬bT σ fs a:=λz=>by
 obtain⟨o,e,_⟩:=s.eK z;rw[h]at e;cases e
def aR.Y8(s:aR K H σ fs)(h:H a=am (.tup vs)):¬bT σ fs a:=λz=>by
 obtain⟨o,e,n,_⟩:=s.eK z;rw[h]at e;cases e;exact n vs rfl
def aR.Y9(s:aR K H σ fs)(h:H a=am (.bS ob u)):¬bT σ fs a:=λz=>by
 obtain⟨o,e,_,n,_⟩:=s.eK z;rw[h]at e;cases e;exact n ob u rfl
def aR.Y7(s:aR K H σ fs)(h:H a=am (.ext φ)):¬bT σ fs a:=λz=>by
 obtain⟨o,e,_,_,n⟩:=s.eK z;rw[h]at e;cases e;cases n
def cF.refl:cF σ fs H σ fs H:=⟨λ_ _ h n=>⟨λ_=>h,n⟩,λ_ h=>h,λ_ _ _ h=>.inl h,λ_ h=>h⟩
def cF.UI(a:cF σ fs H σ1 az H1)(b:cF σ1 az H1 σ2 fs2 H2)(h:H x=am o)(n:¬bT σ fs x):¬bT σ2 fs2 x:=by
 cases z:H1 x with
 |none=>rw[a.there x z]at h;cases h
 |some o1=>exact(b.keep x o1 z ((a.keep x o h n).2)).2
def cF.trans(a:cF σ fs H σ1 az H1)(b:cF σ1 az H1 σ2 fs2 H2):cF σ fs H σ2 fs2 H2:=
 ⟨λx o h n=>⟨λt=>let ⟨h1,n1⟩:=a.keep x o h n;(b.keep x o (h1 t) n1).1 t,a.UI b h n⟩,λx h=>a.there x (b.there x h),λx ψ m h=>(a.pk x ψ m h).elim (b.pk x ψ m) λ⟨n,j,vs,hj,e,p,q⟩=>.inr (let ⟨h1,n1⟩:=b.keep x _ e n;⟨n1,j,vs,hj,h1 rfl,p,λc hc=>b.x c (q c hc)⟩),λc h=>b.x c (a.x c h)⟩
def cF.dB(g:cF σ fs H σ' aN H')(s:aR K H σ fs):bh K H H':=
 ⟨λa vs h=>(g.keep a _ h (s.Y8 h)).1 rfl,λa o u h=>(g.keep a _ h (s.Y9 h)).1 rfl,g.x⟩
def VR.tk{u:V}(t:bh K H H')(r:VR K [] H u v):VR K [] H' u v:=r.mono t λ_ _ e=>e
def aE.tk{u:O V}{v:O PV}(t:bh K H H')(r:aE K [] H u v):aE K [] H' u v:=r.mono t λ_ _ e=>e
def cF.vr(g:cF σ fs H σ' aN H')(s:aR K H σ fs){u:V}(r:VR K [] H u v):VR K [] H' u v:=VR.tk (g.dB s) r
def bZ.dB(g:bZ σ fs H H' aN)(s:aR K H σ fs):bh K H H':=g.f.dB s
def bZ.vr(g:bZ σ fs H H' aN)(s:aR K H σ fs){u:V}(r:VR K [] H u v):VR K [] H' u v:=VR.tk (g.dB s) r
def bZ.OG(g:bZ σ fs H H' aN)(s:aR K H σ fs){u:O V}{v:O PV}(r:aE K [] H u v):aE K [] H' u v:=aE.tk (g.dB s) r
def lW.mono{fd:O (Str×FD)}(t:bh K H H')(h:lW K H ws fd)(e:∀c vs,c∈hG fd->H c=am (.lst vs)->H' c=am (.lst vs)):lW K H' ws fd:=by
 induction h with
 |nil=>exact .nil
 |v r _ ih=>exact .v (VR.tk t r) (ih e)
 | @o n b vs l ws fd q r _ ih=>exact .o (e b vs (.head _) q) (aE.tk t r) (ih λc vs hc=>e c vs (.tail _ hc))
def fK.mono{s:SL}(t:bh K H H')(e:∀c o,s.own=true->s.has a c->H c=am o->o.nt=true->H' c=am o)(h:fK K H a s):fK K H' a s:=by
 cases s with
 |val _=>exact h
 |adr _ _ _ _=>exact⟨h.1,aE.tk t h.2.1,h.2.2.tk t⟩
 |ol _ l=>obtain⟨z,vs,q,r⟩:=h;exact⟨z,vs,e _ _ rfl (.inl rfl) q rfl,aE.tk t r⟩
 |oll bs ls=>
  obtain⟨z,h1,h2,h3,h4⟩:=h;refine⟨e _ _ rfl (.inl rfl) z rfl,h1,h2,h3,λj b l hb hl=>?_⟩;obtain⟨ws,q,r⟩:=h4 j b l hb hl;exact⟨ws,e _ _ rfl (.inr (AU hb)) q rfl,aE.tk t r⟩
 |od l=>obtain⟨vs,q,k,r⟩:=h;exact⟨vs,e _ _ rfl (.inl rfl) q rfl,k,aE.tk t r⟩
 |ot l=>obtain⟨vs,q,k,r⟩:=h;exact⟨vs,e _ _ rfl (.inl rfl) q rfl,k,aE.tk t r⟩
 |cC ψ n m=>obtain⟨⟨j,vs,hj,q,k,z⟩,r⟩:=h;exact⟨⟨j,vs,hj,e _ _ rfl (.inl rfl) q rfl,k,λb hb=>t.x b (z b hb)⟩,r⟩
 |ob q C fd=>obtain⟨h0,h1,h2,h3,h4,dx,ws,q,r⟩:=h;exact⟨h0,h1,h2,h3,h4,dx,ws,e _ _ rfl (.inl rfl) q rfl,r.mono t λc vs hc q=>e c _ rfl (.inr hc) q rfl⟩
def qw.mono{u:V}{s:SL}(t:bh K H H')(e:∀x a o,u=.ref x->s.own=true->s.has x a->H a=am o->o.nt=true->H' a=am o)(h:qw K H u s):qw K H' u s:=by
 rcases h with⟨v,q,r⟩|⟨a,q,r⟩
 .exact .inl ⟨v,q,VR.tk t r⟩
 .exact .inr ⟨a,q,r.mono t (λc o z y w nt=>e a c o q z y w nt)⟩
def aR.same(s:aR K H σ fs)(h:iZ H H'):aR K H' σ fs:=⟨s.len,λi t e=>let ⟨u,h1,h2⟩:=s.at' i t e;⟨u,h1,h2.mono h.ff (λ_ a o _ _ _ z _=>h a o z)⟩,s.nd,s.tb.same h⟩
def cF.same(h:iZ H H')(s:aR K H σ fs):cF σ fs H σ fs H':=⟨λa o e n=>⟨λ_=>h a o e,n⟩,λa e=>(by
 cases z:H a with
 |none=>rfl
 |some o=>rw[h a o z]at e;cases e),λa ψ m p=>.inl p,λ_ z=>h _ _ z⟩
inductive c6:aQ->aQ->Prop
 |nil:c6 [] []
 |drop {s:Option SL}{a b:aQ} (h:c6 a b):c6 (s::a) (ce::b)
 |keep {s:Option SL}{a b:aQ} (h:c6 a b):c6 (s::a) (s::b)
 |bump {ψ:Nat->List V->Prop}{n n' m:Nat}{a b:aQ} (h:c6 a b) (k:n<=n'/\n'<=m):c6 (am (.cC ψ n m)::a) (am (.cC ψ n' m)::b)
def LeS(s t:SL):Prop:=s=t\/∃ψ n n' m,s=.cC ψ n m/\t=.cC ψ n' m/\n<=n'/\n'<=m
theorem c6.at{a b:aQ}(h:c6 a b):∀(i:Nat) (s:SL),b[i]?=am (am s)->∃t,a[i]?=am (am t)/\LeS t s:=by
 induction h with
 |nil=>intro i s e;simp at e
 |drop h ih=>intro i s e;cases i with|zero=>simp at e|succ i=>simp at e ⊢;exact ih i s e
 |keep h ih=>intro i s e;cases i with|zero=>exact⟨s,by simpa using e,.inl rfl⟩|succ i=>simp at e ⊢;exact ih i s e
 | @bump ψ n n' m a b h k ih=>intro i s e;cases i with|zero=>(simp at e;subst e;exact⟨_,rfl,.inr ⟨ψ,n,n',m,rfl,rfl,k⟩⟩)|succ i=>simp at e ⊢;exact ih i s e
theorem c6.length{a b:aQ}(h:c6 a b):a.length=b.length:=by induction h<;>simp_all
theorem c6.refl:∀a:aQ,c6 a a
 |[]=>.nil
 |_::a=>.keep (c6.refl a)
def LeS.own{s t:SL}(h:LeS s t):s.own=t.own:=by rcases h with rfl|⟨_,_,_,_,rfl,rfl,_⟩<;>rfl
def LeS.has{s t:SL}(h:LeS s t)(k:t.has x a):s.has x a:=by
 rcases h with rfl|⟨_,_,_,_,rfl,rfl,_⟩
 .exact k
 .exact k
def LeS.slot{s t:SL}(h:LeS s t){u:V}(k:qw K H u s):qw K H u t:=by
 rcases h with rfl|⟨ψ,n,n',m,rfl,rfl,h1,h2⟩
 .exact k
 .rcases k with⟨v,e,_⟩|⟨a,e,⟨j,vs,hj,q⟩,_,hm⟩
  .cases e
  .exact .inr ⟨a,e,⟨j,vs,Ax hj h1,q⟩,h2,hm⟩
def aR.le(s:aR K H σ fs)(h:c6 fs aN):aR K H σ aN:=⟨s.len.trans h.length,λi t e=>let ⟨_,e2,l⟩:=h.at i t e;let ⟨u,h1,h2⟩:=s.at' i _ e2;⟨u,h1,l.slot h2⟩,λi j t u x y a e1 e2 o1 o2 q1 q2 z1 z2=>let ⟨_,f1,l1⟩:=h.at i t e1;let ⟨_,f2,l2⟩:=h.at j u e2;s.nd i j _ _ x y a f1 f2 (l1.own▸o1) (l2.own▸o2) q1 q2 (l1.has z1) (l2.has z2),s.tb⟩
def bT.le(h:c6 fs aN)(o:bT σ aN a):bT σ fs a:=let ⟨i,t,x,e1,e2,e3,e4⟩:=o;let ⟨t',f1,l⟩:=h.at i t e1;⟨i,t',x,f1,l.own▸e2,e3,l.has e4⟩
def aR.free(s:aR K H σ fs){m:Nat}(p:eF σ fs ψ m a):w4 H a ψ m:=by
 obtain⟨i,n,e1,e2⟩:=p;obtain⟨⟨j,vs,hj,q⟩,h1,_⟩:=s.ownAt e1 rfl e2;exact⟨j,vs,Ax hj h1,q⟩
def cF.le(s:aR K H σ fs)(h:c6 fs aN):cF σ fs H σ aN H:=⟨λa o e n=>⟨λ_=>e,λz=>n (z.le h)⟩,λ_ e=>e,λa ψ m p=>by
 have fr:=s.free p;obtain⟨i,n,e1,e2⟩:=p;by_cases c:bT σ aN a
 .obtain⟨j,t,x,c1,c2,c3,c4⟩:=c;obtain⟨t',f1,l⟩:=h.at j t c1;have ij:=s.nd i j _ t' a x a e1 f1 rfl (l.own▸c2) e2 c3 (.inl rfl) (l.has c4);subst ij;rw[e1]at f1;cases f1;rcases l with rfl|⟨_,_,n',_,l1,rfl,_⟩
  .exact .inl ⟨i,n,c1,e2⟩
  .cases l1;exact .inl ⟨i,n',c1,e2⟩
 .exact .inr ⟨c,fr⟩,λ_ h=>h⟩
def bF{l:O (Option α)}{x y:α}(h:(l.set i (am x))[j]?=am (am y)):(j=i/\y=x)\/(j≠i/\l[j]?=am (am y)):=by
 by_cases c:j=i
 .subst c;rw[List.getElem?_set]at h;simp at h;exact .inl ⟨rfl,h.2.symm⟩
 .rw[B6 (λz=>c z.symm)]at h;exact .inr ⟨c,h⟩
def bc{l:List α}{x:α}(h:i<l.length):(l.set i x)[i]?=am x:=by rw[List.getElem?_set];simp[h]
def ao{l:List α}{x:α}(h:j≠i):(l.set i x)[j]?=l[j]?:=B6 (λz=>h z.symm)
def aR.put(s:aR K H σ fs){u:V}{t:SL}(hr:qw K H u t)(hf:∀x a,u=.ref x->t.own=true->t.has x a->∀(j:Nat) (w:SL) (y:db),j≠i->fs[j]?=am (am w)->w.own=true->σ[j]?=am (am (.ref y))->¬w.has y a):aR K H (σ.set i (am u)) (fs.set i (am t)):=by
 refine⟨by simp[s.len],λj w e=>?_,λj k w x b1 b2 a e1 e2 o1 o2 q1 q2 z1 z2=>?_,s.tb⟩
 .rcases bF e with⟨rfl,rfl⟩|⟨n,e⟩
  .have hl:j < σ.length:=by
    have:=(Ai.mp e).1;rw[BA]at this;rw[s.len];exact this
   exact⟨u,bc hl,hr⟩
  .obtain⟨v,h1,h2⟩:=s.at' j w e;exact⟨v,by rw[ao n];exact h1,h2⟩
 .rcases bF e1 with⟨y1,y2⟩|⟨n1,f1⟩<;>rcases bF e2 with⟨y3,y4⟩|⟨n2,f2⟩
  .exact y1.trans y3.symm
  .subst y1;subst y2;rw[ao n2]at q2;have hl:j < σ.length:=by have:=(Ai.mp q1).1;simpa using this
   rw[bc hl]at q1;cases q1;exact absurd z2 (hf _ a rfl o1 z1 k x b2 n2 f2 o2 q2)
  .subst y3;subst y4;rw[ao n1]at q1;have hl:k < σ.length:=by have:=(Ai.mp q2).1;simpa using this
   rw[bc hl]at q2;cases q2;exact absurd z1 (hf _ a rfl o2 z2 j w b1 n1 f1 o1 q1)
  .rw[ao n1]at q1;rw[ao n2]at q2;exact s.nd j k w x b1 b2 a f1 f2 o1 o2 q1 q2 z1 z2
def aR.nJ(s:aR K H σ fs){u:V}(hr:VR K [] H u v)(i:Nat):aR K H (σ.set i (am u)) (fs.set i (am (.val v))):=s.put (.inl ⟨v,rfl,hr⟩) λ_ _ _ z=>by cases z
def kl{u:V}{t:SL}(o:bT (σ.set i (am u)) (fs.set i (am t)) a)(hl:σ.length=fs.length):bT σ fs a\/∃x,u=.ref x/\t.own=true/\t.has x a:=by
 obtain⟨j,w,x,e1,e2,e3,e4⟩:=o;rcases bF e1 with⟨rfl,rfl⟩|⟨n,e1⟩
 .have h2:j < σ.length:=by have:=(Ai.mp e3).1;simpa using this
  rw[bc h2]at e3;cases e3;exact .inr ⟨x,rfl,e2,e4⟩
 .rw[ao n]at e3;exact .inl ⟨j,w,x,e1,e2,e3,e4⟩
def xC(s:aR K H σ fs){u:V}{t:SL}{m:Nat}(p:eF σ fs ψ m a)(hu:∀x,u=.ref x->t.own=true->t.has x a->∃n,t=.cC ψ n m):eF (σ.set i (am u)) (fs.set i (am t)) ψ m a\/¬bT (σ.set i (am u)) (fs.set i (am t)) a:=by
 obtain⟨j,n,e1,e2⟩:=p;by_cases c:j=i
 .subst c;by_cases c2:∃x,u=.ref x/\t.own=true/\t.has x a
  .obtain⟨x,c3,c4,c5⟩:=c2;obtain⟨n',rfl⟩:=hu x c3 c4 c5;rcases c5 with rfl|c5
   .exact .inl ⟨j,n',by rw[bc ((Ai.mp e1).1)],by rw[bc ((Ai.mp e2).1),c3]⟩
   .cases c5
  .refine .inr λo=>?_;obtain⟨k,w,y,q1,q2,q3,q4⟩:=o;rcases bF q1 with⟨rfl,rfl⟩|⟨n,q1⟩
   .rw[bc ((Ai.mp e2).1)]at q3;cases q3;exact c2 ⟨y,rfl,q2,q4⟩
   .rw[ao n]at q3;exact n (s.nd k j w _ y a a q1 e1 q2 rfl q3 e2 q4 (.inl rfl))
 .exact .inl ⟨j,n,by rw[ao c];exact e1,by rw[ao c];exact e2⟩
def cF.nJ(s:aR K H σ fs)(u:V)(v:PV)(i:Nat):cF σ fs H (σ.set i (am u)) (fs.set i (am (.val v))) H:=
 ⟨λa o e n=>⟨λ_=>e,λz=>(kl z s.len).elim n λ⟨_,_,z,_⟩=>by cases z⟩,λ_ e=>e,λa ψ m p=>(xC s p (λ_ _ z=>by cases z)).imp id λn=>⟨n,s.free p⟩,λ_ h=>h⟩
def aR.Qb(s:aR K H σ fs){t:SL}(hr:fK K H a t)(hn:∀c,t.has a c->¬bT σ fs c)(i:Nat):aR K H (σ.set i (am (.ref a))) (fs.set i (am t)):=s.put (.inr ⟨a,rfl,hr⟩) λx c e _ hc j w y n e1 e2 e3 z=>by
 cases e;exact hn c hc ⟨j,w,y,e1,e2,e3,z⟩
def yA{t:SL}(hi:t.Rn=[]){c:db}(h:t.has a c):c=a:=by
 rcases h with h|h
 .exact h
 .rw[hi]at h;cases h
def aR.xA(s:aR K H σ fs){t:SL}(hr:fK K H a t)(hn:¬bT σ fs a)(i:Nat)(hi:‹t.Rn=[]›):aR K H (σ.set i (am (.ref a))) (fs.set i (am t)):=s.Qb hr (λc hc=>by rw[yA hi hc];exact hn) i
def cF.Qb(s:aR K H1 σ az)(g:bZ σ fs H H1 az){t:SL}(hn:∀c,t.has a c->¬bT σ az c)(h0:∀c,t.has a c->H c=ce)(i:Nat):cF σ fs H (σ.set i (am (.ref a))) (az.set i (am t)) H1:=by
 refine⟨λb o e n=>⟨(g.f.keep b o e n).1,λz=>(kl z s.len).elim (g.f.keep b o e n).2 λ⟨x,z,_,y⟩=>?_⟩,g.there,λb ψ m p=>?_,g.x⟩
 .cases z;rw[h0 b y]at e;cases e
 .have p:=g.ev.symm.cC p;refine(xC s p (λx z o y=>?_)).imp id λn=>⟨n,s.free p⟩;cases z;exact absurd p.eK (hn b y)
def cF.xA(s:aR K H1 σ az)(g:bZ σ fs H H1 az){t:SL}(hn:¬bT σ az a)(h0:H a=ce)(i:Nat)(hi:‹t.Rn=[]›):cF σ fs H (σ.set i (am (.ref a))) (az.set i (am t)) H1:=cF.Qb s g (λc hc=>by rw[yA hi hc];exact hn) (λc hc=>by rw[yA hi hc];exact h0) i
inductive oQ:aQ->aQ->Prop
 |refl (a:aQ):oQ a a
 |keep {s:Option SL}{a b:aQ} (h:oQ a b):oQ (s::a) (s::b)
 |bump {ψ:Nat->List V->Prop}{n n' m:Nat}{a b:aQ} (k:n<=n'/\n'<=m) (h:oQ a b):oQ (am (.cC ψ n m)::a) (am (.cC ψ n' m)::b)
def oQ.f{a b:aQ}(h:oQ a b):c6 a b:=by
 induction h with
 |refl a=>exact .refl a
 |keep _ ih=>exact .keep ih
 |bump k _ ih=>exact .bump ih k
def Ev.cons{a b:aQ}(e:Ev a b){s t:Option SL}(h:s=t\/∃ψ n n' m,s=am (.cC ψ n m)/\t=am (.cC ψ n' m)):Ev (s::a) (t::b):=⟨by simp[e.len],λi=>by
 cases i with
 |zero=>exact h.imp (λz=>by rw[z];rfl) λ⟨ψ,n,n',m,z,y⟩=>⟨ψ,n,n',m,by rw[z];rfl,by rw[y];rfl⟩
 |succ i=>simpa using e.at' i⟩
def oQ.ev{a b:aQ}(h:oQ a b):Ev a b:=by
 induction h with
 |refl a=>exact .refl a
 |keep _ ih=>exact ih.cons (.inl rfl)
 | @bump ψ n n' m _ _ _ _ ih=>exact ih.cons (.inr ⟨ψ,n,n',m,rfl,rfl⟩)
def Ev.nd(ev:Ev fs aN)(s:aR K H σ fs)(i j:Nat)(t u:SL)(x y a:db)(e1:aN[i]?=am (am t))(e2:aN[j]?=am (am u))(o1:t.own=true)(o2:u.own=true)(q1:σ[i]?=am (am (.ref x)))(q2:σ[j]?=am (am (.ref y)))(z1:t.has x a)(z2:u.has y a):i=j:=by
 have f:∀{j:Nat}{t:SL}{x:db},aN[j]?=am (am t)->t.own=true->t.has x a->∃t',fs[j]?=am (am t')/\t'.own=true/\t'.has x a:=λ{j t x} e o z=>by
  rcases ev.get e with k|⟨_,_,_,_,rfl,k⟩
  .exact⟨t,k,o,z⟩
  .exact⟨_,k,rfl,z⟩
 obtain⟨t',a1,a2,a3⟩:=f e1 o1 z1;obtain⟨u',b1,b2,b3⟩:=f e2 o2 z2;exact s.nd i j t' u' x y a a1 b1 a2 b2 q1 q2 a3 b3
def bZ.le{a b:aQ}(g:bZ σ fs H H' a)(h:oQ a b):bZ σ fs H H' b:=⟨λc o e n t=>g.keep c o e n t,g.there,g.ev.trans h.ev,g.x⟩
def GC(s:aR K H σ fs){t t':SL}{c:db}(e1:fs[i]?=am (am t))(o:t.own=true)(np:∀ψ n m,t≠.cC ψ n m)(e2:σ[i]?=am (am (.ref a)))(hc:t.has a c)(Xp:t'.has a c)(nj:∀b,t'.has a b->t.has a b)(o':t'.own=true)(sx:ft c H H')(ht:bh K H H'->fK K H' a t'):aR K H' σ (fs.set i (am t'))/\cF σ fs H σ (fs.set i (am t')) H':=by
 have oa:=s.ownAt e1 o e2;obtain⟨ob,q,n1,n2,n3⟩:=oa.ex o hc;have tk:bh K H H':=⟨λb vs z=>sx b _ (λy=>by subst y;rw[q]at z;cases z;exact n1 _ rfl) z,λb o u z=>sx b _ (λy=>by subst y;rw[q]at z;cases z;exact n2 _ _ rfl) z,xk λb φ z=>sx b _ (λy=>by subst y;rw[q]at z;cases z;cases n3) z⟩;have WI:=ht tk;have hi:i<fs.length:=(Ai.mp e1).1;have xH:∀b,bT σ (fs.set i (am t')) b->bT σ fs b:=λb z=>by
  obtain⟨j,w,x,z1,z2,z3,z4⟩:=z;rcases bF z1 with⟨rfl,rfl⟩|⟨n,z1⟩
  .rw[e2]at z3;cases z3;exact⟨j,t,a,e1,o,e2,nj b z4⟩
  .exact⟨j,w,x,z1,z2,z3,z4⟩
 refine⟨⟨by simp[s.len],λj w e=>?_,λj k w x b1 b2 b z1 z2 o1 o2 q1 q2 y1 y2=>?_,s.tb.vX sx q (Lr n3) n2⟩,⟨λb ob e n=>⟨λ_=>sx b ob (λz=>by subst z;exact n ⟨i,t,a,e1,o,e2,hc⟩) e,λz=>n (xH b z)⟩,λb e=>?_,λb ψ m p=>?_,tk.x⟩⟩
 .rcases bF e with⟨rfl,rfl⟩|⟨n,e⟩
  .exact⟨_,e2,.inr ⟨a,rfl,WI⟩⟩
  .obtain⟨u,h1,h2⟩:=s.at' j w e;refine⟨u,h1,h2.mono tk (λx b ob eb ow hb z _=>sx b ob (λy=>?_) z)⟩;subst y;subst eb;exact n (s.nd j i w t x a b e e1 ow o h1 e2 hb hc)
 .have f:∀{j:Nat}{w:SL}{y:db},(fs.set i (am t'))[j]?=am (am w)->w.own=true->σ[j]?=am (am (.ref y))->w.has y b->∃w',fs[j]?=am (am w')/\w'.own=true/\w'.has y b:=λ{j w y} z ow qy hy=>by
   rcases bF z with⟨rfl,rfl⟩|⟨n,z⟩
   .rw[e2]at qy;cases qy;exact⟨t,e1,o,nj b hy⟩
   .exact⟨w,z,ow,hy⟩
  obtain⟨w',a1,a2,a3⟩:=f z1 o1 q1 y1;obtain⟨x',c1,c2,c3⟩:=f z2 o2 q2 y2;exact s.nd j k w' x' b1 b2 b a1 c1 a2 c2 q1 q2 a3 c3
 .cases z:H b with
  |none=>rfl
  |some ob=>
   by_cases cc:b=c
   .subst cc;obtain⟨o2,y,_⟩:=WI.ex o' Xp;rw[e]at y;cases y
   .rw[sx b ob cc z]at e;cases e
 .obtain⟨j,k,p1,p2⟩:=p;have ji:j≠i:=λz=>by subst z;rw[e1]at p1;cases p1;exact np ψ k m rfl
  exact .inl ⟨j,k,by rw[ao ji];exact p1,p2⟩
def mI(s:aR K H σ fs){t t':SL}(e1:fs[i]?=am (am t))(o:t.own=true)(np:∀ψ n m,t≠.cC ψ n m)(e2:σ[i]?=am (am (.ref a)))(sx:ft a H H')(ht:bh K H H'->fK K H' a t')(hi:‹t'.Rn=t.Rn›)(o':‹t'.own=true›):aR K H' σ (fs.set i (am t'))/\cF σ fs H σ (fs.set i (am t')) H':=
 GC s e1 o np e2 (.inl rfl) (.inl rfl) (λb h=>by unfold SL.has at h ⊢;rw[hi]at h;exact h) o' sx ht
end
end
end FL
open FL.W renaming bind→bn,ret→ca,run_bind→f8,aa→lw,ag→mo,au→sw,ext'→KB,bo→Op
local macro_rules | `($a\$b)=>`(bn (ca $a) $b)
variable{x:BR}{u:L2.V}{b:BW}{fs aN az fs2 fs3:FL.aQ}{σ σ':L2.St}{es:O BW}{wa wb wc:FL.W PL.PV}{wl:FL.W (O PL.PV)}
namespace FL
section
variable[bN]
variable{K:Aa}
def fE(K:Aa)(fs:aQ)(w:W PV)(aN:aQ:=fs):TE:=λσ H Q=>aR K H σ fs/\w.run λv=>∀u H',bZ σ fs H H' aN->aR K H' σ aN->VR K [] H' u v->Q u H'
def fT(K:Aa)(fs:aQ)(w:W Bool)(aN:aQ:=fs):TT:=λσ H Q=>aR K H σ fs/\w.run λb=>∀H',bZ σ fs H H' aN->aR K H' σ aN->Q b H'
def fO(K:Aa)(fs:aQ)(w:W (Option Int))(aN:aQ:=fs):TO:=λσ H Q=>aR K H σ fs/\w.run λb=>∀H',bZ σ fs H H' aN->aR K H' σ aN->Q b H'
def fL(K:Aa)(fs:aQ)(w:W (O PV))(aN:aQ:=fs):TE:=λσ H Q=>aR K H σ fs/\w.run λl=>∀a vs H',bZ σ fs H H' aN->aR K H' σ aN->H a=ce->H' a=am (.lst vs)->aE K [] H' vs l->Q (.ref a) H'
def SqI(K:Aa)(H:Hp)(u:V)(l:O PV):Prop:=∃a vs,u=.ref a/\(SJ K H a vs\/H a=am (.tup vs))/\aE K [] H vs l
def Wc(K:Aa)(σ:L2.St)(fs:aQ)(H:Hp)(u:V)(l:O PV):Prop:=SqI K H u l\/∃a,u=.ref a/\((¬bT σ fs a/\∃vs,H a=am (.lst vs)/\aE K [] H vs l)\/∃(i:Nat) (q:Option db),fs[i]?=am (am (.ol q l))/\σ[i]?=am (am (.ref a)))
def fQ(K:Aa)(fs:aQ)(w:W (O PV))(aN:aQ:=fs):TE:=λσ H Q=>aR K H σ fs/\w.run λl=>∀u H',bZ σ fs H H' aN->aR K H' σ aN->Wc K σ aN H' u l->Q u H'
def fI(K:Aa)(fs:aQ)(w:W (O PV))(aN:aQ:=fs):TE:=λσ H Q=>aR K H σ fs/\w.run λl=>∀u H',bZ σ fs H H' aN->aR K H' σ aN->SqI K H' u l->Q u H'
inductive AK where
 |v|p (ψ:Nat->List V->Prop) (d:Nat)|f (a:db) (us:List V) (ps:List PV) (fz:List (db×Obj))
inductive fu(K:Aa)(H:Hp):List V->List AK->List PV->Prop
 |nil:fu K H [] [] []
 |v {u:V}{x:PV}{vs:List V}{ks:List AK}{l:List PV} (r:VR K [] H u x) (t:fu K H vs ks l):fu K H (u::vs) (.v::ks) (x::l)
 |f {a:db}{us vs:List V}{ps:List PV}{fz:List (db×Obj)}{ks:List AK}{l:List PV} (r:aE K [] H us ps) (z:FzO H fz) (t:fu K H vs ks l):fu K H (.ref a::vs) (.f a us ps fz::ks) l
def fA(K:Aa)(fs:aQ)(ks:O AK)(w:W (O PV))(aN:aQ:=fs):TA:=λσ H Q=>aR K H σ fs/\w.run λl=>∀vs H',bZ σ fs H H' aN->aR K H' σ aN->fu K H' vs ks l->Q vs H'
structure EF(X:Cx)(K:Aa)(fs:aQ)(e:nw)(w:W PV)(aN:aQ:=fs):Prop where p:PE X e (fE K fs w aN)
structure LF(X:Cx)(K:Aa)(fs:aQ)(e:nw)(w:W (List PV))(aN:aQ:=fs):Prop where p:PE X e (fL K fs w aN)
structure QF(X:Cx)(K:Aa)(fs:aQ)(e:nw)(w:W (List PV))(aN:aQ:=fs):Prop where p:PE X e (fQ K fs w aN)
structure IF(X:Cx)(K:Aa)(fs:aQ)(e:nw)(w:W (List PV))(aN:aQ:=fs):Prop where p:PE X e (fI K fs w aN)
structure TF(X:Cx)(K:Aa)(fs:aQ)(e:nw)(w:W Bool)(aN:aQ:=fs):Prop where p:PT X e (fT K fs w aN)
structure OA(X:Cx)(K:Aa)(fs:aQ)(e:nw)(w:W Bool)(aN:aQ:=fs):Prop where p:PW X e (fT K fs w aN)
structure OF(X:Cx)(K:Aa)(fs:aQ)(e:Option nw)(w:W (Option Int))(aN:aQ:=fs):Prop where p:L2.PO X e (fO K fs w aN)
structure AF(X:Cx)(K:Aa)(fs:aQ)(es:List nw)(ks:List AK){R:Type}(B:(List PV->W R)->W R)(aN:aQ:=fs):Prop where
 p:∃w:W (List PV),PA X es (fA K fs ks w aN)/\∀k,B k=bn w k
section
def SqI.tk{l:O PV}(t:bh K H H')(h:SqI K H u l):SqI K H' u l:=by
 obtain⟨a,vs,e,q,r⟩:=h;exact⟨a,vs,e,q.imp (t.f _ _) (t.t _ _),aE.tk t r⟩
def Wc.go{l:O PV}(h:Wc K σ fs H u l)(s:aR K H σ fs)(g:bZ σ fs H H' aN):Wc K σ aN H' u l:=by
 rcases h with h|⟨a,e,⟨n,vs,q,r⟩|q⟩
 .exact .inl (h.tk (g.dB s))
 .exact .inr ⟨a,e,.inl ⟨λz=>n (g.ev.eK z),vs,(g.tR q n),g.OG s r⟩⟩
 .obtain⟨i,q0,h1,h2⟩:=q;exact .inr ⟨a,e,.inr ⟨i,q0,g.ev.same h1 (by simp),h2⟩⟩
def Wc.sq{l:O PV}(h:Wc K σ fs H u l)(s:aR K H σ fs):∃a vs,u=.ref a/\(b9 K H a vs\/dM K H a vs)/\aE K [] H vs l:=by
 rcases h with⟨a,vs,e,q,r⟩|⟨a,e,⟨n,vs,q,r⟩|⟨i,_,q1,q2⟩⟩
 .exact⟨a,vs,e,q.elim (λq=>.inl q.sq) λq=>.inr (dM.of q),r⟩
 .exact⟨a,vs,e,.inl (b9.of q),r⟩
 .obtain⟨_,vs,q,r⟩:=s.ownAt q1 rfl q2;exact⟨a,vs,e,.inl (b9.of q),r⟩
end
section
variable{a c o:nw}{rest:O nw}{w:W PV}
def EF.le(h:EF X K fs e w az)(l:oQ az fs2):EF X K fs e w fs2:=⟨PE.imp h.p λσ H Q ⟨sr,q⟩=>⟨sr,w.mono (λv q u H' g s r=>q u H' (g.le l) (s.le l.f) r) q⟩⟩
def af(i:Nat)(hs:‹fs[i]?=am (am (.val v))›)(hN:‹X.N[i]?=am x›)(hv:wX X.env.scope x:=by first|exact B4 rfl|exact B3 (B4 rfl)|exact B3 (B3 rfl))(hd: ~~~(gq x))(gM: ~~~(zy x)):EF X K fs (.Name x pos) (.ret v):=
 ⟨PE.imp (c8 hN hv hd gM) λσ H Q ⟨sr,q⟩=>by
  obtain⟨u,e1,r⟩:=sr.at' i _ hs;rcases r with⟨w,e,r⟩|⟨a,_,r⟩
  .cases e;exact⟨u,e1,q u H .refl sr r⟩
  .exact r.elim⟩
def f_c{v:V}{p:PV}(hv:∀H,VR K [] H v p)(h:PE X e (tC v)):EF X K fs e (.ret p):=⟨PE.imp h λσ H Q ⟨sr,q⟩=>q v H .refl sr (hv _)⟩
def aB{i j}:EF X K fs (.Constant (.int i) j pos) (.ret (.int i)):=f_c (λ_=>.int i) bq
def aaj{b j}:EF X K fs (.Constant (.bool b) j pos) (.ret (.bl b)):=f_c (λ_=>.bl b) ack
def qp{j}:EF X K fs (.Constant .none j pos) (.ret .aM):=f_c (λ_=>.aM) Qn
def qo{x j}:EF X K fs (.Constant (.str x) j pos) (.ret (.str x)):=f_c (λ_=>.str x) YR
def yV{i:Int}{t:Tok}(hm:X.mg x=am (.int i t))(hg:Gl X x)(hd: ~~~(gq x)):EF X K fs (.Name x pos) (.ret (.int i)):=f_c (λ_=>.int i) (rC hg hm ⟨_,rfl⟩ hd)
def yU{i:Str}{t:Tok}(hm:X.mg x=am (.str i t))(hg:Gl X x)(hd: ~~~(gq x)):EF X K fs (.Name x pos) (.ret (.str i)):=f_c (λ_=>.str i) (rC hg hm ⟨_,rfl⟩ hd)
def of2(m:M2)(x y:PV):W PV:=⟨λQ=>m.f x y [] λz h=>h=[]/\Q z,λf q=>m.mono (λ_ _ q=>⟨q.1,f _ q.2⟩) q⟩
def hr0(H:Hp):HR K [] H []:=⟨FN,rfl,λn a o e _=>by simp at e⟩
def pq0{Q:VK}{z:PV}{h:PH}(sr:aR K H σ fs)(q:h=[]/\∀u H',bZ σ fs H H'->aR K H' σ fs->VR K [] H' u z->Q u H'):pQ K [] H Q z h:=λι' v H' g r x=>by
 obtain⟨e,q⟩:=q;subst e;have:ι'=[]:=B7 r.len;subst this;have sm:iZ H H':=λa o z=>g.keep a o (by simp) z;exact q v H' (bZ.same sm) (sr.same sm) x
def Y5{r:R2}{m:M2}(hm:M2.Ok K r m){Q:VK}{v:V}{x y:PV}(sr:aR K H σ fs)(hu:VR K [] H u x)(hv:VR K [] H v y)(q:(of2 m x y).run λz=>∀u H',bZ σ fs H H'->aR K H' σ fs->VR K [] H' u z->Q u H'):r u v H Q:=
 hm (hr0 H) hu hv (m.mono (λz h q=>pq0 sr q) q)
def RO{r:R2}{m:M2}(hm:M2.Ok K r m):∀σ H Q,fE K fs (.bind wa λx=>.bind wb λy=>of2 m x y) fs2 σ H Q->Wq r (fE K fs wa az) (fE K az wb fs2) σ H Q:=λσ H Q ⟨sr,q⟩=>
 ⟨sr,wa.mono (λx q1 u1 H1 g1 s1 v1=>⟨s1,wb.mono (λy q2 u2 H2 g2 s2 v2=>Y5 hm s2 (g2.vr s1 v1) v2 ((of2 m x y).mono (λz q u3 H3 g3 s3 v3=>q u3 H3 ((g1.trans g2).trans g3) s3 v3) q2)) q1⟩) q⟩
def VE{op:Operator}{r:R2}{m:M2}(ho:iD X (ut op) r)(hm:M2.Ok K r m)(ha:EF X K fs a wa az)(hb:EF X K az b wb fs2):EF X K fs (.BinOp a op b pos) (.bind wa λx=>.bind wb λy=>of2 m x y) fs2:=⟨PE.imp (cX ho ha.p hb.p) (RO hm)⟩
def wI(ha:EF X K fs a wa az)(hb:EF X K az b wb fs2):EF X K fs (.BinOp a .Sub b pos) (.bind wa λx=>.bind wb λy=>of2 GI x y) fs2:=VE YX (Ie λ_ _ _ _=>.int _) ha hb
def R5(ha:EF X K fs a wa az)(hb:EF X K az b wb fs2):EF X K fs (.BinOp a .Mult b pos) (.bind wa λx=>.bind wb λy=>of2 Qy x y) fs2:=VE k8 (KH λ_ _ _ _=>.int _) ha hb
def Xz(ha:EF X K fs a wa az)(hb:EF X K az b wb fs2):EF X K fs (.BinOp a .Mod b pos) (.bind wa λx=>.bind wb λy=>of2 oMod x y) fs2:=VE o9 (KH λ_ _ _ _=>.int _) ha hb
def R4(ha:EF X K fs a wa az)(hb:EF X K az b wb fs2):EF X K fs (.BinOp a .Pow b pos) (.bind wa λx=>.bind wb λy=>of2 Qw x y) fs2:=VE YZ (KH λ_ _ _ _=>.int _) ha hb
def nR:PV->W PV
 |.int i=>.ret (.int (-i))
 |_=>.fail
def ou(ha:EF X K fs a wa az):EF X K fs (.UnaryOp .USub a pos) (.bind wa nR) az:=⟨PE.imp (ach X3 ha.p) λσ H Q ⟨sr,q⟩=>⟨sr,wa.mono (λx q1 u1 H1 g1 s1 v1=>by
 cases v1 with
 |int i=>exact⟨_,rfl,q1 _ H1 g1 s1 (.int _)⟩
 |_=>exact q1.elim) q⟩⟩
def asB:PV->W Bool
 |.bl b=>.ret b
 |_=>.fail
def HE{m:M2}(hc:JC X K op b m)(ha:EF X K fs a wa az)(hb:EF X K az b wb fs2):EF X K fs (.Compare a [op] [b] pos) (.bind wa λx=>.bind wb λy=>of2 m x y) fs2:=let ⟨_,h1,h2⟩:=hc.p;⟨PE.imp (Lo h1 ha.p hb.p hc.k) (RO h2)⟩
def adT{w:W PV}:∀σ H Q,fT K fs (.bind w asB) az σ H Q->(fE K fs w az) σ H λx H'=>∃k,x=.bl k/\Q k H':=λσ H Q ⟨sr,q⟩=>⟨sr,w.mono (λx q1 u1 H1 g1 s1 v1=>by
 cases v1 with
 |bl b=>exact⟨b,rfl,q1 H1 g1 s1⟩
 |_=>exact q1.elim) q⟩
def dQ{m:M2}(hc:JC X K op b m)(ha:EF X K fs a wa az)(hb:EF X K az b wb fs2):TF X K fs (.Compare a [op] [b] pos) (.bind wa λx=>.bind wb λy=>.bind (of2 m x y) asB) fs2:=let ⟨_,h1,h2⟩:=hc.p
 ⟨PT.imp (gR h1 ha.p hb.p hc.k) λσ H Q q=>RO h2 σ H _ (adT σ H Q q)⟩
def Sq(z:PV)(w:W PV):W PV:=match z with
 |.bl true=>w
 |.bl false=>.ret (.bl false)
 |_=>.fail
def V7(x:PV)(w:W PV):W PV:=match x with
 |.bl true=>w
 |.bl false=>.ret (.bl false)
 |_=>.fail
def ad6(ha:EF X K fs a wa az)(hb:EF X K az (.BoolOp .And (b::rest) pos) wb fs2)(hl:oQ az fs2:=by exact .refl _):EF X K fs (.BoolOp .And (a::b::rest) pos) (.bind wa λx=>V7 x wb) fs2:=⟨PE.imp (YU ha.p hb.p) λσ H Q ⟨sr,q⟩=>⟨sr,wa.mono (λx q1 u1 H1 g1 s1 v1=>by
 cases v1 with
 |bl k=>
  cases k with
  |true=>exact⟨true,rfl,by rw[if_pos rfl];exact⟨s1,wb.mono (λ_ q u H' g s v=>q u H' (g1.trans g) s v) q1⟩⟩
  |false=>exact⟨false,rfl,by rw[if_neg AY];exact q1 _ H1 (g1.le hl) (s1.le hl.f) (.bl _)⟩
 |_=>exact q1.elim) q⟩⟩
def ad2{op}(h:EF X K fs a wa az):EF X K fs (.BoolOp op [a] pos) wa az:=⟨YS h.p⟩
variable{ta tb tc:W Bool}
def rh(h:TF X K fs a ta az):OA X K fs (.BoolOp .And [a] pos) ta az:=⟨Lk h.p⟩
def X4(h:TF X K fs a ta az):OA X K fs (.BoolOp .Or [a] pos) ta az:=⟨YK h.p⟩
def xc(ha:TF X K fs a ta az)(hb:OA X K az (.BoolOp .And (b::rest) pos) tb fs2)(hl:oQ az fs2:=by exact .refl _):OA X K fs (.BoolOp .And (a::b::rest) pos) (.bind ta λk=>if k=true then tb else .ret false) fs2:=⟨PW.imp (Qa ha.p hb.p) λσ H Q ⟨sr,q⟩=>⟨sr,ta.mono (λk q1 H1 g1 s1=>by
 cases k with
 |true=>exact yr ⟨s1,tb.mono (λ_ q H' g s=>q H' (g1.trans g) s) q1⟩
 |false=>exact yt (q1 H1 (g1.le hl) (s1.le hl.f))) q⟩⟩
def abt(ha:TF X K fs a ta az)(hb:OA X K az (.BoolOp .Or (b::rest) pos) tb fs2)(hl:oQ az fs2:=by exact .refl _):OA X K fs (.BoolOp .Or (a::b::rest) pos) (.bind ta λk=>if k=true then .ret true else tb) fs2:=⟨PW.imp (acf ha.p hb.p) λσ H Q ⟨sr,q⟩=>⟨sr,ta.mono (λk q1 H1 g1 s1=>by
 cases k with
 |true=>exact yr (q1 H1 (g1.le hl) (s1.le hl.f))
 |false=>exact yt ⟨s1,tb.mono (λ_ q H' g s=>q H' (g1.trans g) s) q1⟩) q⟩⟩
def OA.t(h:OA X K fs a ta az):TF X K fs a ta az:=⟨PW.pt h.p⟩
def Pf(ha:TF X K fs a ta az):TF X K fs (.UnaryOp .Not a pos) (.bind ta λk=>.ret (!k)) az:=⟨PT.imp (YL ha.p) λσ H Q ⟨sr,q⟩=>⟨sr,q⟩⟩
def yT(hc:TF X K fs c tc az)(ha:EF X K az a wa fs2)(hb:EF X K az b wb fs2):EF X K fs (.IfExp c a b pos) (.bind tc λk=>if k=true then wa else wb) fs2:=⟨PE.imp (Gz hc.p ha.p hb.p) λσ H Q ⟨sr,q⟩=>⟨sr,tc.mono (λk q1 H1 g1 s1=>by
 cases k with
 |true=>exact yr ⟨s1,wa.mono (λ_ q u H' g s v=>q u H' (g1.trans g) s v) q1⟩
 |false=>exact yt ⟨s1,wb.mono (λ_ q u H' g s v=>q u H' (g1.trans g) s v) q1⟩) q⟩⟩
def acN{la lb:W (O PV)}(hc:TF X K fs c tc az)(ha:LF X K az a la fs2)(hb:LF X K az b lb fs2):LF X K fs (.IfExp c a b pos) (.bind tc λk=>if k=true then la else lb) fs2:=⟨PE.imp (Gz hc.p ha.p hb.p) λσ H Q ⟨sr,q⟩=>⟨sr,tc.mono (λk q1 H1 g1 s1=>by
 cases k with
 |true=>exact yr ⟨s1,la.mono (λ_ q a vs H' g s n e v=>q a vs H' (g1.trans g) s (g1.there a n) e v) q1⟩
 |false=>exact yt ⟨s1,lb.mono (λ_ q a vs H' g s n e v=>q a vs H' (g1.trans g) s (g1.there a n) e v) q1⟩) q⟩⟩
def i6:PV->W Bool
 |.aM=>.ret false
 |.bl b=>.ret b
 |.int i=>.ret (i != 0)
 |.str y=>.dN (y.length<=sizeLine) (.ret ((y.length:Int) != 0))
 |.tup l=>.ret (!l.isEmpty)
 |.cl l=>.ret (!l.isEmpty)
 |_=>.fail
def iH(hK:X.K=K)(ha:EF X K fs a wa az)(he:∀Å,isTrue a X.env Å=(do let v <- Å;standAt a.pos;GM [v] (truthy v))):TF X K fs a (.bind wa i6) az:=⟨PT.imp (vZ K hK ha.p he) λσ H Q ⟨sr,q⟩=>⟨sr,wa.mono (λx q1 u1 H1 g1 s1 v1=>by
 cases v1 with
 |aM=>exact⟨false,rfl,q1 H1 g1 s1⟩
 |bl b=>exact⟨b,rfl,q1 H1 g1 s1⟩
 |int i=>exact⟨_,rfl,q1 H1 g1 s1⟩
 |str y=>exact⟨_,⟨q1.1,rfl⟩,q1.2 H1 g1 s1⟩
 |ty _=>exact q1.elim
 |dk _ _ _=>exact q1.elim
 |dt _ _ _=>exact q1.elim
 |ob _ _ _ _ _=>exact q1.elim
 |hand _=>exact q1.elim
 |ref _=>exact q1.elim
 | @tup p vs l e rs=>
  refine⟨!vs.isEmpty,.inr (.inl ⟨_,dM.of e,rfl⟩),?_⟩;rw[<- kE rs];exact q1 H1 g1 s1
 | @cl p vs l e rs=>
  refine⟨!vs.isEmpty,.inl ⟨_,e.sq,rfl⟩,?_⟩;rw[<- kE rs];exact q1 H1 g1 s1) q⟩⟩
def abv(hK:X.K=K)(ha:QF X K fs a wl az)(he:∀Å,isTrue a X.env Å=(do let v <- Å;standAt a.pos;GM [v] (truthy v))):TF X K fs a (.bind wl λl=>.ret (!l.isEmpty)) az:=⟨PT.imp (vZ K hK ha.p he) λσ H Q ⟨sr,q⟩=>⟨sr,wl.mono (λl q1 u1 H1 g1 s1 v1=>by
 obtain⟨b,vs,rfl,h,rs⟩:=v1.sq s1;refine⟨!vs.isEmpty,?_,?_⟩
 .exact h.elim (λh=>.inl ⟨_,h,rfl⟩) λh=>.inr (.inl ⟨_,h,rfl⟩)
 .rw[<- kE rs];exact q1 H1 g1 s1) q⟩⟩
variable{R:Type}{ks:O AK}{B:(O PV->W R)->W R}
def ai:AF X K fs [] [] (R:=R) (λk=>k []):=⟨.ret [],PA.imp bC λσ H Q ⟨sr,q⟩=>q [] H .refl sr .nil,λk=>rfl⟩
def ak(ha:EF X K fs e w az)(hr:AF X K az es ks B fs2)(hs:‹gK X e es›):AF X K fs (e::es) (.v::ks) (λk=>.bind w λx=>B λl=>k (x::l)) fs2:=by
 obtain⟨wr,hp,hB⟩:=hr.p;refine⟨.bind w λx=>.bind wr λl=>.ret (x::l),PA.imp (aY ha.p hp hs) λσ H Q ⟨sr,q⟩=>?_,λk=>?_⟩
 .exact⟨sr,w.mono (λx q1 u1 H1 g1 s1 v1=>⟨s1,wr.mono (λl q2 vs H2 g2 s2 v2=>q2 _ H2 (g1.trans g2) s2 (.v (g2.vr s1 v1) v2)) q1⟩) q⟩
 .have:(λx=>B λl=>k (x::l))=λx=>bn wr λl=>k (x::l):=funext λx=>hB _;rw[this];rfl
theorem fu.OG:∀{vs:O V}{n:Nat}{l:O PV},fu K H vs (Ao n .v) l->aE K [] H vs l/\l.length=n
 |_,0,_,.nil=>⟨.nil,rfl⟩
 |_,n+1,_,.v r t=>⟨.cons r (fu.OG t).1,by rw[Aq,(fu.OG t).2]⟩
def ad1{x1}{B:(O PV->W PV)->W PV}(h:AF X K fs es (Ao n .v) B az)(hn: ~~~(n<=1000)):EF X K fs (.Tuple es x1 pos) (B λl=>.ret (.tup l)) az:=by
 obtain⟨w,hp,hB⟩:=h.p;rw[hB];refine⟨PE.imp (Um hp) λσ H Q ⟨sr,q⟩=>⟨sr,w.mono (λl q1 vs H1 g1 s1 v1=>?_) q⟩⟩;obtain⟨v2,hl⟩:=v1.OG;exact⟨by rw[v2.length,hl];exact bO hn,λp H2 s2 e2 n2=>q1 _ H2 (g1.trans (bZ.same s2)) (s1.same s2) (.tup e2 (aE.tk s2.ff v2))⟩
def WZ{B:(O PV->W (O PV))->W (O PV)}(h:AF X K fs es (Ao n .v) B az)(hn: ~~~(n<=1000)):LF X K fs (.List es pos) (B λl=>.ret l) az:=by
 obtain⟨w,hp,hB⟩:=h.p;rw[hB];refine⟨PE.imp (xD hp) λσ H Q ⟨sr,q⟩=>⟨sr,w.mono (λl q1 vs H1 g1 s1 v1=>?_) q⟩⟩;obtain⟨v2,hl⟩:=v1.OG;exact⟨by rw[v2.length,hl];exact bO hn,λp H2 s2 e2 n2=>q1 _ _ H2 (g1.trans (bZ.same s2)) (s1.same s2) (g1.there p n2) e2 (aE.tk s2.ff v2)⟩
end
end
end FL
namespace L2
def Inv.rQ{σ:St}{s:cr}(I:Inv X Z σ H s)(e:H a=am (.lst vs)):∃o,Inv X Z σ (upd H a (.bS o (.lst vs))) s:=by
 obtain⟨z,aq,n,r,h1⟩:=(I.br a _ e);exact⟨_,I.write (by rw[e];exact BV) (.inl rfl) (λb u _ z=>z) ⟨_,h1⟩ ⟨h1,z,aq,n,r,h1⟩⟩
def Inv.L4{σ:St}{s:cr}{aA:O (Key×V)}(I:Inv X Z σ H s)(e:H a=am (.dK aA)):∃o,Inv X Z σ (upd H a (.bS o (.dK aA))) s:=by
 obtain⟨z,hs,vs,r,o,es,ep,h1,h2⟩:=(I.br a _ e);exact⟨o,I.write (by rw[e];exact BV) (.inl rfl) (λb u _ z=>z) ⟨o,h1⟩ ⟨h1,z,hs,vs,r,o,es,ep,h1,h2⟩⟩
end L2
variable{t:FL.SL}{ks:O FL.AK}{B:(O PL.PV->FL.W PL.PV)->FL.W PL.PV}{q0:Option A9}
namespace FL
section
variable[bN]
variable{K:Aa}
section
def rj(o':HO)(e:H a=am (.lst vs)):bh K H (upd H a o'):=⟨λb ws q=>by rw[aj (Ly q e (by intro z;cases z))];exact q,λb o u q=>by rw[aj (Ly q e (by intro z;cases z))];exact q,xk λb φ q=>by rw[aj (Ly q e (by intro z;cases z))];exact q⟩
def dvK(aA:O (Key×PV)):PV:=.dv (aA.map λkv=>kP kv.1) (aA.map (·.2))
def Sf(aA:O (O Key×PV)):PV:=.dv (aA.map λkv=>.tup (kv.1.map kP)) (aA.map (·.2))
def acp(h:o.ow=true):∀φ,o≠.ext φ:=λφ e=>by subst e;cases h
def fg{oh:HO}(o':HO)(e:H a=am oh)(n1:∀vs,oh≠.tup vs)(n2:∀o u,oh≠.bS o u)(n3:∀φ,oh≠.ext φ:=by first|(intro φ z;cases z;done)|exact acp (by assumption)):bh K H (upd H a o'):=⟨λb ws q=>by rw[aj (λz=>by subst z;rw[e]at q;cases q;exact n1 _ rfl)];exact q,λb o u q=>by rw[aj (λz=>by subst z;rw[e]at q;cases q;exact n2 _ _ rfl)];exact q,xk λb φ q=>by rw[aj (λz=>by subst z;rw[e]at q;cases q;exact n3 _ rfl)];exact q⟩
def W3{vs:O (O Key×V)}{aA:O (O Key×PV)}(h:vs.map (·.1)=aA.map (·.1)):(aA.map λkv=>PV.tup (kv.1.map kP))=vs.map λkv=>PV.tup (kv.1.map kP):=by
 have:=congrArg (E1 λk:O Key=>PV.tup (k.map kP)) h;rw[AO,AO]at this;exact this.symm
def W4{vs:O (Key×V)}{aA:O (Key×PV)}(h:vs.map (·.1)=aA.map (·.1)):(aA.map λkv=>kP kv.1)=vs.map λkv=>kP kv.1:=by
 have:=congrArg (E1 kP) h;rw[AO,AO]at this;exact this.symm
def SL.bw:SL->Bool
 |.ol _ _=>true
 |.od _=>true
 |.ot _=>true
 |_=>false
def SL.bv:SL->PV
 |.ol _ l=>.cl l
 |.od aA=>dvK aA
 |.ot aA=>Sf aA
 |_=>.aM
def SL.Su(h:t.bw=true):t.own=true:=by cases t<;>first|rfl|cases h
def adA{s:cr}(I:Inv X Z σ' H s)(oa:fK K H a t)(hb:t.bw=true):∃ob o,H a=am o/\(∀vs,o≠.tup vs)/\(∀ob u,o≠.bS ob u)/\Inv X Z σ' (upd H a (.bS ob o)) s/\VR K [] (upd H a (.bS ob o)) (.ref a) t.bv:=by
 cases t with
 |ol q l=>
  obtain⟨_,vs,e,r⟩:=oa;obtain⟨ob,I2⟩:=I.rQ e;exact⟨ob,_,e,by simp,by simp,I2,.cl (.inl ⟨ob,ay⟩) (aE.tk (fg _ e (by simp) (by simp)) r)⟩
 |od l=>
  obtain⟨vs,e,k,r⟩:=oa;obtain⟨ob,I2⟩:=I.L4 e;exact⟨ob,_,e,by simp,by simp,I2,.dk ay (W4 k) (aE.tk (fg _ e (by simp) (by simp)) r)⟩
 |ot l=>
  obtain⟨vs,e,k,r⟩:=oa;obtain⟨ob,I2⟩:=I.freeze e;exact⟨ob,_,e,by simp,by simp,I2,.dt ay (W3 k) (aE.tk (fg _ e (by simp) (by simp)) r)⟩
 |_=>cases hb
def aR.adz{u:HO}(sr:aR K H σ fs)(hs:fs[i]?=am (am t))(ho:t.own=true)(e1:σ[i]?=am (am (.ref a)))(h1:H a=am o)(n1:∀vs,o≠.tup vs)(n2:∀ob u,o≠.bS ob u)(vr:VR K [] (upd H a u) (.ref a) v):aR K (upd H a u) σ (fs.set i (am (.val v))):=by
 have ow:o.ow=true:=by
  obtain⟨o',z1,_,_,z2⟩:=(sr.ownAt hs ho e1).ex ho (.inl rfl);rw[h1]at z1;cases z1;exact z2
 have nt:o.nt=true:=Lr ow;refine⟨by simp[sr.len],λj t' z=>?_,λj k t' u b1 b2 b z1 z2 o1 o2=>?_,sr.tb.vX (λb o n z=>by rw[aj n];exact z) h1 nt n2⟩
 .rcases bF z with⟨rfl,rfl⟩|⟨n,z⟩
  .exact⟨_,e1,.inl ⟨_,rfl,vr⟩⟩
  .obtain⟨u,k1,k2⟩:=sr.at' j t' z;exact⟨u,k1,k2.mono (fg _ h1 n1 n2) (λx b o eb ow hb zz _=>by
    subst eb;rw[aj (λy=>by subst y;exact n (sr.nd j i t' _ x b b z hs ow ho k1 e1 hb (.inl rfl)))];exact zz)⟩
 .rcases bF z1 with⟨rfl,rfl⟩|⟨n1,z1⟩
  .cases o1
  .rcases bF z2 with⟨rfl,rfl⟩|⟨n2,z2⟩
   .cases o2
   .exact sr.nd j k t' u b1 b2 b z1 z2 o1 o2
def aR.side(s:aR K H σ fs)(n:¬bT σ fs a)(e:H a=am (.lst vs))(o':HO):aR K (upd H a o') σ fs:=⟨s.len,λi t q=>by
 obtain⟨u,h1,h2⟩:=s.at' i t q;exact⟨u,h1,h2.mono (rj o' e) (λx b o eb ow hb z _=>by subst eb;rw[aj (λy:b=a=>n ⟨i,t,x,q,ow,h1,y▸hb⟩)];exact z)⟩,s.nd,s.tb.vX (λb o n z=>by rw[aj n];exact z) e rfl (by simp)⟩
def bZ.side(g:bZ σ fs H H1 aN)(h0:H a=ce)(e0:∀φ,H1 a≠am (.ext φ))(o':HO):bZ σ fs H (upd H1 a o') aN:=⟨λb o e n t=>by rw[aj (bG e h0)];exact g.keep b o e n t,λb e=>by
 by_cases c:b=a
 .subst c;exact h0
 .rw[aj c]at e;exact g.there b e,g.ev,λb z=>by
 have z:=g.x b z;unfold cO at z ⊢;rw[aj (λy=>by subst y;exact e0 _ z)];exact z⟩
end
section
variable{a:nw}{w:W PV}
def gF(h:LF X K fs e wl az):EF X K fs e (.bind wl λl=>.ret (.cl l)) az:=⟨λZ s σ H Q I ⟨sr,q⟩=>by
 refine bU (h.p Z s σ H (λu H1=>∃a vs l,u=.ref a/\bZ σ fs H H1 az/\aR K H1 σ az/\H a=ce/\H1 a=am (.lst vs)/\aE K [] H1 vs l/\∀u H',bZ σ fs H H' az->aR K H' σ az->VR K [] H' u (.cl l)->Q u H') I ⟨sr,wl.mono (λl q1 a vs H1 g1 s1 n e v=>⟨a,vs,l,rfl,g1,s1,n,e,v,q1⟩) q⟩) λu s1 ⟨v,H1,I1,r1,a,vs,l,e,g1,PK,n,ea,vr,q1⟩=>?_;subst e;obtain⟨ob,I2⟩:=I1.rQ ea;exact⟨.ref a,_,I2,r1,q1 _ _ (g1.side n (λφ=>by rw[ea];simp) _) (PK.side (λz=>sr.noOwn n (g1.ev.eK z)) ea _) (.cl (.inl ⟨ob,ay⟩) (aE.tk (rj _ ea) vr))⟩⟩
def aG:PV->W (O PV)
 |.tup l=>.ret l
 |.cl l=>.ret l
 |_=>.fail
def bz(h:EF X K fs e w az):IF X K fs e (.bind w aG) az:=⟨PE.imp h.p λσ H Q ⟨sr,q⟩=>⟨sr,w.mono (λx q1 u1 H1 g1 s1 v1=>by
 cases v1 with
 |tup e r=>exact q1 _ H1 g1 s1 ⟨_,_,rfl,.inr e,r⟩
 |cl e r=>exact q1 _ H1 g1 s1 ⟨_,_,rfl,.inl e,r⟩
 |_=>exact q1.elim) q⟩⟩
def ml(h:LF X K fs e wl az):IF X K fs e wl az:=bz (gF h)
theorem IF.q(h:IF X K fs e wl az):QF X K fs e wl az:=⟨PE.imp h.p λσ H Q ⟨sr,q⟩=>⟨sr,wl.mono (λl q1 u1 H1 g1 s1 v1=>q1 u1 H1 g1 s1 (.inl v1)) q⟩⟩
def aH(h:EF X K fs e w az):QF X K fs e (.bind w aG) az:=(bz h).q
def sG(h:LF X K fs e wl az):QF X K fs e wl az:=⟨PE.imp h.p λσ H Q ⟨sr,q⟩=>⟨sr,wl.mono (λl q1 a vs H1 g1 s1 n e v=>q1 _ H1 g1 s1 (.inr ⟨a,rfl,.inl ⟨λz=>sr.noOwn n (g1.ev.eK z),vs,e,v⟩⟩)) q⟩⟩
def fD(i:Nat){l:O PV}(hs:‹fs[i]?=am (am (.ol q0 l))›)(hN:‹X.N[i]?=am x›)(hv:wX X.env.scope x:=by first|exact B4 rfl|exact B3 (B4 rfl)|exact B3 (B3 rfl))(hd: ~~~(gq x))(gM: ~~~(zy x)):QF X K fs (.Name x pos) (.ret l):=
 ⟨PE.imp (c8 hN hv hd gM) λσ H Q ⟨sr,q⟩=>by
  obtain⟨u,e1,r⟩:=sr.at' i _ hs;rcases r with⟨w,e,r⟩|⟨a,e,r⟩
  .cases e
  .subst e;exact⟨_,e1,q _ H .refl sr (.inr ⟨a,rfl,.inr ⟨i,q0,hs,e1⟩⟩)⟩⟩
def rL(l:O PV):PV->W PV
 |.int i=>.OK (fC l i)
 |_=>.fail
def bg(hK:X.K=K)(ha:QF X K fs a wl az)(hb:EF X K az b wb fs2)(hs:Mx b:=by exact λ_ _=>rfl):EF X K fs (.Subscript a b pos) (.bind wl λl=>.bind wb λy=>rL l y) fs2:=⟨PE.imp (fF (ck K hK) ha.p hb.p hs) λσ H Q ⟨sr,q⟩=>⟨sr,wl.mono (λl q1 u1 H1 g1 s1 v1=>⟨s1,wb.mono (λy q2 u2 H2 g2 s2 v2=>by
 cases v2 with
 |int i=>
  have q2:(W.OK (fC l i)).run _:=q2;cases z:fC l i with
  |none=>rw[z]at q2;exact q2.elim
  |some x=>
   rw[z]at q2;obtain⟨ad,vs,rfl,h,rs⟩:=(v1.go s1 g2).sq s2;obtain⟨v,e1,e2⟩:=aE.fC rs z;have q3:=q2 v H2 (g1.trans g2) s2 e2;exact h.elim (λh=>.inl ⟨ad,vs,i,v,rfl,rfl,h,e1,q3⟩) λh=>.inr (.inl ⟨ad,vs,i,v,rfl,rfl,h,e1,q3⟩)
 |_=>exact q2.elim) q1⟩) q⟩⟩
def Je(m:MB)(l:O PV):W PV:=⟨λQ=>m.f l [] λz h=>h=[]/\Q z,λf q=>m.mono (λ_ _ q=>⟨q.1,f _ q.2⟩) q⟩
section
variable{id:String}{r:O V->Hp->VK->Prop}
def Qv{m:MB}(hm:MB.Ok K r m){Q:VK}{us:O V}{l:O PV}(sr:aR K H σ fs)(hu:aE K [] H us l)(q:(Je m l).run λz=>∀u H',bZ σ fs H H'->aR K H' σ fs->VR K [] H' u z->Q u H'):r us H Q:=hm (hr0 H) hu (m.mono (λz h q=>pq0 sr q) q)
def VL{m:MB}(hc:cj X (.builtin id) r)(hB:MB.Ok K r m)(hg:Gl X x)(hm:X.mg x=ce)(hv:re x=am (.builtin id))(ha:AF X K fs (e::es) (Ao n .v) B az)(hn: ~~~(x≠"__name__"))(jq: ~~~(gq x))(he:‹gK X e es›)(cU:‹jO X pos es›):EF X K fs (.Call (.Name x p) (e::es) [] pos) (B (Je m)) az:=by
 obtain⟨w,hp,Ľ⟩:=ha.p;rw[Ľ];exact⟨PE.imp (dX hc hg hm hv hp hn jq he cU) λσ H Q ⟨sr,q⟩=>⟨sr,w.mono (λl q1 vs H1 g1 s1 v1=>Qv hB s1 v1.OG.1 ((Je m l).mono (λz q u H' g s v=>q u H' (g1.trans g) s v) q1)) q⟩⟩
def R9{m:MB}(hc:cj X (.type id) r)(hB:MB.Ok K r m)(hg:Gl X x)(hm:X.mg x=ce)(hv:re x=am (.type id))(ha:AF X K fs (e::es) (Ao n .v) B az)(hn: ~~~(x≠"__name__"))(jq: ~~~(gq x))(he:‹gK X e es›)(cU:‹jO X pos es›):EF X K fs (.Call (.Name x p) (e::es) [] pos) (B (Je m)) az:=by
 obtain⟨w,hp,Ľ⟩:=ha.p;rw[Ľ];exact⟨PE.imp (k7 hc hg hm hv hp hn jq he cU) λσ H Q ⟨sr,q⟩=>⟨sr,w.mono (λl q1 vs H1 g1 s1 v1=>Qv hB s1 v1.OG.1 ((Je m l).mono (λz q u H' g s v=>q u H' (g1.trans g) s v) q1)) q⟩⟩
def CQ(K:Aa)(r:O V->Hp->VK->Prop)(m:O PV->W PV):Prop:=∀{fs:aQ}{σ:L2.St}{H:Hp}{Q:VK}{u:V}{l:O PV},aR K H σ fs->Wc K σ fs H u l->((m l).run λz=>∀u H',bZ σ fs H H'->aR K H' σ fs->VR K [] H' u z->Q u H')->r [u] H Q
def CL(K:Aa)(r:O V->Hp->VK->Prop)(m:O PV->W (O PV)):Prop:=∀{fs:aQ}{σ:L2.St}{H:Hp}{Q:VK}{u:V}{l:O PV},aR K H σ fs->Wc K σ fs H u l->((m l).run λz=>∀a vs H',bZ σ fs H H'->aR K H' σ fs->H a=ce->H' a=am (.lst vs)->aE K [] H' vs z->Q (.ref a) H')->r [u] H Q
def Sd{m:O PV->W PV}(hc:cj X (.builtin id) r)(hB:CQ K r m)(hg:Gl X x)(hm:X.mg x=ce)(hv:re x=am (.builtin id))(ha:QF X K fs e wl az)(hn: ~~~(x≠"__name__"))(jq: ~~~(gq x))(he:‹gK X e []›)(cU:‹jO X pos []›):EF X K fs (.Call (.Name x p) [e] [] pos) (.bind wl m) az:=⟨PE.imp (dX hc hg hm hv (aY ha.p bC he) hn jq he cU) λσ H Q ⟨sr,q⟩=>⟨sr,wl.mono (λl q1 u H1 g1 s1 v1=>hB s1 v1 ((m l).mono (λz q u H' g s v=>q u H' (g1.trans g) s v) q1)) q⟩⟩
def Ob{m:O PV->W PV}(hc:cj X (.type id) r)(hB:CQ K r m)(hg:Gl X x)(hm:X.mg x=ce)(hv:re x=am (.type id))(ha:QF X K fs e wl az)(hn: ~~~(x≠"__name__"))(jq: ~~~(gq x))(he:‹gK X e []›)(cU:‹jO X pos []›):EF X K fs (.Call (.Name x p) [e] [] pos) (.bind wl m) az:=⟨PE.imp (k7 hc hg hm hv (aY ha.p bC he) hn jq he cU) λσ H Q ⟨sr,q⟩=>⟨sr,wl.mono (λl q1 u H1 g1 s1 v1=>hB s1 v1 ((m l).mono (λz q u H' g s v=>q u H' (g1.trans g) s v) q1)) q⟩⟩
def aeS{m:O PV->W (O PV)}(hc:cj X (.builtin id) r)(hB:CL K r m)(hg:Gl X x)(hm:X.mg x=ce)(hv:re x=am (.builtin id))(ha:QF X K fs e wl az)(hn: ~~~(x≠"__name__"))(jq: ~~~(gq x))(he:‹gK X e []›)(cU:‹jO X pos []›):LF X K fs (.Call (.Name x p) [e] [] pos) (.bind wl m) az:=⟨PE.imp (dX hc hg hm hv (aY ha.p bC he) hn jq he cU) λσ H Q ⟨sr,q⟩=>⟨sr,wl.mono (λl q1 u H1 g1 s1 v1=>hB s1 v1 ((m l).mono (λz q a vs H' g s n e v=>q a vs H' (g1.trans g) s (g1.there a n) e v) q1)) q⟩⟩
def Q1{m:O PV->W (O PV)}(hc:cj X (.type id) r)(hB:CL K r m)(hg:Gl X x)(hm:X.mg x=ce)(hv:re x=am (.type id))(ha:QF X K fs e wl az)(hn: ~~~(x≠"__name__"))(jq: ~~~(gq x))(he:‹gK X e []›)(cU:‹jO X pos []›):LF X K fs (.Call (.Name x p) [e] [] pos) (.bind wl m) az:=⟨PE.imp (k7 hc hg hm hv (aY ha.p bC he) hn jq he cU) λσ H Q ⟨sr,q⟩=>⟨sr,wl.mono (λl q1 u H1 g1 s1 v1=>hB s1 v1 ((m l).mono (λz q a vs H' g s n e v=>q a vs H' (g1.trans g) s (g1.there a n) e v) q1)) q⟩⟩
end
def yd(l:O PV):W PV:=.ret (.int l.length)
def UR(K:Aa):CQ K (YG K) yd:=λ{fs σ H Q u l} s v q=>by
 obtain⟨a,vs,rfl,h,rs⟩:=v.sq s;refine⟨_,vs.length,rfl,?_,?_⟩
 .exact h.elim (λh=>.inl ⟨_,h,rfl⟩) λh=>.inr ⟨_,h,rfl⟩
 .rw[rs.length];exact q _ H .refl s (.int _)
def ka(l:O PV):W PV:=.ret (.tup l)
def Te(K:Aa):CQ K (P0 K) ka:=λ{fs σ H Q u l} s v q=>by
 have fresh:∀{a:db}{vs:O V},b9 K H a vs->aE K [] H vs l->P0 K [.ref a] H Q:=λ{a vs} h rs=>⟨a,vs,rfl,.inl ⟨h,λp H2 s2 e2 n2=>q _ H2 (bZ.same s2) (s.same s2) (.tup e2 (aE.tk s2.ff rs))⟩⟩;rcases v with⟨a,vs,rfl,h|h,rs⟩|⟨a,rfl,⟨n,vs,h,rs⟩|⟨i,_,q1,q2⟩⟩
 .exact fresh h.sq rs
 .exact⟨a,vs,rfl,.inr ⟨dM.of h,q _ H .refl s (.tup h rs)⟩⟩
 .exact fresh (b9.of h) rs
 .obtain⟨_,vs,h,rs⟩:=s.ownAt q1 rfl q2;exact fresh (b9.of h) rs
end
end
end FL
variable{R:Type}{y:BR}{d:Nat}
namespace FL
section
variable[bN]
variable{K:Aa}
def pX(vs:O V)(ks:O AK)(ψ:Nat->O V->Prop)(d:Nat)(a:db):Prop:=∃i:Nat,ks[i]?=am (.p ψ d)/\vs[i]?=am (.ref a)
structure Wg(n:Nat)(vs:List V)(ks:List AK)(H H':Hp):Prop where
 keep:∀a o,H a=am o->(∀ψ d,¬pX vs ks ψ d a)->(nt:‹o.nt=true›)->H' a=am o
 tb:TB H'
 there:∀a,H' a=ce->H a=ce
 YO:∀a ψ d,pX vs ks ψ d a->w4 H' a ψ (n+d)
 x:∀b,cO H b->cO H' b
inductive i5(K:Aa)(H:Hp)(n:Nat):List V->List AK->List PV->Prop
 |nil:i5 K H n [] [] []
 |v {u:V}{x:PV}{vs:List V}{ks:List AK}{l:List PV} (r:VR K [] H u x) (t:i5 K H n vs ks l):i5 K H n (u::vs) (.v::ks) (x::l)
 |p {a:db}{ψ:Nat->List V->Prop}{d:Nat}{vs:List V}{ks:List AK}{l:List PV} (e:w4 H a ψ n) (r:n+d<=IW) (t:i5 K H n vs ks l):i5 K H n (.ref a::vs) (.p ψ d::ks) l
 |f {a:db}{us vs:List V}{ps:List PV}{fz:List (db×Obj)}{ks:List AK}{l:List PV} (r:aE K [] H us ps) (z:FzO H fz) (t:i5 K H n vs ks l):i5 K H n (.ref a::vs) (.f a us ps fz::ks) l
def Pr(K:Aa)(ks:O AK)(m:O PV->W PV):Sp:=λvs H Q _=>TB H/\∃n l,i5 K H n vs ks l/\(m l).run λv=>∀u H',Wg n vs ks H H'->VR K [] H' u v->Q u H'
def zW(K:Aa)(ks:O AK)(m:O PV->W (O PV)):Sp:=λvs H Q _=>TB H/\∃n l,i5 K H n vs ks l/\(m l).run λz=>∀a ws H',Wg n vs ks H H'->H a=ce->H' a=am (.lst ws)->aE K [] H' ws z->Q (.ref a) H'
def zG(R:Type):Nat->Type
 |0=>W R
 |n+1=>PV->zG R n
def qz:(n:Nat)->zG R n->O PV->W R
 |0,m,[]=>m
 |n+1,m,x::l=>qz n (m x) l
 |0,_,_::_=>.fail
 |_+1,_,[]=>.fail
section
variable{l:O PV}
def fu.nop(h:fu K H vs ks l):¬pX vs ks ψ d a:=by
 rintro⟨i,e1,e2⟩
 induction h generalizing i with
 |nil=>simp at e1
 |v r t ih=>cases i with|zero=>simp at e1|succ i=>exact ih i (by simpa using e1) (by simpa using e2)
 |f r z t ih=>cases i with|zero=>simp at e1|succ i=>exact ih i (by simpa using e1) (by simpa using e2)
def fu.c(h:fu K H vs ks l):i5 K H n vs ks l:=by
 induction h with
 |nil=>exact .nil
 |v r t ih=>exact .v r ih
 |f r z t ih=>exact .f r z ih
def Wg.caller(g:Wg n vs ks H H')(h:fu K H vs ks l)(s:aR K H σ fs):aR K H' σ fs/\bZ σ fs H H':=by
 have gf:bZ σ fs H H':=⟨λa o e _ t=>g.keep a o e (λ_ _=>h.nop) t,g.there,.refl _,g.x⟩;refine⟨⟨s.len,λi t e=>?_,s.nd,g.tb⟩,gf⟩;obtain⟨u,h1,h2⟩:=s.at' i t e;exact⟨u,h1,h2.mono (gf.dB s) λx a o _ _ _ z nt=>g.keep a o z (λ_ _=>h.nop) nt⟩
def Wg.VY{m:Nat}(g:Wg n (.ref a::vs) (.p ψ d::ks) H H')(h:fu K H vs ks l)(s:aR K H σ fs)(e1:fs[i]?=am (am (.cC ψ n m)))(e2:σ[i]?=am (am (.ref a)))(hd:n+d<=m):aR K H' σ (fs.set i (am (.cC ψ (n+d) m)))/\bZ σ fs H H' (fs.set i (am (.cC ψ (n+d) m))):=by
 have pa:∀{b ψ' d'},pX (.ref a::vs) (.p ψ d::ks) ψ' d' b->b=a:=λ{b ψ' d'} ⟨j,z1,z2⟩=>by
  cases j with
  |zero=>simp at z2;exact z2.symm
  |succ j=>exact(h.nop ⟨j,by simpa using z1,by simpa using z2⟩).elim
 have hi:i<fs.length:=(Ai.mp e1).1;have ev:Ev fs (fs.set i (am (.cC ψ (n+d) m))):=⟨by simp,λj=>by
  by_cases c:j=i
  .subst c;exact .inr ⟨ψ,n,n+d,m,e1,bc hi⟩
  .exact .inl (ao c).symm⟩
 have gf:bZ σ fs H H' (fs.set i (am (.cC ψ (n+d) m))):=⟨λb o e q t=>g.keep b o e (λψ' d' p=>q ψ m ⟨i,n,e1,by rw[pa p];exact e2⟩) t,g.there,ev,g.x⟩;have tk:=gf.dB s;obtain⟨_,_,hm⟩:=s.ownAt e1 rfl e2;refine⟨⟨by simp[s.len],λj t e=>?_,ev.nd s,g.tb⟩,gf⟩
 .rcases bF e with⟨rfl,rfl⟩|⟨c,e⟩
  .exact⟨_,e2,.inr ⟨a,rfl,g.YO a ψ d ⟨0,rfl,rfl⟩,hd,hm⟩⟩
  .obtain⟨u,h1,h2⟩:=s.at' j t e;refine⟨u,h1,h2.mono tk λx b o eb ow hb z nt=>g.keep b o z (λψ' d' p=>?_) nt⟩;subst eb;exact c (s.nd j i t _ x a b e e1 ow rfl h1 e2 hb (.inl (pa p)))
end
section
variable{n0 mx:Nat}
def aai{m:O PV->W PV}(G:SK X.prog X.w X.K X.mg X.base x k ps (Pr K ks m))(hr:cu k' X.A)(hk:k<=k')(hg:Gl X x)(ha:AF X K fs (e::es) ks B az)(jq: ~~~(gq x))(he:‹gK X e es›)(cU:‹jO X pos es›):EF X K fs (.Call (.Name x p) (e::es) [] pos) (B m) az:=by
 obtain⟨w,hp,hB⟩:=ha.p;rw[hB];exact⟨PE.imp (Ja G hr hk hg hp jq he cU) λσ H Q ⟨sr,q⟩=>⟨sr,w.mono (λl q1 vs H1 g1 s1 v1=>⟨s1.tb,0,l,v1.c,(m l).mono (λz q2 u H2 g2 r2=>let ⟨s2,g3⟩:=g2.caller v1 s1;q2 u H2 (g1.trans g3) s2 r2) q1⟩) q⟩⟩
def Zm{m:O PV->W (O PV)}{B:(O PV->W (O PV))->W (O PV)}(G:SK X.prog X.w X.K X.mg X.base x k ps (zW K ks m))(hr:cu k' X.A)(hk:k<=k')(hg:Gl X x)(ha:AF X K fs (e::es) ks B az)(jq: ~~~(gq x))(he:‹gK X e es›)(cU:‹jO X pos es›):LF X K fs (.Call (.Name x p) (e::es) [] pos) (B m) az:=by
 obtain⟨w,hp,hB⟩:=ha.p;rw[hB];exact⟨PE.imp (Ja G hr hk hg hp jq he cU) λσ H Q ⟨sr,q⟩=>⟨sr,w.mono (λl q1 vs H1 g1 s1 v1=>⟨s1.tb,0,l,v1.c,(m l).mono (λz q2 a ws H2 g2 n2 e2 r2=>let ⟨s2,g3⟩:=g2.caller v1 s1;q2 a ws H2 (g1.trans g3) s2 (g1.there a n2) e2 r2) q1⟩) q⟩⟩
def aab{m:Nat}(s:aR K H σ fs)(e:Ev fs az)(h:az[i]?=am (am (.cC ψ n m))):∃a,σ[i]?=am (am (.ref a))/\az[i]?=am (am (.cC ψ n m)):=by
 rcases e.get h with z|⟨_,j,_,_,z,y⟩
 .obtain⟨u,e1,r⟩:=s.at' i _ z;rcases r with⟨v,e,_⟩|⟨a,rfl,_⟩
  .cases e
  .exact⟨a,e1,h⟩
 .cases z;obtain⟨u,e1,r⟩:=s.at' i _ y;rcases r with⟨v,e,_⟩|⟨a,rfl,_⟩
  .cases e
  .exact⟨a,e1,h⟩
def VJ(i:Nat){m:O PV->W PV}(G:SK X.prog X.w X.K X.mg X.base x k ps (Pr K (.p ψ d::ks) m))(hr:cu k' X.A)(hk:k<=k')(hg:Gl X x)(hs:fs[i]?=am (am (.cC ψ n0 mx)))(ha:AF X K fs es ks B az)(tX:az[i]?=am (am (.cC ψ n mx)))(hd:n+d<=mx)(jq: ~~~(gq x))(hN:‹X.N[i]?=am y›)(hv:wX X.env.scope y:=by first|exact B4 rfl|exact B3 (B4 rfl)|exact B3 (B3 rfl))(Ī: ~~~(gq y))(gM: ~~~(zy y))(he:‹lm (.Name y py::es) X.env=(false,o0 (.Name y py) X.env)::lm es X.env›)(cU:‹jO X pos es›):EF X K fs (.Call (.Name x p) (.Name y py::es) [] pos) (B m) (az.set i (am (.cC ψ (n+d) mx))):=by
 obtain⟨w,hp,hB⟩:=ha.p;rw[hB];refine⟨PE.imp (Ja G hr hk hg (aY (c8 hN hv Ī gM) hp he) jq he cU) λσ H Q ⟨sr,q⟩=>?_⟩;obtain⟨a,e1,_⟩:=aab sr (.refl _) hs;refine⟨_,e1,sr,w.mono (λl q1 vs H1 g1 s1 v1=>?_) q⟩;obtain⟨pt,h1,h2⟩:=s1.ownAt tX rfl e1;exact⟨s1.tb,n,l,.p pt (Ax hd h2) v1.c,(m l).mono (λz q2 u H2 g2 r2=>let ⟨s2,g3⟩:=g2.VY v1 s1 tX e1 hd;q2 u H2 (g1.trans g3) s2 r2) q1⟩
end
end
end FL
variable{T:Type}{p':Cg}
namespace FL
section
variable[bN]
variable{K:Aa}
inductive End where
 |nx (fs:aQ)|nc (fs:aQ)|ct (fs:aQ)|rt (v:PV)|rl (l:List PV)|bk (fs:aQ)|ro (v:PV) (a:db) (l:List PV)
def zA(σ:L2.St)(fs:aQ)(H:Hp)(a:db):Prop:=H a=ce\/∃(i:Nat) (s:SL) (x:db),fs[i]?=am (am s)/\s.own=true/\(∀ψ n m,s≠.cC ψ n m)/\σ[i]?=am (am (.ref x))/\s.has x a
def cg(K:Aa)(x:Bool)(σ:L2.St)(fs:aQ)(H:Hp)(D:Ends):End->Prop
 |.nx aN=>x=false->∀σ' H',cF σ fs H σ' aN H'->aR K H' σ' aN->D.nx σ' H'
 |.nc aN=>∀σ' H',cF σ fs H σ' aN H'->aR K H' σ' aN->(x=false->D.nx σ' H')/\D.ct σ' H'
 |.ct aN=>∀σ' H',cF σ fs H σ' aN H'->aR K H' σ' aN->D.ct σ' H'
 |.bk aN=>∀σ' H',cF σ fs H σ' aN H'->aR K H' σ' aN->D.bk σ' H'
 |.rt v=>∀u σ' aN H',cF σ fs H σ' aN H'->aR K H' σ' aN->VR K [] H' u v->D.rt u H'
 |.ro v a l=>∀u σ' aN H',cF σ fs H σ' aN H'->aR K H' σ' aN->(∃i:Nat,aN[i]?=am (am (.ol (am a) l)))->VR K [] H' u v->D.rt u H'
 |.rl l=>∀a ws σ' aN H',cF σ fs H σ' aN H'->aR K H' σ' aN->zA σ fs H a->H' a=am (.lst ws)->aE K [] H' ws l->D.rt (.ref a) H'
def fS(K:Aa)(x:Bool)(fs:aQ)(w:W T)(out:T->End):TS:=λD σ H=>aR K H σ fs/\w.run λt=>cg K x σ fs H D (out t)
structure SF(X:Cx)(K:Aa)(x:Bool)(fs:aQ)(MP:List sB){T:Type}(w:W T)(out:T->End):Prop where p:mz X MP (fS K x fs w out)
section
variable{σ1:L2.St}{x:Bool}
def zA.go(g:cF σ fs H σ1 az H1)(s:aR K H σ fs)(s1:aR K H1 σ1 az)(h:zA σ1 az H1 a):zA σ fs H a:=by
 rcases h with h|⟨i,t,x,e1,e2,np,e3,e4⟩
 .exact .inl (g.there a h)
 .cases z:H a with
  |none=>exact .inl z
  |some o=>
   by_cases c:bT σ fs a
   .obtain⟨j,t',y,c1,c2,c3,c4⟩:=c;by_cases d:∃ψ n m,t'=.cC ψ n m
    .obtain⟨ψ,n,m,rfl⟩:=d;rcases c4 with rfl|c4
     .rcases g.pk a ψ m ⟨j,n,c1,c3⟩ with⟨k,_,k1,k2⟩|⟨n,_⟩
      .have:=s1.nd i k t _ x a a e1 k1 e2 rfl e3 k2 e4 (.inl rfl);subst this;rw[e1]at k1;cases k1;exact absurd rfl (np _ _ _)
      .exact absurd ⟨i,t,x,e1,e2,e3,e4⟩ n
     .cases c4
    .exact .inr ⟨j,t',y,c1,c2,λψ n m e=>d ⟨ψ,n,m,e⟩,c3,c4⟩
   .exact absurd ⟨i,t,x,e1,e2,e3,e4⟩ (g.keep a o z c).2
def cg.go(g:cF σ fs H σ1 az H1)(s:aR K H σ fs)(s1:aR K H1 σ1 az){E:End}(h:cg K x σ fs H D E):cg K x σ1 az H1 D E:=by
 cases E with
 |nx aN=>exact λhx σ' H' g' s'=>h hx σ' H' (g.trans g') s'
 |nc aN=>exact λσ' H' g' s'=>h σ' H' (g.trans g') s'
 |bk aN=>exact λσ' H' g' s'=>h σ' H' (g.trans g') s'
 |ct aN=>exact λσ' H' g' s'=>h σ' H' (g.trans g') s'
 |rt v=>exact λu σ' aN H' g' s' r=>h u σ' aN H' (g.trans g') s' r
 |ro v a l=>exact λu σ' aN H' g' s' o r=>h u σ' aN H' (g.trans g') s' o r
 |rl l=>exact λa ws σ' aN H' g' s' f e r=>h a ws σ' aN H' (g.trans g') s' (f.go g s s1) e r
def cg.exit{D':Ends}(h1:D'.rt=D.rt)(h2:D'.ct=D.ct)(h3:D'.bk=D.bk){E:End}(h:cg K x σ fs H D E):cg K true σ fs H D' E:=by
 cases E with
 |nx aN=>exact λhx=>nomatch hx
 |nc aN=>exact λσ' H' g' s'=>⟨λhx=>(nomatch hx),h2▸(h σ' H' g' s').2⟩
 |bk aN=>exact λσ' H' g' s'=>h3▸h σ' H' g' s'
 |ct aN=>exact λσ' H' g' s'=>h2▸h σ' H' g' s'
 |rt v=>exact λu σ' aN H' g' s' r=>h1▸h u σ' aN H' g' s' r
 |ro v a l=>exact λu σ' aN H' g' s' o r=>h1▸h u σ' aN H' g' s' o r
 |rl l=>exact λa ws σ' aN H' g' s' f e r=>h1▸h a ws σ' aN H' g' s' f e r
end
section
variable{X:Cx}{a b c e o:nw}{pos p:Pos}{fs aN az:aQ}{st:sB}{MP rest sa sb:O sB}{T T1:Type}{w wk:W T}{out:T->End}{we:W PV}{wl:W (O PV)}{x:Bool}
def End.He:End->Prop
 |.rt _=>True
 |.rl _=>True
 |.ro _ _ _=>True
 |_=>False
def cg.agy{D':Ends}{y:Bool}{E:End}(ho:E.He)(e:D'.rt=D.rt)(h:cg K x σ fs H D E):cg K y σ fs H D' E:=by
 cases E with
 |rt v=>exact λu σ' aN H' g s r=>e▸h u σ' aN H' g s r
 |rl v=>exact λa ws σ' aN H' g s f ea r=>e▸h a ws σ' aN H' g s f ea r
 |ro v a l=>exact λu σ' aN H' g s o r=>e▸h u σ' aN H' g s o r
 |_=>exact ho.elim
def zL(X:Cx)(K:Aa)(x:Bool)(rest:O sB){T:Type}(out:T->End):TS:=λD σ H=>∃aN w',SF X K x aN rest w' out/\fS K x aN w' out D σ H
def TX:mz X rest (zL X K x rest out):=λZ s σ H D I ⟨aN,w',h,q⟩=>h.p Z s σ H D I q
def QD:mz X rest Yc:=λ_ _ _ _ _ _ h=>h.elim
def SF.step{t:TS}(h:PS X st t)(hq:∀D σ H,fS K x fs w out D σ H->t {D with nx:=zL X K x rest out D} σ H):SF X K x fs (st::rest) w out:=⟨mz.imp (dW h TX) λD σ H q=>hq D σ H q⟩
def SF.last{t:TS}(h:PS X st t)(hq:∀D σ H,fS K x fs w out D σ H->t {D with nx:=λ_ _=>False} σ H):SF X K x fs (st::rest) w out:=⟨mz.imp (dW h QD) λD σ H q=>hq D σ H q⟩
def SF.nil{t:T}(h:out t=.nx aN)(hl:c6 fs aN):SF X K false fs [] (.ret t) out:=⟨mz.imp rA λD σ H ⟨sr,q⟩=>by
 have q:cg K false σ fs H D (out t):=q;rw[h]at q;exact q rfl σ H (cF.le sr hl) (sr.le hl)⟩
def SF.fi{t:T}(h:out t=.nc aN)(hl:c6 fs aN):SF X K false fs [] (.ret t) out:=⟨mz.imp rA λD σ H ⟨sr,q⟩=>by
 have q:cg K false σ fs H D (out t):=q;rw[h]at q;exact(q σ H (cF.le sr hl) (sr.le hl)).1 rfl⟩
def SF.cont{t:T}(h:out t=.nc aN\/out t=.ct aN)(hl:c6 fs aN):SF X K x fs (.Continue pos::rest) (.ret t) out:=SF.last Gr λD σ H ⟨sr,q⟩=>by
 have q:cg K x σ fs H D (out t):=q;rcases h with h|h
 .rw[h]at q;exact(q σ H (cF.le sr hl) (sr.le hl)).2
 .rw[h]at q;exact q σ H (cF.le sr hl) (sr.le hl)
def SF.ret{k:PV->T}(he:EF X K fs e we az)(h:∀v,out (k v)=.rt v):SF X K x fs (.Return (am e) pos::rest) (.bind we λv=>.ret (k v)) out:=SF.last (sH he.p) λD σ H ⟨sr,q⟩=>⟨sr,we.mono (λv q1 u H1 g1 s1 v1=>by
 have q1:cg K x σ fs H D (out (k v)):=q1;rw[h]at q1;exact q1 u σ az H1 g1.f s1 v1) q⟩
def SF.df{out:PV->End}(he:EF X K fs e we az)(h:∀v,out v=.rt v):SF X K x fs (.Return (am e) pos::rest) we out:=SF.ret (k:=λv=>v) he h
def SF.agh{k:O PV->T}(he:LF X K fs e wl az)(h:∀l,out (k l)=.rl l):SF X K x fs (.Return (am e) pos::rest) (.bind wl λl=>.ret (k l)) out:=SF.last (sH he.p) λD σ H ⟨sr,q⟩=>⟨sr,wl.mono (λl q1 a ws H1 g1 s1 n e v1=>by
 have q1:cg K x σ fs H D (out (k l)):=q1;rw[h]at q1;exact q1 a ws σ az H1 g1.f s1 (.inl n) e v1) q⟩
def SF.gr{out:O PV->End}(he:LF X K fs e wl az)(h:∀v,out v=.rl v):SF X K x fs (.Return (am e) pos::rest) wl out:=SF.agh he h
def SF.abV(i:Nat){l:O PV}{t:T}(hs:fs[i]?=am (am (.ol q0 l)))(h:out t=.rl l)(hN:‹X.N[i]?=am y›)(hv:wX X.env.scope y:=by first|exact B4 rfl|exact B3 (B4 rfl)|exact B3 (B3 rfl))(hd: ~~~(gq y))(gM: ~~~(zy y)):SF X K x fs (.Return (am (.Name y p)) pos::rest) (.ret t) out:=SF.last (sH (c8 hN hv hd gM)) λD σ H ⟨sr,q⟩=>by
 have q:cg K x σ fs H D (out t):=q;rw[h]at q;obtain⟨u,e1,r⟩:=sr.at' i _ hs;rcases r with⟨v,e,_⟩|⟨a,e,r⟩
 .cases e
 .subst e;obtain⟨_,ws,q1,q2⟩:=r;exact⟨_,e1,q a ws σ fs H .refl sr (.inr ⟨i,_,_,hs,rfl,by simp,e1,.inl rfl⟩) q1 q2⟩
def SF.expr{k:PV->W T}(he:EF X K fs e we az)(hr:∀v,SF X K x az rest (k v) out)(hs:‹pr e ce pos.line X.env=pure false›):SF X K x fs (.Expr e pos::rest) (.bind we k) out:=SF.step (k6 he.p hs) λD σ H ⟨sr,q⟩=>
 ⟨sr,we.mono (λv q1 u H1 g1 s1 v1=>⟨az,k v,hr v,s1,(k v).mono (λt q2=>q2.go g1.f sr s1) q1⟩) q⟩
def SF.set{k:PV->W T}(hN:X.N.Nodup)(hi:X.N[i]?=am y)(hx:Loc X.env.scope y)(he:EF X K fs e we az)(hr:∀v,SF X K x (az.set i (am (.val v))) rest (k v) out)(hs:‹pr e (am (.Name y p')) pos.line X.env=pure false›)(hf:SI X y:=by first|exact .inl rfl|exact .inr rfl|assumption):SF X K x fs (.Assign [.Name y p'] e pos::rest) (.bind we k) out:=SF.step (mD hN hi hx he.p hs hf) λD σ H ⟨sr,q⟩=>
 ⟨sr,we.mono (λv q1 u H1 g1 s1 v1=>⟨_,k v,hr v,s1.nJ v1 i,(k v).mono (λt q2=>q2.go (g1.f.trans (cF.nJ s1 u v i)) sr (s1.nJ v1 i)) q1⟩) q⟩
def SF.agc{k:O PV->W T}(hN:X.N.Nodup)(hi:X.N[i]?=am y)(hx:Loc X.env.scope y)(he:LF X K fs e wl az)(hr:∀l,SF X K x (az.set i (am (.ol ce l))) rest (k l) out)(hs:‹pr e (am (.Name y p')) pos.line X.env=pure false›)(hf:SI X y:=by first|exact .inl rfl|exact .inr rfl|assumption):SF X K x fs (.Assign [.Name y p'] e pos::rest) (.bind wl k) out:=SF.step (mD hN hi hx he.p hs hf) λD σ H ⟨sr,q⟩=>by
 refine⟨sr,wl.mono (λl q1 a ws H1 g1 s1 n e v1=>?_) q⟩;have no:¬bT σ az a:=λz=>sr.noOwn n (g1.ev.eK z);have s2:=s1.xA (t:=.ol ce l) ⟨by simp,ws,e,v1⟩ no i;exact⟨_,k l,hr l,s2,(k l).mono (λt q2=>q2.go (cF.xA s1 g1 no n i) sr s2) q1⟩
def SF.bS(i:Nat){t:SL}(hs:fs[i]?=am (am t))(hr:SF X K x (fs.set i (am (.val t.bv))) MP w out)(hb:‹t.bw=true›):SF X K x fs MP w out:=⟨λZ s σ H D I ⟨sr,q⟩=>by
 obtain⟨u,e1,r⟩:=sr.at' i _ hs;have ho:=SL.Su hb;rcases r with⟨v,e,_⟩|⟨a,e,oa⟩
 .subst e;cases hb
 .subst e;obtain⟨ob,o,h1,n1,n2,I2,vr⟩:=adA I oa hb;have ow:∀b,bT σ (fs.set i (am (.val t.bv))) b->bT σ fs b:=λb z=>by
   obtain⟨j,t,x,z1,z2,z3,z4⟩:=z;rcases bF z1 with⟨rfl,rfl⟩|⟨n,z1⟩
   .cases z2
   .exact⟨j,t,x,z1,z2,z3,z4⟩
  have s2:=sr.adz hs ho e1 h1 n1 n2 vr;have g2:cF σ fs H σ (fs.set i (am (.val t.bv))) (upd H a (.bS ob o)):=by
   refine⟨λb o z n=>⟨?_,λy=>n (ow b y)⟩,λb z=>?_,λb ψ m z=>?_,λb z=>?_⟩
   .intro _;rw[aj (λy=>by subst y;exact n ⟨i,_,_,hs,ho,e1,.inl rfl⟩)];exact z
   .by_cases c:b=a
    .subst c;rw[ay]at z;cases z
    .rw[aj c]at z;exact z
   .obtain⟨j,k,z1,z2⟩:=z;have:j≠i:=λy=>by subst y;rw[hs]at z1;cases z1;cases hb
    exact .inl ⟨j,k,by rw[ao this];exact z1,z2⟩
   .have z':H b=_:=z;show upd H a _ b=_;rw[aj (λy=>by subst y;exact sr.Y7 z' ⟨i,_,_,hs,ho,e1,.inl rfl⟩)];exact z'
  exact hr.p Z s σ _ D I2 ⟨s2,w.mono (λt q3=>q3.go g2 sr s2) q⟩⟩
variable{tc:W Bool}
def SF.ifT(hc:TF X K fs c tc az)(ha:SF X K x az sa w out)(hb:SF X K x az sb wk out):SF X K x fs [.If c sa sb pos] (.bind tc λb=>if b=true then w else wk) out:=⟨mz.imp (rz (Ll hc.p ha.p hb.p)) λD σ H ⟨sr,q⟩=>⟨sr,tc.mono (λk q1 H1 g1 s1=>by
 cases k with
 |true=>exact yr ⟨s1,w.mono (λt q2=>q2.go g1.f sr s1) q1⟩
 |false=>exact yt ⟨s1,wk.mono (λt q2=>q2.go g1.f sr s1) q1⟩) q⟩⟩
def SF.ifR(hc:TF X K fs c tc az)(ha:SF X K true az sa w out)(hb:SF X K x az rest wk out):SF X K x fs (.If c sa [] pos::rest) (.bind tc λb=>if b=true then w else wk) out:=SF.step (Ll hc.p ha.p rA) λD σ H ⟨sr,q⟩=>⟨sr,tc.mono (λk q1 H1 g1 s1=>by
 cases k with
 |true=>exact yr ⟨s1,w.mono (λt q2=>cg.exit (D:=D) (D':={D with nx:=zL X K x rest out D}) rfl rfl rfl (q2.go g1.f sr s1)) q1⟩
 |false=>exact yt ⟨az,wk,hb,s1,wk.mono (λt q2=>q2.go g1.f sr s1) q1⟩) q⟩
def aaD(X:Cx)(K:Aa)(x:Bool)(rest:O sB){T:Type}(w:W T)(out:T->End):End->Prop
 |.nx aN=>SF X K x aN rest w out
 |.nc aN=>False
 |.bk aN=>∃t,w=.ret t/\out t=.bk aN
 |.ct aN=>∃t,w=.ret t/\(out t=.ct aN\/out t=.nc aN)
 |.rt v=>∃t,w=.ret t/\out t=.rt v
 |.rl l=>∃t,w=.ret t/\out t=.rl l
 |.ro v a l=>∃t,w=.ret t/\out t=.ro v a l
def aaD.r{E:End}(sr:aR K H σ fs)(h:aaD X K x rest w out E)(q:w.run λt=>cg K x σ fs H D (out t)):cg K false σ fs H {D with nx:=zL X K x rest out D} E:=by
 cases E with
 |nx aN=>exact λ_ σ' H' g' s'=>⟨aN,w,h,s',w.mono (λt q2=>q2.go g' sr s') q⟩
 |nc aN=>exact h.elim
 |bk aN=>
  obtain⟨t,rfl,h⟩:=h;have q:cg K x σ fs H D (out t):=q;rw[h]at q;exact q
 |ct aN=>
  obtain⟨t,rfl,h⟩:=h;have q:cg K x σ fs H D (out t):=q;rcases h with h|h
  .rw[h]at q;exact q
  .rw[h]at q;exact λσ' H' g s=>(q σ' H' g s).2
 |rt v=>
  obtain⟨t,rfl,h⟩:=h;have q:cg K x σ fs H D (out t):=q;rw[h]at q;exact q
 |rl v=>
  obtain⟨t,rfl,h⟩:=h;have q:cg K x σ fs H D (out t):=q;rw[h]at q;exact q
 |ro v a l=>
  obtain⟨t,rfl,h⟩:=h;have q:cg K x σ fs H D (out t):=q;rw[h]at q;exact q
variable{w1 w2:W T1}{out1:T1->End}{k:T1->W T}
def SF.ifS(hc:TF X K fs c tc az)(ha:SF X K false az sa w1 out1)(hb:SF X K false az sb w2 out1)(hr:∀t,aaD X K x rest (k t) out (out1 t)):SF X K x fs (.If c sa sb pos::rest) (.bind tc λb=>.bind (if b=true then w1 else w2) k) out:=SF.step (Ll hc.p ha.p hb.p) λD σ H ⟨sr,q⟩=>⟨sr,tc.mono (λb q1 H1 g1 s1=>by
 have fin:∀t,(k t).run (λt=>cg K x σ fs H D (out t))->cg K false σ fs H {D with nx:=zL X K x rest out D} (out1 t):=λt q=>(hr t).r sr q;cases b with
 |true=>exact yr ⟨s1,w1.mono (λt q2=>(fin t q2).go g1.f sr s1) q1⟩
 |false=>exact yt ⟨s1,w2.mono (λt q2=>(fin t q2).go g1.f sr s1) q1⟩) q⟩
end
end
end FL
variable{is:O Nat}
namespace FL
section
variable[bN]
variable{K:Aa}
def JF(K:Aa)(H:Hp)(J:It)(l:O PV):Prop:=l.length<=sizeLine/\∀H',bh K H H'->(∀(i:Nat) (p:PV),l[i]?=am p->J.go i H'/\∀x H2,J.Wm i H' x H2->iZ H' H2/\VR K [] H2 x p)/\J.stop l.length H'
def JF.tk{J:It}{l:O PV}(t:bh K H H')(h:JF K H J l):JF K H' J l:=⟨h.1,λH2 t2=>h.2 H2 (bh.trans t t2)⟩
def fIt(K:Aa)(fs:aQ)(w:W (O PV))(aN:aQ:=fs):TI:=λσ H R=>aR K H σ fs/\w.run λl=>∀J H',bZ σ fs H H' aN->aR K H' σ aN->JF K H' J l->R J H'
structure mB(X:Cx)(K:Aa)(fs:aQ)(tg e:nw)(w:W (List PV))(aN:aQ:=fs):Prop where p:PI X tg e (fIt K fs w aN)
section
variable{a c:nw}{p2:Pos}
def Wf{ad:db}{l:O PV}(h:SJ K H ad vs)(r:aE K [] H vs l)(hz:l.length<=sizeLine):JF K H (Itl K ad) l:=⟨hz,λH' t=>by
 have e1:=(t.f _ _ h).sq;have e2:=aE.tk t r;refine⟨λi p hp=>?_,vs,e1,by rw[e2.length];exact Al _⟩;obtain⟨v,h3,h4⟩:=e2.get hp;refine⟨⟨vs,v,e1,h3⟩,λx H3 y=>?_⟩;obtain⟨rfl,y⟩:=y;have:=y vs e1;rw[h3]at this;cases this;exact⟨iZ.refl _,h4⟩⟩
def aaA{ad:db}{l:O PV}(h:H ad=am (.tup vs))(r:aE K [] H vs l)(hz:l.length<=sizeLine):JF K H (Itt K ad) l:=⟨hz,λH' t=>by
 have e1:=dM.of (K:=K) (t.t _ _ h);have e2:=aE.tk t r;refine⟨λi p hp=>?_,vs,e1,by rw[e2.length];exact Al _⟩;obtain⟨v,h3,h4⟩:=e2.get hp;refine⟨⟨vs,v,e1,h3⟩,λx H3 y=>?_⟩;obtain⟨rfl,y⟩:=y;have:=y vs e1;rw[h3]at this;cases this;exact⟨iZ.refl _,h4⟩⟩
def a7(hK:X.K=K)(h:IF X K fs e wl az):mB X K fs tg e wl az:=⟨by
 subst hK;intro Z s σ H R I ⟨sr,q⟩;refine bU (h.p Z s σ H (λu H1=>∃l,SqI X.K H1 u l/\∀J,JF X.K H1 J l->R J H1) I ⟨sr,wl.mono (λl q1 u H1 g1 s1 v1=>⟨l,v1,λJ j=>q1 J H1 g1 s1 j⟩) q⟩) λv s1 ⟨x,H1,I1,r1,l,⟨ad,vs,e,hh,rs⟩,q1⟩=>?_;subst e;cases r1;rcases hh with hh|hh
 .obtain⟨aq,rv,pl,hz⟩:=I1.list hh.sq;refine EG pl.isList ?_;refine⟨s1.heap.objs.size,[s1.heap.objs.size],_,_,H1,rfl,I1.kept λb o e=>Ae _ e,MF ad _,⟨_,Am _ rfl,rfl,rfl⟩,λb hb=>?_,q1 _ (Wf hh rs (by rw[<- rs.length];exact hz))⟩;have e:b=s1.heap.objs.size:=by simpa using hb
  subst e;exact I1.Hn (Al _) (I1.br.fresh (Al _))
 .obtain⟨aq,rv,pl,hz⟩:=I1.tuple (dM.of hh);refine Er (pl) ?_;refine⟨s1.heap.objs.size,[s1.heap.objs.size],_,_,H1,rfl,I1.kept (t':=s1.toks) λb o e=>Ae _ e,Iw ad _,⟨_,Am _ rfl,rfl,rfl⟩,λb hb=>?_,q1 _ (aaA hh rs (by rw[<- rs.length];exact hz))⟩;have e:b=s1.heap.objs.size:=by simpa using hb
  subst e;exact I1.Hn (Al _) (I1.br.fresh (Al _))⟩
def okN(i j:Int):Prop:=-(2 ^ 62)<=i/\i<2 ^ 62/\-(2 ^ 62)<=j/\j<2 ^ 62/\(j-i).toNat<=sizeLine
def lX:PV->W (O PV)
 |.int j=>.dN (okN 0 j) (.ret (g8 0 j.toNat))
 |_=>.fail
def PU:PV->PV->PV->W (O PV)
 |.int i,.int j,.int k=>.dN (k = -1/\okN j i) (.ret (qr i (i-j).toNat))
 |_,_,_=>.fail
def aaB(lo:Int)(n:Nat)(hz:n<=sizeLine):JF K H (Itr lo n) (g8 lo n):=⟨by rw[gk];exact hz,λH' t=>⟨λi p hp=>by
  obtain⟨h1,rfl⟩:=pJ hp;refine⟨h1,λx H2 y=>?_⟩;obtain⟨rfl,rfl⟩:=y;exact⟨iZ.refl _,.int _⟩,by rw[gk];exact Al _⟩⟩
theorem gZ(hg:Gl X "range")(hm:X.mg "range"=ce)(ha:EF X K fs a wa az)(hs:‹lm [a] X.env=[(false,o0 a X.env)]›):mB X K fs tg (.Call (.Name "range" p) [a] [] pos) (.bind wa lX) az:=
 ⟨PI.imp (M9 hg hm (aY ha.p bC hs) hs) λσ H R ⟨sr,q⟩=>⟨sr,wa.mono (λx q1 u1 H1 g1 s1 v1=>by
  cases v1 with
  |int j=>exact⟨_,rfl,q1.1.2.2.1,q1.1.2.2.2.1,q1.2 _ H1 g1 s1 (aaB _ _ (by have:=q1.1.2.2.2.2;lia))⟩
  |_=>exact q1.elim) q⟩⟩
def Vb(hg:Gl X "range")(hm:X.mg "range"=ce)(ha:EF X K fs a wa az)(hb:EF X K az b wb fs2)(hc:EF X K fs2 c wc fs3)(hs:‹lm [a,b,c] X.env=[(false,o0 a X.env),(false,o0 b X.env),(false,o0 c X.env)]›)(qM:‹lm [b,c] X.env=[(false,o0 b X.env),(false,o0 c X.env)]›)(hs3:‹lm [c] X.env=[(false,o0 c X.env)]›):mB X K fs tg (.Call (.Name "range" p) [a,b,c] [] pos) (.bind wa λx=>.bind wb λy=>.bind wc λz=>PU x y z) fs3:=
 ⟨PI.imp (M8 hg hm (aY ha.p (aY hb.p (aY hc.p bC hs3) (by show lm _ _=_;rw[qM,hs3])) (by show lm _ _=_;rw[hs,qM])) hs qM) λσ H R ⟨sr,q⟩=>⟨sr,wa.mono (λx q1 u1 H1 g1 s1 v1=>⟨s1,wb.mono (λy q2 u2 H2 g2 s2 v2=>⟨s2,wc.mono (λz q3 u3 H3 g3 s3 v3=>by
  cases v1 with
  |int i=>
   cases v2 with
   |int j=>
    cases v3 with
    |int k=>
     obtain⟨⟨rfl,k1,k2,k3,k4,k5⟩,q3⟩:=q3;refine⟨_,_,rfl,⟨k3,k4,k1,k2⟩,q3 _ H3 ((g1.trans g2).trans g3) s3 ⟨by rw[wJ];exact k5,λH' t=>⟨λi p hp=>?_,?_⟩⟩⟩
     .obtain⟨h1,rfl⟩:=wK hp;refine⟨h1,λx H2 y=>?_⟩;obtain⟨rfl,rfl⟩:=y;exact⟨iZ.refl _,.int _⟩
     .exact Ga (wJ _ _).symm
    |_=>exact q3.elim
   |_=>exact q3.elim
  |_=>exact q3.elim) q2⟩) q1⟩) q⟩⟩
def jo(hK:X.K=K){kk:Nat}(hg:Gl X "enumerate")(hm:X.mg "enumerate"=ce)(h:IF X K fs e wl az)(tX:‹gK X e []›):mB X K fs (.Tuple Í kk tp) (.Call (.Name "enumerate" p1) [e] [] p2) (.bind wl λl=>.dN (l.length<=sizeLine) (.ret (eE 0 l))) az:=
 ⟨PI.imp (Qj K hK hg hm h.p tX) λσ H R ⟨sr,q⟩=>⟨sr,wl.mono (λl q1 u1 H1 g1 s1 v1=>by
  obtain⟨ad,vs,rfl,hh,rs⟩:=v1;have yl:∀{H':Hp}{i:Nat}{x v:V}{y:PV}{pp:db},H' pp=ce->VR K [] H' v y->iZ H' (upd H' pp (.tup [.int i,v]))/\VR K [] (upd H' pp (.tup [.int (i:Int),v])) (.ref pp) (.tup [.int ((0+i:Nat)),y]):=λ{H' i x v y pp} hn h4=>
   have sm:=kg hn (.tup [.int (i:Int),v])
   ⟨sm,.tup ay (.cons (by rw[AW];exact .int _) (.cons (VR.tk sm.ff h4) .nil))⟩
  refine⟨ad,rfl,?_⟩;rcases hh with hh|hh
  .refine .inl ⟨⟨vs,hh.sq⟩,q1.2 _ H1 g1 s1 ⟨by rw[bu];exact q1.1,λH' t=>⟨λi p hp=>?_,vs,(t.f _ _ hh).sq,by rw[rs.length,bu];exact Al _⟩⟩⟩;obtain⟨y,hy,rfl⟩:=dH hp;obtain⟨v,h3,h4⟩:=(aE.tk t rs).get hy;refine⟨⟨vs,v,(t.f _ _ hh).sq,h3⟩,λx H3 z=>?_⟩;obtain⟨pp,x0,rfl,hn,rfl,hz⟩:=z;have:=hz vs (t.f _ _ hh).sq;rw[h3]at this;cases this;exact yl (x:=.aM) hn h4
  .refine .inr ⟨⟨vs,dM.of hh⟩,q1.2 _ H1 g1 s1 ⟨by rw[bu];exact q1.1,λH' t=>⟨λi p hp=>?_,vs,dM.of (t.t _ _ hh),by rw[rs.length,bu];exact Al _⟩⟩⟩;obtain⟨y,hy,rfl⟩:=dH hp;obtain⟨v,h3,h4⟩:=(aE.tk t rs).get hy;refine⟨⟨vs,v,dM.of (t.t _ _ hh),h3⟩,λx H3 z=>?_⟩;obtain⟨pp,x0,rfl,hn,rfl,hz⟩:=z;have:=hz vs (dM.of (t.t _ _ hh));rw[h3]at this;cases this;exact yl (x:=.aM) hn h4) q⟩⟩
end
def xv:O Nat->O V->L2.St->L2.St
 |i::is,u::us,σ=>xv is us (σ.set i (am u))
 |_,_,σ=>σ
def fG(K:Aa)(fs:aQ)(is:O Nat)(wt:PV->W T)(fs2:T->aQ):TG:=λv σ H Q=>∃p,aR K H σ fs/\VR K [] H v p/\(wt p).run λt=>∀us,cF σ fs H (xv is us σ) (fs2 t) H->aR K H (xv is us σ) (fs2 t)->Q (xv is us σ) H
structure GF(X:Cx)(K:Aa)(fs:aQ)(tg:nw)(is:List Nat){T:Type}(wt:PV->W T)(fs2:T->aQ):Prop where p:PG X tg (fG K fs is wt fs2)
def q9:PV->W (PV×PV)
 |.tup [a,b]=>.ret (a,b)
 |_=>.fail
section
def S5(h:PG X tg (d6 i)):GF X K fs tg [i] .ret (λp=>fs.set i (am (.val p))):=⟨PG.imp h λv σ H Q ⟨p,sr,r,q⟩=>q [v] (cF.nJ sr v p i) (sr.nJ r i)⟩
def N1(hK:X.K=K)(h:PG X tg (adv X.K 2 (RB (d6 i) (RB (d6 j) ady)))):GF X K fs tg [i,j] q9 (λt=>(fs.set i (am (.val t.1))).set j (am (.val t.2))):=⟨PG.imp h λv σ H Q ⟨p,sr,r,q⟩=>by
 unfold q9 at q
 split at q
 .cases r with
  |tup e rs=>
   cases rs with
   |cons ra t=>
   cases t with
   |cons rb t=>
   cases t;have s1:=sr.nJ ra i;exact⟨_,_,rfl,dM.of e,rfl,_,_,rfl,_,_,rfl,rfl,q [_,_] ((cF.nJ sr _ _ i).trans (cF.nJ s1 _ _ j)) (s1.nJ rb j)⟩
 .exact q.elim⟩
end
section
variable{S T:Type}
def cA:O PV->S->(PV->S->W S)->W S
 |[],s,_=>.ret s
 |x::r,s,f=>.bind (f x s) λs'=>cA r s' f
inductive Lp(S T:Type) where
 |go (s:S)|out (t:T)
def lR:O PV->S->(PV->S->W (Lp S T))->W (Lp S T)
 |[],s,_=>.ret (.go s)
 |x::r,s,f=>.bind (f x s) λo=>match o with
  |.go s'=>lR r s' f
  |.out t=>.ret (.out t)
def NW(k:S->W T)(inj:R->T):Lp S R->W T
 |.go s=>k s
 |.out r=>.ret (inj r)
@[simp] theorem ahE(k:S->W T)(inj:R->T)(s:S):NW k inj (.go s)=k s:=(rfl)
@[simp] theorem afb(k:S->W T)(inj:R->T)(r:R):NW k inj (.out r)=.ret (inj r):=(rfl)
def lpE(hd:S->aQ)(out:R->End):Lp S R->End
 |.go s=>.nc (hd s)
 |.out r=>out r
def ib(c:S->W Bool)(b:S->W S):Nat->S->W S
 |0,_=>.fail
 |n+1,s=>.bind (c s) λk=>if k=true then .bind (b s) (ib c b n) else .ret s
def Iu(c:S->W Bool)(b:S->W S)(s:S):W S:=⟨λQ=>∃n,(ib c b n s).run Q,λh ⟨n,q⟩=>⟨n,(ib c b n s).mono h q⟩⟩
end
section
variable{c:nw}{rest:O sB}{S T T2:Type}{hd:S->aQ}{s0:S}{wt:PV->W T2}{fs2:S->T2->aQ}{k:S->W T}{out:T->End}{x:Bool}{R:Type}{inj:R->T}
theorem SF.adE{hd:Nat->S->aQ}{hE:S->aQ}{fs2:Nat->S->T2->aQ}{f:PV->S->W S}{wb:T2->S->W S}(hp:wn (im X.prog X.w) X.A X.env X.xe)(hc:X.calm=true)(hi:mB X K fs tg iter wl az)(hl:c6 az (hd 0 s0))(hg:∀i s,GF X K (hd i s) tg is wt (fs2 i s))(hf:∀p s,f p s=.bind (wt p) λt=>wb t s)(hb:∀i s t,i<sizeLine->SF X K false (fs2 i s t) body (wb t s) λs'=>.nc (hd (i+1) s'))(hx:∀i s,i<=sizeLine->c6 (hd i s) (hE s))(hr:∀s,SF X K x (hE s) rest (k s) out)(hs:oK X iter:=by intro _;rfl):SF X K x fs (.For tg iter body [] pos::rest) (.bind wl λl=>.bind (cA l s0 f) k) out:=by
 refine SF.step (Qe (g:=λv σ H Q=>∃i s,fG K (hd i s) is wt (fs2 i s) v σ H Q) (tb:=λD σ H=>∃i s t,i<sizeLine/\fS K false (fs2 i s t) (wb t s) (λs'=>.nc (hd (i+1) s')) D σ H) hp hc hi.p (λZ s σ H v u Q I r ⟨i1,s1,q⟩=>(hg i1 s1).p Z s σ H v u Q I r q) (λZ s σ H D I ⟨i1,s1,t1,h1,q⟩=>(hb i1 s1 t1 h1).p Z s σ H D I q) hs) λD σ H ⟨sr,q⟩=>?_;refine⟨sr,wl.mono (λl q1 J H1 g1 s1 jf=>?_) q⟩;have hz:=jf.1;refine⟨λi m σ' H'=>∃s,aR K H' σ' (hd i s)/\cF σ fs H σ' (hd i s) H'/\JF K H' J l/\m=l.length-i/\i<=l.length/\(cA (l.drop i) s f).run λs'=>(k s').run λt=>cg K x σ fs H D (out t),⟨l.length,s0,s1.le hl,g1.f.trans (cF.le s1 hl),jf,by simp,Bc _,by simpa using q1⟩,?_⟩;rintro i m σ2 H2 ⟨s,s2,g2,U8,rfl,hi,q2⟩;obtain⟨j1,j2⟩:=U8.2 H2 (bh.refl H2);by_cases gC:i<l.length
 .obtain⟨go,yl⟩:=j1 i _ (Ad gC);rw[(B0 gC)]at q2;refine .inr ⟨go,λσ3 H3=>∃s',aR K H3 σ3 (hd (i+1) s')/\cF σ fs H σ3 (hd (i+1) s') H3/\JF K H3 J l/\(cA (l.drop (i+1)) s' f).run λs'=>(k s').run λt=>cg K x σ fs H D (out t),λσ3 H3 ⟨s',a1,a2,a3,a4⟩=>⟨l.length-(i+1),by lia,s',a1,a2,a3,rfl,gC,a4⟩,λv H3 y=>?_⟩;obtain⟨sm,vx⟩:=yl v H3 y;have q2:(f l[i] s).run λs'=>(cA (l.drop (i+1)) s' f).run λs'=>(k s').run λt=>cg K x σ fs H D (out t):=q2;rw[hf]at q2;have s3:=s2.same sm;refine⟨i,s,_,s3,vx,(wt l[i]).mono (λt q4 us g4 s4=>?_) q2⟩;refine⟨i,s,t,by lia,s4,(wb t s).mono (λs' q5 σ5 H5 g5 s5=>?_) q4⟩;have fin:∃s',aR K H5 σ5 (hd (i+1) s')/\cF σ fs H σ5 (hd (i+1) s') H5/\JF K H5 J l/\(cA (l.drop (i+1)) s' f).run λs'=>(k s').run λt=>cg K x σ fs H D (out t):=⟨s',s5,((g2.trans (cF.same sm s2)).trans g4).trans g5,U8.tk (bh.trans sm.ff (bh.trans (g4.dB s3) (g5.dB s4))),q5⟩;exact⟨λ_=>fin,fin⟩
 .have e:i=l.length:=by lia
  subst e;rw[E4]at q2;have le:=hx l.length s hz;exact .inl ⟨j2,hE s,k s,hr s,s2.le le,(k s).mono (λt q3=>q3.go (g2.trans (cF.le s2 le)) sr (s2.le le)) q2⟩
def SF.for{f:PV->S->W S}{wb:T2->S->W S}(hp:wn (im X.prog X.w) X.A X.env X.xe)(hc:X.calm=true)(hi:mB X K fs tg iter wl az)(hl:c6 az (hd s0))(hg:∀s,GF X K (hd s) tg is wt (fs2 s))(hf:∀p s,f p s=.bind (wt p) λt=>wb t s)(hb:∀s t,SF X K false (fs2 s t) body (wb t s) λs'=>.nc (hd s'))(hr:∀s,SF X K x (hd s) rest (k s) out)(hs:oK X iter:=by intro _;rfl):SF X K x fs (.For tg iter body [] pos::rest) (.bind wl λl=>.bind (cA l s0 f) k) out:=SF.adE (hd:=λ_=>hd) (fs2:=λ_=>fs2) hp hc hi hl (λ_=>hg) hf (λ_ s t _=>hb s t) (λ_ s _=>.refl _) hr hs
theorem SF.Xq{hd:Nat->S->aQ}{hE:S->aQ}{fs2:Nat->S->T2->aQ}{f:PV->S->W (Lp S R)}{wb:T2->S->W (Lp S R)}(hp:wn (im X.prog X.w) X.A X.env X.xe)(hc:X.calm=true)(hi:mB X K fs tg iter wl az)(hl:c6 az (hd 0 s0))(hg:∀i s,GF X K (hd i s) tg is wt (fs2 i s))(hf:∀p s,f p s=.bind (wt p) λt=>wb t s)(ho:∀t,(out (inj t)).He)(hb:∀i s t,i<sizeLine->SF X K false (fs2 i s t) body (wb t s) (lpE (hd (i+1)) λr=>out (inj r)))(hx:∀i s,i<=sizeLine->c6 (hd i s) (hE s))(hr:∀s,SF X K x (hE s) rest (k s) out)(hs:oK X iter:=by intro _;rfl):SF X K x fs (.For tg iter body [] pos::rest) (.bind wl λl=>.bind (FL.lR l s0 f) (NW k inj)) out:=by
 refine SF.step (Qe (g:=λv σ H Q=>∃i s,fG K (hd i s) is wt (fs2 i s) v σ H Q) (tb:=λD σ H=>∃i s t,i<sizeLine/\fS K false (fs2 i s t) (wb t s) (lpE (hd (i+1)) λr=>out (inj r)) D σ H) hp hc hi.p (λZ s σ H v u Q I r ⟨i1,s1,q⟩=>(hg i1 s1).p Z s σ H v u Q I r q) (λZ s σ H D I ⟨i1,s1,t1,h1,q⟩=>(hb i1 s1 t1 h1).p Z s σ H D I q) hs) λD σ H ⟨sr,q⟩=>?_;refine⟨sr,wl.mono (λl q1 J H1 g1 s1 jf=>?_) q⟩;have hz:=jf.1;have lo:∀D' y t,D'.rt=D.rt->cg K x σ fs H D (out (inj t))->cg K y σ fs H D' (out (inj t)):=λD' y t e h=>cg.agy (ho t) e h;refine⟨λi m σ' H'=>∃s,aR K H' σ' (hd i s)/\cF σ fs H σ' (hd i s) H'/\JF K H' J l/\m=l.length-i/\i<=l.length/\(FL.lR (l.drop i) s f).run λo=>(NW k inj o).run λt=>cg K x σ fs H D (out t),⟨l.length,s0,s1.le hl,g1.f.trans (cF.le s1 hl),jf,by simp,Bc _,by simpa using q1⟩,?_⟩;rintro i m σ2 H2 ⟨s,s2,g2,U8,rfl,hi,q2⟩;obtain⟨j1,j2⟩:=U8.2 H2 (bh.refl H2);by_cases gC:i<l.length
 .obtain⟨go,yl⟩:=j1 i _ (Ad gC);rw[(B0 gC)]at q2;refine .inr ⟨go,λσ3 H3=>∃s',aR K H3 σ3 (hd (i+1) s')/\cF σ fs H σ3 (hd (i+1) s') H3/\JF K H3 J l/\(FL.lR (l.drop (i+1)) s' f).run λo=>(NW k inj o).run λt=>cg K x σ fs H D (out t),λσ3 H3 ⟨s',a1,a2,a3,a4⟩=>⟨l.length-(i+1),by lia,s',a1,a2,a3,rfl,gC,a4⟩,λv H3 y=>?_⟩;obtain⟨sm,vx⟩:=yl v H3 y;have q2:(f l[i] s).run λo=>(match o with|.go s'=>FL.lR (l.drop (i+1)) s' f|.out t=>ca (.out t)).run λo=>(NW k inj o).run λt=>cg K x σ fs H D (out t):=q2;rw[hf]at q2;have s3:=s2.same sm;have g3:=g2.trans (cF.same sm s2);refine⟨i,s,_,s3,vx,(wt l[i]).mono (λt q4 us g4 s4=>?_) q2⟩;refine⟨i,s,t,by lia,s4,(wb t s).mono (λo q5=>?_) q4⟩;cases o with
  |out t5=>
   refine cg.go (g3.trans g4) sr s4 (lo _ false t5 ?_ q5);rfl
  |go s'=>
   intro σ5 H5 g5 s5;have fin:∃s',aR K H5 σ5 (hd (i+1) s')/\cF σ fs H σ5 (hd (i+1) s') H5/\JF K H5 J l/\(FL.lR (l.drop (i+1)) s' f).run λo=>(NW k inj o).run λt=>cg K x σ fs H D (out t):=⟨s',s5,(g3.trans g4).trans g5,U8.tk (bh.trans sm.ff (bh.trans (g4.dB s3) (g5.dB s4))),q5⟩;exact⟨λ_=>fin,fin⟩
 .have e:i=l.length:=by lia
  subst e;rw[E4]at q2;have le:=hx l.length s hz;exact .inl ⟨j2,hE s,k s,hr s,s2.le le,(k s).mono (λt q3=>q3.go (g2.trans (cF.le s2 le)) sr (s2.le le)) q2⟩
def SF.lR{f:PV->S->W (Lp S R)}{wb:T2->S->W (Lp S R)}(hp:wn (im X.prog X.w) X.A X.env X.xe)(hc:X.calm=true)(hi:mB X K fs tg iter wl az)(hl:c6 az (hd s0))(hg:∀s,GF X K (hd s) tg is wt (fs2 s))(hf:∀p s,f p s=.bind (wt p) λt=>wb t s)(ho:∀t,(out (inj t)).He)(hb:∀s t,SF X K false (fs2 s t) body (wb t s) (lpE hd λr=>out (inj r)))(hr:∀s,SF X K x (hd s) rest (k s) out)(hs:oK X iter:=by intro _;rfl):SF X K x fs (.For tg iter body [] pos::rest) (.bind wl λl=>.bind (FL.lR l s0 f) (NW k inj)) out:=SF.Xq (hd:=λ_=>hd) (fs2:=λ_=>fs2) hp hc hi hl (λ_=>hg) hf ho (λ_ s t _=>hb s t) (λ_ s _=>.refl _) hr hs
def jX(N:Nat)(c:S->W Bool)(b:S->W S)(s:S):W S:=⟨λQ=>∃n,n<=N/\(ib c b n s).run Q,λh ⟨n,l,q⟩=>⟨n,l,(ib c b n s).mono h q⟩⟩
theorem SF.jX{N:Nat}{hd:Nat->S->aQ}{hE:S->aQ}{cw:S->W Bool}{b:S->W S}(hp:wn (im X.prog X.w) X.A X.env X.xe)(hl:c6 fs (hd 0 s0))(hc:∀i s,TF X K (hd i s) c (cw s))(hb:∀i s,i<N->SF X K false (hd i s) body (b s) λs'=>.nc (hd (i+1) s'))(hx:∀i s,i<=N->c6 (hd i s) (hE s))(hr:∀s,SF X K x (hE s) rest (k s) out):SF X K x fs (.While c body [] pos::rest) (.bind (FL.jX N cw b s0) k) out:=by
 refine SF.step (Gq (tc:=λσ H Q=>∃i s,fT K (hd i s) (cw s) (hd i s) σ H Q) (tb:=λD σ H=>∃i s,i<N/\fS K false (hd i s) (b s) (λs'=>.nc (hd (i+1) s')) D σ H) hp (λZ s σ H Q I ⟨i1,s1,q⟩=>(hc i1 s1).p Z s σ H Q I q) (λZ s σ H D I ⟨i1,s1,h1,q⟩=>(hb i1 s1 h1).p Z s σ H D I q)) λD σ H ⟨sr,n,hn,q⟩=>?_;refine⟨λm σ' H'=>∃i s,i+m<=N/\aR K H' σ' (hd i s)/\cF σ fs H σ' (hd i s) H'/\(ib cw b m s).run λs'=>(k s').run λt=>cg K x σ fs H D (out t),⟨n,0,s0,by lia,sr.le hl,cF.le sr hl,q⟩,?_⟩;rintro m σ1 H1 ⟨i,s,him,s1,g1,q1⟩;cases m with
 |zero=>exact q1.elim
 |succ m=>
  refine⟨i,s,s1,(cw s).mono (λkk q2 H2 g2 s2=>?_) q1⟩;cases kk with
  |false=>
   have le:=hx i s ∅;exact yt ⟨hE s,k s,hr s,s2.le le,(k s).mono (λt q3=>q3.go ((g1.trans g2.f).trans (cF.le s2 le)) sr (s2.le le)) q2⟩
  |true=>
   refine yr ?_;refine⟨λσ3 H3=>∃s,aR K H3 σ3 (hd (i+1) s)/\cF σ fs H σ3 (hd (i+1) s) H3/\(ib cw b m s).run λs'=>(k s').run λt=>cg K x σ fs H D (out t),λσ3 H3 ⟨s,a⟩=>⟨m,CC m,i+1,s,by lia,a⟩,i,s,by lia,s2,(b s).mono (λs' q5 σ5 H5 g5 s5=>?_) q2⟩;have fin:∃s,aR K H5 σ5 (hd (i+1) s)/\cF σ fs H σ5 (hd (i+1) s) H5/\(ib cw b m s).run λs'=>(k s').run λt=>cg K x σ fs H D (out t):=⟨s',s5,(g1.trans g2.f).trans g5,q5⟩;exact⟨λ_=>fin,fin⟩
def SF.abn{cw:S->W Bool}{b:S->W S}(hp:wn (im X.prog X.w) X.A X.env X.xe)(hl:c6 fs (hd s0))(hc:∀s,TF X K (hd s) c (cw s))(hb:∀s,SF X K false (hd s) body (b s) λs'=>.nc (hd s'))(hr:∀s,SF X K x (hd s) rest (k s) out):SF X K x fs (.While c body [] pos::rest) (.bind (Iu cw b s0) k) out:=⟨λZ s σ H D I ⟨sr,n,q⟩=>(SF.jX (N:=n) (hd:=λ_=>hd) hp hl (λ_=>hc) (λ_ s _=>hb s) (λ_ s _=>.refl _) hr).p Z s σ H D I ⟨sr,n,Al n,q⟩⟩
end
end
end FL
variable{f:PL.PV->FL.W (Option PL.PV)}{qk OU:FL.aQ}{hd:Nat->FL.aQ}
namespace FL
section
variable[bN]
variable{K:Aa}
def jV:O PV->(PV->W (Option PV))->W (O PV)
 |[],_=>.ret []
 |x::r,f=>.bind (f x) λo=>.bind (jV r f) λl=>.ret (o.toList++l)
def a6:O PV->(PV->W PV)->W (O PV)
 |[],_=>.ret []
 |x::r,f=>.bind (f x) λy=>.bind (a6 r f) λl=>.ret (y::l)
theorem xT(f:PV->W PV):∀l,a6 l f=jV l λp=>.bind (f p) λv=>.ret (am v)
 |[]=>rfl
 |x::r=>by
  show bn (f x) (λy=>bn (a6 r f) λl=>ca (y::l))=bn (f x) λy=>bn (jV r _) λl=>ca (y::l);rw[xT f r]
def aW(ix:O (Option Nat))(fs:aQ):aQ:=ix.map λo=>match o with|some j=>(fs[j]?).getD ce|none=>ce
section
def oE{s:SL}(h:(aW ix fs)[i]?=am (am s)):∃j,ix[i]?=am (am j)/\fs[j]?=am (am s):=by
 unfold aW at h;rw[Af]at h;cases q:ix[i]? with
 |none=>rw[q]at h;cases h
 |some o=>
  rw[q]at h;cases o with
  |none=>cases h
  |some j=>
   refine⟨j,rfl,?_⟩;have h:(fs[j]?).getD ce=am s:=Option.some.inj h;cases z:fs[j]? with
   |none=>rw[z]at h;cases h
   |some y=>rw[z]at h;exact congrArg am h
def lK(h:ix[i]?=am (am j))(e:σ[j]?=am (am u)):(oC ix σ)[i]?=am (am u):=by
 unfold oC;rw[Af,h];show am ((σ[j]?).getD ce)=_;rw[e];rfl
def aR.dF(s:aR K H σ fs)(inj:∀i i' j:Nat,ix[i]?=am (am j)->ix[i']?=am (am j)->i=i'):aR K H (oC ix σ) (aW ix fs):=by
 refine⟨by unfold oC aW;simp,λi t e=>?_,λi i' t u x y a e1 e2 o1 o2 q1 q2 z1 z2=>?_,s.tb⟩
 .obtain⟨j,h1,h2⟩:=oE e;obtain⟨u,h3,h4⟩:=s.at' j t h2;exact⟨u,lK h1 h3,h4⟩
 .obtain⟨j,h1,h2⟩:=oE e1;obtain⟨j',fZ,uS⟩:=oE e2;obtain⟨u1,h3,_⟩:=s.at' j t h2;obtain⟨u2,Rx,_⟩:=s.at' j' u uS;rw[lK h1 h3]at q1;rw[lK fZ Rx]at q2;cases q1;cases q2;have:=s.nd j j' t u x y a h2 uS o1 o2 h3 Rx z1 z2;subst this;exact inj i i' j h1 fZ
structure XJ(ix:List (Option Nat))(σ:L2.St)(fs:aQ)(σ':L2.St)(aN:aQ):Prop where
 own:∀(i:Nat) (t:SL),aN[i]?=am (am t)->t.own=true->∃j,ix[i]?=am (am j)/\fs[j]?=am (am t)/\σ'[i]?=σ[j]?
def Cap(ix:O (Option Nat))(σ σ':L2.St):Prop:=∀(i j:Nat) (u:V),ix[i]?=am (am j)->σ[j]?=am (am u)->σ'[i]?=am (am u)
def Cap.Rn(c:Cap ix σ σ')(s:aR K H σ fs):XJ ix σ fs σ' (aW ix fs):=⟨λi t e _=>by
 obtain⟨j,h1,h2⟩:=oE e;obtain⟨u,h3,_⟩:=s.at' j t h2;exact⟨j,h1,h2,by rw[c i j u h1 h3,h3]⟩⟩
def XJ.eK(h:XJ ix σ fs σ' aN)(o:bT σ' aN a):bT σ fs a:=by
 obtain⟨i,t,x,e1,e2,e3,e4⟩:=o;obtain⟨j,h1,h2,h3⟩:=h.own i t e1 e2;exact⟨j,t,x,h2,e2,h3▸e3,e4⟩
def XJ.cC(h:XJ ix σ fs σ' aN){m:Nat}(o:eF σ' aN ψ m a):eF σ fs ψ m a:=by
 obtain⟨i,n,e1,e3⟩:=o;obtain⟨j,h1,h2,h3⟩:=h.own i _ e1 rfl;exact⟨j,n,h2,h3▸e3⟩
def XJ.out{Vo fsC:aQ}(h:XJ ix σ fs σ' aN)(cp:Cap ix σ σ')(s:aR K H1 σ fs)(g:bZ σ' aN H1 H2 fsC)(s2:aR K H2 σ' (aW ix Vo))(ev:Ev fs Vo)(hc:∀j:Nat,fs[j]?=Vo[j]?\/∃i':Nat,ix[i']?=am (am j)):aR K H2 σ Vo/\bZ σ fs H1 H2 Vo:=by
 have gf:bZ σ fs H1 H2 Vo:=⟨λa o e n t=>g.keep a o e (λψ m z=>n ψ m (h.cC z)) t,g.there,ev,g.x⟩;have dF:∀{i j:Nat}{t:SL},ix[i]?=am (am j)->Vo[j]?=am (am t)->(aW ix Vo)[i]?=am (am t):=λ{i j t} e1 e2=>by
  unfold aW;rw[Af,e1];show am ((Vo[j]?).getD ce)=_;rw[e2];rfl
 have tk:=gf.dB s;refine⟨⟨s.len.trans ev.len,λj t e=>?_,ev.nd s,s2.tb⟩,gf⟩
 .rcases hc j with e0|⟨i,hi⟩
  .rw[<- e0]at e;obtain⟨u,h1,h2⟩:=s.at' j t e;refine⟨u,h1,?_⟩;rcases h2 with⟨v,q,r⟩|⟨a,q,r⟩
   .exact .inl ⟨v,q,VR.tk tk r⟩
   .subst q;refine .inr ⟨a,rfl,?_⟩;by_cases c:∃b,t.own=true/\t.has a b/\bT σ' aN b
    .obtain⟨b,ow,hb,i,t',x,c1,c2,c3,c4⟩:=c;obtain⟨j',k1,k2,k3⟩:=h.own i t' c1 c2;have jj:=s.nd j j' t t' a x b e k2 ow c2 h1 (k3▸c3) hb c4;subst jj;rw[e]at k2;cases k2;exact s2.ownAt (dF k1 (e0▸e)) c2 (k3.trans h1)
    .exact r.mono tk (λb o ow hb z nt=>g.tR z (λy=>c ⟨b,ow,hb,y⟩) nt)
  .obtain⟨u',h3,h4⟩:=s2.at' i t (dF hi e);have he:∃t',fs[j]?=am (am t'):=by
    rcases ev.get e with z|⟨_,_,_,_,_,z⟩
    .exact⟨_,z⟩
    .exact⟨_,z⟩
   obtain⟨t',he⟩:=he;obtain⟨u,h1,_⟩:=s.at' j t' he;have:=cp i j u hi h1;rw[h3]at this;cases this;exact⟨_,h1,h4⟩
theorem mC:∀{is:O Nat}{us:O V}{σ:L2.St}{i:Nat},i∉is->(xv is us σ)[i]?=σ[i]?
 |[],us,σ,i,_=>by cases us<;>rfl
 |j::is,[],σ,i,_=>rfl
 |j::is,u::us,σ,i,h=>by
  rw[xv,mC (λz=>h (AL _ z))];exact ao (λz=>h (by rw[z];exact Bw))
end
section
variable{sc:pc}{T2:Type}{wt:PV->W T2}{fs2:T2->aQ}{tf:T2->W Bool}{te:T2->W PV}
structure FF(X:Cx)(K:Aa)(fs:aQ)(È:List nw)(w:W Bool):Prop where p:PFs X È (fT K fs w)
def uh:FF X K fs [] (.ret true):=⟨λZ s σ H Q I ⟨sr,q⟩=>Ul Z s σ H Q I (q H .refl sr)⟩
def RI{c:nw}{w:W Bool}(h:TF X K fs c w):FF X K fs [c] w:=⟨Uk h.p⟩
def oJ(is:O Nat)(qk:aQ)(fs2:T2->aQ):Prop:=∀t,(fs2 t).length=qk.length/\∀(i:Nat) (s:SL),(fs2 t)[i]?=am (am s)->(i∈is/\s.own=false)\/(i∉is/\qk[i]?=am (am s))
theorem Xx{fs2 fs3:Nat->T2->aQ}(S:aV X.env.scope X.N sc N' ix)(h0:oQ az (hd 0))(hx:∀i,i<=sizeLine->oQ (hd i) OU)(hv:∀i,i<sizeLine->Ev (hd i) (hd (i+1)))(Xm:∀i j:Nat,(hd i)[j]?=(hd (i+1))[j]?\/∃i':Nat,ix[i']?=am (am j))(hf:∀p,f p=.bind (wt p) λt=>.bind (tf t) λk=>if k=true then .bind (te t) λv=>.ret (am v) else .ret ce)(hl:∀i,oJ is (aW ix (hd i)) (fs2 i))(Xf:∀i t,i<sizeLine->c6 (fs2 i t) (aW ix (hd (i+1))))(ZN:∀i t,i<sizeLine->c6 (fs3 i t) (aW ix (hd (i+1))))(nj:∀j∈is,ix[j]?=am ce):∀σ H Q,fL K fs (.bind wl λl=>jV l f) OU σ H Q->tLc ix (fIt K fs wl az) (λv σ H Q=>∃i,fG K (aW ix (hd i)) is wt (fs2 i) v σ H Q) (λσ H Q=>∃i t,fT K (fs2 i t) (tf t) (fs2 i t) σ H Q) (λσ H Q=>∃i t,i<sizeLine/\fE K (fs2 i t) (te t) (fs3 i t) σ H Q) σ H Q:=by
 rintro σ H Q ⟨sr,q⟩;refine⟨sr,wl.mono (λl q1 J H1 g1 s1 jf D hD=>?_) q⟩;have hz:=jf.1;have inj:∀i i' j:Nat,ix[i]?=am (am j)->ix[i']?=am (am j)->i=i':=λi i' j h1 h2=>by
  have hi:i<N'.length:=by rw[<- S.len];exact(Ai.mp h1).1
  have vn:i'<N'.length:=by rw[<- S.len];exact(Ai.mp h2).1
  have e2:=(S.at h2 (Ad vn)).1;rw[((S.at h1 (Ad hi)).1)]at e2;exact(E2 S.nd).mp (Option.some.inj e2)
 have g1:=g1.le h0;have s1:=s1.le h0.f;have nD:∀i,Ev (hd 0) (hd i)->¬bT σ (hd i) D:=λi e z=>s1.noOwn hD (e.eK z);refine⟨λi m σ' ys H'=>∃acc,Ev (hd 0) (hd i)/\aR K H' σ (hd i)/\bZ σ fs H H' (hd i)/\aR K H' σ' (aW ix (hd i))/\Cap ix σ σ'/\JF K H' J l/\H' D=am (.lst ys)/\aE K [] H' ys acc/\acc.length<=i/\m=l.length-i/\i<=l.length/\
  (jV (l.drop i) f).run λr=>∀a vs H',bZ σ fs H H' OU->aR K H' σ OU->H a=ce->H' a=am (.lst vs)->aE K [] H' vs (acc++r)->Q (.ref a) H',⟨l.length,[],?_⟩,?_⟩
 .have sm:=kg hD (.lst []);exact⟨.refl _,s1.same sm,g1.trans (bZ.same sm),(s1.same sm).dF inj,λi j u h1 h3=>lK h1 h3,jf.tk sm.ff,ay,.nil,Bc _,by simp,Bc _,by simpa using q1⟩
 rintro i m σ2 ys H2 ⟨acc,ev0,sO,gO,s2,cp,U8,hy,vy,JT,rfl,hi,q2⟩;refine⟨hy,?_⟩;obtain⟨j1,j2⟩:=U8.2 H2 (bh.refl H2);have Rn:=cp.Rn sO;by_cases gC:i<l.length
 .have Xj:i<sizeLine:=by lia
  have ŀ:=ev0.trans (hv i Xj);obtain⟨go,yl⟩:=j1 i _ (Ad gC);rw[(B0 gC)]at q2;refine .inr ⟨go,λv H3 y=>?_⟩;obtain⟨sm,vx⟩:=yl v H3 y;have q2:(f l[i]).run λo=>(jV (l.drop (i+1)) f).run λr=>∀a vs H',bZ σ fs H H' OU->aR K H' σ OU->H a=ce->H' a=am (.lst vs)->aE K [] H' vs (acc++(o.toList++r))->Q (.ref a) H':=q2;rw[hf]at q2;refine⟨_,_,(s2.same sm),vx,(wt l[i]).mono (λt q4 us g4 s4=>?_) q2⟩;have ă:Cap ix σ (xv is us σ2):=λi' j u h1 h3=>by
   rw[mC λz=>by have:=nj i' z;rw[h1]at this;cases this];exact cp i' j u h1 h3
  have ZD:XJ ix σ (hd i) (xv is us σ2) (fs2 i t):=⟨λj u e o=>by
   rcases (hl i t).2 j u e with⟨_,z⟩|⟨n,z⟩
   .rw[z]at o;cases o
   .obtain⟨j',k1,k2,k3⟩:=Rn.own j u z o;exact⟨j',k1,k2,by rw[mC n];exact k3⟩⟩
  refine⟨i,t,s4,(tf t).mono (λkk q5 H5 g5 s5=>?_) q4⟩;have nD4:¬bT (xv is us σ2) (fs2 i t) D:=λz=>nD i ev0 (ZD.eK z);have hy5:=g5.tR (sm _ _ hy) nD4;have vy5:=aE.tk (g5.dB s4) (aE.tk sm.ff vy);have jf5:=(U8.tk sm.ff).tk (g5.dB s4);have x5:∀φ,H2 D≠am (.ext φ):=λφ=>by rw[hy];simp
  cases kk with
  |false=>
   have s5':=s5.le (Xf i t Xj);obtain⟨sO5,gO5⟩:=ZD.out ă (sO.same sm) g5 s5' (hv i Xj) (Xm i);exact yt ⟨l.length-(i+1),by lia,acc,ŀ,sO5,(gO.trans (bZ.same sm)).trans gO5,s5',ă,jf5,hy5,vy5,by lia,rfl,gC,q5⟩
  |true=>
   refine yr ⟨i,t,Xj,s5,(te t).mono (λv6 q6 u6 H6 g6 s6 v6'=>?_) q5⟩;have s6':=s6.le (ZN i t Xj);obtain⟨sO6,ahF⟩:=ZD.out ă (sO.same sm) (g5.trans g6) s6' (hv i Xj) (Xm i);have gO6:=(gO.trans (bZ.same sm)).trans ahF;have â:=g6.tR hy5 nD4;have vy6:=aE.tk (g6.dB s5) vy5;have x6:∀φ,H6 D≠am (.ext φ):=λφ=>by rw[â];simp
   have nDi:=nD (i+1) ŀ;refine⟨â,by rw[vy6.length];have:=U8.1;lia,l.length-(i+1),by lia,acc++[v6],ŀ,sO6.side nDi â _,gO6.side (g1.there D hD) x6 _,s6'.side (λz=>nDi ((ă.Rn sO6).eK z)) â _,ă,(jf5.tk (g6.dB s5)).tk (rj _ â),ay,aE.tk (rj (.lst (ys++[u6])) â) (vy6.append (.cons v6' .nil)),by rw[Ak];simp;lia,rfl,gC,?_⟩;refine(jV (l.drop (i+1)) f).mono (λr q7 a vs H7 g7 s7 n e v7=>q7 a vs H7 g7 s7 n e ?_) q6;simpa using v7
 .have e:i=l.length:=by lia
  subst e;rw[E4]at q2;have le:=hx l.length hz;exact .inl ⟨j2,q2 D ys H2 (gO.le le) (sO.le le.f) (g1.there D hD) hy (by simpa using vy)⟩
end
end
end FL
namespace L2
def qI(l:db)(items:Array ci)(n:Nat)(b:db)(cq:Array ci)(n2:Nat)(sl:Array (Option ci))(hc0:¬(!items.isEmpty&&Builtin.List.listTooLong (items.size+cq.size))=true)(hc1:items.size<=sizeLine)(qM:items.size+cq.size<=sizeLine+1):Meets (wS.«list.extend» ⟨[.ref l,.ref b],[]⟩) (λ_ R s=>s.heap.get? l=am {cls:=.type "list",dict:=ce,data:=.seq items n,slots:=#[]}/\s.heap.get? b=am {cls:=.type "list",dict:=ce,data:=.seq cq n2,slots:=sl}/\R (.ok (.ret A4)) {s with heap:=s.heap.update l (Bg λx=>x++cq),toks:=s.toks}):=
 .of_wp λprog w A R s h=>by
  obtain⟨hp,g,d,tk,os⟩:=s;obtain⟨hl,hb,h⟩:=h;have f5:=D3;
  wp_walk using (CO hl rfl),BD hl,BD hb;exact⟨_,rfl,h⟩
def acb(K:Aa):V->O V->Hp->VK->Prop:=λx vs H Q=>∃l b xs zs,x=.ref l/\vs=[.ref b]/\H l=am (.lst xs)/\(b9 K H b zs\/dM K H b zs)/\xs.length+zs.length<=sizeLine/\zK H l (.lst (xs++zs)) (Q .aM)
theorem UN(K:Aa)(hK:X.K=K):Mz X "list.extend" (acb K):=by
 subst hK;intro Z s σ H x vs v us Q I rx rv h;obtain⟨l,b,xs,zs,rfl,rfl,hH,hB|hB,hz,q⟩:=h
 .cases rx;obtain⟨u,rfl,ru⟩:=rv.one;cases ru;obtain⟨z,aq,n,r,hl,e⟩:=I.qC hH;obtain⟨cT,r2,⟨⟨cls,dd,data,sl⟩,n2,e2,hc,hd,qN⟩,z2⟩:=I.list hB;subst hc hd qN;have Xi:=r2.length;have uR:aq.toArray.size+cT.toArray.size<=sizeLine:=by rw[An,An];lia
  have tY:¬(!aq.toArray.isEmpty&&Builtin.List.listTooLong (aq.toArray.size+cT.toArray.size))=true:=by
   rw[nP uR,DH];exact AY
  refine wE Em ⟨_,e,rfl⟩ Ec (D2 _ _)
   (qI l aq.toArray n b cT.toArray n2 sl tY (by rw[An];lia) ∅) ⟨e,e2,?_⟩
  refine⟨.aM,_,I.Jr hH e (by simp) (r.append r2) ?_,rfl,q.at⟩;rw[Ak];lia
 .exact GP Z s σ H _ _ v us Q I rx rv ⟨l,b,xs,zs,rfl,rfl,hH,hB,hz,q⟩
end L2
variable{we:FL.W PL.PV}
namespace FL
section
variable[bN]
variable{K:Aa}
section
variable{sc:pc}{T2:Type}{wt:PV->W T2}{fs2:T2->aQ}{tf:T2->W Bool}{te:T2->W PV}
def W0{fs2 fs3:Nat->T2->aQ}(hc:X.calm=true)(S:aV X.env.scope X.N sc N' ix)(hi:mB X K fs tg iter wl az)(hg:∀cl C s2 H2 fp i,GF (dF X sc N' cl C s2 H2 fp) K (aW ix (hd i)) tg is wt (fs2 i))(NT:∀cl C s2 H2 fp i t,FF (dF X sc N' cl C s2 H2 fp) K (fs2 i t) È (tf t))(he:∀cl C s2 H2 fp i t,i<sizeLine->EF (dF X sc N' cl C s2 H2 fp) K (fs2 i t) Ã (te t) (fs3 i t))(hf:∀p,f p=.bind (wt p) λt=>.bind (tf t) λk=>if k=true then .bind (te t) λv=>.ret (am v) else .ret ce)(hl:∀i,oJ is (aW ix (hd i)) (fs2 i))(nj:∀j∈is,ix[j]?=am ce)(h0:oQ az (hd 0))(hx:∀i,i<=sizeLine->oQ (hd i) OU)(hv:∀i,i<sizeLine->Ev (hd i) (hd (i+1)))(Xm:∀i j:Nat,(hd i)[j]?=(hd (i+1))[j]?\/∃i':Nat,ix[i']?=am (am j))(Xf:∀i t,i<sizeLine->c6 (fs2 i t) (aW ix (hd (i+1))))(ZN:∀i t,i<sizeLine->c6 (fs3 i t) (aW ix (hd (i+1))))(hs:oK X iter:=by intro _;rfl):LF X K fs (.ListComp Ã [⟨tg,iter,È,0⟩] sc pos) (.bind wl λl=>jV l f) OU:=
 ⟨PE.imp (aci hc S hi.p (λcl C s2 H2 fp Z s σ H v u Q I r ⟨i,q⟩=>(hg cl C s2 H2 fp i).p Z s σ H v u Q I r q) (λcl C s2 H2 fp Z s σ H Q I ⟨i,t,q⟩=>(NT cl C s2 H2 fp i t).p Z s σ H Q I q) (λcl C s2 H2 fp Z s σ H Q I ⟨i,t,h,q⟩=>(he cl C s2 H2 fp i t h).p Z s σ H Q I q) hs) (Xx S h0 hx hv Xm hf hl Xf ZN nj)⟩
def Zl(hc:X.calm=true)(S:aV X.env.scope X.N sc N' ix)(hi:mB X K fs tg iter wl az)(hg:∀cl C s2 H2 fp,GF (dF X sc N' cl C s2 H2 fp) K (aW ix az) tg is wt fs2)(NT:∀cl C s2 H2 fp t,FF (dF X sc N' cl C s2 H2 fp) K (fs2 t) È (tf t))(he:∀cl C s2 H2 fp t,EF (dF X sc N' cl C s2 H2 fp) K (fs2 t) Ã (te t))(hf:∀p,f p=.bind (wt p) λt=>.bind (tf t) λk=>if k=true then .bind (te t) λv=>.ret (am v) else .ret ce)(hl:oJ is (aW ix az) fs2/\∀t,c6 (fs2 t) (aW ix az))(nj:∀j∈is,ix[j]?=am ce)(hs:oK X iter:=by intro _;rfl):LF X K fs (.ListComp Ã [⟨tg,iter,È,0⟩] sc pos) (.bind wl λl=>jV l f) az:=W0 (hd:=λ_=>az) (fs2:=λ_=>fs2) (fs3:=λ_=>fs2) hc S hi (λcl C s2 H2 fp _=>hg cl C s2 H2 fp) (λcl C s2 H2 fp _=>NT cl C s2 H2 fp) (λcl C s2 H2 fp _ t _=>he cl C s2 H2 fp t) hf (λ_=>hl.1) nj (.refl _) (λ_ _=>.refl _) (λ_ _=>.refl _) (λ_ _=>.inl rfl) (λ_ t _=>hl.2 t) (λ_ t _=>hl.2 t) hs
def xS{f:PV->W PV}(hf:∀p,f p=.bind (wt p) te):(λl=>a6 l f)=λl=>jV l λp=>.bind (wt p) λt=>.bind (.ret true) λk=>if k=true then .bind (te t) λv=>.ret (am v) else .ret ce:=funext λl=>by
 rw[xT];congr 1;funext p;rw[hf];rfl
def Zk{fs2 fs3:Nat->T2->aQ}{f:PV->W PV}(hc:X.calm=true)(S:aV X.env.scope X.N sc N' ix)(hi:mB X K fs tg iter wl az)(hg:∀cl C s2 H2 fp i,GF (dF X sc N' cl C s2 H2 fp) K (aW ix (hd i)) tg is wt (fs2 i))(he:∀cl C s2 H2 fp i t,i<sizeLine->EF (dF X sc N' cl C s2 H2 fp) K (fs2 i t) Ã (te t) (fs3 i t))(hf:∀p,f p=.bind (wt p) te)(hl:∀i,oJ is (aW ix (hd i)) (fs2 i))(nj:∀j∈is,ix[j]?=am ce)(h0:oQ az (hd 0))(hx:∀i,i<=sizeLine->oQ (hd i) OU)(hv:∀i,i<sizeLine->Ev (hd i) (hd (i+1)))(Xm:∀i j:Nat,(hd i)[j]?=(hd (i+1))[j]?\/∃i':Nat,ix[i']?=am (am j))(Xf:∀i t,i<sizeLine->c6 (fs2 i t) (aW ix (hd (i+1))))(ZN:∀i t,i<sizeLine->c6 (fs3 i t) (aW ix (hd (i+1))))(hs:oK X iter:=by intro _;rfl):LF X K fs (.ListComp Ã [⟨tg,iter,[],0⟩] sc pos) (.bind wl λl=>a6 l f) OU:=by
 rw[xS hf];exact W0 hc S hi hg (λ_ _ _ _ _ _ _=>uh) he (λp=>rfl) hl nj h0 hx hv Xm Xf ZN hs
def WY{f:PV->W PV}(hc:X.calm=true)(S:aV X.env.scope X.N sc N' ix)(hi:mB X K fs tg iter wl az)(hg:∀cl C s2 H2 fp,GF (dF X sc N' cl C s2 H2 fp) K (aW ix az) tg is wt fs2)(he:∀cl C s2 H2 fp t,EF (dF X sc N' cl C s2 H2 fp) K (fs2 t) Ã (te t))(hf:∀p,f p=.bind (wt p) te)(hl:oJ is (aW ix az) fs2/\∀t,c6 (fs2 t) (aW ix az))(nj:∀j∈is,ix[j]?=am ce)(hs:oK X iter:=by intro _;rfl):LF X K fs (.ListComp Ã [⟨tg,iter,[],0⟩] sc pos) (.bind wl λl=>a6 l f) az:=by
 rw[xS hf];exact Zl hc S hi hg (λ_ _ _ _ _ _=>uh) he (λp=>rfl) hl nj hs
def fAs(K:Aa)(fs:aQ)(i:Nat)(w:W (O PV))(aN:aQ:=fs):TS:=λD σ H=>aR K H σ fs/\w.run λl=>∀a vs H',bZ σ fs H H' aN->aR K H' σ aN->H a=ce->H' a=am (.lst vs)->aE K [] H' vs l->D.nx (σ.set i (am (.ref a))) H'
structure AS(X:Cx)(K:Aa)(fs:aQ)(st:sB)(i:Nat)(w:W (List PV))(aN:aQ:=fs):Prop where p:PS X st (fAs K fs i w aN)
variable{rest:O sB}{T:Type}{out:T->End}{x:Bool}{k:O PV->W T}
def SF.as{st:sB}(h:AS X K fs st i wl az)(hr:∀l,SF X K x (az.set i (am (.ol ce l))) rest (k l) out):SF X K x fs (st::rest) (.bind wl k) out:=SF.step h.p λD σ H ⟨sr,q⟩=>⟨sr,wl.mono (λl q1 a ws H1 g1 s1 n e v1=>by
 have no:¬bT σ az a:=λz=>sr.noOwn n (g1.ev.eK z);have s2:=s1.xA (t:=.ol ce l) ⟨by simp,ws,e,v1⟩ no i;exact⟨_,k l,hr l,s2,(k l).mono (λt q2=>q2.go (cF.xA s1 g1 no n i) sr s2) q1⟩) q⟩
def Sw{fs2 fs3:Nat->T2->aQ}(hc:X.calm=true)(hN:X.N.Nodup)(vn:X.N[i]?=am y)(wB:X.env.scope.names.lookup y=am .local)(S:aV X.env.scope X.N sc N' ix)(hi:mB X K fs tg iter wl az)(hg:∀cl C s2 H2 fp i,GF (dF X sc N' cl C s2 H2 fp) K (aW ix (hd i)) tg is wt (fs2 i))(NT:∀cl C s2 H2 fp i t,FF (dF X sc N' cl C s2 H2 fp) K (fs2 i t) È (tf t))(he:∀cl C s2 H2 fp i t,i<sizeLine->EF (dF X sc N' cl C s2 H2 fp) K (fs2 i t) Ã (te t) (fs3 i t))(hf:∀p,f p=.bind (wt p) λt=>.bind (tf t) λk=>if k=true then .bind (te t) λv=>.ret (am v) else .ret ce)(hl:∀i,oJ is (aW ix (hd i)) (fs2 i))(nj:∀j∈is,ix[j]?=am ce)(h0:oQ az (hd 0))(hx:∀i,i<=sizeLine->oQ (hd i) OU)(hv:∀i,i<sizeLine->Ev (hd i) (hd (i+1)))(Xm:∀i j:Nat,(hd i)[j]?=(hd (i+1))[j]?\/∃i':Nat,ix[i']?=am (am j))(Xf:∀i t,i<sizeLine->c6 (fs2 i t) (aW ix (hd (i+1))))(ZN:∀i t,i<sizeLine->c6 (fs3 i t) (aW ix (hd (i+1))))(kF:‹pr (.ListComp Ã [⟨tg,iter,È,0⟩] sc pos) (am (.Name y px)) jP.line X.env=pure true›)(hs:oK X iter:=by intro _;rfl):AS X K fs (.Assign [.Name y px] (.ListComp Ã [⟨tg,iter,È,0⟩] sc pos) jP) i (.bind wl λl=>jV l f) OU:=
 ⟨PS.imp (Qd hc hN vn wB S hi.p (λcl C s2 H2 fp Z s σ H v u Q I r ⟨i,q⟩=>(hg cl C s2 H2 fp i).p Z s σ H v u Q I r q) (λcl C s2 H2 fp Z s σ H Q I ⟨i,t,q⟩=>(NT cl C s2 H2 fp i t).p Z s σ H Q I q) (λcl C s2 H2 fp Z s σ H Q I ⟨i,t,h,q⟩=>(he cl C s2 H2 fp i t h).p Z s σ H Q I q) kF hs) λD σ H ⟨sr,q⟩=>Xx (K:=K) S h0 hx hv Xm hf hl Xf ZN nj σ H _ ⟨sr,q⟩⟩
def XH(hc:X.calm=true)(hN:X.N.Nodup)(vn:X.N[i]?=am y)(hx:X.env.scope.names.lookup y=am .local)(S:aV X.env.scope X.N sc N' ix)(hi:mB X K fs tg iter wl az)(hg:∀cl C s2 H2 fp,GF (dF X sc N' cl C s2 H2 fp) K (aW ix az) tg is wt fs2)(NT:∀cl C s2 H2 fp t,FF (dF X sc N' cl C s2 H2 fp) K (fs2 t) È (tf t))(he:∀cl C s2 H2 fp t,EF (dF X sc N' cl C s2 H2 fp) K (fs2 t) Ã (te t))(hf:∀p,f p=.bind (wt p) λt=>.bind (tf t) λk=>if k=true then .bind (te t) λv=>.ret (am v) else .ret ce)(hl:oJ is (aW ix az) fs2/\∀t,c6 (fs2 t) (aW ix az))(nj:∀j∈is,ix[j]?=am ce)(kF:‹pr (.ListComp Ã [⟨tg,iter,È,0⟩] sc pos) (am (.Name y px)) jP.line X.env=pure true›)(hs:oK X iter:=by intro _;rfl):AS X K fs (.Assign [.Name y px] (.ListComp Ã [⟨tg,iter,È,0⟩] sc pos) jP) i (.bind wl λl=>jV l f) az:=
 Sw (hd:=λ_=>az) (fs2:=λ_=>fs2) (fs3:=λ_=>fs2) hc hN vn hx S hi (λcl C s2 H2 fp _=>hg cl C s2 H2 fp) (λcl C s2 H2 fp _=>NT cl C s2 H2 fp) (λcl C s2 H2 fp _ t _=>he cl C s2 H2 fp t) hf (λ_=>hl.1) nj (.refl _) (λ_ _=>.refl _) (λ_ _=>.refl _) (λ_ _=>.inl rfl) (λ_ t _=>hl.2 t) (λ_ t _=>hl.2 t) kF hs
def SF.abR(hc:X.calm=true)(hN:X.N.Nodup)(vn:X.N[i]?=am y)(hx:X.env.scope.names.lookup y=am .local)(S:aV X.env.scope X.N sc N' ix)(hi:mB X K fs tg iter wl az)(hg:∀cl C s2 H2 fp,GF (dF X sc N' cl C s2 H2 fp) K (aW ix az) tg is wt fs2)(NT:∀cl C s2 H2 fp t,FF (dF X sc N' cl C s2 H2 fp) K (fs2 t) È (tf t))(he:∀cl C s2 H2 fp t,EF (dF X sc N' cl C s2 H2 fp) K (fs2 t) Ã (te t))(hf:∀p,f p=.bind (wt p) λt=>.bind (tf t) λk=>if k=true then .bind (te t) λv=>.ret (am v) else .ret ce)(hl:oJ is (aW ix az) fs2/\∀t,c6 (fs2 t) (aW ix az))(nj:∀j∈is,ix[j]?=am ce)(hr:∀l,SF X K x (az.set i (am (.ol ce l))) rest (k l) out)(kF:‹pr (.ListComp Ã [⟨tg,iter,È,0⟩] sc pos) (am (.Name y px)) jP.line X.env=pure true›)(hs:oK X iter:=by intro _;rfl):SF X K x fs (.Assign [.Name y px] (.ListComp Ã [⟨tg,iter,È,0⟩] sc pos) jP::rest) (.bind (.bind wl λl=>jV l f) k) out:=SF.as (XH hc hN vn hx S hi hg NT he hf hl nj kF hs) hr
end
section
theorem ye:∀{l:aQ}{i:Nat} (s:Option SL),l[i]?=am ce->c6 (l.set i s) l
 |[],_,_,h=>by simp at h
 |x::l,0,s,h=>by
  simp at h;subst h;exact .drop (c6.refl l)
 |x::l,i+1,s,h=>by
  exact .keep (ye s (by simpa using h))
def c6.trans{a b c:aQ}(h1:c6 a b)(h2:c6 b c):c6 a c:=by
 induction h1 generalizing c with
 |nil=>exact h2
 |drop h ih=>cases h2 with|drop h2=>exact .drop (ih h2)|keep h2=>exact .drop (ih h2)
 |keep h ih=>cases h2 with|drop h2=>exact .drop (ih h2)|keep h2=>exact .keep (ih h2)|bump h2 k=>exact .bump (ih h2) k
 |bump h k ih=>cases h2 with|drop h2=>exact .drop (ih h2)|keep h2=>exact .bump (ih h2) k|bump h2 k2=>exact .bump (ih h2) ⟨Ax k.1 k2.1,k2.2⟩
def tN{l:aQ}(hl:l.length=qk.length/\∀(j:Nat) (s:SL),l[j]?=am (am s)->(j∈is/\s.own=false)\/(j∉is/\qk[j]?=am (am s)))(hi:qk[i]?=am ce):(l.set i (am (.val v))).length=qk.length/\∀(j:Nat) (s:SL),(l.set i (am (.val v)))[j]?=am (am s)->(j∈is++[i]/\s.own=false)\/(j∉is++[i]/\qk[j]?=am (am s)):=by
 refine⟨by rw[BA];exact hl.1,λj s e=>?_⟩;rcases bF e with⟨rfl,rfl⟩|⟨n,e⟩
 .exact .inl ⟨by simp,rfl⟩
 .rcases hl.2 j s e with⟨h1,h2⟩|⟨h1,h2⟩
  .exact .inl ⟨by simp[h1],h2⟩
  .exact .inr ⟨by simp[h1,n],h2⟩
def WV(qk:aQ):qk.length=qk.length/\∀(j:Nat) (s:SL),qk[j]?=am (am s)->(j∈([]:O Nat)/\s.own=false)\/(j∉([]:O Nat)/\qk[j]?=am (am s)):=⟨rfl,λj s e=>.inr ⟨by simp,e⟩⟩
def G5(hi:qk[i]?=am ce):oJ [i] qk (λp=>qk.set i (am (.val p)))/\∀t,c6 (qk.set i (am (.val t))) qk:=⟨λt=>tN (WV qk) hi,λt=>ye _ hi⟩
def PC{l:aQ}{s:Option SL}(h:l[j]?=am ce)(n:j≠i):(l.set i s)[j]?=am ce:=by rw[ao n];exact h
def US(hi:qk[i]?=am ce)(hj:qk[j]?=am ce)(n:j≠i):oJ [i,j] qk (λt:PV×PV=>(qk.set i (am (.val t.1))).set j (am (.val t.2)))/\∀t:PV×PV,c6 ((qk.set i (am (.val t.1))).set j (am (.val t.2))) qk:=
 ⟨λt=>tN (tN (WV qk) hi) hj,λt=>(ye _ (PC hj n)).trans (ye _ hi)⟩
end
section
variable{rest:O sB}{T:Type}{out:T->End}{x:Bool}{wi:W PV}{l:O PV}
def dY(sr:aR K H σ fs)(hs:fs[i]?=am (am (.ol q0 l))):∃a ws,σ[i]?=am (am (.ref a))/\H a=am (.lst ws)/\aE K [] H ws l:=by
 obtain⟨u,e1,r⟩:=sr.at' i _ hs;rcases r with⟨v,e,_⟩|⟨a,e,z,ws,q1,q2⟩
 .cases e
 .subst e;exact⟨a,ws,e1,q1,q2⟩
def nK{uY:O V}{l':O PV}(sr:aR K H σ fs)(hs:fs[i]?=am (am (.ol q0 l)))(e1:σ[i]?=am (am (.ref a)))(sx:ft a H H')(h':H' a=am (.lst uY))(r:aE K [] H uY l'):aR K H' σ (fs.set i (am (.ol q0 l')))/\cF σ fs H σ (fs.set i (am (.ol q0 l'))) H':=
 mI sr hs rfl (by simp) e1 sx λtk=>⟨(sr.ownAt hs rfl e1).1,uY,h',aE.tk tk r⟩
def eA(l:O PV)(v:PV):W (O PV):=.dN (l.length<sizeLine) (.ret (l++[v]))
theorem SF.append(i:Nat){k:O PV->W T}(hs:fs[i]?=am (am (.ol q0 l)))(hK:X.K=K)(hN:X.N[i]?=am y)(hv:wX X.env.scope y)(he:EF X K fs e we az)(hr:∀l',SF X K x (az.set i (am (.ol q0 l'))) rest (k l') out)(hd: ~~~(gq y))(gM: ~~~(zy y))(dm:‹nn (.Name y p) "append" X.env (o0 (.Name y p) X.env)=o0 (.Name y p) X.env›)(mO:‹HWa X bD [e]›)(di:‹SN Â bD›)(tV:‹gK X e []›)(dD:‹jO X bD []›)(kF:‹pr (.Call (.Attribute (.Name y p) "append" Â) [e] [] bD) ce pos.line X.env=pure false›):SF X K x fs (.Expr (.Call (.Attribute (.Name y p) "append" Â) [e] [] bD) pos::rest) (.bind we λv=>.bind (eA l v) k) out:=
 SF.step (k6 (mE K hK Bt EL EK sX (c8 hN hv hd gM) (aY he.p bC tV) dm mO di tV dD) kF) λD σ H ⟨sr,q⟩=>by
  obtain⟨a,ws,e1,h1,r1⟩:=dY sr hs;refine⟨_,e1,.inl ⟨rfl,_,b9.of h1⟩,sr,we.mono (λv q1 u H1 g1 s1 v1=>?_) q⟩;obtain⟨a',uY,uT,fZ,zB⟩:=dY s1 (g1.ev.same hs (by simp));rw[e1]at uT;cases uT;refine⟨a,uY,u,rfl,rfl,fZ,by rw[zB.length];exact q1.1,λH2 sx h2=>?_⟩;obtain⟨s2,g2⟩:=nK s1 (g1.ev.same hs (by simp)) e1 sx h2 (zB.append (.one v1));exact⟨_,k _,hr _,s2,(k _).mono (λt q2=>q2.go (g1.f.trans g2) sr s2) q1.2⟩
def Z9(l m:O PV):W (O PV):=.dN (l.length+m.length<=sizeLine) (.ret (l++m))
theorem SF.extend(i:Nat){k:O PV->W T}(hs:fs[i]?=am (am (.ol q0 l)))(hK:X.K=K)(hN:X.N[i]?=am y)(hv:wX X.env.scope y)(he:QF X K fs e wl az)(hr:∀l',SF X K x (az.set i (am (.ol q0 l'))) rest (k l') out)(hd: ~~~(gq y))(gM: ~~~(zy y))(dm:‹nn (.Name y p) "extend" X.env (o0 (.Name y p) X.env)=o0 (.Name y p) X.env›)(mO:‹HWa X bD [e]›)(di:‹SN Â bD›)(tV:‹gK X e []›)(dD:‹jO X bD []›)(kF:‹pr (.Call (.Attribute (.Name y p) "extend" Â) [e] [] bD) ce pos.line X.env=pure false›):SF X K x fs (.Expr (.Call (.Attribute (.Name y p) "extend" Â) [e] [] bD) pos::rest) (.bind wl λm=>.bind (Z9 l m) k) out:=
 SF.step (k6 (mE K hK Bt PySem.F.slot_list_extend PySem.F.type_list_extend (UN K hK) (c8 hN hv hd gM) (aY he.p bC tV) dm mO di tV dD) kF) λD σ H ⟨sr,q⟩=>by
  obtain⟨a,ws,e1,h1,r1⟩:=dY sr hs;refine⟨_,e1,.inl ⟨rfl,_,b9.of h1⟩,sr,wl.mono (λm q1 u H1 g1 s1 v1=>?_) q⟩;obtain⟨a',uY,uT,fZ,zB⟩:=dY s1 (g1.ev.same hs (by simp));rw[e1]at uT;cases uT;obtain⟨b,zs,rfl,hb,rb⟩:=v1.sq s1;refine⟨a,b,uY,zs,rfl,rfl,fZ,hb,by rw[zB.length,rb.length];exact q1.1,λH2 sx h2=>?_⟩;obtain⟨s2,g2⟩:=nK s1 (g1.ev.same hs (by simp)) e1 sx h2 (zB.append rb);exact⟨_,k _,hr _,s2,(k _).mono (λt q2=>q2.go (g1.f.trans g2) sr s2) q1.2⟩
def Gv(l:O PV):W (O PV×PV):=match l.getLast? with
 |some v=>.ret (l.dropLast,v)
 |none=>.fail
def Pw{l:O PV}(h:l.getLast?=am v):l=l.dropLast++[v]:=by
 rw[List.getLast?_eq_some_iff]at h;obtain⟨ys,rfl⟩:=h;simp
theorem aE.snoc:∀{ws:O V}{l:O PV}{v:PV},aE K [] H ws (l++[v])->∃Þ u,ws=Þ++[u]/\aE K [] H Þ l/\VR K [] H u v
 |_,[],_,.cons r .nil=>⟨[],_,rfl,.nil,r⟩
 |_,x::l,v,.cons r t=>by
  obtain⟨Þ,u,rfl,h1,h2⟩:=aE.snoc t;exact⟨_::Þ,u,rfl,.cons r h1,h2⟩
def SF.IX(i j:Nat){z:Str}{k:O PV×PV->W T}(hs:fs[i]?=am (am (.ol q0 l)))(ü:j≠i)(hK:X.K=K)(hN:X.N[i]?=am y)(hv:wX X.env.scope y)(ļ:X.N.Nodup)(hj:X.N[j]?=am z)(hx:Loc X.env.scope z)(hr:∀t:O PV×PV,SF X K x ((fs.set i (am (.ol q0 t.1))).set j (am (.val t.2))) rest (k t) out)(hd: ~~~(gq y))(gM: ~~~(zy y))(dm:‹nn (.Name y p) "pop" X.env (o0 (.Name y p) X.env)=o0 (.Name y p) X.env›)(di:‹SN Â bD›)(kF:‹pr (.Call (.Attribute (.Name y p) "pop" Â) [] [] bD) (am (.Name z p')) pos.line X.env=pure false›)(hf:SI X z:=by first | exact .inl rfl | exact .inr rfl | assumption):SF X K x fs (.Assign [.Name z p'] (.Call (.Attribute (.Name y p) "pop" Â) [] [] bD) pos::rest) (.bind (Gv l) k) out:=
 SF.step (mD ļ hj hx (Us K hK Bt DM DL UL (c8 hN hv hd gM) dm di) kF hf) λD σ H ⟨sr,q⟩=>by
  obtain⟨a,ws,e1,h1,r1⟩:=dY sr hs;have q:(Gv l).run λt=>(k t).run λt=>cg K x σ fs H D (out t):=q;unfold Gv at q;cases hl:l.getLast? with
  |none=>rw[hl]at q;exact q.elim
  |some v=>
   rw[hl]at q;have el:=Pw hl;rw[el]at r1;obtain⟨Þ,u,rfl,r0,ru⟩:=aE.snoc r1;refine⟨_,e1,.inl ⟨rfl,_,b9.of h1⟩,a,Þ,u,rfl,rfl,h1,λH2 sx h2=>?_⟩;obtain⟨s2,g2⟩:=nK sr hs e1 sx h2 r0;have ru2:VR K [] H2 u v:=g2.vr sr ru;have s3:=s2.nJ ru2 j;exact⟨_,k _,hr (l.dropLast,v),s3,(k _).mono (λt q2=>q2.go (g2.trans (cF.nJ s2 _ _ j)) sr s3) q⟩
def u9(l:O PV)(i v:PV):W (O PV):=match i with
 |.int k=>match rN l.length k with
  |some j=>.ret (l.set j v)
  |none=>.fail
 |_=>.fail
def SF.Yl(i:Nat){ei:nw}{k:O PV->W T}(hs:fs[i]?=am (am (.ol q0 l)))(hN:X.N[i]?=am y)(hv:wX X.env.scope y)(he:EF X K fs e we az)(hi:EF X K az ei wi fs2)(hr:∀l',SF X K x (fs2.set i (am (.ol q0 l'))) rest (k l') out)(ha:∀v,IR (.Subscript (.Name y p) ei IA) X.env v=(do
   let ov <- GM [v] (o0 (.Name y p) X.env)
   let iv <- GM [v,ov] (o0 ei X.env)
   standAt IA
   GM [v,ov,iv] (setItem ov iv v)
   release [v,ov,iv] []):=by intro _;rfl)(hd: ~~~(gq y))(gM: ~~~(zy y))(Xe:‹GT [.Subscript (.Name y p) ei IA] e pos.line X.env=pure false›)(hw:‹Ix [.Subscript (.Name y p) ei IA] e X.env=pure ce›)(h1:‹(Fa [.Subscript (.Name y p) ei IA] X.env).map (·.2)=[IR (.Subscript (.Name y p) ei IA) X.env]›):SF X K x fs (.Assign [.Subscript (.Name y p) ei IA] e pos::rest) (.bind we λv=>.bind wi λn=>.bind (u9 l n v) k) out:=
 SF.step (xB he.p (IZ (c8 hN hv hd gM) hi.p oX ha) Xe hw h1) λD σ H ⟨sr,q⟩=>by
  refine⟨sr,we.mono (λv q1 u H1 g1 s1 v1=>?_) q⟩;obtain⟨a,ws,e1,h1,r1⟩:=dY s1 (g1.ev.same hs (by simp));refine⟨_,e1,s1,wi.mono (λn q2 u2 H2 g2 s2 v2=>?_) q1⟩;obtain⟨a',uY,uT,fZ,zB⟩:=dY s2 ((g1.trans g2).ev.same hs (by simp));rw[e1]at uT;cases uT;cases v2 with
  |int kk=>
   have q2:(match rN l.length kk with|some j=>ca (l.set j v)|none=>W.fail).run _:=q2;cases hj:rN l.length kk with
   |none=>rw[hj]at q2;exact q2.elim
   |some j=>
    rw[hj]at q2;refine⟨a,uY,kk,j,rfl,rfl,fZ,by rw[zB.length];exact hj,λH3 sx h3=>?_⟩;obtain⟨s3,g3⟩:=nK s2 ((g1.trans g2).ev.same hs (by simp)) e1 sx h3 (zB.set (g2.vr s1 v1) j);exact⟨_,k _,hr _,s3,(k _).mono (λt q3=>q3.go ((g1.trans g2).f.trans g3) sr s3) q2⟩
  |_=>exact q2.elim
end
end
section
variable[bN]
variable{K:Aa}
def gN(n:Nat):O AK->O PV->aQ
 |[],_=>[]
 |.v::ks,x::l=>am (.val x)::gN n ks l
 |.v::_,[]=>[]
 |.p ψ d::ks,l=>am (.cC ψ n (n+d))::gN n ks l
 |.f a us ps fz::ks,l=>am (.adr a us ps fz)::gN n ks l
def uH(n:Nat)(ks:O AK)(l:O PV)(N:Nat):aQ:=gN n ks l++Ao (N-ks.length) ce
def uO(ks:O AK):Prop:=∀i j:Nat,(∃ψ d,ks[i]?=am (.p ψ d))->(∃ψ d,ks[j]?=am (.p ψ d))->i=j
theorem kX:∀{n:Nat}{m:zG R n}{l:O PV}{Q:R->Prop},(qz n m l).run Q->l.length=n
 |0,_,[],_,_=>rfl
 |0,_,_::_,_,h=>h.elim
 |n+1,_,[],_,h=>h.elim
 |n+1,m,x::l,Q,h=>by rw[Aq,kX (n:=n) h]
section
variable{l:O PV}
theorem i5.len(h:i5 K H n vs ks l):vs.length=ks.length:=by induction h<;>simp_all
def i5.slot(h:i5 K H n vs ks l):(gN n ks l).length=vs.length/\∀(i:Nat) (s:SL),(gN n ks l)[i]?=am (am s)->∃u,vs[i]?=am u/\qw K H u s/\(s.own=true->∃ψ d,s=.cC ψ n (n+d)/\ks[i]?=am (.p ψ d)):=by
 induction h with
 |nil=>exact⟨rfl,λi s e=>by simp[gN]at e⟩
 | @v u x vs ks l r t ih=>
  refine⟨by simp[gN,ih.1],λi s e=>?_⟩;cases i with
  |zero=>simp[gN]at e;subst e;exact⟨u,rfl,.inl ⟨x,rfl,r⟩,λz=>by cases z⟩
  |succ i=>simp[gN]at e;obtain⟨w,h1,h2,h3⟩:=ih.2 i s e;exact⟨w,by simpa using h1,h2,by simpa using h3⟩
 | @p a ψ d vs ks l e0 r t ih=>
  refine⟨by simp[gN,ih.1],λi s e=>?_⟩;cases i with
  |zero=>simp[gN]at e;subst e;exact⟨_,rfl,.inr ⟨a,rfl,e0,Bi _ _,r⟩,λ_=>⟨ψ,d,rfl,rfl⟩⟩
  |succ i=>simp[gN]at e;obtain⟨w,h1,h2,h3⟩:=ih.2 i s e;exact⟨w,by simpa using h1,h2,by simpa using h3⟩
 | @f a us vs ps fz ks l r z t ih=>
  refine⟨by simp[gN,ih.1],λi s e=>?_⟩;cases i with
  |zero=>simp[gN]at e;subst e;exact⟨_,rfl,.inr ⟨a,rfl,rfl,r,z⟩,λz=>by cases z⟩
  |succ i=>simp[gN]at e;obtain⟨w,h1,h2,h3⟩:=ih.2 i s e;exact⟨w,by simpa using h1,h2,by simpa using h3⟩
def i5.YO(h:i5 K H n vs ks l)(e:ks[i]?=am (.p ψ d)):(gN n ks l)[i]?=am (am (.cC ψ n (n+d))):=by
 induction h generalizing i with
 |nil=>simp at e
 |v r t ih=>cases i with|zero=>simp at e|succ i=>simp[gN];exact ih (by simpa using e)
 |p e0 r t ih=>cases i with|zero=>simp at e;obtain⟨rfl,rfl⟩:=e;rfl|succ i=>simp[gN];exact ih (by simpa using e)
 |f r z t ih=>cases i with|zero=>simp at e|succ i=>simp[gN];exact ih (by simpa using e)
theorem oG{N:Nat}{s:SL}(h:(uH n ks l N)[i]?=am (am s)):(gN n ks l)[i]?=am (am s):=by
 unfold uH at h;by_cases c:i<(gN n ks l).length
 .rw[AH c]at h;exact h
 .rw[AV ∅,BU]at h
  split at h<;>cases h
def kZ{N:O Str}(h:vs[i]?=am u):(L2.start N vs)[i]?=am (am u):=by
 unfold L2.start;rw[AH (by rw[Aj];exact(Ai.mp h).1),Af,h];rfl
def vU{N:O Str}(h:(L2.start N vs)[i]?=am (am u)):vs[i]?=am u:=by
 unfold L2.start at h;by_cases c:i<vs.length
 .rw[AH (by simpa using c),Af]at h;cases z:vs[i]? with
  |none=>rw[z]at h;cases h
  |some q=>rw[z]at h;cases h;rfl
 .rw[AV (by simpa using c),BU]at h
  split at h<;>cases h
def i5.beg(h:i5 K H n vs ks l)(tb:TB H)(one:uO ks)(N:O Str):aR K H (L2.start N vs) (uH n ks l N.length):=by
 obtain⟨hl,hs⟩:=h.slot;refine⟨?_,λi s e=>?_,λi j s t x y a e1 e2 o1 o2 q1 q2 z1 z2=>?_,tb⟩
 .unfold L2.start uH;rw[Ak,Ak,Aj,hl,Bq,Bq,h.len]
 .obtain⟨u,h1,h2,_⟩:=hs i s (oG e);exact⟨u,kZ h1,h2⟩
 .obtain⟨_,_,_,h3⟩:=hs i s (oG e1);obtain⟨_,_,_,h4⟩:=hs j t (oG e2);obtain⟨φ,d,_,k1⟩:=h3 o1;obtain⟨ψ,d',_,k2⟩:=h4 o2;exact one i j ⟨φ,d,k1⟩ ⟨ψ,d',k2⟩
def i5.go(h:i5 K H n vs ks l){N:O Str}(g:cF (L2.start N vs) (uH n ks l N.length) H σ' aN H')(s':aR K H' σ' aN):Wg n vs ks H H':=by
 obtain⟨hl,hs⟩:=h.slot;refine⟨λa o e q=>(g.keep a o e λz=>?_).1,s'.tb,g.there,λa ψ d p=>?_,g.x⟩
 .obtain⟨i,s,x,e1,e2,e3,e4⟩:=z;obtain⟨u,h1,h2,h3⟩:=hs i s (oG e1);obtain⟨ψ,d,rfl,k⟩:=h3 e2;rcases e4 with rfl|e4
  .exact q ψ d ⟨i,k,vU e3⟩
  .cases e4
 .obtain⟨i,e1,e2⟩:=p;have e3:=h.YO e1;have e4:(uH n ks l N.length)[i]?=am (am (.cC ψ n (n+d))):=by unfold uH;rw[AH ((Ai.mp e3).1)];exact e3
  rcases g.pk a ψ (n+d) ⟨i,n,e4,kZ e2⟩ with p|⟨_,k⟩
  .exact s'.free p
  .exact k
end
section
variable{st:sB}{f:db}{N:O Str}
def fnV{m:zG PV n}(Fn:OY K x qual st f fd)(S:dA N ps (aF st))(Vi:ks.length=ps.length)(one:uO ks)(É:∀(j:Nat) (l:O PV),l.length=n->∀(dc:ci) (A:zn) (outer:O Env) (s:cr) (H:Hp) (E:XK),cu k (A.deeper (EQ qual (aF st) s.heap.objs.size f dc))->SF (qU uP P w K mg base N qual (aF st) f dc A outer s H E).SW K false (uH j ks l N.length) (bR st) (qz n m l) .rt):gP P w K mg base uP (k+1) f fd ps (Pr K ks (qz n m)):=by
 refine Fn.ok S (λvs H Q E h=>?_) (λdc A outer s H vs Q E hr h=>?_)
 .obtain⟨_,_,l,h,_⟩:=h;rw[h.len];exact Vi
 obtain⟨tb,j,l,h,q⟩:=h;refine⟨_,(É j l (kX q) dc A outer s H E hr).p,h.beg tb one N,(qz n m l).mono (λv q1 u σ' aN H' g s' r=>q1 u H' (h.go g s') r) q⟩
def fnL{m:zG (O PV) n}(Fn:OY K x qual st f fd)(S:dA N ps (aF st))(Vi:ks.length=ps.length)(one:uO ks)(É:∀(j:Nat) (l:O PV),l.length=n->∀(dc:ci) (A:zn) (outer:O Env) (s:cr) (H:Hp) (E:XK),cu k (A.deeper (EQ qual (aF st) s.heap.objs.size f dc))->SF (qU uP P w K mg base N qual (aF st) f dc A outer s H E).SW K false (uH j ks l N.length) (bR st) (qz n m l) .rl):gP P w K mg base uP (k+1) f fd ps (zW K ks (qz n m)):=by
 refine Fn.ok S (λvs H Q E h=>?_) (λdc A outer s H vs Q E hr h=>?_)
 .obtain⟨_,_,l,h,_⟩:=h;rw[h.len];exact Vi
 obtain⟨tb,j,l,h,q⟩:=h;refine⟨_,(É j l (kX q) dc A outer s H E hr).p,(h.beg tb one N),(qz n m l).mono (λz q1 a ws σ' aN H' g s' fr e r=>q1 a ws H' (h.go g s') ?_ e r) q⟩;rcases fr with fr|⟨i,t,x,e1,e2,np,e3,e4⟩
 .exact fr
 .obtain⟨_,_,_,h3⟩:=h.slot.2 i t (oG e1);obtain⟨ψ,d,e,_⟩:=h3 e2;exact absurd e (np _ _ _)
end
def Lv:uO []:=λi j ⟨_,_,h⟩=>by simp at h
def WH{k:AK}(h:uO ks)(hk:∀ψ d,k≠.p ψ d):uO (k::ks):=λi j ⟨φ,d,a⟩ ⟨ψ,d',b⟩=>by
 cases i with
 |zero=>simp at a;exact absurd a (hk _ _)
 |succ i=>
  cases j with
  |zero=>simp at b;exact absurd b (hk _ _)
  |succ j=>rw[h i j ⟨φ,d,by simpa using a⟩ ⟨ψ,d',by simpa using b⟩]
def WE(h:uO ks):uO (.v::ks):=WH h (by simp)
def acy{fa:db}{us:O V}{qs:O PV}(h:uO ks):uO (.f fa us qs fz::ks):=WH h (by simp)
end
end FL
namespace L2
def ace(K:Aa):R2:=λx y H Q=>∃a b xs zs,x=.ref a/\y=.ref b/\b9 K H a xs/\b9 K H b zs/\xs.length+zs.length<=sizeLine/\gL H (.lst (xs++zs)) Q
theorem Uy(K:Aa)(hK:X.K=K):iD X (ut .Add) (ace K):=by
 subst hK;intro Z s σ H x y v u Q I rx ry h;obtain⟨l,b,xs,zs,rfl,rfl,hH,hB,hz,q⟩:=h;cases rx;cases ry;obtain⟨aq,r,⟨⟨cls,dd,data,sl⟩,n,ho,hc,hd,qN⟩,_⟩:=I.list hH;obtain⟨cT,r2,⟨⟨Ń,VT,data2,SR⟩,n2,NQ,Xo,Ø,ado⟩,_⟩:=I.list hB;subst hc hd qN Xo Ø ado;have e:aq.toArray++cT.toArray=(aq++cT).toArray:=by simp
 have hl:=r.length;have Xi:=r2.length;refine concat_meets ⟨_,ho,rfl⟩ ⟨_,NQ,rfl⟩ noFill_list_add seq_list_add PySem.F.slot_list_add PySem.F.entry_list_add (PySem.F.args_list_add_2 _ _) (list_addW l b aq.toArray cT.toArray n n2 ce ce sl SR (by simp;lia)) ⟨ho,NQ,?_⟩;rw[e];exact⟨.ref _,_,I.Zh (r.append r2) (by rw[Ak];lia),rfl,q.at _ I.fresh⟩
end L2
variable{o:BW}{hi:FL.W (Option Int)}{neg:Bool}
namespace FL
section
variable[bN]
variable{K:Aa}
section
variable{a c:nw}{p2:Pos}{w:W PV}{wm:W (O PV)}
def lT(l m:O PV):W (O PV):=.dN (l.length+m.length<=sizeLine) (.ret (l++m))
def fQL(K:Aa)(fs:aQ)(w:W (O PV))(aN:aQ:=fs):TE:=λσ H Q=>aR K H σ fs/\w.run λl=>∀u H',bZ σ fs H H' aN->aR K H' σ aN->Wc K σ aN H' u l->(∀f2 Ĝ,bZ σ aN H' Ĝ f2->aR K Ĝ σ f2->∃a vs,u=.ref a/\b9 K Ĝ a vs/\aE K [] Ĝ vs l)->Q u H'
structure Io(X:Cx)(K:Aa)(fs:aQ)(e:nw)(w:W (List PV))(aN:aQ:=fs):Prop where p:PE X e (fQL K fs w aN)
def cf(h:LF X K fs e wl az):Io X K fs e wl az:=⟨PE.imp h.p λσ H Q ⟨sr,q⟩=>⟨sr,wl.mono (λl q1 a vs H1 g1 s1 n e v=>q1 _ H1 g1 s1 (.inr ⟨a,rfl,.inl ⟨λz=>sr.noOwn n (g1.ev.eK z),vs,e,v⟩⟩) λ_ H2 g2 s2=>⟨a,vs,rfl,b9.of (g2.tR e λz=>sr.noOwn n (g1.ev.eK z)),g2.OG s1 v⟩) q⟩⟩
def xy(i:Nat){l:O PV}(hs:‹fs[i]?=am (am (.ol q0 l))›)(hN:‹X.N[i]?=am x›)(hv:wX X.env.scope x:=by first|exact B4 rfl|exact B3 (B4 rfl)|exact B3 (B3 rfl))(hd: ~~~(gq x))(gM: ~~~(zy x)):Io X K fs (.Name x pos) (.ret l):=
 ⟨PE.imp (c8 hN hv hd gM) λσ H Q ⟨sr,q⟩=>by
  obtain⟨a,ws,e1,h1,r1⟩:=dY sr hs;refine⟨_,e1,q _ H .refl sr (.inr ⟨a,rfl,.inr ⟨i,q0,hs,e1⟩⟩) λ_ H2 g2 s2=>?_⟩;obtain⟨a',uY,uT,fZ,zB⟩:=dY s2 (g2.ev.same hs (by simp));rw[e1]at uT;cases uT;exact⟨a,uY,rfl,b9.of fZ,zB⟩⟩
def tm:PV->W (O PV)
 |.cl l=>.ret l
 |_=>.fail
def i8(h:EF X K fs e w az):Io X K fs e (.bind w tm) az:=⟨PE.imp h.p λσ H Q ⟨sr,q⟩=>⟨sr,w.mono (λx q1 u1 H1 g1 s1 v1=>by
 cases v1 with
 |cl e r=>exact q1 _ H1 g1 s1 (.inl ⟨_,_,rfl,.inl e,r⟩) λ_ H2 g2 s2=>⟨_,_,rfl,((g2.dB s1).f _ _ e).sq,g2.OG s1 r⟩
 |_=>exact q1.elim) q⟩⟩
def n9(hK:X.K=K)(ha:Io X K fs a wl az)(hb:Io X K az b wm fs2):LF X K fs (.BinOp a .Add b pos) (.bind wl λl=>.bind wm λm=>lT l m) fs2:=⟨PE.imp (cX (Uy K hK) ha.p hb.p) λσ H Q ⟨sr,q⟩=>⟨sr,wl.mono (λl q1 u1 H1 g1 s1 _ v1=>⟨s1,wm.mono (λm q2 u2 H2 g2 s2 _ v2=>by
 obtain⟨a,vs,rfl,h1,r1⟩:=v1 _ H2 g2 s2;obtain⟨b,ws,rfl,h2,r2⟩:=v2 _ H2 .refl s2;refine⟨a,b,vs,ws,rfl,rfl,h1,h2,by rw[r1.length,r2.length];exact q2.1,λp H3 s3 h3 n3=>?_⟩;have gg:=g1.trans g2;exact q2.2 p _ H3 (gg.trans (bZ.same s3)) (s2.same s3) (gg.there p n3) h3 (aE.tk s3.ff (r1.append r2))) q1⟩) q⟩⟩
def qa{Q:VK}{l:O PV}(g1:bZ σ fs H H1 az)(s1:aR K H1 σ az)(r:aE K [] H1 vs l)(q:∀a vs H',bZ σ fs H H' az->aR K H' σ az->H a=ce->H' a=am (.lst vs)->aE K [] H' vs l->Q (.ref a) H'):gL H1 (.lst vs) Q:=λp H2 s2 h2 n2=>q p vs H2 (g1.trans (bZ.same s2)) (s1.same s2) (g1.there p n2) h2 (aE.tk s2.ff r)
def QO(K:Aa):CL K (P6 K) .ret:=λ{fs σ H Q u l} s v q=>by
 obtain⟨a,vs,rfl,h,rs⟩:=v.sq s;exact⟨a,vs,rfl,h,qa .refl s rs q⟩
def Q0(hK:X.K=K)(hg:Gl X "list")(hm:X.mg "list"=ce)(ha:QF X K fs e wl az)(he:‹gK X e []›)(cU:‹jO X pos []›):LF X K fs (.Call (.Name "list" p) [e] [] pos) wl az:=Q1 (Kx K hK) (QO K) hg hm boot_list ha ⋯ ⋯ he cU
def du(hK:X.K=K)(hg:Gl X "tuple")(hm:X.mg "tuple"=ce)(ha:QF X K fs e wl az)(he:‹gK X e []›)(cU:‹jO X pos []›):EF X K fs (.Call (.Name "tuple" p) [e] [] pos) (.bind wl ka) az:=Ob (Oj K hK) (Te K) hg hm boot_tuple ha ⋯ ⋯ he cU
def pP(hK:X.K=K)(hg:Gl X "len")(hm:X.mg "len"=ce)(ha:QF X K fs e wl az)(he:‹gK X e []›)(cU:‹jO X pos []›):EF X K fs (.Call (.Name "len" p) [e] [] pos) (.bind wl yd) az:=Sd (wN K hK) (UR K) hg hm boot_len ha ⋯ ⋯ he cU
def XI(ha:EF X K fs e w az)(he:lm [e] X.env=(false,o0 e X.env)::lm [] X.env):AF X K fs [e] (Ao 1 .v) (R:=R) (λk=>.bind w λx=>k [x]) az:=ak ha ai he
def fJ(hK:X.K=K)(hg:Gl X "len")(hm:X.mg "len"=ce)(ha:EF X K fs e w az)(he:‹gK X e []›)(cU:‹jO X pos []›):EF X K fs (.Call (.Name "len" p) [e] [] pos) (.bind w λx=>Je gb [x]) az:=VL (wN K hK) (V2 K) hg hm boot_len (XI ha he) ⋯ ⋯ he cU
def Md(hg:Gl X "int")(hm:X.mg "int"=ce)(ha:EF X K fs e w az)(he:‹gK X e []›)(cU:‹jO X pos []›):EF X K fs (.Call (.Name "int" p) [e] [] pos) (.bind w λx=>Je KC [x]) az:=R9 Oq V3 hg hm boot_int (XI ha he) ⋯ ⋯ he cU
def acK(hK:X.K=K)(hc:X.calm=true)(ZV:Gl X "list")(ZS:X.mg "list"=ce)(ZU:Gl X "reversed")(S3:X.mg "reversed"=ce)(he:Io X K fs e wl az)(tX:‹lm [.Call (.Name "reversed" p3) [e] [] p4] X.env=(false,o0 (.Call (.Name "reversed" p3) [e] [] p4) X.env)::lm [] X.env›)(qM:‹gK X e []›):LF X K fs (.Call (.Name "list" p1) [.Call (.Name "reversed" p3) [e] [] p4] [] p2) (.bind wl λl=>.ret l.reverse) az:=⟨PE.imp (I0 K hK hc ZV ZS ZU S3 he.p tX qM) λσ H Q ⟨sr,q⟩=>⟨sr,wl.mono (λl q1 u1 H1 g1 s1 _ v1=>by
 obtain⟨a,vs,rfl,h1,r1⟩:=v1 _ H1 .refl s1;exact⟨a,vs,rfl,h1,qa g1 s1 r1.reverse q1⟩) q⟩⟩
def kD(k:Kd)(x:PV):W PV:=match x with
 |.ref _=>.fail
 |.ty _=>.fail
 |.ob _ _=>.fail
 |.hand=>.fail
 |x=>.ret (.bl (k.is x))
def WB(K:Aa):O V->Hp->VK->Prop:=λxs H Q=>∃x c t b,xs=[x,.ty c]/\(lU K H x t\/(t=.type "tuple"/\∃a vs,x=.ref a/\dM K H a vs)\/(t=.type "list"/\∃a vs,x=.ref a/\b9 K H a vs)\/(t=.type "dict"/\∃a,x=.ref a/\IsD H a))/\Bu K t (.type c)=am b/\Q (.bl b) H
def Om(hK:X.K=K):cj X (.builtin "isinstance") (WB K):=by
 subst hK;intro Z s σ H xs us Q I r h;obtain⟨x,c,t,b,rfl,ty|ty|⟨rfl,a,vs,rfl,hL⟩|⟨rfl,a,rfl,hD⟩,e,q⟩:=h
 .exact qt Z s σ H _ us Q I r ⟨x,c,t,b,rfl,ty,e,q⟩
 .exact Ol X.K rfl Z s σ H _ us Q I r ⟨x,c,t,b,rfl,.inr ty,e,q⟩
 .obtain⟨u,w,rfl,r1,r2⟩:=vals2 r;cases r1;cases r2;obtain⟨aq,_,⟨o,n,h1,h2,_⟩,_⟩:=I.list hL;exact Ba EB I.qi ⟨o,h1,h2⟩ e (λz=>nomatch z) λtk=>⟨.bl b,H,I.tok _,rfl,q⟩
 .obtain⟨u,w,rfl,r1,r2⟩:=vals2 r;cases r1;cases r2;have:∃o,s.heap.get? a=am o/\o.cls=.type "dict":=by
   rcases hD with⟨aA,e⟩|⟨aA,e⟩
   .obtain⟨_,_,vs,_,o,_,_,h1,h2,_⟩:=HK I.br e;exact⟨o,h1,h2.1⟩
   .obtain⟨_,_,xs,_,o,_,_,h1,h2,_⟩:=HJ I.br e;exact⟨o,h1,h2.1⟩
  obtain⟨o,h1,h2⟩:=this;exact Ba EC I.qi ⟨o,h1,h2⟩ e (λz=>nomatch z) λtk=>⟨.bl b,H,I.tok _,rfl,q⟩
def mm(hK:X.K=K)(k:Kd)(hg:Gl X "isinstance")(hm:X.mg "isinstance"=ce)(ha:EF X K fs a wa az)(hgx:Gl X x)(hmx:X.mg x=ce)(hv:re x=am (.type k.name))(hn: ~~~(x≠"__name__"))(hd: ~~~(gq x))(he:‹lm [a,.Name x p2] X.env=(false,o0 a X.env)::lm [.Name x p2] X.env›)(ķ:‹lm [Expr.Name x p2] X.env=(false,o0 (.Name x p2) X.env)::lm [] X.env›)(cU:‹(BT pos (lm [Expr.Name x p2] X.env)).any (·.1)=false›):EF X K fs (.Call (.Name "isinstance" p) [a,.Name x p2] [] pos) (.bind wa (kD k)) az:=
 ⟨PE.imp (dX (Om hK) hg hm boot_isinstance (aY ha.p (aY (Ut (v:=.ty k.name) hgx hmx hv rfl hn hd) bC ķ) he) ⋯ ⋯ he cU) λσ H Q ⟨sr,q⟩=>⟨sr,wa.mono (λx q1 u1 H1 g1 s1 v1=>by
  have fin:∀{t:ci}{y:PV},lU K H1 u1 t->Bu K t (.type k.name)=am (k.is y)->Q (.bl (k.is y)) H1->WB K [u1,.ty k.name] H1 Q:=λty e q=>⟨_,_,_,_,rfl,.inl ty,e,q⟩;cases v1 with
  |aM=>exact fin .aM (by rw[(rJ K).1 k];cases k<;>rfl) (q1 _ H1 g1 s1 (.bl _))
  |bl b=>exact fin (.bl b) (Zp K b k) (q1 _ H1 g1 s1 (.bl _))
  |int b=>exact fin (.int b) (U1 K b k) (q1 _ H1 g1 s1 (.bl _))
  |str b=>exact fin (.str b) (U0 K b k) (q1 _ H1 g1 s1 (.bl _))
  |ty n=>exact q1.elim
  |ref n=>exact q1.elim
  |ob _ _ _ _ _=>exact q1.elim
  |hand _=>exact q1.elim
  | @dk a o aA ks l e k1 r=>exact⟨_,_,_,_,rfl,.inr (.inr (.inr ⟨rfl,_,rfl,.inl ⟨_,.inr ⟨_,e⟩⟩⟩)),(show _=am (k.is (.dv ks l)) by rw[(rJ K).2.2 k];cases k<;>rfl),q1 _ H1 g1 s1 (.bl _)⟩
  | @dt a o aA ks l e k1 r=>exact⟨_,_,_,_,rfl,.inr (.inr (.inr ⟨rfl,_,rfl,.inr ⟨_,.inr ⟨_,e⟩⟩⟩)),(show _=am (k.is (.dv ks l)) by rw[(rJ K).2.2 k];cases k<;>rfl),q1 _ H1 g1 s1 (.bl _)⟩
  | @cl p vs l e r=>exact⟨_,_,_,_,rfl,.inr (.inr (.inl ⟨rfl,_,_,rfl,e.sq⟩)),(show _=am (k.is (.cl l)) by rw[(rJ K).2.1 k];cases k<;>rfl),q1 _ H1 g1 s1 (.bl _)⟩
  | @tup p vs l e r=>exact⟨_,_,_,_,rfl,.inr (.inl ⟨rfl,_,_,rfl,dM.of e⟩),UZ K _ k,q1 _ H1 g1 s1 (.bl _)⟩) q⟩⟩
def TY(l:O PV):PV->W (O PV)
 |.int k=>.dN (-(2 ^ 63)<=k/\k<2 ^ 63/\l.length*k.toNat<=sizeLine) (.ret (Ao k.toNat l).flatten)
 |_=>.fail
def acL(ha:LF X K fs a wl az)(hb:EF X K az b wb fs2):LF X K fs (.BinOp a .Mult b pos) (.bind wl λl=>.bind wb λy=>TY l y) fs2:=⟨PE.imp (cX YY ha.p hb.p) λσ H Q ⟨sr,q⟩=>⟨sr,wl.mono (λl q1 a vs H1 g1 s1 n e v=>⟨s1,wb.mono (λy q2 u2 H2 g2 s2 v2=>by
 cases v2 with
 |int k=>
  have r2:=g2.OG s1 v;refine⟨a,k,vs,rfl,rfl,((g2.tR e (λz=>sr.noOwn n (g1.ev.eK z)))),q2.1.1,q2.1.2.1,by rw[r2.length];exact q2.1.2.2,λp hp=>?_⟩;have sm:=kg hp (.lst (Ao k.toNat vs).flatten);have gg:=g1.trans g2;exact q2.2 p _ _ (gg.trans (bZ.same sm)) (s2.same sm) (gg.there p hp) ay (aE.tk sm.ff (r2.rep k.toNat))
 |_=>exact q2.elim) q1⟩) q⟩⟩
def part:PV->W (Option Int)
 |.int i=>.ret (am i)
 |_=>.fail
def mK:OF X K fs ce (.ret ce):=⟨PO.imp Uh λσ H Q ⟨sr,q⟩=>q H .refl sr⟩
def sR(h:EF X K fs e w az):OF X K fs (am e) (.bind w part) az:=⟨PO.imp (Ug h.p) λσ H Q ⟨sr,q⟩=>⟨sr,w.mono (λx q1 u1 H1 g1 s1 v1=>by
 cases v1 with
 |int i=>exact⟨_,rfl,q1 H1 g1 s1⟩
 |_=>exact q1.elim) q⟩⟩
variable{el eh:Option nw}{lo:W (Option Int)}
def Zj(hK:X.K=K)(he:Io X K fs e wl az)(hl:OF X K az el lo fs2)(hh:OF X K fs2 eh hi fs3):LF X K fs (.Subscript e (.Slice el eh ce p2) pos) (.bind wl λl=>.bind lo λi=>.bind hi λj=>.ret (uA l i j)) fs3:=⟨PE.imp (Qm (Px K hK) he.p hl.p hh.p) λσ H Q ⟨sr,q⟩=>⟨sr,wl.mono (λl q1 u1 H1 g1 s1 _ v1=>⟨s1,lo.mono (λi q2 H2 g2 s2=>⟨s2,hi.mono (λj q3 H3 g3 s3=>by
 obtain⟨a,vs,rfl,h1,r1⟩:=v1 _ H3 (g2.trans g3) s3;exact⟨a,vs,rfl,h1,qa ((g1.trans g2).trans g3) s3 (r1.cut i j) q3⟩) q2⟩) q1⟩) q⟩⟩
def qm(h:Io X K fs e wl az):∀σ H Q,fE K fs (.bind wl λl=>.ret (.bl (if neg then !l.isEmpty else l.isEmpty))) az σ H Q->Wq (λx y H Q=>∃p q xs,x=.ref p/\y=.ref q/\b9 K H p xs/\b9 K H q []/\Q (.bl (if neg then !xs.isEmpty else xs.isEmpty)) H) (fQL K fs wl az) (fL K az (.ret [])) σ H Q:=λσ H Q ⟨sr,q⟩=>
 ⟨sr,wl.mono (λl q1 u1 H1 g1 s1 _ v1=>⟨s1,λa2 vs2 H2 g2 s2 n2 e2 r2=>by
  cases r2;obtain⟨a,vs,rfl,h1,r1⟩:=v1 _ H2 g2 s2;refine⟨a,a2,vs,rfl,rfl,h1,b9.of e2,?_⟩;rw[R0 r1];exact q1 _ H2 (g1.trans g2) s2 (.bl _)⟩) q⟩
def WX:LF X K fs (.List [] pos) (.ret []):=WZ (n:=0) ai
theorem aji(hK:X.K=K)(hu:X.A.units+200<ul)(h:Io X K fs e wl az)(hk:‹tz .Eq (.List [] p2)=false›):EF X K fs (.Compare e [.Eq] [.List [] p2] pos) (.bind wl λl=>.ret (.bl l.isEmpty)) az:=⟨PE.imp (Lo (Jb K hK ∅) h.p WX.p hk) (qm (neg:=false) h)⟩
theorem abw(hK:X.K=K)(hu:X.A.units+200<ul)(h:Io X K fs e wl az)(hk:‹tz .NotEq (.List [] p2)=false›):TF X K fs (.Compare e [.NotEq] [.List [] p2] pos) (.bind wl λl=>.ret (!l.isEmpty)) az:=⟨PT.imp (gR (mJ K hK ∅) h.p WX.p hk) λσ H Q q=>qm (neg:=true) h σ H _ (adT σ H Q q)⟩
def Yq(i j:PV):W (O PV):=match i,j with
 |.int i,.int j=>.dN (okR i j) (.ret (g8 i (j-i).toNat))
 |_,_=>.fail
def QZ(hc:X.calm=true)(ZV:Gl X "list")(ZS:X.mg "list"=ce)(ZU:Gl X "range")(S3:X.mg "range"=ce)(ha:EF X K fs a wa az)(ď:‹lm [.Call (.Name "range" p1) [a] [] p2] X.env=(false,o0 (.Call (.Name "range" p1) [a] [] p2) X.env)::lm [] X.env›)(hs:‹lm [a] X.env=[(false,o0 a X.env)]›):LF X K fs (.Call (.Name "list" p) [.Call (.Name "range" p1) [a] [] p2] [] pos) (.bind wa λy=>Yq (.int 0) y) az:=⟨PE.imp (M1 (r:=λQ H i j=>okR i j/\gL H (.lst (jM i (j-i).toNat)) Q) ZU S3 ZV ZS boot_list (aY ha.p bC hs) (λI q=>TV hc I q.1.1 q.1.2 q.2) ⋯ ⋯ ď hs) λσ H Q ⟨sr,q⟩=>⟨sr,wa.mono (λx q1 u1 H1 g1 s1 v1=>by
 cases v1 with
 |int j=>exact⟨_,rfl,q1.1,qa g1 s1 (O4 _ _) q1.2⟩
 |_=>exact q1.elim) q⟩⟩
def tT:O PV->W (O Int)
 |[]=>.ret []
 |.int i::r=>.bind (tT r) λl=>.ret (i::l)
 |_=>.fail
theorem iV:∀{l:O PV}{Q:O Int->Prop},(tT l).run Q->∃ns:O Int,l=ns.map PV.int/\Q ns
 |[],Q,h=>⟨[],rfl,h⟩
 |.int b::r,Q,h=>by
  obtain⟨bs,e,q⟩:=iV (l:=r) h;exact⟨b::bs,by rw[e];rfl,q⟩
 |.aM::r,Q,h=>h.elim
 |.bl _::r,Q,h=>h.elim
 |.str _::r,Q,h=>h.elim
 |.tup _::r,Q,h=>h.elim
 |.ref _::r,Q,h=>h.elim
 |.ty _::r,Q,h=>h.elim
 |.cl _::r,Q,h=>h.elim
@[simp] theorem eU:∀bs:O Int,tT (bs.map PV.int)=.ret bs
 |[]=>rfl
 |b::bs=>by
  show bn (tT (bs.map PV.int)) _=_;rw[eU bs];rfl
end
end
end FL
variable{f1:FL.aQ}
namespace FL
section
variable[bN]
variable{K:Aa}
abbrev b2(m:M2)(wa wb:W PV):W PV:=.bind wa λx=>.bind wb λy=>of2 m x y
abbrev t2(m:M2)(wa wb:W PV):W Bool:=.bind wa λx=>.bind wb λy=>.bind (of2 m x y) asB
abbrev c1(m:MB)(w:W PV):W PV:=.bind w λx=>Je m [x]
abbrev cY(wl:W (O PV))(wb:W PV):W PV:=.bind wl λl=>.bind wb λy=>rL l y
abbrev Tf(a b:W Bool):W Bool:=.bind a λk=>if k=true then b else .ret false
abbrev tor(a b:W Bool):W Bool:=.bind a λk=>if k=true then .ret true else b
abbrev X6(a:W Bool):W Bool:=.bind a λk=>.ret (!k)
abbrev ig{α:Type}(t:W Bool)(a b:W α):W α:=.bind t λk=>if k=true then a else b
section
variable{a c:nw}{rest:O sB}{S T T2:Type}{hd:S->aQ}{s0:S}{w:W PV}{wt:PV->W T2}{fs2:S->T2->aQ}{k:S->W T}{out:T->End}{x:Bool}
def SF.yJ{f:PV->S->W S}(hp:wn (im X.prog X.w) X.A X.env X.xe)(hc:X.calm=true)(hi:mB X K fs tg iter wl f1)(hl:c6 f1 (hd s0))(hg:PG X tg (d6 i))(hb:∀s p,SF X K false ((hd s).set i (am (.val p))) body (f p s) λs'=>.nc (hd s'))(hr:∀s,SF X K x (hd s) rest (k s) out)(hs:oK X iter:=by intro _;rfl):SF X K x fs (.For tg iter body [] pos::rest) (.bind wl λl=>.bind (cA l s0 f) k) out:=SF.for hp hc hi hl (λs=>S5 hg) (λ_ _=>rfl) hb hr hs
def SF.N2{wb:T2->S->W S}(hp:wn (im X.prog X.w) X.A X.env X.xe)(hc:X.calm=true)(hi:mB X K fs tg iter wl f1)(hl:c6 f1 (hd s0))(hg:∀s,GF X K (hd s) tg is wt (fs2 s))(hb:∀s t,SF X K false (fs2 s t) body (wb t s) λs'=>.nc (hd s'))(hr:∀s,SF X K x (hd s) rest (k s) out)(hs:oK X iter:=by intro _;rfl):SF X K x fs (.For tg iter body [] pos::rest) (.bind wl λl=>.bind (cA l s0 λp s=>.bind (wt p) λt=>wb t s) k) out:=SF.for hp hc hi hl hg (λ_ _=>rfl) hb hr hs
def SF.adD{inj:R->T}{f:PV->S->W (Lp S R)}(hp:wn (im X.prog X.w) X.A X.env X.xe)(hc:X.calm=true)(hi:mB X K fs tg iter wl f1)(hl:c6 f1 (hd s0))(hg:PG X tg (d6 i))(ho:∀t,(out (inj t)).He)(hb:∀s p,SF X K false ((hd s).set i (am (.val p))) body (f p s) (lpE hd λr=>out (inj r)))(hr:∀s,SF X K x (hd s) rest (k s) out)(hs:oK X iter:=by intro _;rfl):SF X K x fs (.For tg iter body [] pos::rest) (.bind wl λl=>.bind (FL.lR l s0 f) (NW k inj)) out:=SF.lR hp hc hi hl (λs=>S5 hg) (λ_ _=>rfl) ho hb hr hs
def SF.Yk{fs3:T2->aQ}{k:T2->W T}(he:EF X K fs e we f1)(hg:GF X K f1 tg is wt fs3)(hr:∀t,SF X K x (fs3 t) rest (k t) out)(hs:‹GT [tg] e pos.line X.env=pure false›)(hw:‹Ix [tg] e X.env=pure ce›)(h1:‹(Fa [tg] X.env).map (·.2)=[IR tg X.env]›):SF X K x fs (.Assign [tg] e pos::rest) (.bind we λv=>.bind (wt v) k) out:=SF.step (xB he.p hg.p hs hw h1) λD σ H ⟨sr,q⟩=>
 ⟨sr,we.mono (λv q1 u H1 g1 s1 v1=>⟨v,s1,v1,(wt v).mono (λt q2 us g2 s2=>⟨_,k t,hr t,s2,(k t).mono (λt' q3=>q3.go (g1.f.trans g2) sr s2) q2⟩) q1⟩) q⟩
def O9(v:PV):W PV:=.dN (v.dat=true) (.ret v)
def vR(l:O PV):W (O PV):=.dN (pR l=true) (.ret l)
mutual
theorem VR.ju{ι:O db}{H H':Hp}(t:∀p vs,H p=am (.tup vs)->H' p=am (.tup vs)):∀{v:V}{q:PV},VR K ι H v q->q.dat=true->VR K [] H' v q
 |_,_,.aM,_=>.aM
 |_,_,.bl b,_=>.bl b
 |_,_,.int i,_=>.int i
 |_,_,.str x,_=>.str x
 |_,_,.ty n,h=>by rw[PV.dat]at h;cases h
 |_,_,.tup e r,h=>.tup (t _ _ e) (aE.ju t r (by rw[PV.dat]at h;exact h))
 |_,_,.cl e r,h=>by rw[PV.dat]at h;cases h
 |_,_,.dk _ _ _,h=>by rw[PV.dat]at h;cases h
 |_,_,.dt _ _ _,h=>by rw[PV.dat]at h;cases h
 |_,_,.ob _ _ _ _ _,h=>by rw[PV.dat]at h;cases h
 |_,_,.hand _,h=>by rw[PV.dat]at h;cases h
 |_,_,.ref e,h=>by rw[PV.dat]at h;cases h
theorem aE.ju{ι:O db}{H H':Hp}(t:∀p vs,H p=am (.tup vs)->H' p=am (.tup vs)):∀{v:O V}{q:O PV},aE K ι H v q->pR q=true->aE K [] H' v q
 |_,_,.nil,_=>.nil
 |_,_,.cons r s,h=>by
  rw[pR,A1]at h;exact .cons (VR.ju t r h.1) (aE.ju t s h.2)
end
def bor{s:cr}(I:Inv X Z σ H s)(sr:aR K H σ fs)(hs:fs[i]?=am (am t))(hb:t.bw=true):∃a o ob,Inv X Z σ (upd H a (.bS ob o)) s/\aR K (upd H a (.bS ob o)) σ (fs.set i (am (.val t.bv)))/\ ∀σ' s' H1 f1,Inv X Z σ' H1 s'->bZ σ (fs.set i (am (.val t.bv))) (upd H a (.bS ob o)) H1 f1->aR K H1 σ f1->Inv X Z σ' (upd H1 a o) s'/\bZ σ fs H (upd H1 a o) (f1.set i (am t))/\aR K (upd H1 a o) σ (f1.set i (am t))/\(∀p vs,H1 p=am (.tup vs)->upd H1 a o p=am (.tup vs))/\∀p vs,p≠a->H1 p=am (.lst vs)->upd H1 a o p=am (.lst vs):=by
 have ho:=SL.Su hb;obtain⟨u,e1,⟨v,e,_⟩|⟨a,e,oa⟩⟩:=sr.at' i _ hs
 .subst e;cases hb
 subst e;obtain⟨ob,o,h1,n1,n2,I2,vr⟩:=adA I oa hb;have h0:∀o u,X.H₀ a≠am (.bS o u):=λo u z=>by
  have:=I.base.qR a o u z;rw[h1]at this;exact n2 _ _ (Option.some.inj this)
 refine⟨a,o,ob,I2,sr.adz hs ho e1 h1 n1 n2 vr,λσ' s' H1 f1 J g s1=>?_⟩;have pf:∀ψ m b,eF σ (fs.set i (am (.val t.bv))) ψ m b->eF σ fs ψ m b:=λψ m b ⟨j,k,z1,z3⟩=>by
  rcases bF z1 with⟨_,z⟩|⟨n,z1⟩
  .cases z
  .exact⟨j,k,z1,z3⟩
 have npa:∀ψ m,¬eF σ fs ψ m a:=λψ m ⟨j,k,z1,z3⟩=>by
  have:=sr.nd j i _ _ a a a z1 hs rfl ho z3 e1 (.inl rfl) (.inl rfl);subst this;rw[hs]at z1;cases z1;cases hb
 have e2:=g.keep a _ ay λψ m p=>npa ψ m (pf ψ m a p);have hk:=Hh J.br e2;have ow:o.ow=true:=by
  obtain⟨o',z1,_,_,z2⟩:=oa.ex ho (.inl rfl);rw[h1]at z1;cases z1;exact z2
 have hi:i<fs.length:=(Ai.mp hs).1;have ZT:i<f1.length:=by rw[<- g.ev.len,BA];exact hi
 have ev:Ev fs (f1.set i (am t)):=⟨by rw[BA,<- g.ev.len,BA],λj=>by
  by_cases c:j=i
  .subst c;exact .inl (by rw[hs,bc ZT])
  .have:=g.ev.at' j;rw[ao c]at this;rw[ao c];exact this⟩
 have xx:∀b,cO H1 b->cO (upd H1 a o) b:=λb z=>by
  have z':H1 b=_:=z;show upd H1 a o b=_;rw[aj (λy=>by subst y;rw[e2]at z';cases z')];exact z'
 have ge:bZ σ fs H (upd H1 a o) (f1.set i (am t)):=by
  refine⟨λb o z n nt=>?_,λb z=>?_,ev,λb z=>xx b (g.x b ?_)⟩
  .by_cases c:b=a
   .subst c;rw[h1]at z;cases z;exact ay
   .rw[aj c];exact g.keep b o (by rw[aj c];exact z) (λψ m p=>n ψ m (pf ψ m b p)) nt
  .by_cases c:b=a
   .subst c;rw[ay]at z;cases z
   .rw[aj c]at z;have:=g.there b z;rw[aj c]at this;exact this
  .have z':H b=_:=z;show upd H a _ b=_;rw[aj (λy=>by subst y;rw[h1]at z';cases z';cases ow)];exact z'
 refine⟨J.Pa e2 h0 (hk a _ ay) hk,ge,⟨sr.len.trans ev.len,λj t' z=>?_,ev.nd sr,s1.tb.Pa J.br e2 ow⟩,λp vs z=>?_,λp vs n z=>by rw[aj n];exact z⟩
 .by_cases c:∃ψ k m,t'=.cC ψ k m
  .obtain⟨ψ,k,m,rfl⟩:=c;have ji:j≠i:=λy=>by subst y;rw[bc ZT]at z;cases z;cases hb
   rw[ao ji]at z;obtain⟨u,k1,⟨v,y,_⟩|⟨b,y,⟨j',vs,y1,y2,y3,y4⟩,y5⟩⟩:=s1.at' j _ z
   .cases y
   .exact⟨u,k1,.inr ⟨b,y,⟨j',vs,y1,by rw[aj (λw=>by subst w;rw[e2]at y2;cases y2)];exact y2,y3,λb hb=>xx b (y4 b hb)⟩,y5⟩⟩
  .have z0:=ev.symm.same z λψ k m y=>c ⟨ψ,k,m,y⟩;obtain⟨u,k1,k2⟩:=sr.at' j t' z0;refine⟨u,k1,k2.mono (ge.dB sr) (λx b o eb ow hb zz nt=>ge.keep b o zz (λψ m ⟨j',k,p1,p3⟩=>?_) nt)⟩;subst eb;have:=sr.nd j j' t' _ x b b z0 p1 ow rfl k1 p3 hb (.inl rfl);subst this;rw[z0]at p1;cases p1;exact c ⟨ψ,k,m,rfl⟩
 .rw[aj (λy=>by subst y;rw[e2]at z;cases z)];exact z
def ad5(i:Nat)(hs:fs[i]?=am (am t))(h:EF X K (fs.set i (am (.val t.bv))) e w az)(hb:‹t.bw=true›):EF X K fs e (.bind w O9) (az.set i (am t)):=⟨λZ s σ H Q I ⟨sr,q⟩=>by
 obtain⟨a,o,ob,I2,s2,Ö⟩:=bor I sr hs hb;refine bU (h.p Z s σ _ (λu H1=>∃v,bZ σ (fs.set i (am (.val t.bv))) (upd H a (.bS ob o)) H1 az/\aR K H1 σ az/\VR K [] H1 u v/\v.dat=true/\∀u H',bZ σ fs H H' (az.set i (am t))->aR K H' σ (az.set i (am t))->VR K [] H' u v->Q u H') I2 ⟨s2,w.mono (λv q1 u H1 g1 s1 v1=>⟨v,g1,s1,v1,q1.1,q1.2⟩) q⟩) λu s1 ⟨x,H1,I1,r1,v,g1,PK,v1,d,q1⟩=>?_;obtain⟨I3,g3,s3,t3,_⟩:=Ö σ s1 H1 _ I1 g1 PK;exact⟨x,_,I3,r1,q1 x _ g3 s3 (VR.ju t3 v1 d)⟩⟩
def acO(i:Nat)(hs:fs[i]?=am (am t))(h:LF X K (fs.set i (am (.val t.bv))) e wl az)(hb:‹t.bw=true›):LF X K fs e (.bind wl vR) (az.set i (am t)):=⟨λZ s σ H Q I ⟨sr,q⟩=>by
 obtain⟨a,o,ob,I2,s2,Ö⟩:=bor I sr hs hb;refine bU (h.p Z s σ _ (λu H1=>∃b vs l',u=.ref b/\bZ σ (fs.set i (am (.val t.bv))) (upd H a (.bS ob o)) H1 az/\aR K H1 σ az/\upd H a (.bS ob o) b=ce/\H1 b=am (.lst vs)/\aE K [] H1 vs l'/\pR l'=true/\∀a vs H',bZ σ fs H H' (az.set i (am t))->aR K H' σ (az.set i (am t))->H a=ce->H' a=am (.lst vs)->aE K [] H' vs l'->Q (.ref a) H') I2 ⟨s2,wl.mono (λl' q1 b vs H1 g1 s1 n e v1=>⟨b,vs,l',rfl,g1,s1,n,e,v1,q1.1,q1.2⟩) q⟩) λu s1 ⟨x,H1,I1,r1,b,vs,l',e,g1,PK,n,eb,v1,d,q1⟩=>?_;subst e;obtain⟨I3,g3,s3,t3,k3⟩:=Ö σ s1 H1 _ I1 g1 PK;have nb:b≠a:=λy=>by subst y;rw[ay]at n;cases n
 exact⟨_,_,I3,r1,q1 b vs _ g3 s3 (by rw[aj nb]at n;exact n) (k3 b vs nb eb) (aE.ju t3 v1 d)⟩⟩
end
end
section
variable[bN]
variable{K:Aa}
section
def aE.slot{l:O PV}(r:aE K [] H vs l){s:SL}(h:(l.map λv=>am (SL.val v))[i]?=am (am s)):∃u v,vs[i]?=am u/\s=.val v/\VR K [] H u v:=by
 rw[Af]at h;cases e:l[i]? with
 |none=>rw[e]at h;cases h
 |some v=>
  rw[e]at h;obtain⟨u,h1,h2⟩:=r.get e;cases h;exact⟨u,v,h1,rfl,h2⟩
end
end
end FL
variable{f:PL.PV->FL.W PL.PV}{W':FL.W PL.PV}
namespace FL
section
variable[bN]
variable{K:Aa}
abbrev ah0(wa wb:W PV):W PV:=.bind wa λx=>V7 x wb
abbrev oj(wl:W (O PV)):W PV:=.bind wl λl=>.ret (.cl l)
abbrev OM(t:W Bool)(w:W PV):W (Option PV):=.bind t λk=>if k=true then .bind w λv=>.ret (am v) else .ret ce
section
variable{c:nw}{WL:W (O PV)}
def VI{m:O PV->W PV}(G:SK X.prog X.w X.K X.mg X.base x k ps (Pr K ks m))(hr:cu k' X.A)(hk:k<=k')(hg:Gl X x)(ha:AF X K fs (e::es) ks B f1)(hW:W'=B m)(jq: ~~~(gq x))(he:‹gK X e es›)(cU:‹jO X pos es›):EF X K fs (.Call (.Name x p) (e::es) [] pos) W' f1:=hW▸aai G hr hk hg ha jq he cU
def UX{m:O PV->W (O PV)}{B:(O PV->W (O PV))->W (O PV)}(G:SK X.prog X.w X.K X.mg X.base x k ps (zW K ks m))(hr:cu k' X.A)(hk:k<=k')(hg:Gl X x)(ha:AF X K fs (e::es) ks B f1)(hW:WL=B m)(jq: ~~~(gq x))(he:‹gK X e es›)(cU:‹jO X pos es›):LF X K fs (.Call (.Name x p) (e::es) [] pos) WL f1:=hW▸Zm G hr hk hg ha jq he cU
def a9{x1}(h:AF X K fs es (Ao n .v) B f1)(hW:W'=B λl=>.ret (.tup l))(hn: ~~~(n<=1000)):EF X K fs (.Tuple es x1 pos) W' f1:=hW▸ad1 h hn
def aX{B:(O PV->W (O PV))->W (O PV)}(h:AF X K fs es (Ao n .v) B f1)(hW:WL=B λl=>.ret l)(hn: ~~~(n<=1000)):LF X K fs (.List es pos) WL f1:=hW▸WZ h hn
variable{sc:pc}{T2:Type}{wt:PV->W T2}{fs2:T2->aQ}{tf:T2->W Bool}{te:T2->W PV}
def d4(hc:X.calm=true)(S:aV X.env.scope X.N sc N' ix)(hi:mB X K fs tg iter wl f1)(hg:∀cl C s2 H2 fp,PG (dF X sc N' cl C s2 H2 fp) tg (d6 i))(he:∀cl C s2 H2 fp t,EF (dF X sc N' cl C s2 H2 fp) K ((aW ix f1).set i (am (.val t))) Ã (f t))(h0:ix[i]?=am ce)(hs:oK X iter:=by intro _;rfl):LF X K fs (.ListComp Ã [⟨tg,iter,[],0⟩] sc pos) (.bind wl λl=>a6 l f) f1:=
 have h1:(aW ix f1)[i]?=am ce:=by unfold aW;rw[Af,h0];rfl
 WY hc S hi (λcl C s2 H2 fp=>S5 (hg cl C s2 H2 fp)) he (λ_=>rfl) (G5 h1) (λj hj=>by rw[Aw]at hj;subst hj;exact h0) hs
def qh{tf:PV->W Bool}{te:PV->W PV}(hc:X.calm=true)(S:aV X.env.scope X.N sc N' ix)(hi:mB X K fs tg iter wl f1)(hg:∀cl C s2 H2 fp,PG (dF X sc N' cl C s2 H2 fp) tg (d6 i))(hf:∀cl C s2 H2 fp t,TF (dF X sc N' cl C s2 H2 fp) K ((aW ix f1).set i (am (.val t))) c (tf t))(he:∀cl C s2 H2 fp t,EF (dF X sc N' cl C s2 H2 fp) K ((aW ix f1).set i (am (.val t))) Ã (te t))(h0:ix[i]?=am ce)(hs:oK X iter:=by intro _;rfl):LF X K fs (.ListComp Ã [⟨tg,iter,[c],0⟩] sc pos) (.bind wl λl=>jV l λp=>OM (tf p) (te p)) f1:=
 have h1:(aW ix f1)[i]?=am ce:=by unfold aW;rw[Af,h0];rfl
 Zl hc S hi (λcl C s2 H2 fp=>S5 (hg cl C s2 H2 fp)) (λcl C s2 H2 fp t=>RI (hf cl C s2 H2 fp t)) he (λ_=>rfl) (G5 h1) (λj hj=>by rw[Aw]at hj;subst hj;exact h0) hs
def QY(hc:X.calm=true)(S:aV X.env.scope X.N sc N' ix)(hi:mB X K fs tg iter wl f1)(hg:∀cl C s2 H2 fp,GF (dF X sc N' cl C s2 H2 fp) K (aW ix f1) tg is wt fs2)(he:∀cl C s2 H2 fp t,EF (dF X sc N' cl C s2 H2 fp) K (fs2 t) Ã (te t))(hl:oJ is (aW ix f1) fs2/\∀t,c6 (fs2 t) (aW ix f1))(nj:∀j∈is,ix[j]?=am ce)(hs:oK X iter:=by intro _;rfl):LF X K fs (.ListComp Ã [⟨tg,iter,[],0⟩] sc pos) (.bind wl λl=>a6 l λp=>.bind (wt p) te) f1:=WY hc S hi hg he (λ_=>rfl) hl nj hs
def acM(hc:X.calm=true)(S:aV X.env.scope X.N sc N' ix)(hi:mB X K fs tg iter wl f1)(hg:∀cl C s2 H2 fp,GF (dF X sc N' cl C s2 H2 fp) K (aW ix f1) tg is wt fs2)(hf:∀cl C s2 H2 fp t,TF (dF X sc N' cl C s2 H2 fp) K (fs2 t) c (tf t))(he:∀cl C s2 H2 fp t,EF (dF X sc N' cl C s2 H2 fp) K (fs2 t) Ã (te t))(hl:oJ is (aW ix f1) fs2/\∀t,c6 (fs2 t) (aW ix f1))(nj:∀j∈is,ix[j]?=am ce)(hs:oK X iter:=by intro _;rfl):LF X K fs (.ListComp Ã [⟨tg,iter,[c],0⟩] sc pos) (.bind wl λl=>jV l λp=>.bind (wt p) λt=>OM (tf t) (te t)) f1:=Zl hc S hi hg (λcl C s2 H2 fp t=>RI (hf cl C s2 H2 fp t)) he (λ_=>rfl) hl nj hs
variable{rest:O sB}{T:Type}{out:T->End}{x0:Bool}{kk:O PV->W T}
def LD{wt:PV->W T2}{te:T2->W PV}:(λl=>a6 l λp=>.bind (wt p) te)=λl=>jV l λp=>.bind (wt p) λt=>.bind (.ret true) λk=>if k=true then .bind (te t) λv=>.ret (am v) else .ret ce:=funext λl=>by
 rw[xT];rfl
def SF.Lh(hc:X.calm=true)(hN:X.N.Nodup)(vn:X.N[i]?=am y)(hx:X.env.scope.names.lookup y=am .local)(S:aV X.env.scope X.N sc N' ix)(hi:mB X K fs tg iter wl f1)(hg:∀cl C s2 H2 fp,GF (dF X sc N' cl C s2 H2 fp) K (aW ix f1) tg is wt fs2)(he:∀cl C s2 H2 fp t,EF (dF X sc N' cl C s2 H2 fp) K (fs2 t) Ã (te t))(hl:oJ is (aW ix f1) fs2/\∀t,c6 (fs2 t) (aW ix f1))(nj:∀j∈is,ix[j]?=am ce)(hr:∀l,SF X K x0 (f1.set i (am (.ol ce l))) rest (kk l) out)(kF:‹pr (.ListComp Ã [⟨tg,iter,[],0⟩] sc pos) (am (.Name y px)) jP.line X.env=pure true›)(hs:oK X iter:=by intro _;rfl):SF X K x0 fs (.Assign [.Name y px] (.ListComp Ã [⟨tg,iter,[],0⟩] sc pos) jP::rest) (.bind (.bind wl λl=>a6 l λp=>.bind (wt p) te) kk) out:=by
 rw[LD];exact SF.abR hc hN vn hx S hi hg (λ_ _ _ _ _ _=>uh) he (λp=>rfl) hl nj hr kF hs
def SF.rm(hc:X.calm=true)(hN:X.N.Nodup)(vn:X.N[i]?=am y)(hx:X.env.scope.names.lookup y=am .local)(S:aV X.env.scope X.N sc N' ix)(hi:mB X K fs tg iter wl f1)(hg:∀cl C s2 H2 fp,PG (dF X sc N' cl C s2 H2 fp) tg (d6 j))(he:∀cl C s2 H2 fp t,EF (dF X sc N' cl C s2 H2 fp) K ((aW ix f1).set j (am (.val t))) Ã (f t))(h0:ix[j]?=am ce)(hr:∀l,SF X K x0 (f1.set i (am (.ol ce l))) rest (kk l) out)(kF:‹pr (.ListComp Ã [⟨tg,iter,[],0⟩] sc pos) (am (.Name y px)) jP.line X.env=pure true›)(hs:oK X iter:=by intro _;rfl):SF X K x0 fs (.Assign [.Name y px] (.ListComp Ã [⟨tg,iter,[],0⟩] sc pos) jP::rest) (.bind (.bind wl λl=>a6 l f) kk) out:=
 have h1:(aW ix f1)[j]?=am ce:=by unfold aW;rw[Af,h0];rfl
 SF.Lh hc hN vn hx S hi (λcl C s2 H2 fp=>S5 (hg cl C s2 H2 fp)) he (G5 h1) (λm hj=>by rw[Aw]at hj;subst hj;exact h0) hr kF hs
end
def adH{f:db}(h:∀vs H Q E,¬sp vs H Q E):gP P w K mg base uP k f fd ps sp:=⟨λvs H Q E q=>(h _ _ _ _ q).elim,λA outer s H args us vs Q E _ _ _ _ q=>(h _ _ _ _ q).elim⟩
def TH{m:zG (O PV) n}(h:∀l Q,l.length=n->¬(qz n m l).run Q):∀vs H Q E,¬zW K ks (qz n m) vs H Q E:=λvs H Q E ⟨_,_,l,_,q⟩=>h l _ (kX q) q
theorem bI(hr:cu k A):A.units+200<ul:=by have:=hr.un;lia
end
section
variable[bN]
variable{K:Aa}
mutual
def PV.fy:PV->Bool
 |.tup l=>d7 l
 |.cl l=>d7 l
 |.ref _=>false
 |.ty _=>false
 |.dv _ _=>false
 |.ob _ _=>false
 |.hand=>false
 |_=>true
def d7:O PV->Bool
 |[]=>true
 |x::l=>PV.fy x&&d7 l
end
mutual
def PV.iq:PV->Nat
 |.tup l=>dq l+1
 |.cl l=>dq l+1
 |_=>0
def dq:O PV->Nat
 |[]=>0
 |x::l=>max (PV.iq x) (dq l)
end
mutual
def jT:PV->PV->Bool
 |.aM,.aM=>true
 |.bl a,.bl b=>a==b
 |.bl a,.int b=>(if a then 1 else 0)==b
 |.int a,.bl b=>a==(if b then 1 else 0)
 |.int a,.int b=>a==b
 |.str a,.str b=>a==b
 |.tup l,.tup m=>f7 l m
 |.cl l,.cl m=>f7 l m
 |_,_=>false
def f7:O PV->O PV->Bool
 |[],[]=>true
 |x::l,y::m=>jT x y&&f7 l m
 |_,_=>false
end
theorem uf:∀{l:O PV}{j:Nat}{x:PV},d7 l=true->l[j]?=am x->PV.fy x=true
 |[],_,_,_,e=>by simp at e
 |y::l,0,x,h,e=>by
  simp at e;subst e;rw[d7,A1]at h;exact h.1
 |y::l,j+1,x,h,e=>by
  rw[d7,A1]at h;exact uf h.2 (by simpa using e)
theorem wG:∀{l:O PV}{j:Nat}{x:PV},l[j]?=am x->PV.iq x<=dq l
 |[],_,_,e=>by simp at e
 |y::l,0,x,e=>by
  simp at e;subst e;rw[dq];lia
 |y::l,j+1,x,e=>by
  have:=wG (by simpa using e);rw[dq];lia
mutual
theorem RK:∀(x:PV),PV.fy x=true->jT x x=true
 |.aM,_=>by rw[jT]
 |.bl b,_=>by rw[jT];simp
 |.int i,_=>by rw[jT];simp
 |.str i,_=>by rw[jT];simp
 |.tup l,h=>by rw[jT];exact lE l (by rw[PV.fy]at h;exact h)
 |.cl l,h=>by rw[jT];exact lE l (by rw[PV.fy]at h;exact h)
 |.ref _,h=>by rw[PV.fy]at h;cases h
 |.ty _,h=>by rw[PV.fy]at h;cases h
 |.dv _ _,h=>by rw[PV.fy]at h;cases h
 |.ob _ _,h=>by rw[PV.fy]at h;cases h
 |.hand,h=>by rw[PV.fy]at h;cases h
theorem lE:∀(l:O PV),d7 l=true->f7 l l=true
 |[],_=>by rw[f7]
 |x::l,h=>by
  rw[d7,A1]at h;rw[f7,RK x h.1,lE l h.2];rfl
end
def RV(l m:O PV)(j:Nat):Bool:=match l[j]?,m[j]? with|some x,am y=>jT x y|_,_=>true
theorem oo:∀(l m:O PV),((Ar (min l.length m.length)).all (RV l m)&&l.length==m.length)=f7 l m
 |[],[]=>by rw[f7];rfl
 |[],_::_=>by
  rw[f7]
  .simp
  .intros;simp_all
  .intros;simp_all
 |_::_,[]=>by
  rw[f7]
  .simp
  .intros;simp_all
  .intros;simp_all
 |x::l,y::m=>by
  rw[f7,<- oo l m];have e:min (x::l).length (y::m).length=min l.length m.length+1:=by simp only[Aq];lia
  rw[e,DG,List.all_cons,List.all_map];have e2:((x::l).length==(y::m).length)=(l.length==m.length):=by simp
  rw[e2,Bool.and_assoc];rfl
def RJ{l m:O PV}(h:l.length≠m.length):f7 l m=false:=by
 rw[<- oo];have:(l.length==m.length)=false:=by simpa using h
 rw[this,DH]
section
variable{s:cr}
def Hm(I:Inv X Z σ H s){xs:O V}(h:SJ X.K H a xs):H a≠am (.ext φ):=λe=>by
 rcases h with⟨o,h⟩|⟨o,_,_,h,_⟩
 .rw[e]at h;cases h
 .have:=(I.bs a o (I.mod.kin a o h)).2;rw[e]at this;cases this
mutual
theorem VR.L8(I:Inv X Z σ H s):∀{v:V}{x y:PV},VR X.K [] H v x->VR X.K [] H v y->x=y
 |_,_,_,.aM,h=>by cases h;rfl
 |_,_,_,.bl b,h=>by cases h;rfl
 |_,_,_,.int b,h=>by cases h;rfl
 |_,_,_,.str b,h=>by cases h;rfl
 |_,_,_,.ty b,h=>by cases h;rfl
 |_,_,_,.ref e,h=>by simp at e
 |_,_,_,.tup e r,h=>by
  cases h with
  |tup e' r'=>
   have ee:=I.kY (dM.of e) (dM.of e');subst ee;rw[aE.L8 I r r']
  |ref e=>simp at e
  |cl e' r'=>
   obtain⟨aq,_,⟨o,n,h1,h2,_⟩,_⟩:=I.list e'.sq;obtain⟨eT,_,⟨o',fZ,uS,_⟩,_⟩:=I.tuple (dM.of e);rw[h1]at fZ;cases fZ;rw[h2]at uS;simp at uS
  |dk e' _ _=>rw[e]at e';cases e'
  |dt e' _ _=>rw[e]at e';cases e'
  |ob e' _ _ _ _=>rw[e]at e';cases e'
  |hand e'=>have e':_=_:=e';rw[e]at e';cases e'
 |_,_,_,.ob e c na k r,h=>by
  cases h with
  |ob e' _ _ k' r'=>rw[e]at e';cases e';rw[k,k',aE.L8 I r r']
  |hand e'=>have e':_=_:=e';rw[e]at e';cases e'
  |dk e' _ _=>rw[e]at e';cases e'
  |dt e' _ _=>rw[e]at e';cases e'
  |ref e=>simp at e
  |tup e' _=>rw[e]at e';cases e'
  |cl e' r'=>
   obtain⟨aq,_,⟨o,n,h1,h2,_⟩,_⟩:=I.list e'.sq;obtain⟨_,_,_,_,fZ,_⟩:=I.br _ _ e;rw[h1]at fZ;cases fZ;simp at h2
 |_,_,_,.dk e k r,h=>by
  cases h with
  |dk e' k' r'=>rw[e]at e';cases e';rw[k,k',aE.L8 I r r']
  |dt e' _ _=>rw[e]at e';cases e'
  |ob e' _ _ _ _=>rw[e]at e';cases e'
  |hand e'=>have e':_=_:=e';rw[e]at e';cases e'
  |ref e=>simp at e
  |tup e' _=>rw[e]at e';cases e'
  |cl e' r'=>
   obtain⟨aq,_,⟨o,n,h1,h2,_⟩,_⟩:=I.list e'.sq;obtain⟨_,_,vs,_,o',_,_,fZ,uS,_⟩:=HK I.br (.inr ⟨_,e⟩);rw[h1]at fZ;cases fZ;have h3:=uS.1;rw[h2]at h3;simp at h3
 |_,_,_,.dt e k r,h=>by
  cases h with
  |dt e' k' r'=>rw[e]at e';cases e';rw[k,k',aE.L8 I r r']
  |ob e' _ _ _ _=>rw[e]at e';cases e'
  |hand e'=>have e':_=_:=e';rw[e]at e';cases e'
  |dk e' _ _=>rw[e]at e';cases e'
  |ref e=>simp at e
  |tup e' _=>rw[e]at e';cases e'
  |cl e' r'=>
   obtain⟨aq,_,⟨o,n,h1,h2,_⟩,_⟩:=I.list e'.sq;obtain⟨_,_,vs,_,o',_,_,fZ,uS,_⟩:=HJ I.br (.inr ⟨_,e⟩);rw[h1]at fZ;cases fZ;have h3:=uS.1;rw[h2]at h3;simp at h3
 |_,_,_,.hand e,h=>by
  have e:_=am _:=e;cases h with
  |hand _=>rfl
  |ob e' _ _ _ _=>rw[e]at e';cases e'
  |dk e' _ _=>rw[e]at e';cases e'
  |dt e' _ _=>rw[e]at e';cases e'
  |ref e=>simp at e
  |tup e' _=>rw[e]at e';cases e'
  |cl e' r'=>exact absurd e (Hm I e')
 |_,_,_,.cl e r,h=>by
  cases h with
  |hand e'=>exact absurd (show _=am _ from e') (Hm I e)
  |ob e' _ _ _ _=>
   obtain⟨aq,_,⟨o,n,h1,h2,_⟩,_⟩:=I.list e.sq;obtain⟨_,_,_,_,fZ,_⟩:=I.br _ _ e';rw[h1]at fZ;cases fZ;simp at h2
  |dk e' _ _=>
   obtain⟨aq,_,⟨o,n,h1,h2,_⟩,_⟩:=I.list e.sq;obtain⟨_,_,vs,_,o',_,_,fZ,uS,_⟩:=HK I.br (.inr ⟨_,e'⟩);rw[h1]at fZ;cases fZ;have h3:=uS.1;rw[h2]at h3;simp at h3
  |dt e' _ _=>
   obtain⟨aq,_,⟨o,n,h1,h2,_⟩,_⟩:=I.list e.sq;obtain⟨_,_,vs,_,o',_,_,fZ,uS,_⟩:=HJ I.br (.inr ⟨_,e'⟩);rw[h1]at fZ;cases fZ;have h3:=uS.1;rw[h2]at h3;simp at h3
  |cl e' r'=>
   obtain⟨aq,k,⟨o,n,h1,h2,h3,h4⟩,_⟩:=I.list e.sq;obtain⟨eT,k',⟨o',n',fZ,uS,Rx,Z0⟩,_⟩:=I.list e'.sq;rw[h1]at fZ;cases fZ;rw[h4]at Z0;have:aq=eT:=by injection Z0 with a b;simpa using a
   subst this;have ee:=Vals.inj k k';subst ee;rw[aE.L8 I r r']
  |ref e=>simp at e
  |tup e' r'=>
   obtain⟨aq,_,⟨o,n,h1,h2,_⟩,_⟩:=I.list e.sq;obtain⟨eT,_,⟨o',fZ,uS,_⟩,_⟩:=I.tuple (dM.of e');rw[h1]at fZ;cases fZ;rw[h2]at uS;simp at uS
theorem aE.L8(I:Inv X Z σ H s):∀{v:O V}{x y:O PV},aE X.K [] H v x->aE X.K [] H v y->x=y
 |_,_,_,.nil,h=>by cases h;rfl
 |_,_,_,.cons r t,h=>by
  cases h with
  |cons r' t'=>rw[VR.L8 I r r',aE.L8 I t t']
end
structure Cmp(A:zn)(s:cr)(w w':ci)(b:Bool):Prop where
 rc:SeqAt.RcAt A s w w' b
 ne:SeqAt.RcNeAt A s w w' (!b)
 eq:DR A s w w' b
def ad0(I:Inv X Z σ H s){ws:O V}{l m:O PV}(r:Vals vs aq)(r':Vals ws eT)(r1:aE X.K [] H vs l)(r2:aE X.K [] H ws m)(ih:∀(j:Nat) (x y:PV) (v v':V) (w w':ci),l[j]?=am x->m[j]?=am y->VR X.K [] H v x->VR X.K [] H v' y->RelV v w->RelV v' w'->DR A s w w' (jT x y)):∀j (g1:j<aq.toArray.size) (g2:j<eT.toArray.size),DR A s aq.toArray[j] eT.toArray[j] (RV l m j):=λj g1 g2=>by
 have h1:j<aq.length:=by simpa using g1
 have h2:j<eT.length:=by simpa using g2
 have hl:j<l.length:=by rw[<- r1.length,r.length];exact h1
 have hm:j<m.length:=by rw[<- r2.length,r'.length];exact h2
 obtain⟨v,v1,v2⟩:=r1.get (Ad hl);obtain⟨v',Ğ,v2'⟩:=r2.get (Ad hm);obtain⟨u,u1,u2⟩:=r.get v1;obtain⟨u',u1',u2'⟩:=r'.get Ğ;rw[Ad h1]at u1;rw[Ad h2]at u1';cases u1;cases u1';unfold RV;rw[Ad hl,Ad hm];have:=ih j _ _ v v' _ _ (Ad hl) (Ad hm) v2 v2' u2 u2';simpa using this
inductive Sh(X:Cx)(H:Hp)(s:cr):PV->ci->Prop
 |aM:Sh X H s .aM .none
 |bl (b:Bool):Sh X H s (.bl b) (.bool b)
 |int (i:Int) (t:Tok):Sh X H s (.int i) (.int i t)
 |str (x:Str) (t:Tok):Sh X H s (.str x) (.str x t)
 |tup {p:db}{vs:List V}{aq:List ci}{l:List PV} (e:VR X.K [] H (.ref p) (.tup l)) (k:Vals vs aq) (r:aE X.K [] H vs l) (h:s.heap.IsTuple p aq.toArray):Sh X H s (.tup l) (.ref p)
 |cl {p:db}{vs:List V}{aq:List ci}{l:List PV} (e:VR X.K [] H (.ref p) (.cl l)) (k:Vals vs aq) (r:aE X.K [] H vs l) (h:s.heap.IsList p aq.toArray):Sh X H s (.cl l) (.ref p)
def Sh.of(I:Inv X Z σ H s){v:V}{x:PV}{w:ci}(h:VR X.K [] H v x)(r:RelV v w)(d:PV.fy x=true):Sh X H s x w:=by
 cases h with
 |ref e=>simp at e
 |aM=>cases r;exact .aM
 |bl a=>cases r;exact .bl a
 |int a=>obtain⟨t,rfl⟩:=r;exact .int a t
 |str a=>obtain⟨t,rfl⟩:=r;exact .str a t
 |tup e q=>
  cases r;obtain⟨aq,k,ht,_⟩:=I.tuple (dM.of e);exact .tup (.tup e q) k q ht
 |cl e q=>
  cases r;obtain⟨aq,k,pl,_⟩:=I.list e.sq;exact .cl (.cl e q) k q pl.isList
 |_=>rw[PV.fy]at d;cases d
set_option maxHeartbeats 8000000 in
theorem aap(hK:X.K=K)(I:Inv X Z σ H s):∀(n:Nat) (x y:PV) (A:zn) (v v':V) (w w':ci),PV.iq x<=n->PV.fy x=true->PV.fy y=true->VR K [] H v x->VR K [] H v' y->RelV v w->RelV v' w'->A.units+n+1<ul->Cmp A s w w' (jT x y):=by
 subst hK;intro n
 induction n using Cc with
 |ind n ih=>
 intro x y A v v' w w' hd dx dy hv SX r1 r2 hu;have a:=Sh.of I hv r1 dx;have b:=Sh.of I SX r2 dy;clear hv SX r1 r2;have el:∀{l m:O PV}{vs ws:O V}{aq cT:O ci},d7 l=true->d7 m=true->dq l<n->Vals vs aq->Vals ws cT->aE X.K [] H vs l->aE X.K [] H ws m->aq.toArray.size=l.length/\cT.toArray.size=m.length/\∀j g1 (g2:j<cT.toArray.size),DR A.in1 s aq.toArray[j] cT.toArray[j] (RV l m j):=λd1 d2 hd k1 k2 r r'=>⟨by rw[An,<- k1.length,r.length],by rw[An,<- k2.length,r'.length],ad0 I k1 k2 r r' λj x y v v' w w' hx hy vx vy rx ry=>(ih _ hd x y A.in1 v v' w w' (wG hx) (uf d1 hx) (uf d2 hy) vx vy rx ry (by show A.units+1+_+1<_;lia)).eq⟩;have fin:∀{pa pb:db}{l m:O PV},(pa=pb->l=m)->d7 l=true->SeqAt.RcAt A s (.ref pa) (.ref pb) (f7 l m)->DR A s (.ref pa) (.ref pb) (f7 l m):=λ{pa pb l m} h d q=>by
  by_cases hab:pa=pb
  .rw[h hab,lE _ (h hab▸d),hab];exact Gj _
  .exact F3 hab q
 cases a<;>cases b
 case tup.tup pa vs aq l e k r ht pb ws cT m e2 k2 r2 JR=>
  rw[PV.iq]at hd;obtain⟨z1,z2,ie⟩:=el dx dy ∅ k k2 r r2;have q1:=F6 ht JR ∅ ie;have q2:=SeqAt.RcNeAt.tuples ht JR (A:=A) ∅ ie;rw[z1,z2,oo]at q1 q2;exact⟨q1,q2,fin (λz=>by subst z;have:=VR.L8 I e e2;injection this) dx q1⟩
 case cl.cl pa vs aq l e k r ht pb ws cT m e2 k2 r2 JR=>
  rw[PV.iq]at hd;obtain⟨z1,z2,ie⟩:=el dx dy ∅ k k2 r r2;by_cases hz:l.length=m.length
  .have q1:=Gg ht JR (by rw[z1,z2];exact hz) (A:=A) ∅ ie;have q2:=F2 ht JR (by rw[z1,z2];exact hz) (A:=A) ∅ ie;have ef:(Ar l.length).all (RV l m)=f7 l m:=by rw[<- oo,hz,Nat.min_self,beq_self_eq_true,Bool.and_true]
   rw[z1,ef]at q1 q2;exact⟨q1,q2,fin (λz=>by subst z;have:=VR.L8 I e e2;injection this) dx q1⟩
  .have q1:=EJ (A:=A) ht JR (by rw[z1,z2];simpa using hz) ∅;have q2:=Ek (A:=A) ht JR (by rw[z1,z2];simpa using hz) ∅;have ef:=RJ hz;rw[<- ef]at q1;have q2:SeqAt.RcNeAt A s (.ref pa) (.ref pb) (!f7 l m):=by rw[ef];exact q2
   exact⟨q1,q2,fin (λz=>by subst z;have:=VR.L8 I e e2;injection this) dx q1⟩
 all_goals
  clear ih el fin;rw[jT]<;>try (intros;simp_all;done)
  refine⟨?_,?_,?_⟩<;>(try simp)<;>first|with_reducible exact .none_none|with_reducible exact .none_bool _|with_reducible exact .none_int _ _|with_reducible exact .none_str _ _|with_reducible exact .none_tuple ‹_› ∅ | with_reducible exact .none_list ‹_› ∅ | with_reducible exact .bool_none _|with_reducible exact .bool_str _ _ _|with_reducible exact .bool_tuple _ ‹_› ∅ | with_reducible exact .bool_list _ ‹_› ∅ | with_reducible exact .int_none _ _|with_reducible exact .int_str _ _ _ _|with_reducible exact .int_tuple _ _ ‹_› ∅ | with_reducible exact .int_list _ _ ‹_› ∅ | with_reducible exact .str_none _ _|with_reducible exact .str_bool _ _ _|with_reducible exact .str_int _ _ _ _|with_reducible exact .str_tuple _ _ ‹_› ∅ | with_reducible exact .str_list _ _ ‹_› ∅ | with_reducible exact .tuple_none ‹_› ∅ | with_reducible exact .tuple_bool _ ‹_› ∅ | with_reducible exact .tuple_int _ _ ‹_› ∅ | with_reducible exact .tuple_str _ _ ‹_› ∅ | with_reducible exact .tuple_list ‹_› ‹_› ∅ | with_reducible exact .list_none ‹_› ∅ | with_reducible exact .list_bool _ ‹_› ∅ | with_reducible exact .list_int _ _ ‹_› ∅ | with_reducible exact .list_str _ _ ‹_› ∅ | with_reducible exact .list_tuple ‹_› ‹_› ∅ | exact .same _|exact .bool_bool _ _|exact .bool_int _ _ _|exact .int_bool _ _ _|exact .int_int _ _ _ _|exact .str_str _ _ _ _
end
end
section
variable[bN]
variable{K:Aa}
mutual
theorem VR.nQ{ι:O db}{H:Hp}:∀{v:V}{q:PV},VR K ι H v q->PV.fy q=true->VR K [] H v q
 |_,_,.aM,_=>.aM
 |_,_,.bl b,_=>.bl b
 |_,_,.int i,_=>.int i
 |_,_,.str x,_=>.str x
 |_,_,.ty n,h=>by rw[PV.fy]at h;cases h
 |_,_,.dk _ _ _,h=>by rw[PV.fy]at h;cases h
 |_,_,.dt _ _ _,h=>by rw[PV.fy]at h;cases h
 |_,_,.ob _ _ _ _ _,h=>by rw[PV.fy]at h;cases h
 |_,_,.hand _,h=>by rw[PV.fy]at h;cases h
 |_,_,.tup e r,h=>.tup e (aE.nQ r (by rw[PV.fy]at h;exact h))
 |_,_,.cl e r,h=>.cl e (aE.nQ r (by rw[PV.fy]at h;exact h))
 |_,_,.ref e,h=>by rw[PV.fy]at h;cases h
theorem aE.nQ{ι:O db}{H:Hp}:∀{v:O V}{q:O PV},aE K ι H v q->d7 q=true->aE K [] H v q
 |_,_,.nil,_=>.nil
 |_,_,.cons r s,h=>by
  rw[d7,A1]at h;exact .cons (VR.nQ r h.1) (aE.nQ s h.2)
end
def N4(x y:PV):Prop:=PV.fy x=true/\PV.fy y=true/\PV.iq x<=150
def gs:M2:=⟨λx y h Q=>N4 x y/\Q (.bl (jT x y)) h,λf q=>⟨q.1,f _ _ q.2⟩⟩
def xO:M2:=⟨λx y h Q=>N4 x y/\Q (.bl (!jT x y)) h,λf q=>⟨q.1,f _ _ q.2⟩⟩
def Uc(K:Aa)(neg:Bool):R2:=λu v H Q=>∃x y,VR K [] H u x/\VR K [] H v y/\N4 x y/\Q (.bl (if neg then !jT x y else jT x y)) H
section
theorem Y2(hK:X.K=K)(hu:X.A.units+200<ul):iD X (sn .Eq) (Uc K false):=λZ s σ H u v w w' Q I r1 r2 ⟨x,y,h1,h2,⟨o1,o2,o3⟩,q⟩=>by
 exact Fm (aap hK I 150 x y X.A u v w w' o3 o1 o2 h1 h2 r1 r2 ∅).rc ⟨.bl _,H,I,rfl,q⟩
theorem Y0(hK:X.K=K)(hu:X.A.units+200<ul):iD X (sn .NotEq) (Uc K true):=λZ s σ H u v w w' Q I r1 r2 ⟨x,y,h1,h2,⟨o1,o2,o3⟩,q⟩=>by
 exact EE (aap hK I 150 x y X.A u v w w' o3 o1 o2 h1 h2 r1 r2 ∅).ne ⟨.bl _,H,I,rfl,q⟩
def UG:M2.Ok K (Uc K false) gs:=λ{ι H h u v x y Q} hr hu hv q=>⟨x,y,VR.nQ hu q.1.1,VR.nQ hv q.1.2.1,q.1,q.2 ι _ H (Go.refl _ _) hr (.bl _)⟩
def UD:M2.Ok K (Uc K true) xO:=λ{ι H h u v x y Q} hr hu hv q=>⟨x,y,VR.nQ hu q.1.1,VR.nQ hv q.1.2.1,q.1,q.2 ι _ H (Go.refl _ _) hr (.bl _)⟩
def kC(hK:X.K=K)(hu:X.A.units+200<ul):JC X K .Eq b gs:=⟨⟨_,Y2 hK hu,UG⟩,gw _⟩
def Rh(hK:X.K=K)(hu:X.A.units+200<ul):JC X K .NotEq b xO:=⟨⟨_,Y0 hK hu,UD⟩,gw _⟩
end
end
end FL
variable{x:A8}{b b1:Bool}{t z i1 i2 a1 a2:A9}{ys:Array A8}{k1 k2:Nat}
namespace L2
def uN(b:Bool)(h:r9)(it a:db)(k:Nat):Prop:=match b with
 |true=>h.IsListIter it a k
 |false=>h.IsTupleIter it a k
def iC(b:Bool)(h:r9)(a:db)(xs:Array ci):Prop:=match b with
 |true=>h.IsList a xs
 |false=>h.IsTuple a xs
def uN.move(x:uN b h it a k)(g:∀o,h.get? it=am o->h'.get? it=am o):uN b h' it a k:=by
 cases b with
 |true=>obtain⟨o,e,p⟩:=(x);exact(⟨o,g o e,p⟩)
 |false=>obtain⟨o,e,p⟩:=(x);exact(⟨o,g o e,p⟩)
def iC.move(x:iC b h a xs)(g:∀o,h.get? a=am o->h'.get? a=am o):iC b h' a xs:=by
 cases b with
 |true=>obtain⟨o,e,p⟩:=(x);exact(⟨o,g o e,p⟩)
 |false=>obtain⟨o,e,p⟩:=(x);exact(⟨o,g o e,p⟩)
def uN.obj(x:uN b h it a k):∃o,h.get? it=am o/\∀v,o.data≠.cell v:=by
 cases b with
 |true=>obtain⟨o,e,_,d⟩:=(x);exact⟨o,e,λv z=>by rw[d]at z;cases z⟩
 |false=>obtain⟨o,e,_,d⟩:=(x);exact⟨o,e,λv z=>by rw[d]at z;cases z⟩
def iC.lt(x:iC b h a xs):a<h.objs.size:=by
 cases b with
 |true=>obtain⟨o,e,p⟩:=(x);exact Ap e
 |false=>obtain⟨o,e,p⟩:=(x);exact Ap e
section
variable{s:cr}
def kq(h:uN b s.heap it t i)(ht:iC b s.heap t items)(hx:items[i]?=am x)(q:∀h':r9,uN b h' it t (i+1)->Ce it s.heap h'->Q x {s with heap:=h'}):ga (im prog w) A (Builtin.SmallTypes.nextOf (.ref it)) Q E s:=by
 cases b with
 |true=>exact wpAny_nextOf_list_item h ht hx λh' a b=>q h' a b
 |false=>exact gU h ht hx q
def sW(hA:A.handled=ce)(h:uN b s.heap it t i)(ht:iC b s.heap t items)(hx:items[i]?=ce)(q:∀(h':r9) (e:db),Gi it s.heap h'->(∃o,h'.get? e=am o/\o.cls=.type "StopIteration")->E (.ref e) {s with heap:=h'}):ga (im prog w) A (Builtin.SmallTypes.nextOf (.ref it)) Q E s:=by
 cases b with
 |true=>exact wpAny_nextOf_list_end hA h ht hx λh' e a b=>q h' e a b
 |false=>exact iP hA h ht hx q
def ND:Bool->String
 |true=>"list_iterator"
 |false=>"tuple_iterator"
def vY(h:iC b s.heap a xs)(q:Q (.ref s.heap.objs.size) {s with heap:=s.heap.push {cls:=.type (ND b),data:=.fields #[.ref a,.int 0 0]}}):ga (im prog w) A (pyIter (.ref a)) Q E s:=by
 cases b with
 |true=>exact EG h q
 |false=>exact Er h q
def Lc(e:h.get? it=am {cls:=.type (ND b),data:=.fields #[.ref a,.int 0 0]}):uN b h it a 0:=by
 cases b with
 |true=>exact(⟨_,e,rfl,rfl⟩)
 |false=>exact(⟨_,e,rfl,rfl⟩)
end
structure jG(b1 b2:Bool)(h:r9)(z TI TO i1 i2 a1 a2:db)(f0:ci)(k1 k2:Nat):Prop where
 zip:IsZip h z TI TO f0
 ti:IsPair h TI (.ref i1) (.ref i2)
 to:∃a b,IsPair h TO a b
 it1:uN b1 h i1 a1 k1
 it2:uN b2 h i2 a2 k2
def se{E:ci->cr->Prop}{s:cr}{b2:Bool}{TI TO:db}{y:ci}(hA:ZipApart z TI TO i1 i2 a1 a2)(hz:jG b1 b2 s.heap z TI TO i1 i2 a1 a2 .none k1 k2)(Xd:iC b1 s.heap a1 xs)(JR:iC b2 s.heap a2 ys)(hx:xs[k1]?=am x)(hy:ys[k2]?=am y)(q:∀h':r9,jG b1 b2 h' z TI TO i1 i2 a1 a2 (Db s.heap.objs.size) (k1+1) (k2+1)->IsPair h' s.heap.objs.size x y->(∀c o,c≠z->c≠TO->c≠i1->c≠i2->s.heap.get? c=am o->h'.get? c=am o)->Q (.ref s.heap.objs.size) {s with heap:=h'}):ga (im prog w) A (wS.«zip.__next__» {pos:=[.ref z]}) (λfin s'=>∃v,fin=FH (Gn v)/\Q v s') E s:=by
 obtain⟨hz,Vf,⟨ta,tb,ĭ⟩,ZT,ç⟩:=hz;show ga _ _ (field (.ref z) 2 >>= λr=>_) _ _ s;refine Ab (Bk hz rfl rfl ?_);refine Ab (Bk hz rfl rfl ?_);refine Ab (Bv Vf rfl ?_);refine Ab ?_;refine Ab (Bk hz rfl rfl ?_);refine Ag ?_;refine Ab (Dl ?_);refine Ab (Bk hz rfl rfl ?_);refine Ab (Bd hz (show 0 < 5 by decide) λh1 z1 b1=>?_);show ga _ _ ((forIn [(Ay i1,0),(Ay i2,1)] _ _) >>= λr=>_) _ _ _;refine Ab ?_;rw[Cp];have vq:=b1.2;refine Ab ?_;refine Ab (EN ?_);refine Ab (kq (ZT.move λo e=>(vq _ hA.i1z).trans e) (Xd.move λo e=>(vq _ hA.l1z).trans e) hx λh2 j2 b2=>Ag ?_);have Ry:∀b,b≠z->b≠i1->h2.get? b=s.heap.get? b:=λb n1 n2=>(b2.2 b n2).trans (vq b n1);have ê:=(Ry _ hA.TOz hA.TOi1).trans ĭ;refine Ab (Bv ê rfl ?_);refine Ab (D4 ê λh3 t3 b3=>?_);have Ì:∀b,b≠z->b≠i1->b≠TO->h3.get? b=s.heap.get? b:=λb n1 n2 n3=>(b3.2 b n3).trans (Ry b n1 n2);refine Ab (CJ (Ag ?_));show ga _ _ (forIn [(Ay i2,1)] _ _) _ _ _;rw[Cp];refine Ab ?_;refine Ab (EN ?_);refine Ab (kq (ç.move λo e=>(Ì _ hA.i2z hA.i12.symm hA.TOi2.symm).trans e) (JR.move λo e=>(Ì _ hA.l2z hA.l2i1 hA.l2TO).trans e) hy λh4 j4 b4=>Ag ?_);have to4:=(b4.2 _ hA.TOi2).trans t3;refine Ab (Bv to4 rfl ?_);refine Ab (D4 to4 λh5 t5 b5=>?_);have to5:=t5;refine Ab (CJ (Ag ?_));refine Ag ?_;refine Ab (Bv to5 rfl ?_);have Ġ:=b5.1.trans (b4.1.trans (b3.1.trans (b2.1.trans b1.1)));refine Ab (CZ ?_ (by show 2<=sizeLine;decide));have adu:∀b,b≠z->b≠i1->b≠TO->b≠i2->h5.get? b=s.heap.get? b:=λb n1 n2 n3 n4=>(b5.2 b n3).trans ((b4.2 b n4).trans (Ì b n1 n2 n3));have kp:∀b o,h5.get? b=am o->(h5.push {cls:=.type "tuple",data:=.seq #[x,y]}).get? b=am o:=λb o e=>Ae _ e;refine Ab ?_;refine Ab (Bd (kp _ _ ((b5.2 _ hA.TOz.symm).trans ((b4.2 _ hA.i2z.symm).trans ((b3.2 _ hA.TOz.symm).trans ((b2.2 _ hA.i1z.symm).trans z1))))) (show 0 < 5 by decide) λh7 z7 b7=>?_);refine Bd z7 (show 1 < 5 by decide) λh8 z8 b8=>?_;have NX:∀b,b≠z->h8.get? b=(h5.push {cls:=.type "tuple",data:=.seq #[x,y]}).get? b:=λb n=>(b8.2 b n).trans (b7.2 b n);have nz:s.heap.objs.size≠z:=λe=>by have:=Ap hz;rw[<- e]at this;exact AR _ this
 refine Ag ⟨.ref h5.objs.size,rfl,?_⟩;rw[Ġ];refine q h8 ⟨?_,?_,?_,?_,?_⟩ ?_ ?_
 .rw[<- Ġ];exact z8
 .rw[IsPair,NX _ hA.TIz];exact kp _ _ ((adu _ hA.TIz hA.TIi1 hA.TITO hA.TIi2).trans Vf)
 .exact⟨x,y,by rw[IsPair,NX _ hA.TOz];exact kp _ _ to5⟩
 .refine j2.move λo e=>?_;rw[NX _ hA.i1z];exact kp _ _ ((b5.2 _ hA.TOi1.symm).trans ((b4.2 _ hA.i12).trans ((b3.2 _ hA.TOi1.symm).trans e)))
 .refine j4.move λo e=>?_;rw[NX _ hA.i2z];exact kp _ _ ((b5.2 _ hA.TOi2.symm).trans e)
 .rw[IsPair,NX _ nz,<- Ġ];exact(Am _ rfl)
 .intro c o n1 n2 n3 n4 e;rw[NX _ n1];exact kp _ _ ((adu _ n1 n3 n2 n4).trans e)
def uU{s:cr}{b2:Bool}{TI TO:db}{Q:PySem.Fin->cr->Prop}(hh:A.handled=ce)(hA:ZipApart z TI TO i1 i2 a1 a2)(hz:jG b1 b2 s.heap z TI TO i1 i2 a1 a2 .none k1 k2)(Xd:iC b1 s.heap a1 xs)(JR:iC b2 s.heap a2 ys)(hx:xs[k1]?=ce\/ys[k2]?=ce)(q:∀(h':r9) (e:db),(∀c o,c≠z->c≠TO->c≠i1->c≠i2->s.heap.get? c=am o->h'.get? c=am o)->(∃o,h'.get? e=am o/\o.cls=.type "StopIteration")->E (.ref e) {s with heap:=h'}):ga (im prog w) A (wS.«zip.__next__» {pos:=[.ref z]}) Q E s:=by
 obtain⟨hz,Vf,⟨ta,tb,ĭ⟩,ZT,ç⟩:=hz;show ga _ _ (field (.ref z) 2 >>= λr=>_) _ _ s;refine Ab (Bk hz rfl rfl ?_);refine Ab (Bk hz rfl rfl ?_);refine Ab (Bv Vf rfl ?_);refine Ab ?_;refine Ab (Bk hz rfl rfl ?_);refine Ag ?_;refine Ab (Dl ?_);refine Ab (Bk hz rfl rfl ?_);refine Ab (Bd hz (show 0 < 5 by decide) λh1 z1 b1'=>?_);show ga _ _ ((forIn [(Ay i1,0),(Ay i2,1)] _ _) >>= λr=>_) _ _ _;refine Ab ?_;have vq:=b1'.2;refine Ab ?_;refine Ab (EN ?_);have fin:∀{h2:r9}{e:db}{R:ci->cr->Prop},h2.get? z=am {cls:=.type "zip",data:=.fields #[.ellipsis,.bool false,.bool false,.ref TI,.ref TO]}->(∃o,h2.get? e=am o/\o.cls=.type "StopIteration")->(∀c o,c≠z->c≠TO->c≠i1->c≠i2->s.heap.get? c=am o->h2.get? c=am o)->ga (im prog w) A (setField (.ref z) 0 .none) (λ_ s'=>E (.ref e) s') R {s with heap:=h2}:=λ{h2 e R} z2 ex k=>by
  refine Bd z2 (show 0<5 by decide) λh3 z3 b3=>?_;refine q h3 e (λc o n1 n2 n3 n4 ec=>?_) ?_
  .rw[b3.2 _ n1];exact k c o n1 n2 n3 n4 ec
  .obtain⟨o,eo,hc⟩:=ex;by_cases he:e=z
   .subst he;rw[z2]at eo;cases eo;exact absurd (show CY "zip"=CY "StopIteration" from hc) ⋯
   .exact⟨o,(b3.2 _ he).trans eo,hc⟩
 cases hx1:xs[k1]? with
 |none=>
  exact Ab (sW hh (ZT.move λo e=>(vq _ hA.i1z).trans e) (Xd.move λo e=>(vq _ hA.l1z).trans e) hx1 λh2 e k ex=>fin (k _ _ hA.i1z.symm z1) ex λc o n1 n2 n3 n4 ec=>k _ _ n3 ((vq _ n1).trans ec))
 |some x=>
  have hy:ys[k2]?=ce:=by
   rcases hx with h|h
   .rw[hx1]at h;cases h
   .exact h
  refine Ab (kq (ZT.move λo e=>(vq _ hA.i1z).trans e) (Xd.move λo e=>(vq _ hA.l1z).trans e) hx1 λh2 j2 b2'=>Ag ?_);have Ry:∀b,b≠z->b≠i1->h2.get? b=s.heap.get? b:=λb n1 n2=>(b2'.2 b n2).trans (vq b n1);have ê:=(Ry _ hA.TOz hA.TOi1).trans ĭ;refine Ab (Bv ê rfl ?_);refine Ab (D4 ê λh3 t3 b3=>?_);have Ì:∀b,b≠z->b≠i1->b≠TO->h3.get? b=s.heap.get? b:=λb n1 n2 n3=>(b3.2 b n3).trans (Ry b n1 n2);exact Ab (CJ (Ag (Ab (Ab (EN (Ab (sW hh (ç.move λo e=>(Ì _ hA.i2z hA.i12.symm hA.TOi2.symm).trans e) (JR.move λo e=>(Ì _ hA.l2z hA.l2i1 hA.l2TO).trans e) hy λh4 e k ex=>fin (k _ _ hA.i2z.symm ((b3.2 _ hA.TOz.symm).trans ((b2'.2 _ hA.i1z.symm).trans z1))) ex λc o n1 n2 n3 n4 ec=>k _ _ n4 ((Ì _ n1 n3 n2).trans ec))))))))
def oZ{s:cr}{b2:Bool}{TI TO:db}{y:ci}{Q:Option ci->cr->Prop}(hA:ZipApart z TI TO i1 i2 a1 a2)(hz:jG b1 b2 s.heap z TI TO i1 i2 a1 a2 .none k1 k2)(Xd:iC b1 s.heap a1 xs)(JR:iC b2 s.heap a2 ys)(hx:xs[k1]?=am x)(hy:ys[k2]?=am y)(q:∀h':r9,jG b1 b2 h' z TI TO i1 i2 a1 a2 (Db s.heap.objs.size) (k1+1) (k2+1)->IsPair h' s.heap.objs.size x y->(∀c o,c≠z->c≠TO->c≠i1->c≠i2->s.heap.get? c=am o->h'.get? c=am o)->Q (am (.ref s.heap.objs.size)) {s with heap:=h'}):ga (im prog w) A (pyNext (.ref z)) Q E s:=by
 have ty:s.TypeIs (.ref z) "zip":=⟨_,hz.zip,rfl⟩;refine Ab (Dh (Bh ty D8 (Bo D8 ty F.entry_zip_next ?_ (F.args_zip_next_1 _))));exact se hA hz Xd JR hx hy λh' a b c=>Ag (q h' a b c)
def qA{s:cr}{b2:Bool}{TI TO:db}{Q:Option ci->cr->Prop}(hh:A.handled=ce)(hA:ZipApart z TI TO i1 i2 a1 a2)(hz:jG b1 b2 s.heap z TI TO i1 i2 a1 a2 .none k1 k2)(Xd:iC b1 s.heap a1 xs)(JR:iC b2 s.heap a2 ys)(hx:xs[k1]?=ce\/ys[k2]?=ce)(q:∀h':r9,(∀c o,c≠z->c≠TO->c≠i1->c≠i2->s.heap.get? c=am o->h'.get? c=am o)->Q ce {s with heap:=h'}):ga (im prog w) A (pyNext (.ref z)) Q E s:=by
 have ty:s.TypeIs (.ref z) "zip":=⟨_,hz.zip,rfl⟩;refine Ab (Dh (Bh ty D8 (Bo D8 ty F.entry_zip_next ?_ (F.args_zip_next_1 _))));refine uU hh hA hz Xd JR hx λh' e k ex=>?_;obtain⟨o,eo,hc⟩:=ex;exact Ab (DT ⟨o,eo,hc⟩ isSubtype_stop (Ag (q h' k)))
def sY(b1 b2:Bool)(a1 a2:db)(xs ys:Array ci):Meets (wS.«zip.__new__» {pos:=[.type "zip",.ref a1,.ref a2]}) (λ_ R s=>iC b1 s.heap a1 xs/\iC b2 s.heap a2 ys/\
  ∀h':r9,jG b1 b2 h' (s.heap.objs.size+4) (s.heap.objs.size+2) (s.heap.objs.size+3) s.heap.objs.size (s.heap.objs.size+1) a1 a2 .none 0 0->(∀b o,s.heap.get? b=am o->h'.get? b=am o)->R (.ok (.ret (.ref (s.heap.objs.size+4)))) {s with heap:=h'}):=
 .of_wp λprog w A R s h=>by
  obtain⟨h1,h2,q⟩:=h;refine Ab ?_;refine Ab (CH rfl ?_);refine Ab (CH sub_zip ?_);refine Ag ?_;refine Ab ?_;refine Ab ?_;rw[Cp];refine Ab ?_;refine Ab (Bn (vY h1 (Ag ?_)));have k1:∀b o,s.heap.get? b=am o->(s.heap.push {cls:=.type (ND b1),data:=.fields #[.ref a1,.int 0 0]}).get? b=am o:=λb o e=>Ae _ e;have g1:(s.heap.push {cls:=.type (ND b1),data:=.fields #[.ref a1,.int 0 0]}).get? s.heap.objs.size=am {cls:=.type (ND b1),data:=.fields #[.ref a1,.int 0 0]}:=Am _ rfl;have z1:(s.heap.push {cls:=.type (ND b1),data:=.fields #[.ref a1,.int 0 0]}).objs.size=s.heap.objs.size+1:=Bm ..;generalize s.heap.push {cls:=.type (ND b1),data:=.fields #[.ref a1,.int 0 0]}=zE at k1 g1 z1 ⊢;show ga _ _ (forIn [Ay a2] _ _) _ _ _;rw[Cp];refine Ab ?_;refine Ab (Bn (vY (h2.move λo e=>k1 _ _ e) (Ag ?_)));show ga _ _ (forIn [] _ _) _ _ _;refine Ag (Ag ?_);have k2:∀b o,zE.get? b=am o->(zE.push {cls:=.type (ND b2),data:=.fields #[.ref a2,.int 0 0]}).get? b=am o:=λb o e=>Ae _ e;have g2:(zE.push {cls:=.type (ND b2),data:=.fields #[.ref a2,.int 0 0]}).get? zE.objs.size=am {cls:=.type (ND b2),data:=.fields #[.ref a2,.int 0 0]}:=Am _ rfl;have z2:(zE.push {cls:=.type (ND b2),data:=.fields #[.ref a2,.int 0 0]}).objs.size=zE.objs.size+1:=Bm ..;show ga _ _ (newTuple [.ref s.heap.objs.size,.ref zE.objs.size] >>= λr=>_) _ _ {s with heap:=zE.push {cls:=.type (ND b2),data:=.fields #[.ref a2,.int 0 0]}};generalize zE.push {cls:=.type (ND b2),data:=.fields #[.ref a2,.int 0 0]}=zD at k2 g2 z2 ⊢;refine Ab (CZ ?_ (by show 2<=sizeLine;decide));have k3:∀b o,zD.get? b=am o->(zD.push {cls:=.type "tuple",data:=.seq [Ay s.heap.objs.size,Ay zE.objs.size].toArray}).get? b=am o:=λb o e=>Ae _ e;have g3:(zD.push {cls:=.type "tuple",data:=.seq [Ay s.heap.objs.size,Ay zE.objs.size].toArray}).get? zD.objs.size=am {cls:=.type "tuple",data:=.seq #[.ref s.heap.objs.size,.ref zE.objs.size]}:=Am _ rfl;have z3:(zD.push {cls:=.type "tuple",data:=.seq [Ay s.heap.objs.size,Ay zE.objs.size].toArray}).objs.size=zD.objs.size+1:=Bm ..;generalize zD.push {cls:=.type "tuple",data:=.seq [Ay s.heap.objs.size,Ay zE.objs.size].toArray}=NN at k3 g3 z3 ⊢;refine Ab (CZ ?_ (by show 2<=sizeLine;decide));have k4:∀b o,NN.get? b=am o->(NN.push {cls:=.type "tuple",data:=.seq [A4,A4].toArray}).get? b=am o:=λb o e=>Ae _ e;have g4:(NN.push {cls:=.type "tuple",data:=.seq [A4,A4].toArray}).get? NN.objs.size=am {cls:=.type "tuple",data:=.seq #[.none,.none]}:=Am _ rfl;have z4:(NN.push {cls:=.type "tuple",data:=.seq [A4,A4].toArray}).objs.size=NN.objs.size+1:=Bm ..;show ga _ _ (newObj (.type "zip") (.fields #[.none,.bool false,.bool false,.ref zD.objs.size,.ref NN.objs.size]) >>= λr=>_) _ _ {s with heap:=NN.push {cls:=.type "tuple",data:=.seq [A4,A4].toArray}};generalize NN.push {cls:=.type "tuple",data:=.seq [A4,A4].toArray}=hp4 at k4 g4 z4 ⊢;refine Ab (Bb ?_ (by simp[sizeOk];decide));have k5:∀b o,hp4.get? b=am o->(hp4.push {cls:=.type "zip",data:=.fields #[.none,.bool false,.bool false,.ref zD.objs.size,.ref NN.objs.size]}).get? b=am o:=λb o e=>Ae _ e;have g5:(hp4.push {cls:=.type "zip",data:=.fields #[.none,.bool false,.bool false,.ref zD.objs.size,.ref NN.objs.size]}).get? hp4.objs.size=am {cls:=.type "zip",data:=.fields #[.none,.bool false,.bool false,.ref zD.objs.size,.ref NN.objs.size]}:=Am _ rfl;have e1:=z1;have e2:zD.objs.size=s.heap.objs.size+2:=by rw[z2,e1]
  have e3:NN.objs.size=s.heap.objs.size+3:=by rw[z3,e2]
  have e4:hp4.objs.size=s.heap.objs.size+4:=by rw[z4,e3]
  refine Ag ⟨.ref hp4.objs.size,rfl,?_⟩;rw[e2,e3]at g5 k5 ⊢;rw[e4]at g5 ⊢;rw[e3]at g4;rw[e1,e2]at g3;rw[e1]at g2;refine q _ ⟨g5,k5 _ _ (k4 _ _ g3),⟨_,_,k5 _ _ g4⟩,Lc (k5 _ _ (k4 _ _ (k3 _ _ (k2 _ _ g1)))),Lc (k5 _ _ (k4 _ _ (k3 _ _ g2)))⟩ λb o e=>k5 _ _ (k4 _ _ (k3 _ _ (k2 _ _ (k1 _ _ e))))
def Oi{s:cr}{b2:Bool}(h1:iC b1 s.heap a1 xs)(h2:iC b2 s.heap a2 ys)(q:∀h':r9,jG b1 b2 h' (s.heap.objs.size+4) (s.heap.objs.size+2) (s.heap.objs.size+3) s.heap.objs.size (s.heap.objs.size+1) a1 a2 .none 0 0->(∀b o,s.heap.get? b=am o->h'.get? b=am o)->Q (.ref (s.heap.objs.size+4)) {s with heap:=h'}):ga (im prog w) A (call (.type "zip") [.ref a1,.ref a2]) Q E s:=
 callType_new F.called_zip ⋯ (F.typeCall_zip_2 _ _) (F.newCall_zip_2 _ _) (λo=>F.args_object_init_3 o _ _) F.entry_zip_new (sY b1 b2 a1 a2 xs ys) ⟨h1,h2,λh' z k=>⟨⟨_,z.zip,rfl⟩,q h' z k⟩⟩
def OW(b:Bool)(K:Aa)(H:Hp)(a:db)(xs:O V):Prop:=match b with
 |true=>b9 K H a xs
 |false=>dM K H a xs
def Inv.sqx{s:cr}{xs:O V}(I:Inv X Z σ H s)(h:OW b X.K H a xs):∃aq:O ci,Vals xs aq/\iC b s.heap a aq.toArray/\xs.length<=sizeLine:=by
 cases b with
 |true=>obtain⟨aq,r,p,z⟩:=I.list (h);exact⟨aq,r,p.isList,z⟩
 |false=>obtain⟨aq,r,p,z⟩:=I.tuple (h);exact⟨aq,r,p,z⟩
def Inv.Lb{s:cr}{xs ys:O V}(I:Inv X Z σ H s)(h:OW b X.K H a xs)(h':OW b X.K H a ys):xs=ys:=by
 cases b with
 |true=>
  obtain⟨aq,k,⟨o,n,h1,h2,h3,h4⟩,_⟩:=I.list (h);obtain⟨eT,k',⟨o',n',fZ,uS,Rx,Z0⟩,_⟩:=I.list (h');rw[h1]at fZ;cases fZ;rw[h4]at Z0;have:aq=eT:=by injection Z0 with a b;simpa using a
  subst this;exact Vals.inj k k'
 |false=>exact I.kY h h'
def aem(b1 b2:Bool)(K:Aa)(a1 a2:db):It where
 go:=λi H=>∃xs ys x y,OW b1 K H a1 xs/\OW b2 K H a2 ys/\xs[i]?=am x/\ys[i]?=am y
 Wm:=λi H v H'=>∃p x y,v=.ref p/\H p=ce/\H'=upd H p (.tup [x,y])/\(∀xs,OW b1 K H a1 xs->xs[i]?=am x)/\∀ys,OW b2 K H a2 ys->ys[i]?=am y
 stop:=λi H=>∃xs ys,OW b1 K H a1 xs/\OW b2 K H a2 ys/\(xs.length<=i\/ys.length<=i)
theorem MD{K:Aa}{b2:Bool}{kk:Nat}{TI TO:db}(hA:ZipApart z TI TO i1 i2 a1 a2):Turn P w K (.Tuple Í kk pos) (aem b1 b2 K a1 a2) [z,TI,TO,i1,i2] z (λi h=>jG b1 b2 h z TI TO i1 i2 a1 a2 .none i i) where
 mem:=by simp
 obj:=λi h st b hb=>by
  simp at hb;rcases hb with rfl|rfl|rfl|rfl|rfl
  .exact⟨_,st.zip,λv z=>by cases z⟩
  .exact⟨_,st.ti,λv z=>by cases z⟩
  .obtain⟨_,_,e⟩:=st.to;exact⟨_,e,λv z=>by cases z⟩
  .exact st.it1.obj
  .exact st.it2.obj
 keep:=λi h h' st k=>⟨k z (by simp) _ st.zip,k TI (by simp) _ st.ti,let ⟨a,b,e⟩:=st.to;⟨a,b,k TO (by simp) _ e⟩,st.it1.move λo e=>k i1 (by simp) _ e,st.it2.move λo e=>k i2 (by simp) _ e⟩
 item:=by
  intro X hP hw hK hc i Z s σ H E I hf st hg;subst hP hw hK;obtain⟨xs,ys,x,y,hx,hy,gx,gy⟩:=hg;obtain⟨aq,rx,tx,_⟩:=I.sqx hx;obtain⟨cT,ry,ty,_⟩:=I.sqx hy;obtain⟨u,gu,ru⟩:=nv rx gx;obtain⟨v,gv,rv⟩:=nv ry gy;refine oZ hA st tx ty (by simpa using gu) (by simpa using gv) λh' zt np k=>?_;refine⟨_,rfl,?_⟩;refine Ab (F4 zt.zip ?_);show ga _ _ (if ((["enumerate","zip","dict_itemiterator","dict_reverseitemiterator","odict_iterator","itertools.zip_longest","itertools.pairwise"].contains "zip"&&(am (Db s.heap.objs.size)==am (Db s.heap.objs.size)))=true) then (do rule "for.unpacks-the-owned-tuple";setField (.ref z) 0 .none) else pure ()) _ _ _;rw[if_pos (by rw[beq_self_eq_true];decide)];refine Ab (Dl ?_);refine Bd zt.zip (show 0 < 5 by decide) λh2 z2 b2=>?_;have lt:∀b∈[z,TI,TO,i1,i2],b < s.heap.objs.size:=λb hb=>by
   simp only[AI,DW,or_false]at hb;rcases hb with rfl|rfl|rfl|rfl|rfl
   .exact Ap st.zip
   .exact Ap st.ti
   .obtain⟨_,_,e⟩:=st.to;exact Ap e
   .obtain⟨o,e,_⟩:=st.it1.obj;exact Ap e
   .obtain⟨o,e,_⟩:=st.it2.obj;exact Ap e
  have ø:∀b o,b∉[z,TI,TO,i1,i2]->s.heap.get? b=am o->h2.get? b=am o:=λb o hb e=>by
   have Xb:b≠z:=λq=>hb (by simp[q]);rw[b2.2 b Xb];exact k b o Xb (λq=>hb (by simp[q])) (λq=>hb (by simp[q])) (λq=>hb (by simp[q])) e
  refine⟨.ref s.heap.objs.size,upd H s.heap.objs.size (.tup [x,y]),I.sD hf ø (Al _) ⟨by show 2<=sizeLine;decide,[u,v],.cons ru (.cons rv .nil),⟨_,((b2.2 _ (λe=>AR _ (by have:=lt z (by simp);rw[<- e]at this;exact this))).trans np),rfl,_,rfl⟩,_,((b2.2 _ (λe=>AR _ (by have:=lt z (by simp);rw[<- e]at this;exact this))).trans np),rfl⟩,rfl,⟨_,x,y,rfl,(I.br.fresh (Al s.heap.objs.size)),rfl,λxs' h'=>?_,λys' h'=>?_⟩,⟨z2,(b2.2 _ hA.TIz).trans zt.ti,let ⟨p,q,e⟩:=zt.to;⟨p,q,(b2.2 _ hA.TOz).trans e⟩,zt.it1.move λo e=>(b2.2 _ hA.i1z).trans e,zt.it2.move λo e=>(b2.2 _ hA.i2z).trans e⟩,λb hb=>?_⟩
  .rw[I.Lb h' hx];exact gx
  .rw[I.Lb h' hy];exact gy
  .rw[aj (AB (lt b hb))];exact(hf b hb).1
 done:=by
  intro X hP hw hK hc i Z s σ H E I hf st hg;subst hP hw hK;obtain⟨xs,ys,hx,hy,hl⟩:=hg;obtain⟨aq,rx,tx,_⟩:=I.sqx hx;obtain⟨cT,ry,ty,_⟩:=I.sqx hy;have el:=rx.length;have ę:=ry.length;refine qA (I.ok.hd hc) hA st tx ty ?_ λh' k=>⟨rfl,I.xf (t':=s.toks) hf λb o hb e=>k b o (λz=>hb (by simp[z])) (λz=>hb (by simp[z])) (λz=>hb (by simp[z])) (λz=>hb (by simp[z])) e⟩;rcases hl with hl|hl
  .exact .inl (by simp;lia)
  .exact .inr (by simp;lia)
 self:=λA i s Q E st h=>wpAny_pyIter_zip st.zip h
def acZ(K:Aa)(t1 t2:TE):TI:=λσ H R=>t1 σ H λx H1=>t2 σ H1 λy H2=>∃b1 b2 a b,x=.ref a/\y=.ref b/\(∃xs,OW b1 K H2 a xs)/\(∃ys,OW b2 K H2 b ys)/\R (aem b1 b2 K a b) H2
def Ui(K:Aa)(hK:X.K=K){e1 e2:nw}{t2:TE}{kk:Nat}{p2:Pos}(hg:Gl X "zip")(hm:X.mg "zip"=ce)(h1:PE X e1 t1)(h2:PE X e2 t2)(tX:‹lm [e1,e2] X.env=(false,o0 e1 X.env)::lm [e2] X.env›)(qM:‹gK X e2 []›)(cU:‹(BT p2 (lm [e2] X.env)).any (·.1)=false›):PI X (.Tuple Í kk tp) (.Call (.Name "zip" p1) [e1,e2] [] p2) (acZ K t1 t2):=by
 subst hK;intro Z s σ H R I h;refine Bl (fx I hg hm boot_zip ?_ ⋯ ⋯);refine A2 ?_ tX cU;rw[tX,qM];refine B1 (bU (h1 Z s σ H _ I h) λu1 s1 ⟨x,H1,I1,r1,q1⟩=>?_);refine B1 (bU (h2 Z s1 σ H1 _ I1 q1) λu2 s2 ⟨y,H2,I2,r2,b1,b2,a,b,ex,ey,⟨xs,hx⟩,⟨ys,hy⟩,q⟩=>Cs ?_);subst ex;subst ey;cases r1;cases r2;obtain⟨aq,rx,tx,_⟩:=I2.sqx hx;obtain⟨cT,ry,ty,_⟩:=I2.sqx hy;refine Oi tx ty λh' zt k=>?_;refine wpAny_pyIter_zip zt.zip ?_;have dd:∀i j:Nat,i≠j->s2.heap.objs.size+i≠s2.heap.objs.size+j:=λi j n e=>n (Nat.add_left_cancel e);have na:∀i:Nat,a≠s2.heap.objs.size+i:=λi=>AB (AG tx.lt (Bi _ _));have nb:∀i:Nat,b≠s2.heap.objs.size+i:=λi=>AB (AG ty.lt (Bi _ _));have hA:ZipApart (s2.heap.objs.size+4) (s2.heap.objs.size+2) (s2.heap.objs.size+3) s2.heap.objs.size (s2.heap.objs.size+1) a b:=
  ⟨dd 2 4 ⋯,dd 3 4 ⋯,dd 0 4 ⋯,dd 1 4 ⋯,dd 2 3 ⋯,dd 2 0 ⋯,dd 2 1 ⋯,dd 3 0 ⋯,dd 3 1 ⋯,dd 0 1 ⋯,na 4,na 3,na 0,na 1,nb 4,nb 3,nb 0,nb 1⟩
 refine⟨_,_,_,_,H2,rfl,I2.kept k,MD hA,zt,λc hc=>?_,q⟩;have Ô:s2.heap.objs.size<=c:=by
  simp at hc;rcases hc with rfl|rfl|rfl|rfl|rfl
  .exact Bi _ _
  .exact Bi _ _
  .exact Bi _ _
  .exact Al _
  .exact Bi _ _
 exact I2.Hn Ô (I2.br.fresh Ô)
def acd(K:Aa):R2:=λx y H Q=>∃a b xs ys,x=.ref a/\y=.ref b/\dM K H a xs/\dM K H b ys/\xs.length+ys.length<=sizeLine/\
 (xs=[]->Q (.ref b) H)/\(xs≠[]->ys=[]->Q (.ref a) H)/\(xs≠[]->ys≠[]->gL H (.tup (xs++ys)) Q)
def Ux(K:Aa)(hK:X.K=K):iD X (ut .Add) (acd K):=by
 subst hK;intro Z s σ H x y v u Q I rx ry h;obtain⟨a,b,xs,ys,rfl,rfl,ha,hb,hz,q0,q1,q2⟩:=h;by_cases c:xs=[]
 .cases rx;cases ry;obtain⟨aq,r1,p1,_⟩:=I.tuple ha;obtain⟨cT,r2,p2,_⟩:=I.tuple hb;obtain⟨⟨cls,dd,data,sl⟩,ho,hc,n,hd⟩:=id p1;obtain⟨⟨Ń,VT,data2,SR⟩,NQ,Xo,n2,Ø⟩:=id p2;subst hc hd Xo Ø;exact concat_meets ⟨_,ho,rfl⟩ ⟨_,NQ,rfl⟩ noFill_tuple_add seq_tuple_add Du Dm (Df _ _)
   (tuple_addW0 a b aq.toArray cT.toArray n n2 dd VT sl SR (by rw[r1.jc.mpr c];rfl)) ⟨ho,NQ,.ref b,H,I,rfl,q0 c⟩
 .exact Lu Z s σ H _ _ v u Q I rx ry ⟨a,b,xs,ys,rfl,rfl,ha,hb,c,hz,q1 c,λn p hp=>(q2 c n).at p hp⟩
end L2
variable{b:BW}
namespace FL
section
variable[bN]
variable{K:Aa}
section
variable{a:nw}{p2:Pos}{wm:W (O PV)}
def addW:PV->PV->W PV
 |.int i,.int j=>.ret (.int (i+j))
 |.str a,.str b=>.dN (a.length+b.length<=sizeLine) (.ret (.str (a++b)))
 |.tup a,.tup b=>.dN (a.length+b.length<=sizeLine) (.ret (.tup (a++b)))
 |_,_=>.fail
def c9{f2:aQ}(hK:X.K=K)(ha:EF X K fs a wa f1)(hb:EF X K f1 b wb f2):EF X K fs (.BinOp a .Add b pos) (.bind wa λx=>.bind wb λy=>addW x y) f2:=
 ⟨PE.imp (cX ((lg K hK).or (Ux K hK)) ha.p hb.p) λσ H Q ⟨sr,q⟩=>⟨sr,wa.mono (λx q1 u1 H1 g1 s1 v1=>⟨s1,wb.mono (λy q2 u2 H2 g2 s2 v2=>by
  have Ğ:=g2.vr s1 v1;cases Ğ with
  |int i=>
   cases v2 with
   |int j=>exact .inl ⟨_,rfl,q2 _ H2 (g1.trans g2) s2 (.int _)⟩
   |_=>exact q2.elim
  |str i=>
   cases v2 with
   |str j=>exact .inl ⟨_,rfl,q2.1,q2.2 _ H2 (g1.trans g2) s2 (.str _)⟩
   |_=>exact q2.elim
  | @tup p vs l e r=>
   cases v2 with
   | @tup p' vQ l' e' r'=>
    refine .inr ⟨p,p',vs,vQ,rfl,rfl,dM.of e,dM.of e',by rw[r.length,r'.length];exact q2.1,λz=>?_,λ_ z=>?_,λ_ _ q H3 s3 h3 n3=>?_⟩
    .have z':=(PL.aE.jc r).mp z;subst z';exact q2.2 _ H2 (g1.trans g2) s2 (.tup e' r')
    .have z':=(PL.aE.jc r').mp z;subst z';have q2:=q2.2;rw[Cq]at q2;exact q2 _ H2 (g1.trans g2) s2 (.tup e r)
    .exact q2.2 _ H3 ((g1.trans g2).trans (bZ.same s3)) (s2.same s3) (.tup h3 (aE.tk s3.ff (r.append r')))
   |_=>exact q2.elim
  |_=>exact q2.elim) q1⟩) q⟩⟩
theorem nr:∀(l m:O PV),(oS l m).length=min l.length m.length
 |[],m=>by rw[oS];simp;intros;simp_all
 |x::l,[]=>by rw[oS];simp;intros;simp_all
 |x::l,y::m=>by rw[oS,Aq,nr l m];simp only[Aq];lia
def uV(l m:O PV):W (O PV):=.dN (l.length<=sizeLine) (.ret (oS l m))
def Wv{l:O PV}(h:SqI K H u l):∃(b:Bool) (a:db) (vs:O V),u=.ref a/\aE K [] H vs l/\∀H',bh K H H'->OW b K H' a vs:=by
 obtain⟨a,vs,e,h|h,r⟩:=h
 .exact⟨true,a,vs,e,r,λH' t=>(t.f _ _ h).sq⟩
 .exact⟨false,a,vs,e,r,λH' t=>dM.of (t.t _ _ h)⟩
theorem JM(hK:X.K=K){kk:Nat}(hg:Gl X "zip")(hm:X.mg "zip"=ce)(ha:IF X K fs a wl)(hb:IF X K fs b wm)(tX:‹lm [a,b] X.env=(false,o0 a X.env)::lm [b] X.env›)(qM:‹gK X b []›)(cU:‹(BT p2 (lm [b] X.env)).any (·.1)=false›):mB X K fs (.Tuple Í kk tp) (.Call (.Name "zip" p1) [a,b] [] p2) (.bind wl λl=>.bind wm λm=>uV l m):=
 ⟨PI.imp (Ui K hK hg hm ha.p hb.p tX qM cU) λσ H R ⟨sr,q⟩=>⟨sr,wl.mono (λl q1 u1 H1 g1 s1 v1=>⟨s1,wm.mono (λm q2 u2 H2 g2 s2 v2=>by
  obtain⟨b1,a1,vs,rfl,r1,x1⟩:=Wv (v1.tk (g2.dB s1));obtain⟨b2,a2,ws,rfl,r2,x2⟩:=Wv v2;have tr:bh K H2 H2:=bh.refl H2;refine⟨b1,b2,a1,a2,rfl,rfl,⟨vs,x1 H2 tr⟩,⟨ws,x2 H2 tr⟩,q2.2 _ H2 (g1.trans g2) s2 ⟨by rw[nr];have:=q2.1;lia,λH' t=>⟨λi pp hp=>?_,vs,ws,x1 H' t,x2 H' t,?_⟩⟩⟩
  .obtain⟨x,y,hx,hy,rfl⟩:=sf hp;obtain⟨v,h3,h4⟩:=(aE.tk t r1).get hx;obtain⟨v',Rx,Z0⟩:=(aE.tk t r2).get hy;refine⟨⟨vs,ws,v,v',x1 H' t,x2 H' t,h3,Rx⟩,λz H3 yl=>?_⟩;obtain⟨p,x',y',rfl,hn,rfl,e1,e2⟩:=yl;have e1:=e1 vs (x1 H' t);have e2:=e2 ws (x2 H' t);rw[h3]at e1;rw[Rx]at e2;cases e1;cases e2;have sm:=kg hn (.tup [v,v']);exact⟨sm,.tup ay (.cons (VR.tk sm.ff h4) (.cons (VR.tk sm.ff Z0) .nil))⟩
  .rw[nr,r1.length,r2.length];lia) q1⟩) q⟩⟩
variable{el eh:Option nw}{st:nw}{lo ws:W (Option Int)}
def IL(l:O PV)(i j k:Option Int):W (O PV):=.dN (k≠am 0) (.ret (kj l i j k))
def WW(hK:X.K=K)(he:Io X K fs e wl)(hl:OF X K fs el lo)(hh:OF X K fs eh hi)(hs:OF X K fs (am st) ws):LF X K fs (.Subscript e (.Slice el eh (am st) p2) pos) (.bind wl λl=>.bind lo λi=>.bind hi λj=>.bind ws λk=>IL l i j k):=
 ⟨PE.imp (Na K hK he.p hl.p hh.p hs.p) λσ H Q ⟨sr,q⟩=>⟨sr,wl.mono (λl q1 u1 H1 g1 s1 _ v1=>⟨s1,lo.mono (λi q2 H2 g2 s2=>⟨s2,hi.mono (λj q3 H3 g3 s3=>⟨s3,ws.mono (λk q4 H4 g4 s4=>by
 obtain⟨a,vs,rfl,h1,r1⟩:=v1 _ H4 ((g2.trans g3).trans g4) s4;exact⟨a,vs,rfl,h1,q4.1,qa (((g1.trans g2).trans g3).trans g4) s4 (r1.pick i j k) q4.2⟩) q3⟩) q2⟩) q1⟩) q⟩⟩
end
end
end FL
namespace L2
def akp:O Int->Int
 |[]=>0
 |x::l=>l.foldl max x
def xQ:O Int->Int
 |[]=>0
 |x::l=>l.foldl min x
theorem yK(l:O Int)(x:Int):l.foldl min x<=x/\(∀y∈l,l.foldl min x<=y)/\(l.foldl min x=x\/l.foldl min x∈l):=by
 induction l generalizing x with
 |nil=>exact⟨B8 _,by simp,.inl rfl⟩
 |cons y l ih=>
  obtain⟨h1,h2,h3⟩:=ih (min x y);refine⟨by rw[Dj];lia,λz hz=>?_,?_⟩
  .rw[Dj];rcases AI.mp hz with rfl|hz
   .omega
   .exact h2 z hz
  .rw[Dj];rcases h3 with h3|h3
   .rw[h3];by_cases c:y<=x
    .right;rw[Int.min_eq_right c];exact .head _
    .left;lia
   .exact .inr (.tail _ h3)
def rF{l:O Int}{x:Int}(h:x∈l):xQ l<=x:=by
 cases l with
 |nil=>cases h
 |cons y l=>
  rcases AI.mp h with rfl|h
  .exact(yK l _).1
  .exact(yK l y).2.1 x h
def nS{l:O Int}(h:l≠[]):xQ l∈l:=by
 cases l with
 |nil=>exact absurd rfl h
 |cons y l=>
  rcases (yK l y).2.2 with e|e
  .show l.foldl min y∈_;rw[e];exact .head _
  .exact .tail _ e
def P7(K:Aa)(C:O Int->Prop)(g:O Int->Int):O V->Hp->VK->Prop:=λxs H Q=>∃(p:db) (ns:O Int),xs=[.ref p]/\b9 K H p (ns.map V.int)/\C ns/\Q (.int (g ns)) H
section
variable{s:cr}
theorem UP{xs:Array (Int×Tok)}(NR:ns=xs.toList.map (·.1))(OP:ns≠[]):numAt xs (argBest (λi j=>decide (numAt xs i<numAt xs j)) (xs.size-1))=xQ ns:=by
 have uR:0<xs.size:=by
  have h3:=De.mpr OP;rw[NR,Aj,Ef]at h3;exact h3
 obtain⟨h1,h2⟩:=argBest_lt (numAt xs) (xs.size-1);apply Fv
 .have hm:=nS OP;rw[NR]at hm;obtain⟨j,hj,ej⟩:=mem_getD hm;rw[Aj,Ef]at hj;rw[<- NR]at ej;rw[<- ej,NR,<- numAt_eq];exact h2 j ∅
 .refine rF ?_;rw[NR,numAt_eq];exact getD_mem (by rw[Aj,Ef];lia)
def MM{l:db}{vs:O ci}(hh:A.handled=ce)(hl:s.heap.IsList l vs.toArray)(hi:xL vs ns)(h:∀(h':r9) (t:Tok) tk,(∀b o,s.heap.get? b=am o->h'.get? b=am o)->Q (.int ns.sum t) {s with heap:=h',toks:=tk}):ga (im prog w) A (call (.builtin "sum") [.ref l]) Q E s:=by
 obtain⟨xs,e⟩:=hi.allInts.items;have NR:ns=xs.toList.map (·.1):=by rw[<- hi.numsOf,<- nums_intItems,<- e]
 rw[e]at hl;refine sum_intListG hh hl λh' tk t' hk=>?_;have:=h h' t' tk hk;rw[preSum_eq,BX (by simp),<- NR];exact this
end
def Oo{b:String}{C:O Int->Prop}{g:O Int->Int}(K:Aa)(hK:X.K=K)(hc:X.calm=true)(Ñ:∀{s:cr}{l:db}{vs:O ci}{ns:O Int}{Q:ci->cr->Prop},X.A.handled=ce->s.heap.IsList l vs.toArray->xL vs ns->C ns->(∀(h':r9) (t:Tok) tk,(∀b o,s.heap.get? b=am o->h'.get? b=am o)->Q (.int (g ns) t) {s with heap:=h',toks:=tk})->ga (im X.prog X.w) X.A (call (.builtin b) [.ref l]) Q X.xe s):cj X (.builtin b) (P7 K C g):=by
 subst hK;intro Z s σ H xs us Q I r h;obtain⟨p,ns,rfl,hq,hC,q⟩:=h;obtain⟨u,rfl,rx⟩:=vals1 r;cases rx;obtain⟨aq,r',pl,hz⟩:=I.list hq;exact Ñ (I.ok.hd hc) pl.isList (intsAre_of r') hC λh' t tk hk=>⟨.int _,H,I.kept hk,⟨t,rfl⟩,q⟩
end L2
variable{x:PL.PV}
namespace FL
section
variable[bN]
variable{K:Aa}
section
variable{s:cr}
open Classical in
noncomputable def N5(K:Aa)(H:Hp)(x:PV)(w:ci):Bool:=decide (∃p v,RelV v w/\VR K [] H v p/\jT p x=true)
open Classical in
def RX(hK:X.K=K)(I:Inv X Z σ H s){x p:PV}{v:V}{w:ci}(r:RelV v w)(h:VR K [] H v p):N5 K H x w=jT p x:=by
 subst hK;cases e:jT p x with
 |true=>exact decide_eq_true ⟨p,v,r,h,e⟩
 |false=>
  refine decide_eq_false ?_;rintro⟨p',v',r',h',e'⟩;have:=PX r r';subst this;rw[VR.L8 I h h',e']at e;cases e
theorem yO(hK:X.K=K)(I:Inv X Z σ H s):∀{vs:O V}{aq:O ci}{l:O PV},Vals vs aq->aE K [] H vs l->aq.map (N5 K H x)=l.map λy=>jT y x
 |_,_,_,.nil,.nil=>rfl
 |_,_,_,.cons r t,.cons q z=>by rw[Av,Av,RX hK I r q,yO hK I t z]
def Ve(x:PV)(l:O PV):Prop:=PV.fy x=true/\d7 l=true/\dq l<=150
theorem uo(hK:X.K=K)(I:Inv X Z σ H s){v:V}{w:ci}(hx:VR K [] H v x)(rx:RelV v w)(dx:PV.fy x=true)(hu:A.units+150+1<ul):∀{vs:O V}{aq:O ci}{l:O PV},Vals vs aq->aE K [] H vs l->d7 l=true->dq l<=150->∀u∈aq,DR A s u w (N5 K H x u)
 |_,_,_,.nil,.nil,_,_,u,hu=>by cases hu
 |_,_,_,.cons r t,.cons q z,d,dd,u,hm=>by
  rw[d7,A1]at d;rw[dq]at dd;rcases AI.mp hm with rfl|hm
  .rw[RX hK I r q];exact(aap hK I 150 _ x A _ v _ w ∅ d.1 dx q hx r rx hu).eq
  .exact uo hK I hx rx dx hu t z d.2 ∅ u hm
end
def tZ(x:PV)(l:O PV):Bool:=l.any λy=>jT y x
def YH(K:Aa)(neg:Bool):R2:=λx y H Q=>∃p vs l xp,y=.ref p/\(b9 K H p vs\/dM K H p vs)/\aE K [] H vs l/\VR K [] H x xp/\Ve xp l/\Q (.bl (if neg then !tZ xp l else tZ xp l)) H
section
theorem any_map'(f:α->Bool):∀l:List α,l.any f=(l.map f).any id
 |[]=>rfl
 |x::l=>by rw[CU,Av,CU,any_map' f l];rfl
theorem Qu(K:Aa)(hK:X.K=K)(hu:X.A.units+200<ul):iD X (sn .In) (YH K false):=by
 intro Z s σ H x y v u Q I rx ry h;obtain⟨p,vs,l,xp,rfl,hq,hl,hx,ok,q⟩:=h;cases ry;have ã:X.A.in1.units+150+1<ul:=by show X.A.units+1+150+1<_;lia
 have fin:∀{aq:O ci},Vals vs aq->aq.toArray.any (N5 K H xp)=tZ xp l:=λ{aq} r=>by
  rw[show aq.toArray.any (N5 K H xp)=aq.any (N5 K H xp) by simp,any_map',yO hK I r hl,<- any_map'];rfl
 rcases hq with hq|hq
 .obtain⟨aq,r,pl,hz⟩:=I.list (show b9 X.K H p vs by rw[hK];exact hq);refine SeqAt.in_listAt (N5 K H xp) pl.isList (λw hw=>uo hK I hx rx ok.1 ã r hl ok.2.1 ok.2.2 w (by simpa using hw)) ⟨.bl _,H,I,rfl,?_⟩;rw[fin r];exact q
 .obtain⟨aq,r,pl,hz⟩:=I.tuple (show dM X.K H p vs by rw[hK];exact hq);refine SeqAt.in_tupleAt (N5 K H xp) pl (λw hw=>uo hK I hx rx ok.1 ã r hl ok.2.1 ok.2.2 w (by simpa using hw)) ⟨.bl _,H,I,rfl,?_⟩;rw[fin r];exact q
theorem Uw(K:Aa)(hK:X.K=K)(hu:X.A.units+200<ul):iD X (sn .NotIn) (YH K true):=by
 intro Z s σ H x y v u Q I rx ry h;obtain⟨p,vs,l,xp,rfl,hq,hl,hx,ok,q⟩:=h;cases ry;have ã:X.A.in1.units+150+1<ul:=by show X.A.units+1+150+1<_;lia
 have fin:∀{aq:O ci},Vals vs aq->aq.toArray.any (N5 K H xp)=tZ xp l:=λ{aq} r=>by
  rw[show aq.toArray.any (N5 K H xp)=aq.any (N5 K H xp) by simp,any_map',yO hK I r hl,<- any_map'];rfl
 rcases hq with hq|hq
 .obtain⟨aq,r,pl,hz⟩:=I.list (show b9 X.K H p vs by rw[hK];exact hq);refine SeqAt.notIn_listAt (N5 K H xp) pl.isList (λw hw=>uo hK I hx rx ok.1 ã r hl ok.2.1 ok.2.2 w (by simpa using hw)) ⟨.bl _,H,I,rfl,?_⟩;rw[fin r];exact q
 .obtain⟨aq,r,pl,hz⟩:=I.tuple (show dM X.K H p vs by rw[hK];exact hq);refine SeqAt.notIn_tupleAt (N5 K H xp) pl (λw hw=>uo hK I hx rx ok.1 ã r hl ok.2.1 ok.2.2 w (by simpa using hw)) ⟨.bl _,H,I,rfl,?_⟩;rw[fin r];exact q
end
end
section
variable[bN]
variable{K:Aa}
section
variable{a c:nw}
def qL(neg:Bool)(x:PV)(l:O PV):W Bool:=.dN (Ve x l) (.ret (if neg then !tZ x l else tZ x l))
def RN:∀σ H Q,fT K fs (.bind wa λx=>.bind wl λl=>qL neg x l) fs σ H Q->Wq (YH K neg) (fE K fs wa) (fQ K fs wl) σ H λx H'=>∃k,x=.bl k/\Q k H':=λσ H Q ⟨sr,q⟩=>
 ⟨sr,wa.mono (λx q1 u1 H1 g1 s1 v1=>⟨s1,wl.mono (λl q2 u2 H2 g2 s2 v2=>by
  obtain⟨ad,vs,rfl,h,rs⟩:=v2.sq s2;exact⟨ad,vs,l,x,rfl,h,rs,g2.vr s1 v1,q2.1,_,rfl,q2.2 H2 (g1.trans g2) s2⟩) q1⟩) q⟩
def aby(hK:X.K=K)(hu:X.A.units+200<ul)(ha:EF X K fs a wa)(hb:QF X K fs b wl)(hk:‹tz .In b=false›):TF X K fs (.Compare a [.In] [b] pos) (.bind wa λx=>.bind wl λl=>qL false x l):=⟨PT.imp (gR (Qu K hK hu) ha.p hb.p hk) (RN)⟩
def Pg(hK:X.K=K)(hu:X.A.units+200<ul)(ha:EF X K fs a wa)(hb:QF X K fs b wl)(hk:‹tz .NotIn b=false›):TF X K fs (.Compare a [.NotIn] [b] pos) (.bind wa λx=>.bind wl λl=>qL true x l):=⟨PT.imp (gR (Uw K hK hu) ha.p hb.p hk) (RN)⟩
abbrev ZG(neg:Bool)(wa:W PV)(wl:W (O PV)):W Bool:=.bind wa λx=>.bind wl λl=>qL neg x l
def gQ(l:O PV):W PV:=.bind (tT l) λns=>.ret (.int ns.sum)
def NK{C:O Int->Prop}{g:O Int->Int}{f:O PV->W PV}(hf:∀{l:O PV}{Q:PV->Prop},(f l).run Q->∃ns:O Int,l=ns.map PV.int/\C ns/\Q (.int (g ns))):∀σ H Q,fE K fs (.bind wl f) fs σ H Q->tCB (P7 K C g) (Pl (fQL K fs wl) Yb) σ H Q:=λσ H Q ⟨sr,q⟩=>⟨sr,wl.mono (λl q1 u1 H1 g1 s1 _ v1=>by
 obtain⟨ns,el,hC,q2⟩:=hf q1;obtain⟨a,vs,rfl,h1,r1⟩:=v1 _ H1 .refl s1;rw[el]at r1;have:=lA r1;subst this;exact⟨a,ns,rfl,h1,hC,q2 _ H1 g1 s1 (.int _)⟩) q⟩
def MN{l:O PV}{Q:PV->Prop}(h:(gQ l).run Q):∃ns:O Int,l=ns.map PV.int/\True/\Q (.int ns.sum):=let ⟨ns,e,q⟩:=iV h;⟨ns,e,trivial,q⟩
def uv(hK:X.K=K)(hc:X.calm=true)(hg:Gl X "sum")(hm:X.mg "sum"=ce)(ha:Io X K fs e wl)(he:‹gK X e []›)(cU:‹jO X pos []›):EF X K fs (.Call (.Name "sum" p) [e] [] pos) (.bind wl gQ):=⟨PE.imp (dX (Oo K hK hc λa b c _ q=>MM a b c q) hg hm (show re "sum"=am (.builtin "sum") by rfl) (aY ha.p bC he) ⋯ ⋯ he cU) (NK MN)⟩
def sortI(ns:O Int):O Int:=ns.mergeSort (λa b=>decide (a<=b))
theorem zX(h1:ms.Perm ns)(h2:ms.Pairwise (·<=·)):ms=sortI ns:=by
 exact List.Perm.eq_of_pairwise (λa b _ _ h h'=>Fv h h') h2 ((EX (λa b c=>by simp;lia) (λa b=>by simp;lia) ns).imp (by simp)) (h1.trans (Cz ns _).symm)
def kf(l:O PV):W (O PV):=.bind (tT l) λns=>.dN (ns.length<64) (.ret ((sortI ns).map PV.int))
def UW(hK:X.K=K)(hg:Gl X "sorted")(hm:X.mg "sorted"=ce)(ha:Io X K fs e wl)(he:‹gK X e []›)(cU:‹jO X pos []›):LF X K fs (.Call (.Name "sorted" p) [e] [] pos) (.bind wl kf):=⟨PE.imp (dX (Kv K hK) hg hm boot_sorted (aY ha.p bC he) ⋯ ⋯ he cU) λσ H Q ⟨sr,q⟩=>⟨sr,wl.mono (λl q1 u1 H1 g1 s1 _ v1=>by
 obtain⟨ns,el,hC,q2⟩:=iV q1;obtain⟨a,vs,rfl,h1,r1⟩:=v1 _ H1 .refl s1;rw[el]at r1;have:=lA r1;subst this;refine⟨a,ns,rfl,h1,hC,λms a2 a3=>?_⟩;rw[zX a2 a3];exact qa g1 s1 (rO _ _ _) q2) q⟩⟩
end
end
end FL
variable{vs:O (L2.Key×L2.V)}{aA:O (L2.Key×PL.PV)}
namespace FL
section
variable[bN]
variable{K:Aa}
abbrev w2(f:PV->PV->W PV)(wa wb:W PV):W PV:=.bind wa λx=>.bind wb λy=>f x y
def ahw(aA:O (Key×PV))(k:Key):Bool:=aA.any λkv=>decide (kv.1=k)
def qO(aA:O (Key×PV))(k:Key):Option PV:=(aA.find? λkv=>decide (kv.1=k)).map (·.2)
def iE(K:Aa)(H:Hp)(vs:O (Key×V))(aA:O (Key×PV)):Prop:=vs.map (·.1)=aA.map (·.1)/\aE K [] H (vs.map (·.2)) (aA.map (·.2))
section
def iE.cons_inv{p:Key×V}{q:Key×PV}(h:iE K H (p::vs) (q::aA)):p.1=q.1/\VR K [] H p.2 q.2/\iE K H vs aA:=by
 obtain⟨h1,h2⟩:=h;injection h1 with a b;cases h2 with
 |cons r t=>exact⟨a,r,b,t⟩
theorem iE.ind{C:O (Key×V)->O (Key×PV)->Prop}(h0:C [] [])(h1:∀p q vs aA,p.1=q.1->VR K [] H p.2 q.2->iE K H vs aA->C vs aA->C (p::vs) (q::aA)):∀{vs aA},iE K H vs aA->C vs aA
 |[],[],_=>h0
 |[],_::_,h=>by simp[iE]at h
 |_::_,[],h=>by simp[iE]at h
 |p::vs,q::aA,h=>let ⟨a,b,c⟩:=h.cons_inv;h1 p q vs aA a b c (iE.ind h0 h1 c)
def iE.has(h:iE K H vs aA)(k:Key):(iG vs k).isSome=ahw aA k:=by
 rw[<- zI];refine iE.ind (C:=λvs aA=>(vs.any λkv=>decide (kv.1=k))=aA.any λkv=>decide (kv.1=k)) rfl (λp q vs aA e _ _ ih=>?_) h;rw[CU,CU,ih,e]
def iE.get(h:iE K H vs aA)(k:Key)(g:qO aA k=am v):∃u,iG vs k=am u/\VR K [] H u v:=by
 refine iE.ind (C:=λvs aA=>qO aA k=am v->∃u,iG vs k=am u/\VR K [] H u v) (λg=>by simp[qO]at g) (λp q vs aA e r _ ih g=>?_) h g;by_cases c:p.1=k
 .rw[jY c];have c':=e▸c;have:qO (q::aA) k=am q.2:=by simp[qO,c']
  rw[this]at g;cases g;exact⟨_,rfl,r⟩
 .rw[jZ c];have:qO (q::aA) k=qO aA k:=by simp[qO,(e▸c)]
  exact ih (this▸g)
end
end
section
variable[bN]
variable{K:Aa}
section
variable{sc:pc}{T2:Type}{wt:PV->W T2}{fs2:T2->aQ}{tf:T2->W Bool}{te:T2->W PV}
def V4(hc:X.calm=true)(hN:X.N.Nodup)(vn:X.N[i]?=am y)(hx:X.env.scope.names.lookup y=am .local)(S:aV X.env.scope X.N sc N' ix)(hi:mB X K fs tg iter wl f1)(hg:∀cl C s2 H2 fp,GF (dF X sc N' cl C s2 H2 fp) K (aW ix f1) tg is wt fs2)(he:∀cl C s2 H2 fp t,EF (dF X sc N' cl C s2 H2 fp) K (fs2 t) Ã (te t))(hl:oJ is (aW ix f1) fs2/\∀t,c6 (fs2 t) (aW ix f1))(nj:∀j∈is,ix[j]?=am ce)(kF:‹pr (.ListComp Ã [⟨tg,iter,[],0⟩] sc pos) (am (.Name y px)) jP.line X.env=pure true›)(hs:oK X iter:=by intro _;rfl):AS X K fs (.Assign [.Name y px] (.ListComp Ã [⟨tg,iter,[],0⟩] sc pos) jP) i (.bind wl λl=>a6 l λp=>.bind (wt p) te) f1:=by
 rw[LD];exact XH (tf:=λ_=>.ret true) hc hN vn hx S hi hg (λ_ _ _ _ _ _=>uh) he (λp=>rfl) hl nj kF hs
def V5(hc:X.calm=true)(hN:X.N.Nodup)(vn:X.N[i]?=am y)(hx:X.env.scope.names.lookup y=am .local)(S:aV X.env.scope X.N sc N' ix)(hi:mB X K fs tg iter wl f1)(hg:∀cl C s2 H2 fp,PG (dF X sc N' cl C s2 H2 fp) tg (d6 j))(he:∀cl C s2 H2 fp t,EF (dF X sc N' cl C s2 H2 fp) K ((aW ix f1).set j (am (.val t))) Ã (f t))(h0:ix[j]?=am ce)(kF:‹pr (.ListComp Ã [⟨tg,iter,[],0⟩] sc pos) (am (.Name y px)) jP.line X.env=pure true›)(hs:oK X iter:=by intro _;rfl):AS X K fs (.Assign [.Name y px] (.ListComp Ã [⟨tg,iter,[],0⟩] sc pos) jP) i (.bind wl λl=>a6 l f) f1:=
 have h1:(aW ix f1)[j]?=am ce:=by unfold aW;rw[Af,h0];rfl
 V4 (wt:=.ret) hc hN vn hx S hi (λcl C s2 H2 fp=>S5 (hg cl C s2 H2 fp)) he (G5 h1) (λm hj=>by rw[Aw]at hj;subst hj;exact h0) kF hs
end
end
end FL
variable{aA:O (O L2.Key×PL.PV)}
namespace FL
section
variable[bN]
variable{K:Aa}
def oM(K:Aa)(H:Hp)(vs:O (O Key×V))(aA:O (O Key×PV)):Prop:=vs.map (·.1)=aA.map (·.1)/\aE K [] H (vs.map (·.2)) (aA.map (·.2))
def Wh(K:Aa)(H:Hp)(ob:HO)(v:PV):Prop:=(∃vs aA,ob=.dK vs/\v=dvK aA/\iE K H vs aA)\/∃vs aA,ob=.dT vs/\v=Sf aA/\oM K H vs aA
def fDv(K:Aa)(fs:aQ)(w:W PV):TE:=λσ H Q=>aR K H σ fs/\w.run λv=>∀a ob H',bZ σ fs H H'->aR K H' σ fs->H a=ce->H' a=am ob->Wh K H' ob v->Q (.ref a) H'
structure DVF(X:Cx)(K:Aa)(fs:aQ)(e:nw)(w:W PV):Prop where p:PE X e (fDv K fs w)
section
variable{σ:L2.St}{fs:aQ}{H:Hp}{a:db}{ob:HO}{v:PV}
def aR.abQ(s:aR K H σ fs)(n:¬bT σ fs a)(e:H a=am ob)(n1:∀vs,ob≠.tup vs)(n2:∀o u,ob≠.bS o u)(n3:ob.ow=true)(o':HO):aR K (upd H a o') σ fs:=⟨s.len,λi t q=>by
 obtain⟨u,h1,h2⟩:=s.at' i t q;exact⟨u,h1,h2.mono (fg o' e n1 n2) (λx b o eb ow hb z _=>by subst eb;rw[aj (λy:b=a=>n ⟨i,t,x,q,ow,h1,y▸hb⟩)];exact z)⟩,s.nd,s.tb.vX (λb o n z=>by rw[aj n];exact z) e (Lr n3) n2⟩
def Wh.bS{X:Cx}{Z:O (db×Obj)}{s:cr}{σ':L2.St}(I:Inv X Z σ' H s)(e:H a=am ob)(d:Wh K H ob v):∃u,Inv X Z σ' (upd H a u) s/\VR K [] (upd H a u) (.ref a) v/\(∀vs,ob≠.tup vs)/\(∀o u,ob≠.bS o u)/\ob.ow=true:=by
 rcases d with⟨vs,aA,rfl,rfl,d1,d2⟩|⟨vs,aA,rfl,rfl,d1,d2⟩
 .obtain⟨o,I2⟩:=I.L4 e;exact⟨_,I2,.dk ay (W4 d1) (aE.tk (fg _ e (by simp) (by simp)) d2),by simp,by simp,rfl⟩
 .obtain⟨o,I2⟩:=I.freeze e;exact⟨_,I2,.dt ay (W3 d1) (aE.tk (fg _ e (by simp) (by simp)) d2),by simp,by simp,rfl⟩
end
section
variable{a c:nw}{w:W PV}
def ahU(h:DVF X K fs e w):EF X K fs e w:=⟨λZ s σ H Q I ⟨sr,q⟩=>by
 refine bU (h.p Z s σ H (λu H1=>∃a ob v,u=.ref a/\bZ σ fs H H1/\aR K H1 σ fs/\H a=ce/\H1 a=am ob/\Wh K H1 ob v/\∀u H',bZ σ fs H H'->aR K H' σ fs->VR K [] H' u v->Q u H') I ⟨sr,w.mono (λv q1 a ob H1 g1 s1 n e d=>⟨a,ob,v,rfl,g1,s1,n,e,d,q1⟩) q⟩) λu s1 ⟨v,H1,I1,r1,a,ob,v',e,g1,PK,n,ea,d,q1⟩=>?_;subst e;obtain⟨o',I2,vr,n1,n2,n3⟩:=d.bS I1 ea;exact⟨.ref a,_,I2,r1,q1 _ _ (g1.side n (λφ z=>by rw[ea]at z;cases z;cases n3) _) (PK.abQ (λz=>sr.noOwn n z) ea n1 n2 n3 _) vr⟩⟩
def Lq(kv:O Key×PV):PV:=.tup [.tup (kv.1.map kP),kv.2]
theorem Rf(H:Hp):∀k:O Key,aE K [] H (k.map kV) (k.map kP)
 |[]=>.nil
 |.inl i::k=>.cons (.int i) (Rf H k)
 |.inr i::k=>.cons (.str i) (Rf H k)
theorem LR:∀{k:O Key}{vs:O V},aE K [] H vs (k.map kP)->vs=k.map kV
 |[],_,h=>by cases h;rfl
 |.inl i::k,_,h=>by
  cases h with
  |cons x t=>cases x;rw[LR t];rfl
 |.inr i::k,_,h=>by
  cases h with
  |cons x t=>cases x;rw[LR t];rfl
theorem GA:∀{aA:O (O Key×PV)}{vs:O V},aE K [] H vs (aA.map Lq)->∃zs:O Pz,vs=zs.map (λz=>V.ref z.pa)/\(∀z∈zs,z.At H)/\zs.map (·.k)=aA.map (·.1)/\aE K [] H (zs.map (·.v)) (aA.map (·.2))
 |[],_,h=>by cases h;exact⟨[],rfl,by simp,rfl,.nil⟩
 |kv::aA,_,h=>by
  cases h with
  |cons x t=>
  obtain⟨zs,z1,z2,z3,z4⟩:=GA t;cases x with
  | @tup p ws _ e r=>
  cases r with
  |cons x1 t1=>
  cases t1 with
  |cons x2 t2=>
  cases t2;cases x1 with
  | @tup b us _ e1 r1=>
  have:=LR r1;subst this;refine⟨⟨p,kv.1,b,_⟩::zs,by rw[Av,z1],λz hz=>?_,by rw[Av,Av,z3],.cons x2 z4⟩;rcases AI.mp hz with rfl|hz
  .exact⟨e,e1⟩
  .exact z2 z hz
def Kn(l:O PV):W PV:=⟨λQ=>∃aA:O (O Key×PV),l=aA.map Lq/\(aA.map (·.1)).Nodup/\aA.length<=1000/\Q (Sf aA),λf q=>q.imp λaA h=>⟨h.1,h.2.1,h.2.2.1,f _ h.2.2.2⟩⟩
theorem VU(hK:X.K=K)(hc:X.calm=true)(hu:X.A.units+200 < ul)(hg:Gl X "dict")(hm:X.mg "dict"=ce)(ha:Io X K fs e wl)(he:‹gK X e []›)(cU:‹jO X pos []›):DVF X K fs (.Call (.Name "dict" p) [e] [] pos) (.bind wl Kn):=⟨PE.imp (k7 (KA K hK hc ∅) hg hm boot_dict (aY ha.p bC he) ⋯ ⋯ he cU) λσ H Q ⟨sr,q⟩=>⟨sr,wl.mono (λl q1 u H1 g1 s1 v0 v1=>by
  obtain⟨aA,rfl,nd,hl,q1⟩:=q1;obtain⟨a,vs,rfl,e3,e4⟩:=v1 _ H1 .refl s1;obtain⟨zs,rfl,z2,z3,z4⟩:=GA e4;have hzl:zs.length=aA.length:=by have:=congrArg Cv z3;simpa using this
  refine⟨a,zs,rfl,e3,z2,by rw[z3];exact nd,by lia,λp H2 s2 h2 n2=>?_⟩;exact q1 _ _ H2 (g1.trans (bZ.same s2)) (s1.same s2) (g1.there _ n2) h2 (.inr ⟨_,_,rfl,rfl,by rw[AO,<- z3];rfl,by rw[AO];exact aE.tk s2.ff z4⟩)) q⟩⟩
def Od{Q:PV->Prop}(nd:(aA.map (·.1)).Nodup)(hl:aA.length<=1000)(q:Q (Sf aA)):(Kn (aA.map Lq)).run Q:=⟨aA,rfl,nd,hl,q⟩
def lQ(aA:O (O Key×PV))(k:O Key):Option PV:=(aA.find? λkv=>decide (kv.1=k)).map (·.2)
theorem oM.get{k:O Key}:∀{vs:O (O Key×V)}{aA:O (O Key×PV)},oM K H vs aA->(lQ aA k=ce->iG vs k=ce)/\∀{v},lQ aA k=am v->∃u,iG vs k=am u/\VR K [] H u v
 |[],[],_=>⟨λ_=>rfl,λg=>by simp[lQ]at g⟩
 |[],_::_,h=>by simp[oM]at h
 |_::_,[],h=>by simp[oM]at h
 |p::vs,q::aA,h=>by
  obtain⟨h1,h2⟩:=h;rw[Av,Av]at h1 h2;injection h1 with e b;cases h2 with
  |cons r t=>
  by_cases c:p.1=k
  .rw[jY c];have c':=e▸c;have:lQ (q::aA) k=am q.2:=by simp[lQ,c']
   rw[this];refine⟨λz=>(by cases z),λ{v} z=>?_⟩;cases z;exact⟨_,rfl,r⟩
  .rw[jZ c];have:lQ (q::aA) k=lQ aA k:=by simp[lQ,(e▸c)]
   rw[this];exact(oM.get ⟨b,t⟩)
def iE.get'{k:Key}:∀{vs:O (Key×V)}{aA:O (Key×PV)},iE K H vs aA->(qO aA k=ce->iG vs k=ce)/\∀{v},qO aA k=am v->∃u,iG vs k=am u/\VR K [] H u v:=λ{vs aA} h=>⟨λz=>by
 have:=h.has k;cases e:iG vs k with
 |none=>rfl
 |some u=>
  rw[e]at this;unfold qO at z;rw[Option.map_eq_none_iff,List.find?_eq_none]at z;obtain⟨x,hx,hx2⟩:=List.any_eq_true.mp this.symm;exact absurd hx2 (z x hx),λz=>h.get k z⟩
def W8(k:Key)(l:O PV):kP k≠.tup l:=by cases k<;>exact PV.noConfusion
def Zv{a b:Key}(h:kP a=kP b):a=b:=by
 cases a<;>cases b<;>simp[kP]at h<;>rw[h]
theorem yp:∀{a b:O Key},a.map kP=b.map kP->a=b
 |[],[],_=>rfl
 |[],_::_,h=>by simp at h
 |_::_,[],h=>by simp at h
 |x::a,y::b,h=>by
  injection h with h1 h2;rw[Zv h1,yp h2]
inductive Il:PV->PV->Option PV->Prop
 |k (aA:List (Key×PV)) (k:Key):aA≠[]->Il (dvK aA) (kP k) (qO aA k)
 |t (aA:List (List Key×PV)) (k:List Key):aA≠[]->Il (Sf aA) (.tup (k.map kP)) (lQ aA k)
def X0{aA:O (Key×PV)}(h0:aA≠[])(h:VR K [] H u (dvK aA)):∃a o vs,u=.ref a/\H a=am (.bS o (.dK vs))/\iE K H vs aA:=by
 have Ü:∀{vs:O (Key×V)}{aA:O (Key×PV)},(aA.map λkv=>kP kv.1)=(vs.map λkv=>kP kv.1)->vs.map (·.1)=aA.map (·.1):=λ{vs aA} e=>by
  have e:(aA.map (·.1)).map kP=(vs.map (·.1)).map kP:=by rw[AO,AO];exact e
  exact(yp e).symm
 cases h with
 | @dk a o vs _ _ e k r=>exact⟨a,o,vs,rfl,e,Ü k,r⟩
 | @dt a o vs _ _ e k r=>
  cases aA with
  |nil=>exact absurd rfl h0
  |cons x l=>cases vs with
   |nil=>simp at k
   |cons y m=>simp at k;exact absurd k.1 (W8 _ _)
def O5(h0:aA≠[])(h:VR K [] H u (Sf aA)):∃a o vs,u=.ref a/\H a=am (.bS o (.dT vs))/\oM K H vs aA:=by
 have Ü:∀{vs:O (O Key×V)}{aA:O (O Key×PV)},(aA.map λkv=>PV.tup (kv.1.map kP))=(vs.map λkv=>PV.tup (kv.1.map kP))->vs.map (·.1)=aA.map (·.1):=λ{vs aA} e=>by
  induction aA generalizing vs with
  |nil=>cases vs with
   |nil=>rfl
   |cons y m=>simp at e
  |cons x l ih=>cases vs with
   |nil=>simp at e
   |cons y m=>
    injection e with e1 e2;injection e1 with e1;rw[Av,Av,yp e1,ih e2]
 cases h with
 | @dt a o vs _ _ e k r=>exact⟨a,o,vs,rfl,e,Ü k,r⟩
 | @dk a o vs _ _ e k r=>
  cases aA with
  |nil=>exact absurd rfl h0
  |cons x l=>cases vs with
   |nil=>simp at k
   |cons y m=>simp at k;exact absurd k.1.symm (W8 _ _)
def Il.ok{z:V}{d y:PV}{r:Option PV}(h:Il d y r)(hu:VR K [] H u d)(hz:VR K [] H z y):∃a o,u=.ref a/\IsD H a/\Wi H a z o/\(r=ce->o=ce)/\∀v,r=am v->∃w,o=am w/\VR K [] H w v:=by
 cases h with
 |k aA k h0=>
  obtain⟨a,o,vs,rfl,e,d⟩:=X0 h0 hu;have ez:z=kV k:=by
   cases k with
   |inl i=>cases hz;rfl
   |inr i=>cases hz;rfl
  subst ez;exact⟨a,iG vs k,rfl,.inl ⟨vs,.inr ⟨o,e⟩⟩,.inl ⟨vs,k,.inr ⟨o,e⟩,rfl,rfl⟩,(iE.get' d).1,λv=>(iE.get' d).2⟩
 |t aA k h0=>
  obtain⟨a,o,vs,rfl,e,d⟩:=O5 h0 hu;cases hz with
  | @tup b us _ e1 r1=>
  have:=LR r1;subst this;exact⟨a,iG vs k,rfl,.inr ⟨vs,.inr ⟨o,e⟩⟩,.inr ⟨vs,k,b,.inr ⟨o,e⟩,rfl,e1,rfl⟩,(oM.get d).1,λv=>(oM.get d).2⟩
def dgW(d y:PV):W PV:=⟨λQ=>∃v,Il d y (am v)/\Q v,λf ⟨v,a,q⟩=>⟨v,a,f _ q⟩⟩
def dgB(a b:W PV):W PV:=.bind a λx=>.bind b λy=>dgW x y
theorem R8(hu:X.A.units+200<ul)(ha:EF X K fs a wa)(hb:EF X K fs b wb)(hs:aay b):EF X K fs (.Subscript a b pos) (dgB wa wb):=⟨PE.imp (Ur ∅ ha.p hb.p hs) λσ H Q ⟨sr,q⟩=>⟨sr,wa.mono (λx q1 u1 H1 g1 s1 v1=>⟨s1,wb.mono (λy q2 u2 H2 g2 s2 v2=>by
 obtain⟨v,g,q2⟩:=q2;obtain⟨a,o,rfl,_,g2',_,h⟩:=g.ok (g2.vr s1 v1) v2;obtain⟨w,rfl,vw⟩:=h v rfl;exact⟨a,w,rfl,g2',q2 _ H2 (g1.trans g2) s2 vw⟩) q1⟩) q⟩⟩
def Mh{k:O Key}{Q:PV->Prop}(h:lQ aA k=am v)(q:Q v):(dgW (Sf aA) (.tup (k.map kP))).run Q:=⟨v,by rw[<- h];exact .t aA k (λz=>by subst z;simp[lQ]at h),q⟩
def Q3(d:PV):W (O PV):=⟨λQ=>∃aA:O (O Key×PV),d=Sf aA/\aA≠[]/\aA.length<=sizeLine/\Q (aA.map λkv=>.tup (kv.1.map kP)),λf q=>q.imp λaA h=>⟨h.1,h.2.1,h.2.2.1,f _ h.2.2.2⟩⟩
theorem Vc(h:EF X K fs e w):mB X K fs tg e (.bind w Q3):=⟨PI.imp (Qk h.p) λσ H R ⟨sr,q⟩=>⟨sr,w.mono (λx q1 u1 H1 g1 s1 v1=>by
 obtain⟨aA,rfl,h0,hl,q1⟩:=q1;obtain⟨a,o,vs,rfl,e,d1,d2⟩:=O5 h0 v1;have len:vs.length=aA.length:=by have:=congrArg Cv d1;simpa using this
 refine⟨a,o,vs,rfl,e,q1 _ H1 g1 s1 ⟨by simpa using hl,λH' t=>?_⟩⟩;have e':=t.z _ _ _ e;refine⟨λi p hp=>?_,vs,e',by simp[len]⟩;rw[Af]at hp;cases z:aA[i]? with
 |none=>rw[z]at hp;cases hp
 |some kv=>
  rw[z]at hp;have hp:=Option.some.inj hp;subst hp;have hi:=(Ai.mp z).1;refine⟨⟨vs,e',by lia⟩,λy H2 yy=>?_⟩;obtain⟨rfl,yy⟩:=yy;obtain⟨b,k,v,rfl,k2,k3⟩:=yy vs e';have ek:k=kv.1:=by
   have h1:(vs.map (·.1))[i]?=am k:=by rw[Af,k2];rfl
   rw[d1,Af,z]at h1;exact(Option.some.inj h1).symm
  subst ek;exact⟨iZ.refl _,.tup k3 (Rf _ _)⟩) q⟩⟩
def Nt{Q:O PV->Prop}(h0:aA≠[])(hl:aA.length<=sizeLine)(q:Q (aA.map λkv=>.tup (kv.1.map kP))):(Q3 (Sf aA)).run Q:=⟨aA,rfl,h0,hl,q⟩
end
end
section
variable[bN]
variable{K:Aa}
mutual
def PV.pd:PV->PyData
 |.aM=>.none
 |.bl b=>.bool b
 |.int i=>.int i
 |.str x=>.str x
 |.tup l=>.tuple (SU l)
 |.cl l=>.list (SU l)
 |_=>.none
def SU:O PV->O PyData
 |[]=>[]
 |x::l=>PV.pd x::SU l
end
section
variable{s:cr}
mutual
theorem VR.reads(I:Inv X Z σ H s):∀{v:V}{x:PV},VR X.K [] H v x->PV.fy x=true->∀{u},RelV v u->∃as,Reads s.heap u (PV.pd x) as
 |_,_,.aM,_,u,r=>by cases r;rw[PV.pd];exact⟨_,.none⟩
 |_,_,.bl b,_,u,r=>by cases r;rw[PV.pd];exact⟨_,.bool b⟩
 |_,_,.int i,_,u,r=>by obtain⟨t,r⟩:=(show ∃t,u=Ei i t from r);cases r;rw[PV.pd];exact⟨_,.int i t⟩
 |_,_,.str i,_,u,r=>by obtain⟨t,r⟩:=(show ∃t,u=Be i t from r);cases r;rw[PV.pd];exact⟨_,.str i t⟩
 |_,_,.ty n,h,_,_=>by rw[PV.fy]at h;cases h
 |_,_,.dk _ _ _,h,_,_=>by rw[PV.fy]at h;cases h
 |_,_,.dt _ _ _,h,_,_=>by rw[PV.fy]at h;cases h
 |_,_,.ob _ _ _ _ _,h,_,_=>by rw[PV.fy]at h;cases h
 |_,_,.hand _,h,_,_=>by rw[PV.fy]at h;cases h
 |_,_,.ref e,h,_,_=>by simp at e
 |_,_,.tup e r,h,u,q=>by
  cases q;obtain⟨aq,rv,⟨o,h1,h2,n,h3⟩,_⟩:=I.tuple (dM.of (K:=X.K) e);obtain⟨as,ra⟩:=aE.reads I r (by rw[PV.fy]at h;exact h) rv;rw[PV.pd];exact⟨as,.tuple h1 h2 h3 (by simpa using ra)⟩
 |_,_,.cl e r,h,u,q=>by
  cases q;obtain⟨aq,rv,⟨o,n,h1,h2,_,h3⟩,_⟩:=I.list e.sq;obtain⟨as,ra⟩:=aE.reads I r (by rw[PV.fy]at h;exact h) rv;rw[PV.pd];exact⟨_,.list h1 h2 h3 (by simpa using ra)⟩
theorem aE.reads(I:Inv X Z σ H s):∀{v:O V}{x:O PV},aE X.K [] H v x->d7 x=true->∀{u},Vals v u->∃as,ReadsAll s.heap u (SU x) as
 |_,_,.nil,_,u,r=>by cases r;rw[SU];exact⟨_,.nil⟩
 |_,_,.cons a t,h,u,r=>by
  rw[d7,A1]at h;cases r with
  |cons r1 r2=>
  obtain⟨as,ra⟩:=VR.reads I a h.1 r1;obtain⟨bs,rb⟩:=aE.reads I t h.2 r2;rw[SU];exact⟨_,.cons ra rb⟩
end
mutual
theorem v8:∀x:PV,(PV.pd x).hasDict=false
 |.aM=>by simp[PV.pd,BL]
 |.bl _=>by simp[PV.pd,BL]
 |.int _=>by simp[PV.pd,BL]
 |.str _=>by simp[PV.pd,BL]
 |.tup l=>by rw[PV.pd,BL];exact mG l
 |.cl l=>by rw[PV.pd,BL];exact mG l
 |.ref _=>by simp[PV.pd,BL]
 |.ty _=>by simp[PV.pd,BL]
 |.dv _ _=>by simp[PV.pd,BL]
 |.ob _ _=>by simp[PV.pd,BL]
 |.hand=>by simp[PV.pd,BL]
theorem mG:∀x:O PV,ED (SU x)=false
 |[]=>by simp[SU,ED]
 |x::l=>by rw[SU,ED,v8 x,mG l];rfl
end
end
def zY(x:PV):Prop:=PV.fy x=true/\(PV.pd x).showable=true/\(PV.pd x).depth<=100/\(PV.pd x).shown.length<=sizeLine
def Wy(x:PV):W PV:=.dN (zY x) (.ret (.str (PV.pd x).shown))
def ajX(x:PV):W PV:=match x with
 |.int i=>.dN (zY x) (.ret (.str (PV.pd x).shown))
 |.tup l=>.dN (zY x) (.ret (.str (PV.pd x).shown))
 |.cl l=>.dN (zY x) (.ret (.str (PV.pd x).shown))
 |_=>.fail
section
variable{a:nw}
def Xa(b:Bool):PV->Prop
 |.int _=>b=true
 |.tup _=>True
 |.cl _=>True
 |_=>False
def ab2(K:Aa)(b:Bool):O V->Hp->VK->Prop:=λxs H Q=>∃v x,xs=[v]/\VR K [] H v x/\zY x/\Xa b x/\Q (.str (PV.pd x).shown) H
theorem Kw(hK:X.K=K)(hg:X.A.guards=am [])(hu:X.A.units+200 < ul):cj X (.builtin "repr") (ab2 K false):=by
 subst hK;intro Z s σ H xs us Q I r ⟨v,x,e,hv,⟨o1,o2,o3,o4⟩,hx,q⟩;subst e;obtain⟨u,rfl,ru⟩:=vals1 r;have rf:∀a,u=.ref a->ga (im X.prog X.w) X.A (call (.builtin "repr") [u]) (EP X Z σ Q) X.xe s:=λa e=>by
  subst e;obtain⟨as,rd⟩:=VR.reads I hv o1 ru;exact repr_of_reads' rd o2 (PyData.noDict_hsm (v8 x)) hg ∅ (λ_ _ e=>e) (λh' u tk hk=>⟨.str _,H,I.kept (t':=tk) hk,⟨_,rfl⟩,q⟩) o4
 cases hv with
 |tup _ _=>exact rf _ ru
 |cl _ _=>exact rf _ ru
 |int _=>cases hx
 |_=>exact hx.elim
def oY(x:PV):W PV:=match x with
 |.tup l=>Wy x
 |.cl l=>Wy x
 |_=>.fail
def yS(hK:X.K=K)(hr:cu k X.A)(hg:Gl X "repr")(hm:X.mg "repr"=ce)(ha:EF X K fs a wa)(he:‹gK X a []›)(cU:‹jO X pos []›):EF X K fs (.Call (.Name "repr" p) [a] [] pos) (.bind wa oY):=
 ⟨PE.imp (dX (Kw hK hr.gd (bI hr)) hg hm boot_repr (aY ha.p bC he) ⋯ ⋯ he cU) λσ H Q ⟨sr,q⟩=>⟨sr,wa.mono (λx q1 u H1 g1 s1 v1=>by
  have h:zY x/\Xa false x/\∀u H',bZ σ fs H H'->aR K H' σ fs->VR K [] H' u (.str (PV.pd x).shown)->Q u H':=by
   cases x with
   |tup l=>exact⟨q1.1,trivial,q1.2⟩
   |cl l=>exact⟨q1.1,trivial,q1.2⟩
   |_=>exact q1.elim
  exact⟨u,x,rfl,v1,h.1,h.2.1,h.2.2 _ H1 g1 s1 (.str _)⟩) q⟩⟩
end
end
end FL
variable{κ:PyProof.Rows.SortKind}{vs:O A8}{p:Array Nat}
namespace L2
def eB(N:Nat)(P:α->Prop):Eg α->Prop
 |.ret a=>P a
 |.ask i j k=>i<N/\j<N/\∀b,eB N P (k b)
theorem eB.mono{N:Nat}{P P':α->Prop}(h:∀a,P a->P' a):∀{t:Eg α},eB N P t->eB N P' t
 |.ret a,q=>h a q
 |.ask i j k,q=>⟨q.1,q.2.1,λb=>eB.mono h (q.2.2 b)⟩
theorem eB.bind{N:Nat}{P:α->Prop}{P':β->Prop}{f:α->Eg β}(hf:∀a,P a->eB N P' (f a)):∀{t:Eg α},eB N P t->eB N P' (t.bind f)
 |.ret a,q=>hf a q
 |.ask i j k,q=>⟨q.1,q.2.1,λb=>eB.bind hf (q.2.2 b)⟩
theorem eB.wp{N:Nat}{P:α->Prop}{cmp:Nat->Nat->(Bool->cr->Prop)->cr->Prop}{Q:α->cr->Prop}{s:cr}(hc:∀i j C,i<N->j<N->(∀b,C b s)->cmp i j C s)(hq:∀a,P a->Q a s):∀{t:Eg α},eB N P t->t.kasWp cmp Q s
 |.ret a,q=>hq a q
 |.ask i j k,q=>hc i j _ q.1 q.2.1 λb=>eB.wp hc hq (q.2.2 b)
def cE(N:Nat)(p:Array Nat):Prop:=p.toList.Perm (Ar N)
def cE.lt{N:Nat}(h:cE N p)(h0:0<N)(k:Nat):p.getD k 0<N:=by
 by_cases c:k<p.size
 .have:p.getD k 0=p[k]:=by simp[c]
  rw[this];exact AQ.mp (h.mem_iff.mp (by simp))
 .have:p.getD k 0=0:=by simp[c]
  rw[this];exact h0
def cE.rev{N:Nat}(h:cE N p)(i j:Nat):cE N (PySem.W.kas_rev p i j):=(Ex.mp (mirror_perm p i j _)).trans h
def cE.bub{N:Nat}(h:cE N p)(i j:Nat):cE N (bubble p i j):=(Ex.mp (bubble_perm p i j)).trans h
section
variable{N:Nat}(h0:0<N)
include h0
theorem Rb(h:cE N p):∀f n,eB N (λ_=>True) (PySem.W.kas_asc p f n)
 |0,n=>trivial
 |f+1,n=>⟨h.lt h0 _,h.lt h0 _,λb=>by
  cases b with
  |true=>exact trivial
  |false=>exact Rb h f (n+1)⟩
theorem yj:∀f (p:Array Nat) n q,cE N p->eB N (λr=>cE N r.1) (PySem.W.kas_desc f p n q)
 |0,p,n,q,h=>h
 |f+1,p,n,q,h=>⟨h.lt h0 _,h.lt h0 _,λb=>by
  cases b with
  |true=>
   split
   .exact yj f _ _ _ (h.rev _ _)
   .exact yj f _ _ _ h
  |false=>exact⟨h.lt h0 _,h.lt h0 _,λb=>by
    cases b with
    |true=>exact h
    |false=>exact yj f _ _ _ h⟩⟩
def Q5{m:Nat}(h:cE N p):eB N (λr=>cE N r.2) (PySem.W.kas_tail3 n m p):=by
 exact eB.bind (P':=λr:Nat×Array Nat=>cE N r.2) (f:=λk=>.ret (k,PySem.W.kas_rev p 0 n)) (λk _=>(h.rev _ _)) (Rb h0 (h.rev _ _) _ _)
def Q8{m:Nat}(h:cE N p):eB N (λr=>cE N r.2) (PySem.W.kas_descPart n m p):=eB.bind (λr hr=>by
 split
 .exact Q5 h0 (hr.rev _ _)
 .exact Q5 h0 hr) (yj h0 _ _ _ _ h)
def U7{m:Nat}(h:cE N p):eB N (λr=>cE N r.2) (PySem.W.kas_count m p):=eB.bind (λn _=>by
 split
 .exact h
 .split
  .exact⟨h.lt h0 _,h.lt h0 _,λb=>by
    cases b with
    |true=>exact h
    |false=>exact Q8 h0 (h.rev _ _)⟩
  .exact Q8 h0 h) (Rb h0 h _ _)
theorem yi(h:cE N p)(k:Nat):∀f l r,eB N (λ_=>True) (PySem.W.kas_place p k f l r)
 |0,l,r=>trivial
 |f+1,l,r=>by
  show eB N _ (if l≥r then _ else _)
  split
  .exact trivial
  .exact⟨h.lt h0 _,h.lt h0 _,λb=>by
    cases b with
    |true=>exact yi h k f _ _
    |false=>exact yi h k f _ _⟩
theorem W6:∀f (p:Array Nat) k,cE N p->eB N (cE N) (PySem.W.kas_bin f p k)
 |0,p,k,h=>h
 |f+1,p,k,h=>eB.bind (λl _=>W6 f _ _ (h.bub _ _)) (yi h0 h k _ _ _)
def Zu:eB N (cE N) (Ge N):=eB.bind (λr hr=>by
 split
 .exact W6 h0 _ _ _ hr
 .exact hr) (U7 h0 (List.Perm.refl _))
end
section
variable{s:cr}
theorem Js{P:PySem.Fin->cr->Prop}(ho:s.heap.get? a=am (ww "list" vs.toArray n))(é:vs.length < 64)(Ķ:2<=vs.length->∀h',(∀b o,b≠a->s.heap.get? b=am o->h'.get? b=am o)->ga (im prog w) A (keyKind' vs.toArray) (λk s'=>k=κ/\s'={s with heap:=h'}) (λ_ _=>False) {s with heap:=h'})(gC:∀h',(∀b o,b≠a->s.heap.get? b=am o->h'.get? b=am o)->∀i j,i < vs.length->j < vs.length->∀C:Bool->cr->Prop,(∀b,C b {s with heap:=h'})->ga (im prog w) A (keyLt' κ (vs.getD i A4) (vs.getD j A4)) C (λ_ _=>False) {s with heap:=h'})(h:∀out:O ci,out.Perm vs->P (.done (.ret .none)) {s with heap:=sortedHeap s.heap a vs out.toArray}):ga (im prog w) A (wS.«list.sort» ⟨[.ref a],[]⟩) P E s:=by
 rw[list_sort_plain];have ha:=Ap ho;refine Ab (listItems_at ho rfl ?_);refine Ab (listUpdate_at ho rfl ?_);obtain⟨e1,ho1⟩:∃e1,(s.heap.update a (Bg λ_=>#[])).get? a=am (ww "list" #[] e1):=⟨_,get?_update_seq ho (λ_=>#[])⟩;refine Ab (seqEpoch_at ho1 rfl ?_);refine Ab (CZ ?_);refine Ab (FW ?_);refine Bn ?_;have đ:(((s.heap.update a (Bg λ_=>#[])).push (ww "tuple" vs.toArray 0)).push (ww "list" #[] 0)).get? a=am (ww "list" #[] e1):=by
  rw[Heap.get?_push_ne _ _ _ (by rw[size_push',EU];exact AB (Cu ha)),Heap.get?_push_ne _ _ _ (by rw[EU];exact AB ha)];exact ho1
 have kp:∀b o,b≠a->s.heap.get? b=am o->(((s.heap.update a (Bg λ_=>#[])).push (ww "tuple" vs.toArray 0)).push (ww "list" #[] 0)).get? b=am o:=λb o n e=>Ae _ (Ae _ (by rw[FU _ _ _ _ n];exact e));dsimp only;have uR:vs.toArray.size=vs.length:=by simp
 by_cases h2:vs.toArray.size<2
 .rw[if_pos h2,if_pos h2];refine Ab (Ag ?_);refine Ab (Ag ?_);dsimp only;refine Ab (seqEpoch_at đ rfl ?_);refine Ab (listUpdate_at đ rfl ?_ (hsz2:=by rw[Array.size_map];show(pairsOf vs).size<=_;rw[pairsOf_size,wT];lia));simp only[bne_self_eq_false,if_false];refine Ag ?_;have e:(arrOf (SortSt.mk' general' (vs.toArray.zip vs.toArray) #[] 7 ce)).map (·.2)=vs.toArray:=by
   apply Array.toList_inj.mp;simp[List.map_snd_zip]
  rw[e];exact h vs (List.Perm.refl _)
 .rw[if_neg h2,if_neg h2];have uS:2<=vs.length:=by lia
  refine Ab (BF (Ķ uS _ kp) (λk s0 hk=>?_) λ_ _ x=>x.elim);obtain⟨rfl,rfl⟩:=hk;have hw:(Ge vs.length).kasWp (PySem.W.kas_ask prog w A k vs) (λp s'=>cE vs.length p/\s'={s with heap:=((s.heap.update a (Bg λ_=>#[])).push (ww "tuple" vs.toArray 0)).push (ww "list" #[] 0)}) {s with heap:=((s.heap.update a (Bg λ_=>#[])).push (ww "tuple" vs.toArray 0)).push (ww "list" #[] 0)}:=
   eB.wp (λi j C hi hj hC=>gC _ kp i j hi hj C hC) (λp hp=>⟨hp,rfl⟩) (Zu (show 0<vs.length by lia))
  refine Ab (BF (PySem.W.kat_run (Q:=λrk s'=>∃p:Array Nat,cE vs.length p/\arrOf rk=p.map (PySem.W.kas_item (vs.toArray.zip vs.toArray))/\failedOf rk=ce/\s'={s with heap:=((s.heap.update a (Bg λ_=>#[])).push (ww "tuple" vs.toArray 0)).push (ww "list" #[] 0)})
   rfl uS é (λp' rk s' a1 a2 a3 a4=>⟨p',a4.1,a2,a3,a4.2⟩) hw) ?_ λ_ _ e=>e)
  rintro⟨⟨⟩,rk⟩ s' ⟨p,hp,har,hf,rfl⟩;have Xg:(p.toList.map λi=>vs.getD i A4).Perm vs:=by
   have e:(Ar vs.length).map (λi=>vs.getD i A4)=vs:=by
    apply B9;intro i;by_cases c:i<vs.length
    .rw[Af,A7 c,Ad c];show am (vs.getD i A4)=_;rw[Ah,Ad c];rfl
    .rw[Br (by simp;lia),Br ∅]
   have:=hp.map (λi=>vs.getD i A4);rw[e]at this;exact this
  rw[(PySem.W.kat_snds rfl har)];refine Ab (seqEpoch_at đ rfl ?_);refine Ab (listUpdate_at đ rfl ?_ (hsz2:=by rw[An,Xg.length_eq,wT];lia));rw[hf];simp only[bne_self_eq_false,AM,if_false];exact Ag (h _ Xg)
def TL{l:db}(hl:s.heap.IsList l vs.toArray)(é:vs.length < 64)(Ķ:2<=vs.length->∀h',(∀b o,s.heap.get? b=am o->h'.get? b=am o)->ga (im prog w) A.in1.in1 (keyKind' vs.toArray) (λk s'=>k=κ/\s'={s with heap:=h'}) (λ_ _=>False) {s with heap:=h'})(gC:∀h',(∀b o,s.heap.get? b=am o->h'.get? b=am o)->∀i j,i < vs.length->j < vs.length->∀C:Bool->cr->Prop,(∀b,C b {s with heap:=h'})->ga (im prog w) A.in1.in1 (keyLt' κ (vs.getD i A4) (vs.getD j A4)) C (λ_ _=>False) {s with heap:=h'})(h:∀out:O ci,out.Perm vs->Q (.ref (s.heap.objs.size+1)) {s with heap:=sortedAll s.heap vs out.toArray}):ga (im prog w) A (call (.builtin "sorted") [.ref l]) Q E s:=by
 refine Ey kind_sorted plain_sorted entry_sorted (args_sorted1 _) ?_;refine Ab (Ag ?_);refine Ab (collect_list hl ?_);refine Ab (FW ?_);have uR:((s.heap.push (ww "list" #[] 0)).update s.heap.objs.size (Bg (·++vs.toArray))).objs.size=s.heap.objs.size+1:=by
  rw[EU,size_push']
 have Xh:(((s.heap.push (ww "list" #[] 0)).update s.heap.objs.size (Bg (·++vs.toArray))).push (ww "list" vs.toArray 0)).get? (s.heap.objs.size+1)=am (ww "list" vs.toArray 0):=by
  rw[<- uR];exact Am _ rfl
 have kp:∀b o,s.heap.get? b=am o->b≠s.heap.objs.size+1/\(((s.heap.push (ww "list" #[] 0)).update s.heap.objs.size (Bg (·++vs.toArray))).push (ww "list" vs.toArray 0)).get? b=am o:=λb o e=>by
  have lt:=Ap e;refine⟨AB (Cu lt),Ae _ ?_⟩;rw[FU _ _ _ _ (AB lt)];exact Ae _ e
 rw[uR];refine Ab (Bn (Bo slot_list_sort ⟨_,Xh,rfl⟩ entry_list_sort (Js (κ:=κ) Xh é (λh2 h' k=>?_) (λh' k=>?_) λout hp=>⟨_,rfl,?_⟩) (args_list_sort _)))
 .exact Ķ h2 h' λb o e=>k b o (kp b o e).1 (kp b o e).2
 .exact gC h' λb o e=>k b o (kp b o e).1 (kp b o e).2
 .exact Ag ⟨_,rfl,h out hp⟩
end
end L2
variable{b:A9}{i j:Int}{t t1:Gh}{p:Cg}
namespace FL
section
variable[bN]
variable{K:Aa}
def pH:PV->Bool
 |.tup [.str _,.tup [.int _,.int _]]=>true
 |_=>false
def JO(h:pH x=true):∃s i j,x=.tup [.str s,.tup [.int i,.int j]]:=by
 unfold pH at h
 split at h
 .exact⟨_,_,_,rfl⟩
 .cases h
section
variable{s:cr}
def VP(I:Inv X Z σ H s){v:V}{u:ci}(hv:VR X.K [] H v x)(ru:RelV v u)(hx:pH x=true):∃(a b:db) (st:Str) (i j:Int) (t t1 t2:Tok) (oa ob:Obj) (na nb:Nat),u=.ref a/\s.heap.get? a=am oa/\oa.cls=.type "tuple"/\oa.data=.seq #[.str st t,.ref b] na/\s.heap.get? b=am ob/\ob.cls=.type "tuple"/\ob.data=.seq #[.int i t1,.int j t2] nb:=by
 obtain⟨st,i,j,rfl⟩:=JO hx;cases hv with
 | @tup p vs _ e r=>
 cases ru;cases r with
 |cons r1 r2=>
 cases r1;cases r2 with
 |cons r2 r3=>
 cases r3;cases r2 with
 | @tup b ws _ e2 r4=>
 cases r4 with
 |cons r4 r5=>
 cases r4;cases r5 with
 |cons r5 r6=>
 cases r6;cases r5;obtain⟨aq,rv,⟨o,h1,h2,n,h3⟩,_⟩:=I.tuple (dM.of e);obtain⟨cT,rv2,⟨o2,k1,k2,n2,k3⟩,_⟩:=I.tuple (dM.of e2);cases rv with
 |cons q1 q2=>
 cases q2 with
 |cons q2 q3=>
 cases q3;cases rv2 with
 |cons m1 m2=>
 cases m2 with
 |cons m2 m3=>
 cases m3;obtain⟨t,rfl⟩:=q1;cases q2;obtain⟨t1,rfl⟩:=m1;obtain⟨t2,rfl⟩:=m2;exact⟨p,b,st,i,j,t,t1,t2,o,o2,n,n2,rfl,h1,h2,h3,k1,k2,k3⟩
end
theorem VN{s:cr}{a' b':db}{st rk:Str}{i' j':Int}{t2 t' í ì:Tok}{oa WI ó:Obj}{na nb Ċ ß:Nat}(hu:A.units+1 < ul)(h1:s.heap.get? a=am oa)(h3:oa.data=.seq #[.str st t,.ref b] na)(k1:s.heap.get? b=am ob)(k2:ob.cls=.type "tuple")(k3:ob.data=.seq #[.int i t1,.int j t2] nb)(fZ:s.heap.get? a'=am WI)(Rx:WI.data=.seq #[.str rk t',.ref b'] Ċ)(Ħ:s.heap.get? b'=am ó)(ĥ:ó.cls=.type "tuple")(Ĥ:ó.data=.seq #[.int i' í,.int j' ì] ß){C:Bool->cr->Prop}(hC:∀b,C b s):ga (im prog w) A (keyLt' (tuples' true) (.ref a) (.ref a')) C (λ_ _=>False) s:=by
 refine PySem.W.kat_lt h1 h3 fZ Rx (PySem.W.kat_cons (DR.str_str st t rk t' prog w _ _ (PySem.W.kat_go (λ_=>PySem.W.kat_yes ?_) λ_=>PySem.W.kat_no ?_)))
 .have hT:s.heap.IsTuple b #[.int i t1,.int j t2]:=⟨ob,k1,k2,nb,k3⟩;have ĕ:s.heap.IsTuple b' #[.int i' í,.int j' ì]:=⟨ó,Ħ,ĥ,ß,Ĥ⟩;have go:∀e,PySem.W.KatGo prog w A true (decide ((#[Be st t,.ref b]:Array ci).size<(#[Be rk t',.ref b']:Array ci).size)) C (.ref b) (.ref b') [] 1 e s:=λe=>PySem.W.kat_go (λ_=>PySem.W.kat_yes (PySem.W.kat_nil (hC _))) λ_=>PySem.W.kat_no (PySem.W.kat_one _ _ (HT.Jq hT ĕ (.cons i t1 (.cons j t2 .nil)) (.cons i' í (.cons j' ì .nil)) ∅ (hC _)));by_cases c:b=b'
  .subst c;exact Gj (.ref b) prog w _ _ (go _)
  .refine F3 c (F6 (e:=λk=>if k=0 then i==i' else j==j') hT ĕ ∅ λk g1 g2=>?_) prog w _ _ (go _);have:k=0\/k=1:=by simp at g1;lia
   rcases this with rfl|rfl
   .exact El i t1 i' í
   .exact El j t2 j' ì
 .exact oneLt_str (hC _)
section
def YC(K:Aa):O V->Hp->VK->Prop:=λxs H Q=>∃(p:db) (vs:O V) (l:O PV),xs=[.ref p]/\b9 K H p vs/\aE K [] H vs l/\l.length<64/\l.all pH=true/\∀m:O PV,m.Perm l->∀ws,aE K [] H ws m->gL H (.lst ws) Q
def Ql{vs:O V}{out:O ci}{l:O PV}(r:Vals vs us)(v:aE K [] H vs l)(p:out.Perm us):∃ws m,Vals ws out/\aE K [] H ws m/\m.Perm l:=by
 induction p generalizing vs l with
 |nil=>cases r;cases v;exact⟨[],[],.nil,.nil,.refl _⟩
 |cons x p ih=>
  cases r with
  |cons r1 r2=>
  cases v with
  |cons v1 v2=>
  obtain⟨ws,m,a,b,c⟩:=ih r2 v2;exact⟨_::ws,_::m,.cons r1 a,.cons v1 b,.cons _ c⟩
 |swap x y l'=>
  cases r with
  |cons r1 r2=>
  cases r2 with
  |cons r2 r3=>
  cases v with
  |cons v1 v2=>
  cases v2 with
  |cons v2 v3=>exact⟨_::_::_,_::_::_,.cons r2 (.cons r1 r3),.cons v2 (.cons v1 v3),.swap _ _ _⟩
 |trans p1 p2 LW JP=>
  obtain⟨ws,m,a,b,c⟩:=JP r v;obtain⟨uY,m',a',b',c'⟩:=LW a b;exact⟨uY,m',a',b',c'.trans c⟩
theorem Ku(hK:X.K=K)(hu:X.A.units+200 < ul):cj X (.builtin "sorted") (YC K):=by
 subst hK;intro Z s σ H xs us Q I r h;obtain⟨p,vs,l,rfl,hq,hv,é,hd,q⟩:=h;obtain⟨u,rfl,rx⟩:=vals1 r;cases rx;obtain⟨aq,r',pl,hz⟩:=I.list hq;have hl:=r'.length;have Xi:=hv.length;have el:∀i,i < aq.length->∃(a b:db) (st:Str) (i1 j1:Int) (t t1 t2:Tok) (oa ob:Obj) (na nb:Nat),aq.getD i A4=.ref a/\s.heap.get? a=am oa/\oa.cls=.type "tuple"/\oa.data=.seq #[.str st t,.ref b] na/\s.heap.get? b=am ob/\ob.cls=.type "tuple"/\ob.data=.seq #[.int i1 t1,.int j1 t2] nb:=λi hi=>by
  have e1:vs[i]?=am vs[i]:=Ad ∅;obtain⟨x,ex,vx⟩:=hv.adt e1;have ru:RelV vs[i] (aq.getD i A4):=by
   obtain⟨u,hu1,hu2⟩:=Vals.get r' e1;rw[Ah,hu1];exact hu2
  exact VP I vx ru (C7.mp hd x (AU ex))
 refine TL (κ:=tuples' true) pl.isList ∅ (λh2 h' kp=>?_) (λh' kp i j hi hj C hC=>?_) λout hp=>?_
 .have Ý:∀l:O ci,(∀v∈l,∃(a:db) (x:ci) (st:Str) (t:Tok) (oa:Obj) (na:Nat),v=.ref a/\h'.get? a=am oa/\oa.cls=.type "tuple"/\oa.data=.seq #[.str st t,x] na)->∃fs,PySem.W.KatTups h' l fs/\fs.length=l.length/\∀v∈fs,∃st t,v=Be st t:=by
   intro l
   induction l with
   |nil=>intro _;exact⟨[],trivial,rfl,by simp⟩
   |cons v l ih=>
    intro hl;obtain⟨fs,f1,f2,f3⟩:=ih λy hy=>hl y (.tail _ hy);obtain⟨a,x,st,t,oa,na,rfl,g1,g2,g3⟩:=hl v (.head _);refine⟨.str st t::fs,PySem.W.KatTups.cons g1 g2 g3 rfl f1,by simp[f2],λy hy=>?_⟩;rcases AI.mp hy with rfl|hy
    .exact⟨st,t,rfl⟩
    .exact f3 y hy
  obtain⟨fs,f1,f2,f3⟩:=Ý aq λv hv=>by
   obtain⟨i,hi,rfl⟩:=Ed hv;obtain⟨a,b,st,i1,j1,t,t1,t2,oa,ob,na,nb,e,h1,h2,h3,_⟩:=el i hi;rw[Ah,Ad hi]at e;exact⟨a,.ref b,st,t,oa,na,e,kp _ _ h1,h2,h3⟩
  refine PySem.W.kat_kind (T:=.type "str") f1 ∅ (λv hv=>?_) ⋯ ⟨rfl,rfl⟩;obtain⟨st,t,rfl⟩:=f3 v hv;exact PySem.W.Looks.now
 .obtain⟨a,b,st,i1,j1,t,t1,t2,oa,ob,na,nb,e,h1,h2,h3,k1,k2,k3⟩:=el i hi;obtain⟨a',b',rk,i1',j1',t',í,ì,WI,ó,Ċ,ß,e',fZ,uS,Rx,Ħ,ĥ,Ĥ⟩:=el j hj;rw[e,e'];exact VN (by show X.A.units+1+1+1<_;lia) (kp _ _ h1) h3 (kp _ _ k1) k2 k3 (kp _ _ fZ) Rx (kp _ _ Ħ) ĥ Ĥ hC
 .obtain⟨ws,m,a1,a2,a3⟩:=Ql r' hv hp;obtain⟨e,he⟩:=sortedAll_at s.heap aq out.toArray;refine⟨.ref (s.heap.objs.size+1),_,I.laid (λ_ _=>sortedAll_old) (Dn _) (show bE X.prog X.w _ _ _ (.lst ws) from⟨?_,out,e,a1,he⟩),rfl,(q m a3 ws a2).at _ (I.br.fresh (Dn _))⟩;rw[a2.length,a3.length_eq];rw[<- Xi];exact hz
def Pu(l:O PV):W (O PV):=.dN (l.length<64/\l.all pH=true) (.any λm=>m.Perm l)
def UU(hK:X.K=K)(hu:X.A.units+200 < ul)(hg:Gl X "sorted")(hm:X.mg "sorted"=ce)(ha:Io X K fs e wl)(he:‹gK X e []›)(cU:‹jO X pos []›):LF X K fs (.Call (.Name "sorted" p) [e] [] pos) (.bind wl Pu):=
 ⟨PE.imp (dX (Ku hK hu) hg hm boot_sorted (aY ha.p bC he) ⋯ ⋯ he cU) λσ H Q ⟨sr,q⟩=>⟨sr,wl.mono (λl q1 u1 H1 g1 s1 _ v1=>by
  obtain⟨⟨c1,c2⟩,q2⟩:=q1;obtain⟨a,vs,rfl,h1,r1⟩:=v1 _ H1 .refl s1;exact⟨a,vs,l,rfl,h1,r1,c1,c2,λm hm ws hw=>qa g1 s1 hw (q2 m hm)⟩) q⟩⟩
end
end
end FL
variable{x z:BR}{ts:O BR}{t3:Gh}
namespace FL
section
variable[bN]
variable{K:Aa}
structure SD(K:Aa)(a:db)(ts:List Str):Prop where
 ex:∃(o:Obj) (aq:Array ci) (n:Nat),K.lookup a=am o/\o.cls=.type "tuple"/\o.data=.seq aq n/\aq.size<=sizeLine/\Vals (ts.map V.str) aq.toList
 tn:∃o:Obj,K.lookup a=am o/\o.cls=.type "tuple"/\o.dict=ce
def tup3K{t2:Tok}(h:K.lookup a=am ⟨.type "tuple",ce,.seq #[.str x t1,.str y t2,.str z t3] n,Qt⟩):SD K a [x,y,z]:=⟨⟨_,_,_,h,rfl,rfl,bO (by show 3<=_;decide),.cons ⟨_,rfl⟩ (.cons ⟨_,rfl⟩ (.cons ⟨_,rfl⟩ .nil))⟩,_,h,rfl,rfl⟩
section
theorem K9(H:Hp):∀ts:O Str,aE K [] H (ts.map V.str) (ts.map PV.str)
 |[]=>.nil
 |t::ts=>.cons (.str t) (K9 H ts)
end
section
variable{a:nw}
def abx(hK:X.K=K)(hu:X.A.units+200<ul){ad:db}(ha:EF X K fs a wa)(hm:X.mg x=am (.ref ad))(T:SD K ad ts)(hg:‹Gl X x›)(hd: ~~~(gq x))(hk:‹tz .In (.Name x p)=false›):TF X K fs (.Compare a [.In] [.Name x p] pos) (.bind wa λv=>qL false v (ts.map PV.str)):=⟨PT.imp (gR (Qu K hK hu) ha.p (rC hg hm (v:=.ref ad) rfl hd) hk) λσ H Q ⟨sr,q⟩=>⟨sr,wa.mono (λv q1 u1 H1 g1 s1 v1=>⟨ad,_,_,v,rfl,.inr (.inr T.ex),K9 H1 ts,v1,q1.1,_,rfl,q1.2 H1 g1 s1⟩) q⟩⟩
end
end
end FL
variable{kp cp:Cg}{kc:Nat}
namespace L2
section
variable{R:Result->cr->Prop}{I S:db}{wr:O db}{P:Nat->ci->Prop}{St:Nat->r9->Prop}
abbrev dfN:O (Str×ci):=[(C3 "default",.none)]
abbrev aeh(l:O ci)(c:Nat):Obj:={cls:=.type "list",dict:=ce,data:=.seq l.toArray c,slots:=#[]}
def Vv{n:Nat}(h:n<=2):n<=sizeLine:=Ax h ⋯
theorem Nk(W:Walks prog w A.in1 I fp wr n P St)(bt:Nat->Nat->Bool)(aht:CmpOf prog w A.in1 .Lt P bt)(hSf:S∉fp):∀(k j:Nat) (s:cr) (l:O ci) (c:Nat),n-j=k->j<=n->St j s.heap->(j=0/\l=[]\/∃i v,j=i+1/\l=[v,v]/\P (argBest bt i) v)->s.heap.get? S=am (aeh l c)->(∀v h' tk,(n=0/\v=.none\/0 < n/\P (argBest bt (n-1)) v)->(∀b o,b∉wr->b≠S->s.heap.get? b=am o->h'.get? b=am o)->R (.ok (.ret v)) {s with heap:=h',toks:=tk})->Fk (im prog w) A (.builtin "min.loop" ⟨[.ref I,.none,.ref S],dfN⟩) R s:=by
 have hSw:S∉wr:=λh=>hSf (W.sub _ h);have hn:(toString "min"++toString ".loop")="min.loop":=by decide
 intro k
 induction k with
 |zero=>
  intro j s l c hk hj tV hl hS hR;have e:j=n:=by lia
  subst e;refine u8 F.entry_min_loop ?_;refine Ab (Bv hS rfl (Ab (Eo (W.done s _ _ tV λh' tk OQ=>?_))));have ZZ:=OQ S _ hSw hS;rcases hl with⟨e0,rfl⟩|⟨i,v,rfl,rfl,hv⟩
  .exact Ab (Dl (Ag (hR _ h' tk (.inl ⟨e0,rfl⟩) λb o hb _ z=>OQ b o hb z)))
  .exact Ab (CO ZZ rfl (Ab (CJ (Ag (hR v _ tk (.inr ⟨Nat.succ_pos _,hv⟩) λb o hb Rv z=>(BC _ _ (BQ Rv)).trans (OQ b o hb z))))) (Vv (Al _)) (Bc _))
 |succ k ih=>
  intro j s l c hk hj tV hl hS hR;have gC:j<n:=by lia
  refine u8 F.entry_min_loop ?_;rw[FJ C4 _];refine Ab (Bv hS rfl (Ab (Eo (W.item j s _ _ gC tV λv h' tk hP ac7 OQ=>?_))));have ZZ:=OQ S _ hSw hS;have W5:∀f b o,b∉wr->b≠S->s.heap.get? b=am o->(h'.update S f).get? b=am o:=λf b o hb Rv z=>(BC _ _ (BQ Rv)).trans (OQ b o hb z);have frU:∀(f:Obj->Obj),St (j+1) (h'.update S f):=λf=>W.frame _ _ _ ac7 λb hbf o e=>(BC _ _ (λh:S=b=>hSf (by rw[h];exact hbf))).trans e;refine Ab (Ag ?_);rcases hl with⟨rfl,rfl⟩|⟨i,vb,rfl,rfl,hb⟩
  .refine Ab (CO ZZ rfl ?_ (Bc _) (Nat.le_succ_of_le (Vv (Al _))));rw[hn];refine Ag ⟨wf C4 _,ih 1 _ [v,v] _ ∅ gC (frU _) (.inr ⟨0,v,rfl,rfl,hP⟩) (BH _ ZZ rfl) λv' h2 ë Ā û=>?_⟩;exact hR v' h2 ë Ā λb o hb Rv z=>û b o hb Rv (W5 _ b o hb Rv z)
  .refine Ab (Eo (Bn (Ab (aht (i+1) (argBest bt i) v vb _ _ _ hP hb ?_))));refine Ab (Bn (Dw (Ab (CJ (Ag ?_)))));cases hbt:bt (i+1) (argBest bt i) with
   |true=>
    refine Ab (CO ZZ rfl (Ab (CJ ?_)) (Vv (Al _)) (Nat.le_succ_of_le (Vv (Al _))));refine Ag ⟨wf C4 _,ih (i+2) _ [v,v] _ ∅ gC (frU _) (.inr ⟨i+1,v,rfl,rfl,by simp only[argBest,hbt];exact hP⟩) (BH _ ZZ rfl) λv' h2 ë Ā û=>?_⟩;exact hR v' h2 ë Ā λb o hb Rv z=>û b o hb Rv (W5 _ b o hb Rv z)
   |false=>
    refine Ab (CJ ?_);rw[hn];exact Ag ⟨wf C4 _,ih (i+2) _ [vb,vb] c ∅ gC ac7 (.inr ⟨i+1,vb,rfl,rfl,by simp only[argBest,hbt];exact hb⟩) ZZ λv' h2 ë Ā û=>hR v' h2 ë Ā λb o hb Rv z=>û b o hb Rv (OQ b o hb z)⟩
variable{s:cr}
def Ow(a:ci):argsOk "min" ⟨[a],dfN⟩:=by unfold argsOk;kernel_rfl
def UO(ns:O Int)(t:Tok):ci:=if ns=[] then .none else .int (xQ ns) t
theorem Jl{l:db}(hh:A.handled=ce)(hl:s.heap.IsList l vs.toArray)(hi:xL vs ns)(h:∀(h':r9) (t:Tok) tk,(∀b o,s.heap.get? b=am o->h'.get? b=am o)->Q (UO ns t) {s with heap:=h',toks:=tk}):ga (im prog w) A (call (.builtin "min") [.ref l] dfN) Q E s:=by
 obtain⟨xs,e⟩:=hi.allInts.items;have NR:ns=xs.toList.map (·.1):=by rw[<- hi.numsOf,<- nums_intItems,<- e]
 rw[e]at hl;have hn:(toString "min"++toString ".loop")="min.loop":=by decide
 refine kmb_tree F.kind_min F.plain_min F.entry_min (Ow _) ?_;refine Ab (CH (rfl) ?_);refine Ab (Ag ?_);refine Ab (iter_intList hl λs₂ e2 st hfp hlI=>?_);subst e2;refine Ab (Bb ?_);rw[hn];have W:=Walks.list (A:=A.in1) (prog:=prog) (w:=w) hh s.heap.objs.size l hlI (intItems xs);have uR:(intItems xs).size=ns.length:=by rw[NR];simp[intItems]
 refine Ag ⟨wf C4 _,Nk W _ (CmpOf.ints_lt (numAt xs) (λ_ _=>intItems_at)) (λhm=>AR _ (hfp _ hm)) _ 0 _ [] 0 rfl (Bc _) (W.frame _ _ _ st λb _ o e=>Ae _ e) (.inl ⟨rfl,rfl⟩) (Am _ rfl) λv h' tk hP hk=>?_⟩;have kp:∀b o,s.heap.get? b=am o->h'.get? b=am o:=λb o z=>by
  have h1:=Ap z;refine hk b o (λy=>AB h1 (Aw.mp y)) (λy=>?_) (Ae _ (Ae _ z));rw[y,Bm]at h1;exact absurd h1 (Nat.not_lt_of_le (Dn _))
 rcases hP with⟨h0,rfl⟩|⟨h0,hP⟩
 .have e0:ns=[]:=B7 ∅;have:=h h' 0 tk kp;rw[UO,if_pos e0]at this;exact this
 .obtain⟨t,rfl⟩:=intItems_at hP;have e0:ns≠[]:=λz=>by rw[uR,z]at h0;exact AR _ h0
  have h2:=h h' t tk kp;rw[UO,if_neg e0,<- UP NR e0]at h2;have ez:(intItems xs).size=xs.size:=by simp[intItems]
  rw[ez];exact h2
end
def ab5(K:Aa):O V->Hp->VK->Prop:=λxs H Q=>∃(p:db) (ns:O Int),xs=[.ref p]/\b9 K H p (ns.map V.int)/\Q (if ns=[] then .aM else .int (xQ ns)) H
def Uo{t:TA}(K:Aa)(hK:X.K=K)(hc:X.calm=true)(hg:Gl X "min")(hm:X.mg "min"=ce)(ha:PA X [e] t)(he:BT pos (lm [e] X.env)=(false,o0 e X.env)::BT pos (lm [] X.env))(hp:(BT pos (lm [e] X.env)).any (·.1)=false):PE X (.Call (.Name "min" p) [e] [⟨am (C3 "default"),.Constant .none kc cp,kp⟩] pos) (λσ H Q=>t σ H λvs H'=>ab5 K vs H' Q):=by
 subst hK;intro Z s σ H Q I h;refine Bl (fx I hg hm boot_min ?_ ⋯ ⋯);refine callWith_kw (bU (ha pos Z s σ H _ I h) λus s1 ⟨vs,H1,I1,r1,q1⟩=>?_) he hp;refine kws_cons (bU (Qn Z s1 σ H1 (λv H2=>v=.aM/\H2=H1) I1 ⟨rfl,rfl⟩) λv s2 ⟨x,H2,I2,r2,e1,e2⟩=>kws_nil ?_);subst e1 e2;cases r2;obtain⟨a,ns,rfl,hq,q⟩:=q1;obtain⟨u,rfl,rx⟩:=vals1 r1;cases rx;obtain⟨aq,r',pl,hz⟩:=I2.list hq;refine Jl (I2.ok.hd hc) pl.isList (intsAre_of r') λh' t tk hk=>?_;unfold UO;by_cases c:ns=[]
 .rw[if_pos c]at q ⊢;exact⟨.aM,_,I2.kept hk,rfl,q⟩
 .rw[if_neg c]at q ⊢;exact⟨.int _,_,I2.kept (t':=tk) hk,⟨t,rfl⟩,q⟩
end L2
namespace FL
section
variable[bN]
def LB(l:O PV):W PV:=.bind (tT l) λns=>.ret (if ns=[] then .aM else .int (xQ ns))
def aaf{K:Aa}(hK:X.K=K)(hc:X.calm=true)(hg:Gl X "min")(hm:X.mg "min"=ce)(ha:Io X K fs e wl)(hs:‹gK X e []›)(he:‹BT pos (lm [e] X.env)=(false,o0 e X.env)::BT pos (lm [] X.env)›)(hp:‹(BT pos (lm [e] X.env)).any (·.1)=false›):EF X K fs (.Call (.Name "min" p) [e] [⟨am (C3 "default"),.Constant .none kc cp,kp⟩] pos) (.bind wl LB):=⟨PE.imp (Uo K hK hc hg hm (aY ha.p bC hs) he hp) λσ H Q ⟨sr,q⟩=>⟨sr,wl.mono (λl q1 u1 H1 g1 s1 _ v1=>by
 obtain⟨ns,el,q2⟩:=iV q1;obtain⟨a,vs,rfl,h1,r1⟩:=v1 _ H1 .refl s1;rw[el]at r1;have:=lA r1;subst this;refine⟨a,ns,rfl,h1,?_⟩;by_cases c:ns=[]
 .simp only[if_pos c]at q2 ⊢;exact q2 _ H1 g1 s1 .aM
 .simp only[if_neg c]at q2 ⊢;exact q2 _ H1 g1 s1 (.int _)) q⟩⟩
end
end FL
variable{q:BR}
namespace L2
def ix3(x y z q:Str):Nat:=if x=q then 0 else if y=q then 1 else 2
def pe{t2:Tok}:Meets (wS.«tuple.index» ⟨[.ref a,.str q t],[]⟩) (λ_ R s=>(∃o,s.heap.get? a=am o/\o.data=.seq #[.str x t1,.str y t2,.str z t3] n)/\q∈[x,y,z]/\∀u,R (.ok (.ret (.int (ix3 x y z q:Nat) u))) {s with toks:=s.toks+1}):=by
 refine .of_wp λprog w A R s ⟨⟨o,ho,hd⟩,hq,h⟩=>?_;refine Ab (Ag ?_);refine Ab (Ab (Bv ho hd (Ag ?_)));refine Ab (Ag ?_);refine Ab (Ag ?_);refine Ab ?_;rw[Std.Legacy.Range.forIn_eq_forIn_range'];rw[show List.range' [:min #[Be x t1,Be y t2,Be z t3].size #[Be x t1,Be y t2,Be z t3].size].start [:min #[Be x t1,Be y t2,Be z t3].size #[Be x t1,Be y t2,Be z t3].size].size [:min #[Be x t1,Be y t2,Be z t3].size #[Be x t1,Be y t2,Be z t3].size].step=[0,1,2] from by simp;decide];refine Ab (Ab (DU ?_));have Ð:∀k:Nat,ix3 x y z q=k->∃v,FH (.ret (.int k s.toks))=FH (.ret v)/\R (.ok (.ret v)) {s with toks:=s.toks+1}:=λk e=>⟨_,rfl,by have:=h s.toks;rw[e]at this;exact this⟩;by_cases c1:x=q
 .subst c1;rw[decide_eq_true rfl,if_pos rfl];exact Ab (Ab (Ab (wpAny_fresh (Ag (Ag (Ag (Ag (Ag (Ð 0 (if_pos rfl))))))))))
 .rw[decide_eq_false c1,if_neg ⋯];refine Ag (Ab (Ab (DU ?_)));by_cases c2:y=q
  .subst c2;rw[decide_eq_true rfl,if_pos rfl];exact Ab (Ab (Ab (wpAny_fresh (Ag (Ag (Ag (Ag (Ag (Ð 1 (by rw[ix3,if_neg c1,if_pos rfl]))))))))))
  .rw[decide_eq_false c2,if_neg ⋯];refine Ag (Ab (Ab (DU ?_)));have c3:z=q:=by simp at hq;rcases hq with e|e|e<;>first|exact absurd e.symm c1|exact absurd e.symm c2|exact e.symm
   subst c3;rw[decide_eq_true rfl,if_pos rfl];exact Ab (Ab (Ab (wpAny_fresh (Ag (Ag (Ag (Ag (Ag (Ð 2 (by rw[ix3,if_neg c1,if_neg c2]))))))))))
def aca(K:Aa):V->O V->Hp->VK->Prop:=λv vs H Q=>∃a x y z q,v=.ref a/\vs=[.str q]/\dM K H a [.str x,.str y,.str z]/\q∈[x,y,z]/\Q (.int (ix3 x y z q:Nat)) H
def UM(K:Aa)(hK:X.K=K):Mz X "tuple.index" (aca K):=by
 subst hK;intro Z s σ H v vs u us Q I rx rv h;obtain⟨a,x,y,z,q,rfl,rfl,hq,hm,qq⟩:=h;cases rx;obtain⟨u,rfl,ru⟩:=rv.one;obtain⟨t,rfl⟩:=ru;obtain⟨aq,r,pl,hz⟩:=I.tuple hq;obtain⟨o,ho,hc,n,hd⟩:=pl;cases r with
 |cons q1 r=>cases r with
  |cons q2 r=>cases r with
   |cons q3 r=>
    cases r;obtain⟨t1,rfl⟩:=q1;obtain⟨t2,rfl⟩:=q2;obtain⟨t3,rfl⟩:=q3;exact wE F.slot_tuple_index ⟨_,ho,hc⟩ F.entry_tuple_index (F.args_tuple_index_2 _ _) pe ⟨⟨_,ho,hd⟩,hm,λu=>⟨.int _,H,I.tok _,⟨u,rfl⟩,qq⟩⟩
end L2
namespace FL
section
variable[bN]
def Ro(ts:O Str):PV->W PV
 |.str q=>match ts with
  |[x,y,z]=>.dN (q∈[x,y,z]) (.ret (.int (ix3 x y z q:Nat)))
  |_=>.fail
 |_=>.fail
def aah{K:Aa}{w:W PV}{n:Str}{ad:db}(hK:X.K=K)(he:EF X K fs e w)(hm:X.mg n=am (.ref ad))(T:SD K ad ts)(hg:‹Gl X n›)(hd: ~~~(gq n))(dm:‹nn (.Name n p) "index" X.env (o0 (.Name n p) X.env)=o0 (.Name n p) X.env›)(mO:‹HWa X bD [e]›)(di:‹SN Â bD›)(tV:‹gK X e []›)(dD:‹jO X bD []›):EF X K fs (.Call (.Attribute (.Name n p) "index" Â) [e] [] bD) (.bind w (Ro ts)):=
 ⟨PE.imp (mE K hK PySem.F.plainAttrs_tuple PySem.F.slot_tuple_index PySem.F.type_tuple_index (UM K hK) (rC hg hm (v:=.ref ad) rfl hd) (aY he.p bC tV) dm mO di tV dD) λσ H Q ⟨sr,q⟩=>
  ⟨.inr (.inl ⟨rfl,T.tn⟩),sr,w.mono (λx q2 u2 H2 g2 s2 v2=>by
   cases v2<;>first|exact q2.elim|skip
   match ts,T,q2 with
   |[x,y,z],T,q2=>exact⟨ad,x,y,z,_,rfl,rfl,.inr T.ex,q2.1,q2.2 _ H2 g2 s2 (.int _)⟩
   |[],_,q2=>exact q2.elim
   |[_],_,q2=>exact q2.elim
   |[_,_],_,q2=>exact q2.elim
   |_::_::_::_::_,_,q2=>exact q2.elim) q⟩⟩
end
section
variable[bN]
variable{K:Aa}
def o7(l:O PV):PV->W (O PV×PV)
 |.int k=>.bind (.OK (rN l.length k)) λj=>.bind (.OK l[j]?) λv=>.dN (l.length<=sizeLine) (.ret (l.eraseIdx j,v))
 |_=>.fail
theorem aE.erase:∀{ws:O V}{l:O PV} (j:Nat),aE K [] H ws l->aE K [] H (ws.eraseIdx j) (l.eraseIdx j)
 |_,_,_,.nil=>by simp;exact .nil
 |_,_,0,.cons _ t=>t
 |_,_,j+1,.cons r t=>by rw[Dq,Dq];exact .cons r (aE.erase j t)
section
variable{rest:O sB}{T:Type}{out:T->End}{x:Bool}{l:O PV}
theorem SF.YQ(i j:Nat){k:O PV×PV->W T}(hs:fs[i]?=am (am (.ol q0 l)))(ü:j≠i)(hK:X.K=K)(hN:X.N[i]?=am y)(hv:wX X.env.scope y)(ļ:X.N.Nodup)(hj:X.N[j]?=am z)(hx:Loc X.env.scope z)(he:EF X K fs e we az)(hr:∀t:O PV×PV,SF X K x ((az.set i (am (.ol q0 t.1))).set j (am (.val t.2))) rest (k t) out)(hd: ~~~(gq y))(gM: ~~~(zy y))(dm:‹nn (.Name y p) "pop" X.env (o0 (.Name y p) X.env)=o0 (.Name y p) X.env›)(mO:‹HWa X bD [e]›)(di:‹SN Â bD›)(tV:‹gK X e []›)(dD:‹jO X bD []›)(kF:‹pr (.Call (.Attribute (.Name y p) "pop" Â) [e] [] bD) (am (.Name z p')) pos.line X.env=pure false›)(hf:SI X z:=by first | exact .inl rfl | exact .inr rfl | assumption):SF X K x fs (.Assign [.Name z p'] (.Call (.Attribute (.Name y p) "pop" Â) [e] [] bD) pos::rest) (.bind we λn=>.bind (o7 l n) k) out:=
 SF.step (mD ļ hj hx (mE K hK Bt DM DL GO (c8 hN hv hd gM) (aY he.p bC tV) dm mO di tV dD) kF hf) λD σ H ⟨sr,q⟩=>by
  obtain⟨a,ws,e1,h1,r1⟩:=dY sr hs;refine⟨_,e1,.inl ⟨rfl,_,b9.of h1⟩,sr,we.mono (λn q1 u H1 g1 s1 v1=>?_) q⟩;obtain⟨a',uY,uT,fZ,zB⟩:=dY s1 (g1.ev.same hs (by simp));rw[e1]at uT;cases uT;cases v1 with
  |int kk=>
   have q1:(bn (.OK (rN l.length kk)) λj=>.bind (.OK l[j]?) λv=>.dN (l.length<=sizeLine) (.ret (l.eraseIdx j,v))).run λt=>(k t).run λt=>cg K x σ fs H D (out t):=q1;cases hx:rN l.length kk with
   |none=>rw[hx]at q1;exact q1.elim
   |some m=>
   cases hv:l[m]? with
   |none=>rw[hx]at q1;simp only[Op,lw,hv]at q1;exact q1.elim
   |some v=>
   rw[hx]at q1;simp only[Op,lw,hv]at q1;obtain⟨hz,q1⟩:=q1;obtain⟨uu,hu,ru⟩:=zB.get hv;obtain⟨h3,h4,h5,h6⟩:=rM hx;have h9:(sizeLine:Int)<2 ^ 63:=by decide
   refine⟨a,uY,kk,m,uu,rfl,rfl,fZ,by lia,by lia,by rw[zB.length];exact h3,hu,?_⟩;have sx:ft a H1 (upd H1 a (.lst (uY.eraseIdx m))):=λz o n hz=>by rw[aj n];exact hz
   have tX:az[i]?=am (am (.ol q0 l)):=g1.ev.same hs (by simp);obtain⟨s2,g2⟩:=mI (t':=.ol q0 (l.eraseIdx m)) s1 tX rfl (by simp) e1 sx λtk=>⟨λb hb=>by
    subst hb;obtain⟨u,e2,⟨v,e,_⟩|⟨b',e,z,_⟩⟩:=s1.at' i _ tX
    .cases e
    .rw[e2]at e1;cases e1;cases e;exact z b rfl,_,ay,aE.tk tk (aE.erase m zB)⟩
   have s3:=s2.nJ (g2.vr s1 ru) j;exact⟨_,k _,hr (l.eraseIdx m,v),s3,(k _).mono (λt q2=>q2.go ((g1.f.trans g2).trans (cF.nJ s2 _ _ j)) sr s3) q1⟩
  |_=>exact q1.elim
end
end
section
variable[bN]
def drawn(m:Int):W PV:=.any λv=>∃d:Int,v=.int d/\0<=d/\d<m
end
section
variable[bN]
def sQ:of2 (aI g) (.int i) (.int j)=.ret (g i j):=KB λQ=>⟨Ej,λq=>⟨rfl,q⟩⟩
def xN{C:Int->Int->Prop}:of2 (aIc C g) (.int i) (.int j)=.dN (C i j) (.ret (g i j)):=KB λQ=>⟨λq=>⟨q.1,q.2.2⟩,λq=>⟨q.1,rfl,q.2⟩⟩
section
variable(i j:Int)(a:Bool)(x y:PV)(l m:O PV)(s t:Str)
@[simp] theorem yL:of2 GI (.int i) (.int j)=.ret (.int (i-j)):=sQ
@[simp] theorem yM:of2 Qy (.int i) (.int j)=.dN (xz i j) (.ret (.int (i*j))):=xN
@[simp] theorem aae:of2 oMod (.int i) (.int j)=.dN (0<j) (.ret (.int (i % j))):=xN
@[simp] theorem J3:of2 Qw (.int i) (.int j)=.dN (OE i j) (.ret (.int (i ^ j.toNat))):=xN
@[simp] theorem Xy:of2 oLt (.int i) (.int j)=.ret (.bl (decide (i<j))):=sQ
@[simp] theorem adU:of2 oLe (.int i) (.int j)=.ret (.bl (decide (i<=j))):=sQ
@[simp] theorem adV:of2 oGt (.int i) (.int j)=.ret (.bl (decide (j<i))):=sQ
@[simp] theorem adW:of2 oGe (.int i) (.int j)=.ret (.bl (decide (j<=i))):=sQ
def wH:of2 gs x y=.dN (N4 x y) (.ret (.bl (jT x y))):=KB λQ=>⟨λq=>⟨q.1,q.2.2⟩,λq=>⟨q.1,rfl,q.2⟩⟩
def RS:of2 xO x y=.dN (N4 x y) (.ret (.bl (!jT x y))):=KB λQ=>⟨λq=>⟨q.1,q.2.2⟩,λq=>⟨q.1,rfl,q.2⟩⟩
@[simp] theorem um:of2 Jf x .aM=.ret (.bl x.jL):=KB λQ=>⟨Ej,λq=>⟨rfl,q⟩⟩
@[simp] theorem afn:of2 GJ x .aM=.ret (.bl (!x.jL)):=KB λQ=>⟨Ej,λq=>⟨rfl,q⟩⟩
@[simp] theorem cW:addW (.int i) (.int j)=.ret (.int (i+j)):=(rfl)
@[simp] theorem afE:addW (.str s) (.str t)=.dN (s.length+t.length<=sizeLine) (.ret (.str (s++t))):=(rfl)
@[simp] theorem Vz:addW (.tup l) (.tup m)=.dN (l.length+m.length<=sizeLine) (.ret (.tup (l++m))):=(rfl)
@[simp] theorem RQ:nR (.int i)=.ret (.int (-i)):=(rfl)
@[simp] theorem cL:asB (.bl a)=.ret a:=(rfl)
@[simp] theorem aa4(w:W PV):Sq (.bl true) w=w:=(rfl)
@[simp] theorem aa5(w:W PV):Sq (.bl false) w=.ret (.bl false):=(rfl)
@[simp] theorem Vy(w:W PV):V7 (.bl true) w=w:=(rfl)
@[simp] theorem afD(w:W PV):V7 (.bl false) w=.ret (.bl false):=(rfl)
@[simp] theorem d8:i6 (.bl a)=.ret a:=(rfl)
@[simp] theorem afl:i6 (.int i)=.ret (i != 0):=(rfl)
@[simp] theorem afk:i6 .aM=.ret false:=(rfl)
@[simp] theorem afj:i6 (.tup l)=.ret (!l.isEmpty):=(rfl)
@[simp] theorem Vw:i6 (.cl l)=.ret (!l.isEmpty):=(rfl)
@[simp] theorem aK:aG (.tup l)=.ret l:=(rfl)
@[simp] theorem bA:aG (.cl l)=.ret l:=(rfl)
@[simp] theorem hU:tm (.cl l)=.ret l:=(rfl)
@[simp] theorem cZ:rL l (.int i)=.OK (fC l i):=(rfl)
@[simp] theorem yN:yd l=.ret (.int l.length):=(rfl)
@[simp] theorem ahP:ka l=.ret (.tup l):=(rfl)
@[simp] theorem afm:part (.int i)=.ret (am i):=(rfl)
@[simp] theorem gE:q9 (.tup [x,y])=.ret (x,y):=(rfl)
@[simp] theorem afz(k:Kd):kD k (.int i)=.ret (.bl (k.is (.int i))):=(rfl)
@[simp] theorem rT(k:Kd):kD k (.str s)=.ret (.bl (k.is (.str s))):=(rfl)
@[simp] theorem lG(k:Kd):kD k (.tup l)=.ret (.bl (k.is (.tup l))):=(rfl)
@[simp] theorem afA(k:Kd):kD k (.cl l)=.ret (.bl (k.is (.cl l))):=(rfl)
@[simp] theorem afB(k:Kd):kD k (.bl a)=.ret (.bl (k.is (.bl a))):=(rfl)
@[simp] theorem afy(k:Kd):kD k .aM=.ret (.bl (k.is .aM)):=(rfl)
@[simp] theorem rR:Je gb [.tup l]=.ret (.int l.length):=KB λQ=>⟨Ej,λq=>⟨rfl,q⟩⟩
@[simp] theorem jt:Je gb [.cl l]=.ret (.int l.length):=KB λQ=>⟨Ej,λq=>⟨rfl,q⟩⟩
@[simp] theorem afo:Je gb [.str s]=.dN (s.length<=sizeLine) (.ret (.int s.length)):=KB λQ=>⟨λq=>⟨q.1,q.2.2⟩,λq=>⟨q.1,rfl,q.2⟩⟩
@[simp] theorem afC:Je KC [.int i]=.ret (.int i):=KB λQ=>⟨Ej,λq=>⟨rfl,q⟩⟩
@[simp] theorem Mb:Je KC [.bl a]=.ret (.int (if a then 1 else 0)):=KB λQ=>⟨Ej,λq=>⟨rfl,q⟩⟩
@[simp] theorem hJ:lX (.int j)=.dN (okN 0 j) (.ret (g8 0 j.toNat)):=(rfl)
@[simp] theorem Vx(k:Int):PU (.int i) (.int j) (.int k)=.dN (k = -1/\okN j i) (.ret (qr i (i-j).toNat)):=(rfl)
@[simp] theorem aac:Gv (l++[x])=.ret (l,x):=by unfold Gv;simp
@[simp] theorem aaa:TY l (.int i)=.dN (-(2 ^ 63)<=i/\i<2 ^ 63/\l.length*i.toNat<=sizeLine) (.ret (Ao i.toNat l).flatten):=(rfl)
@[simp] theorem afu:Kd.is .int (.int i)=true:=(rfl)
@[simp] theorem afv:Kd.is .int (.bl a)=true:=(rfl)
@[simp] theorem afx:Kd.is .bool (.bl a)=true:=(rfl)
@[simp] theorem afw:Kd.is .bool (.int i)=false:=(rfl)
@[simp] theorem rS:Kd.is .str (.str s)=true:=(rfl)
@[simp] theorem lF:Kd.is .str (.tup l)=false:=(rfl)
@[simp] theorem aft:Kd.is .str (.int i)=false:=(rfl)
@[simp] theorem afp:Kd.is .tup (.tup l)=true:=(rfl)
@[simp] theorem afq:Kd.is .tup (.str s)=false:=(rfl)
@[simp] theorem afr:Kd.is .tup (.int i)=false:=(rfl)
@[simp] theorem afs:Kd.is .tup (.bl a)=false:=(rfl)
def bB{m:Int}{Q:PV->Prop}(h:∀d:Int,0<=d->d<m->Q (.int d)):(drawn m).run Q:=λv ⟨d,e,h0,h1⟩=>e▸h d h0 h1
end
namespace W
variable{α β:Type}
def le(a b:W α):Prop:=∀Q,b.run Q->a.run Q
def le.refl(a:W α):a.le a:=λ_ h=>h
def le.of_eq{a b:W α}(h:a=b):a.le b:=h▸le.refl a
def le.ret{a:W α}{v:α}{f:α->W β}{b:W β}(h:a.le (.ret v))(hf:(f v).le b):(a.bind f).le b:=λQ q=>h _ (hf Q q)
def le.use{a:W α}{v:α}{Q:α->Prop}(h:a.le (.ret v))(q:Q v):a.run Q:=h _ q
end W
section
variable{S R:Type}
@[simp] theorem adC(s:S)(f:PV->S->W S):cA [] s f=.ret s:=(rfl)
@[simp] theorem aaY(x:PV)(r:O PV)(s:S)(f:PV->S->W S):cA (x::r) s f=.bind (f x s) λs'=>cA r s' f:=(rfl)
theorem ud{f:PV->S->W S}{Q:S->Prop}(I:O PV->S->Prop):∀{l:O PV}{s:S},I l s->(∀x r s,I (x::r) s->(f x s).run (I r))->(∀s,I [] s->Q s)->(cA l s f).run Q
 |[],s,h0,_,he=>he s h0
 |x::r,s,h0,hs,he=>(f x s).mono (λs' h=>ud I h hs he) (hs x r s h0)
theorem Hq{f:PV->S->W (Lp S R)}{Q:Lp S R->Prop}(I:O PV->S->Prop):∀{l:O PV}{s:S},I l s->(∀x r s,I (x::r) s->(f x s).run λo=>match o with|.go s'=>I r s'|.out t=>Q (.out t))->(∀s,I [] s->Q (.go s))->(FL.lR l s f).run Q
 |[],s,h0,_,he=>he s h0
 |x::r,s,h0,hs,he=>(f x s).mono (λo h=>match o,h with
  |.go s',h=>Hq I h hs he
  |.out t,h=>h) (hs x r s h0)
theorem cD{f:PV->S->W S}{Q:S->Prop}{l:O PV}(I:Nat->S->Prop){s:S}(h0:I 0 s)(hs:∀(i:Nat) (x:PV) s,l[i]?=am x->I i s->(f x s).run (I (i+1)))(he:∀s,I l.length s->Q s):(cA l s f).run Q:=by
 refine ud (λr s=>∃i,i<=l.length/\r=l.drop i/\I i s) ⟨0,Bc _,rfl,h0⟩ (λx r s ⟨i,hi,e,h⟩=>?_) (λs ⟨i,hi,e,h⟩=>?_)
 .have gC:i<l.length:=by
   rcases DB i l.length with h|h
   .exact h
   .rw[Fg h]at e;cases e
  rw[B0 gC]at e;injection e with e1 e2;subst e1;exact(f _ s).mono (λs' h'=>⟨i+1,gC,e2,h'⟩) (hs i _ s (Ad gC) h)
 .have:i=l.length:=by
   have:=congrArg Cv e;rw[C6]at this;simp at this;lia
  subst this;exact he s h
theorem L7{f:PV->S->W (Lp S R)}{Q:Lp S R->Prop}{l:O PV}(I:Nat->S->Prop){s:S}(h0:I 0 s)(hs:∀(i:Nat) (x:PV) s,l[i]?=am x->I i s->(f x s).run λo=>match o with|.go s'=>I (i+1) s'|.out t=>Q (.out t))(he:∀s,I l.length s->Q (.go s)):(FL.lR l s f).run Q:=by
 refine Hq (λr s=>∃i,i<=l.length/\r=l.drop i/\I i s) ⟨0,Bc _,rfl,h0⟩ (λx r s ⟨i,hi,e,h⟩=>?_) (λs ⟨i,hi,e,h⟩=>?_)
 .have gC:i<l.length:=by
   rcases DB i l.length with h|h
   .exact h
   .rw[Fg h]at e;cases e
  rw[B0 gC]at e;injection e with e1 e2;subst e1;exact(f _ s).mono (λo h'=>match o,h' with
   |.go s',h'=>⟨i+1,gC,e2,h'⟩
   |.out t,h'=>h') (hs i _ s (Ad gC) h)
 .have:i=l.length:=by
   have:=congrArg Cv e;simp at this;lia
  subst this;exact he s h
def ue{f:PV->S->W S}{Q:S->Prop}(I:Nat->S->Prop){s:S}(h0:I 0 s)(hs:∀(i:Nat) s,i<n->I i s->(f (.int (i:Int)) s).run (I (i+1)))(he:∀s,I n s->Q s):(cA (g8 0 n) s f).run Q:=
 cD I h0 (λi x s hx h=>by obtain⟨hi,rfl⟩:=pJ hx;rw[Gd];exact hs i s hi h) (λs h=>he s (by rw[gk]at h;exact h))
def RE{f:PV->S->W (Lp S R)}{Q:Lp S R->Prop}(I:Nat->S->Prop){s:S}(h0:I 0 s)(hs:∀(i:Nat) s,i<n->I i s->(f (.int (i:Int)) s).run λo=>match o with|.go s'=>I (i+1) s'|.out t=>Q (.out t))(he:∀s,I n s->Q (.go s)):(FL.lR (g8 0 n) s f).run Q:=
 L7 I h0 (λi x s hx h=>by obtain⟨hi,rfl⟩:=pJ hx;rw[Gd];exact hs i s hi h) (λs h=>he s (by rw[gk]at h;exact h))
theorem Ir{c:S->W Bool}{b:S->W S}{Q:S->Prop}(I:Nat->S->Prop){s:S}(h0:I n s)(hs:∀n s,I n s->(c s).run λk=>if k=true then (b s).run (λs'=>∃m,m<n/\I m s') else Q s):(Iu c b s).run Q:=by
 refine⟨n+1,?_⟩;have:∀k n s,n<k->I n s->(ib c b k s).run Q:=by
  intro k
  induction k with
  |zero=>intro n s h;lia
  |succ k ih=>
   intro n s hn h;refine(c s).mono (λz q=>?_) (hs n s h);cases z with
   |true=>exact(b s).mono (λs' ⟨m,hm,h'⟩=>ih m s' ∅ h') (q)
   |false=>exact q
 exact this (n+1) n s ∅ h0
theorem LH{g:PV->PV}:∀{l:O PV},(∀x∈l,f x=.ret (g x))->a6 l f=.ret (l.map g)
 |[],_=>rfl
 |x::r,h=>by
  show bn (f x) (λy=>bn (a6 r f) λl=>ca (y::l))=_;rw[h x (.head _),LH λy hy=>h y (.tail _ hy)];rfl
theorem yg{f:PV->W (Option PV)}{g:PV->Option PV}:∀{l:O PV},(∀x∈l,f x=.ret (g x))->jV l f=.ret (l.filterMap g)
 |[],_=>rfl
 |x::r,h=>by
  show bn (f x) (λo=>bn (jV r f) λl=>ca (o.toList++l))=_;rw[h x (.head _),yg λy hy=>h y (.tail _ hy),AJ];cases g x<;>rfl
end
section
variable(i j:Int)(a b:Bool)(x y:PV)(l m:O PV)(s t:Str)
@[simp] theorem Xu:jT (.int i) (.int j)=(i==j):=by rw[jT]
@[simp] theorem Xt:jT (.str s) (.str t)=(s==t):=by rw[jT]
@[simp] theorem Xv:jT (.bl a) (.bl b)=(a==b):=by rw[jT]
@[simp] theorem ajc:jT (.tup l) (.tup m)=f7 l m:=by rw[jT]
@[simp] theorem ajd:jT (.cl l) (.cl m)=f7 l m:=by rw[jT]
@[simp] theorem ahM:f7 [] []=true:=by rw[f7]
@[simp] theorem ahK:f7 (x::l) (y::m)=(jT x y&&f7 l m):=by rw[f7]
@[simp] theorem aff:PV.fy (.int i)=true:=by rw[PV.fy]<;>simp
@[simp] theorem ahJ:PV.fy (.bl a)=true:=by rw[PV.fy]<;>simp
@[simp] theorem afd:PV.fy (.str s)=true:=by rw[PV.fy]<;>simp
@[simp] theorem afe:PV.fy .aM=true:=by rw[PV.fy]<;>simp
@[simp] theorem Vq:PV.fy (.tup l)=d7 l:=by rw[PV.fy]
@[simp] theorem ahI:PV.fy (.cl l)=d7 l:=by rw[PV.fy]
@[simp] theorem adF:d7 []=true:=by rw[d7]
@[simp] theorem aaZ:d7 (x::l)=(PV.fy x&&d7 l):=by rw[d7]
@[simp] theorem adS:PV.iq (.int i)=0:=by rw[PV.iq]<;>simp
@[simp] theorem afi:PV.iq (.bl a)=0:=by rw[PV.iq]<;>simp
@[simp] theorem adQ:PV.iq (.str s)=0:=by rw[PV.iq]<;>simp
@[simp] theorem adR:PV.iq .aM=0:=by rw[PV.iq]<;>simp
@[simp] theorem adP:PV.iq (.tup l)=dq l+1:=by rw[PV.iq]
@[simp] theorem afh:PV.iq (.cl l)=dq l+1:=by rw[PV.iq]
@[simp] theorem aa0:dq []=0:=by rw[dq]
@[simp] theorem Z8:dq (x::l)=max (PV.iq x) (dq l):=by rw[dq]
def Hx:N4 (.int i) (.int j):=⟨by simp,by simp,by simp⟩
@[simp] theorem mT:of2 gs (.int i) (.int j)=.ret (.bl (i==j)):=by rw[wH,sw (Hx i j),Xu]
@[simp] theorem aad:of2 xO (.int i) (.int j)=.ret (.bl (!(i==j))):=by rw[RS,sw (Hx i j),Xu]
@[simp] theorem ahR:of2 gs (.bl a) (.bl b)=.ret (.bl (a==b)):=by rw[wH,sw ⟨by simp,by simp,by simp⟩,Xv]
@[simp] theorem ahQ:of2 xO (.bl a) (.bl b)=.ret (.bl (!(a==b))):=by rw[RS,sw ⟨by simp,by simp,by simp⟩,Xv]
end
theorem iW:∀{l:O PV},d7 l=true↔∀x∈l,PV.fy x=true
 |[]=>by simp
 |x::l=>by rw[d7,A1,iW];simp
theorem kL:∀{l:O PV},(∀x∈l,PV.iq x<=n)->dq l<=n
 |[],_=>by simp
 |x::l,h=>by
  have h1:=h x (.head _);have h2:=kL λy hy=>h y (.tail _ hy);rw[dq];lia
instance (priority:=10) ajR:bN:=⟨[]⟩
end
section
variable[bN]
structure EV where
 P:wP
 w:Da
 K:Aa
 mg:Str->Option ci
 base:r9
structure DF where
 x:Str
 s:sB
 ps:List Str
 k:Nat
 sp:Aa->Sp
abbrev DF.C(d:DF)(v:EV):=SK v.P v.w v.K v.mg v.base d.x d.k d.ps (d.sp v.K)
structure DI(v:EV)(d:DF) where
 f:db
 fd:Ch
 fn:OY v.K d.x d.x d.s f fd
 bi:Binds v.K fd d.ps []
 at':v.mg d.x=am (.ref f)
abbrev DI.O{v:EV}{d:DF}(D:DI v d):Prop:=gP v.P v.w v.K v.mg v.base uP d.k D.f D.fd d.ps (d.sp v.K)
def DI.c{v:EV}{d:DF}(D:DI v d)(h:D.O):d.C v:=⟨D.f,D.fd,h,D.bi,D.fn.kp,D.at'⟩
def DI.cN{v:EV}{d:DF}(D:DI v d)(h:gP v.P v.w v.K v.mg v.base uP k D.f D.fd d.ps sp):SK v.P v.w v.K v.mg v.base d.x k d.ps sp:=⟨D.f,D.fd,h,D.bi,D.fn.kp,D.at'⟩
structure DX(K:Aa)(x:Str)(st:sB):Prop where
 ex:∃f fd,AN K lc x=am (am (.ref f))/\OY K x x st f fd
abbrev dnm(s:sB):Str:=match s with
 |.FunctionDef x _ _ _ _ _ _ _ _ _=>x
 |_=>""
def dx{K:Aa}{st:sB}{f:db}{kV:ci}(a:AN K lc x=am (am (.ref f)))(l:K.lookup f=am ⟨oc,od,.func (BN x x (dw st) (bR st) (aF st) .none kV Ç pm an dc ct),Qt⟩)(c:Ds K dc x=true)(k:CB K (.ref f)=true):DX K x st:=⟨f,_,a,RD l c k⟩
def fsc{N P:O Str}{sc:pc}(h1:‹sc.kind=.function›)(h2:‹sc.isCoroutine=false›)(h3:‹sc.isGenerator=false›)(h4:N.Nodup:=by decide +kernel)(h5:‹N.take P.length=P›)(h6:∀x∈P,sc.names.lookup x=am .local\/sc.names.lookup x=am .cell:=by decide +kernel)(h7:∀y∈sc.names,y.2≠.free:=by decide +kernel):dA N P sc:=⟨h1,h2,h3,h4,h5,h6,h7⟩
def lcs{N:O Str}{sc:pc}(h1:‹sc.kind=.function›)(h2:∀y∈sc.names,y.2=.cell->sc.names.lookup y.1=am .cell:=by decide +kernel)(h3:∀y∈sc.names,y.2=.local->sc.names.lookup y.1=am .local:=by decide +kernel)(h4:∀y∈sc.names,y.2=.free->(Xs.names.lookup y.1=am .cell\/Xs.names.lookup y.1=am .free):=by decide +kernel)(h5:N'.Nodup:=by decide +kernel)(h6:‹ix.length=N'.length›)(h7:((ix.zip N').all λp=>match p.1 with|none=>true|some j=>decide (N[j]?=am p.2)&&decide (sc.names.lookup p.2=am .free))=true:=by decide +kernel):aV Xs N sc N' ix:=⟨h1,h2,h3,h4,h5,h6,h7⟩
abbrev lO(l:O (Str×wv)):pc:={kind:=.function,names:=(C3 ".0",.local)::l,isGenerator:=false,isCoroutine:=false,more:=[]}
abbrev lo:wv:=.local
abbrev gi:wv:=.globalImplicit
abbrev fr:wv:=.free
def GL:O AK->Nat
 |[]=>0
 |.p _ _::ks=>GL ks+1
 |_::ks=>GL ks
theorem nN:∀{ks:O AK}{i:Nat},ks[i]?=am (.p ψ d)->GL ks≠0
 |[],i,h=>by simp at h
 |.p _ _::_,_,_=>Nat.succ_ne_zero _
 |.v::ks,0,h=>by simp at h
 |.f _ _ _ _::ks,0,h=>by simp at h
 |.v::ks,i+1,h=>nN (ks:=ks) (by simpa using h)
 |.f _ _ _ _::ks,i+1,h=>nN (ks:=ks) (i:=i) (by simpa using h)
theorem xK:∀{ks:O AK},Nat.ble (GL ks) 1=true->uO ks
 |[],_=>Lv
 |.v::ks,h=>WE (xK (ks:=ks) h)
 |.f _ _ _ _::ks,h=>acy (xK (ks:=ks) h)
 |.p _ _::ks,h=>λi j ⟨φ,d,a⟩ ⟨ψ,d',b⟩=>by
  have z:GL ks+1<=1:=A5 h;cases i with|succ i=>exact absurd ∅ (nN (ks:=ks) (by simpa using a))|zero=>cases j with|succ j=>exact absurd ∅ (nN (ks:=ks) (by simpa using b))|zero=>rfl
abbrev xP(st:sB):O Str:=((aF st).names.filter λy=>y.2==.local||y.2==.cell).map (·.1)
abbrev zC(st:sB):O Str:=(dw st).args.map (·.arg)
abbrev nml(sc:pc):O Str:=((sc.names.tail.filter λy=>y.2==.local||y.2==.cell)++sc.names.filter λy=>y.2==.free).map (·.1)
abbrev ixl(N:O Str)(sc:pc):O (Option Nat):=((sc.names.tail.filter λy=>y.2==.local||y.2==.cell).map λ_=>ce)++(sc.names.filter λy=>y.2==.free).map λy=>am (N.idxOf y.1)
abbrev LS(st:sB)(sc:pc):Prop:=aV (aF st) (xP st) sc (nml sc) (ixl (xP st) sc)
abbrev LT(Xs sc:pc):Prop:=aV Xs (nml Xs) sc (nml sc) (ixl (nml Xs) sc)
def msk:Nat->aQ->aQ
 |_,[]=>[]
 |n,s::l=>(match n % 2 with|0=>s|_=>ce)::msk (n / 2) l
theorem c6.m:∀(n:Nat) {fs:aQ},c6 fs (msk n fs)
 |_,[]=>.refl _
 |n,s::l=>by
  unfold msk
  split
  .exact .keep (c6.m _)
  .exact .drop (c6.m _)
def KW:(n:Nat)->(O PV->W R->Prop)->zG R n->Prop
 |0,B,m=>B [] m
 |n+1,B,m=>∀x:PV,KW n (λl w=>B (x::l) w) (m x)
theorem KW.all:∀{n:Nat}{B:O PV->W R->Prop}{m:zG R n},KW n B m->∀l,l.length=n->B l (qz n m l)
 |0,_,_,h,[],_=>h
 |n+1,_,_,h,x::l,e=>KW.all (h x) l (Nat.succ.inj e)
section
variable{v:EV}{st:sB}
abbrev BB{T:Type}(v:EV)(x:Str)(st:sB)(k:Nat)(ks:O AK)(f:db)(n:Nat)(m:zG T n)(o:T->End):Prop:=∀{j:Nat}{dc:ci}{A:zn}{outer:O Env}{s:cr}{H:Hp}{E:XK},cu k (A.deeper (EQ x (aF st) s.heap.objs.size f dc))->(xP st).Nodup->KW n (λl w=>SF (qU uP v.P v.w v.K v.mg v.base (xP st) x (aF st) f dc A outer s H E).SW v.K false (uH j ks l (xP st).length) (bR st) w o) m
abbrev BP{T:Type}(v:EV)(x:Str)(st:sB)(k:Nat)(ks:O AK)(f:db)(n:Nat)(m:zG T n)(o:T->End):Prop:=∀{dc:ci}{A:zn}{outer:O Env}{s:cr}{H:Hp}{E:XK} (j:Nat),cu k (A.deeper (EQ x (aF st) s.heap.objs.size f dc))->(xP st).Nodup->KW n (λl w=>SF (qU uP v.P v.w v.K v.mg v.base (xP st) x (aF st) f dc A outer s H E).SW v.K false (uH j ks l (xP st).length) (bR st) w o) m
def oO{m:zG PV n}(D:DI v ⟨x,st,zC st,k+1,λK=>Pr K ks (qz n m)⟩)(É:BB v x st k ks D.f n m .rt)(Vi:‹ks.length=(zC st).length›)(one:‹Nat.ble (GL ks) 1=true›)(S:dA (xP st) (zC st) (aF st):=by exact fsc):D.O:=fnV D.fn S Vi (xK one) λj l e dc A outer s H E hr=>(É hr S.nd).all l e
def OL{m:zG (O PV) n}(D:DI v ⟨x,st,zC st,k+1,λK=>zW K ks (qz n m)⟩)(É:BB v x st k ks D.f n m .rl)(Vi:‹ks.length=(zC st).length›)(one:‹Nat.ble (GL ks) 1=true›)(S:dA (xP st) (zC st) (aF st):=by exact fsc):D.O:=fnL D.fn S Vi (xK one) λj l e dc A outer s H E hr=>(É hr S.nd).all l e
def QI{m:zG PV n}(D:DI v ⟨x,st,zC st,k+1,λK=>Pr K ks (qz n m)⟩)(É:BP v x st k ks D.f n m .rt)(Vi:‹ks.length=(zC st).length›)(one:‹Nat.ble (GL ks) 1=true›)(S:dA (xP st) (zC st) (aF st):=by exact fsc):D.O:=oO D (λ{j _ _ _ _ _ _}=>É j) Vi one S
end
section
variable{K:Aa}{WL:W (O PV)}
theorem eC{m:O PV->W PV}(G:SK X.prog X.w X.K X.mg X.base x k ps (Pr K ks m))(hr:cu k' X.A)(ha:AF X K fs (e::es) ks B f1)(hk:k<=k':=by first|exact A5 rfl|exact Al _|lia)(hg:‹Gl X x›)(hW:‹W'=B m›)(jq: ~~~(gq x))(he:‹gK X e es›)(cU:‹jO X pos es›):EF X K fs (.Call (.Name x p) (e::es) [] pos) W' f1:=VI G hr hk hg ha hW jq he cU
theorem lC{m:O PV->W (O PV)}{B:(O PV->W (O PV))->W (O PV)}(G:SK X.prog X.w X.K X.mg X.base x k ps (zW K ks m))(hr:cu k' X.A)(ha:AF X K fs (e::es) ks B f1)(hk:k<=k':=by first|exact A5 rfl|exact Al _|lia)(hg:‹Gl X x›)(hW:‹WL=B m›)(jq: ~~~(gq x))(he:‹gK X e es›)(cU:‹jO X pos es›):LF X K fs (.Call (.Name x p) (e::es) [] pos) WL f1:=UX G hr hk hg ha hW jq he cU
variable{n0 mx:Nat}{y0:Str}
theorem eP(i:Nat){m:O PV->W PV}(G:SK X.prog X.w X.K X.mg X.base x k ps (Pr K (.p ψ d::ks) m))(hr:cu k' X.A)(ha:AF X K fs es ks B f1)(hs:‹fs[i]?=am (am (.cC ψ n0 mx))›)(tX:‹f1[i]?=am (am (.cC ψ n mx))›)(hd:n+d<=mx:=by omega)(hk:k<=k':=by first|exact A5 rfl|exact Al _|lia)(hg:‹Gl X x›)(hW:‹W'=B m›)(jq: ~~~(gq x))(hN:‹X.N[i]?=am y0›)(hv:wX X.env.scope y0:=by first|exact B4 rfl|exact B3 (B4 rfl)|exact B3 (B3 rfl))(Ī: ~~~(gq y0))(gM: ~~~(zy y0))(he:‹lm (.Name y0 py::es) X.env=(false,o0 (.Name y0 py) X.env)::lm es X.env›)(cU:‹jO X pos es›):EF X K fs (.Call (.Name x p) (.Name y0 py::es) [] pos) W' (f1.set i (am (.cC ψ (n+d) mx))):=hW▸VJ i G hr hk hg hs ha tX hd jq hN hv Ī gM he cU
theorem oQ.s:∀{fs:aQ} (i:Nat) {n n' m:Nat},n<=n'/\n'<=m->(hs:‹fs[i]?=am (am (.cC ψ n m))›)->oQ fs (fs.set i (am (.cC ψ n' m)))
 |[],_,_,_,_,_,h=>by simp at h
 |s::l,0,_,_,_,k,h=>by simp at h;subst h;exact .bump k (.refl _)
 |s::l,i+1,_,_,_,k,h=>by exact .keep (oQ.s (fs:=l) i k (by simpa using h))
def cR(i:Nat)(hN:X.N.Nodup)(hi:‹X.N[i]?=am x›)(hx:Loc X.env.scope x:=by first|exact .inl rfl|exact .inr rfl)(hf:SI X x:=by first|exact .inl rfl|exact .inr rfl|assumption):PG X (.Name x pos) (d6 i):=Uj hN hi hx hf
variable{T:Type}{out:T->End}{b:Bool}{rest:O sB}
def sv(i:Nat){k:PV->W T}(hN:X.N.Nodup)(he:EF X K fs e we f1)(hr:∀v,SF X K b (f1.set i (am (.val v))) rest (k v) out)(hi:‹X.N[i]?=am y›)(hx:Loc X.env.scope y:=by first|exact .inl rfl|exact .inr rfl)(hs:‹pr e (am (.Name y p')) pos.line X.env=pure false›)(hf:SI X y:=by first|exact .inl rfl|exact .inr rfl|assumption):SF X K b fs (.Assign [.Name y p'] e pos::rest) (.bind we k) out:=SF.set hN hi hx he hr hs hf
def sl(i:Nat){k:O PV->W T}(hN:X.N.Nodup)(he:LF X K fs e wl f1)(hr:∀l,SF X K b (f1.set i (am (.ol ce l))) rest (k l) out)(hi:‹X.N[i]?=am y›)(hx:Loc X.env.scope y:=by first|exact .inl rfl|exact .inr rfl)(hs:‹pr e (am (.Name y p')) pos.line X.env=pure false›)(hf:SI X y:=by first|exact .inl rfl|exact .inr rfl|assumption):SF X K b fs (.Assign [.Name y p'] e pos::rest) (.bind wl k) out:=SF.agc hN hi hx he hr hs hf
end
end
end FL
variable{m:PL.PV->FL.W PL.PV}{d:FL.DF}
namespace FL
section
variable[bN]
def aer:(n:Nat)->(O ci->Prop)->Prop
 |0,P=>P []
 |n+1,P=>∀x,aer n λl=>P (x::l)
theorem usN:∀{n:Nat}{P:O ci->Prop},aer n P->∀us:O ci,us.length=n->P us
 |0,_,h,[],_=>h
 |n+1,_,h,x::l,e=>usN (h x) l (Nat.succ.inj e)
def DX.mk2{v:EV}(D:DX v.K d.x d.s)(X:v.K.In h)(G:h.Ns lc v.mg)(hb:∀(kV Ç pm:ci) (an:Option db) (dc ct:ci) (us:O ci),us.length=d.ps.length->bindArgs (BN d.x d.x (dw d.s) (bR d.s) (aF d.s) .none kV Ç pm an dc ct) ⟨us,[]⟩=pure (d.ps.zip us):=by exact λ_ _ _ _ _ _=>usN (by (repeat intro _);rfl)):Nonempty (DI v d):=by
 obtain⟨f,fd,a,F⟩:=D.ex;exact⟨⟨f,fd,F,F.binds hb,BJ X G a⟩⟩
def DX.go{v:EV}(D:DX v.K d.x d.s)(X:v.K.In h)(G:h.Ns lc v.mg){P:Prop}(k:∀D:DI v d,D.O)(r:d.C v->P)(hb:∀(kV Ç pm:ci) (an:Option db) (dc ct:ci) (us:O ci),us.length=d.ps.length->bindArgs (BN d.x d.x (dw d.s) (bR d.s) (aF d.s) .none kV Ç pm an dc ct) ⟨us,[]⟩=pure (d.ps.zip us):=by exact λ_ _ _ _ _ _=>usN (by (repeat intro _);rfl)):P:=by
 obtain⟨D⟩:=D.mk2 X G hb;exact r (D.c (k D))
def Pq(K:Aa):Sp:=λvs H Q _=>TB H/\∃(a:db) (ns:O Int),vs=[.ref a]/\SJ K H a (ns.map V.int)/\ns.length<=63/\∀H',Q (.bl true) H'
def UT{K:Aa}(ok:∀ns:O Int,ns.length<=63->(m (.cl (ns.map PV.int))).run (·=.bl true)):∀vs H Q E,Pq K vs H Q E->Pr K [.v] (qz 1 m) vs H Q E:=λvs H Q E ⟨tb,a,ns,e,fz,hl,q⟩=>by
 subst e;refine⟨tb,0,[.cl (ns.map PV.int)],.v (.cl fz (rO _ _ ns)) .nil,(m (.cl (ns.map PV.int))).mono (λv e u H' _ r=>?_) (ok ns hl)⟩;subst e;cases r;exact q H'
structure aes(K:Aa)(mg:Str->Option ci)(d:DF):Prop where
 f:∀v:EV,v.K=K->v.mg=mg->∀D:DI v d,D.O
def mkAll{l:PySem.W.OpenLaw}{K:Aa}{fa:db}{st:sB}(ok:∀ns:O Int,ns.length<=63->(m (.cl (ns.map PV.int))).run (·=.bl true))(X:K.In h)(G:h.Ns lc mg)(hfa:mg "law"=am (.ref fa))(ad3:DX K "law" st)(hb:∀(kV Ç pm:ci) (an:Option db) (dc ct:ci) (us:O ci),us.length=1->bindArgs (BN "law" "law" (dw st) (bR st) (aF st) .none kV Ç pm an dc ct) ⟨us,[]⟩=pure (([("_law_script":Str)]:O Str).zip us))(F:aes K mg ⟨"law",st,["_law_script"],k,λK=>Pr K [.v] (qz 1 m)⟩):∃fd:Ch,(∀(s:cr) (v:ci),BindsTo s fd ⟨[v],[]⟩ [("_law_script",v)])/\∀base:r9,K.In base->base.Ns lc mg->gP l.prog w K mg base uP k fa fd ["_law_script"] (Pq K):=by
 obtain⟨f,fd,a,F'⟩:=ad3.ex;have e:=hfa.symm.trans (BJ X G a);cases e;obtain⟨oc,od,kV,Ç,pm,an,dc,ct,Qt,rfl,_⟩:=id F'.ex;exact⟨BN "law" "law" (dw st) (bR st) (aF st) .none kV Ç pm an dc ct,λs v=>.of_eq (hb kV Ç pm an dc ct [v] rfl),λbase _ _=>(F.f ⟨l.prog,w,K,mg,base⟩ rfl rfl ⟨_,_,F',(F'.binds (ps:=["_law_script"]) hb),hfa⟩).imp (UT ok)⟩
section
variable{K:Aa}{R:Type}{B:(O PV->W R)->W R}
def av(i:Nat)(hr:AF X K fs es ks B f1)(hs:‹fs[i]?=am (am (.val v))›)(hN:‹X.N[i]?=am x›)(hv:wX X.env.scope x:=by first|exact B4 rfl|exact B3 (B4 rfl)|exact B3 (B3 rfl))(hd: ~~~(gq x))(gM: ~~~(zy x))(h:‹lm (.Name x pos::es) X.env=(false,o0 (.Name x pos) X.env)::lm es X.env›):AF X K fs (.Name x pos::es) (.v::ks) (λk=>.bind (.ret v) λx=>B λl=>k (x::l)) f1:=ak (af i hs hN hv hd gM) hr h
end
end
section
variable[bN]
structure Lm where
 q:Str
 ar:Arguments
 bd:nw
 sc:pc
end
end FL
variable{o:Option L2.HO}{ts:O A9}
namespace L2
def IC(ts:O db)(a:db)(o:Option HO):Hp:=λb=>if b∈ts then am (.zN #[]) else if b=a then o else ce
def Pe(h:b∈ts):IC ts a o b=am (.zN #[]):=if_pos h
def X8(h:a∉ts):IC ts a o a=o:=by unfold IC;rw[if_neg h,if_pos rfl]
def nA{u:HO}(h:IC ts a o b=am u):(b∈ts/\u=.zN #[])\/(b=a/\o=am u):=by
 unfold IC at h;by_cases c:b∈ts
 .rw[if_pos c]at h;cases h;exact .inl ⟨c,rfl⟩
 .rw[if_neg c]at h;by_cases d:b=a
  .rw[if_pos d]at h;exact .inr ⟨d,h⟩
  .rw[if_neg d]at h;cases h
def Nr{K:Aa}{mb:Str->Option ci}{fa:db}{s₁:cr}(KX:K.In s₁.heap)(NR:s₁.heap.Ns lc mg)(hb:s₁.heap.Ns GE mb)(hbb:∀x:Str,x≠"__name__"->mb x=re x)(ahh:s₁.heap.NoLimit)(hbm:∃bm ob,mg "__builtins__"=am (.ref bm)/\bm≠GE/\s₁.heap.get? bm=am ob/\ob.cls=.type "module"/\ob.dict=am GE/\ob.data=.plain)(hg:s₁.gens=#[])(ha:s₁.heap.get? a=am {cls:=.type "list",data:=.seq vs.toArray})(hi:xL vs ns)(hl:ns.length<=sizeLine)(hr:cu k callerA)(ht:∀P∈ts,s₁.heap.get? P=am (FC #[]))(htK:∀P∈ts,K.lookup P=ce)(htC:∀P∈ts,isCodeTable s₁.heap P)(F:∀base:r9,K.In base->base.Ns lc mg->gP P w K mg base uP k fa fd [x] sp)(adq:∀(s:cr) (u:ci),BindsTo s fd ⟨[u],[]⟩ [(x,u)])(ZM:∀H:Hp,(∀P∈ts,H P=am (.zN #[]))->PL.SJ K H a (ns.map V.int)->sp [.ref a] H (λv _=>v=.bl true) λ_ _ _=>False):Fk (im P w) callerA (.call (.ref fa) ⟨[.ref a],[]⟩) (λr s'=>r=.ok (.ret (.bool true))/\OldK s₁.heap s'.heap/\s'.os=s₁.os/\Os s'.gens) s₁:=by
 have rv:=kW hi;have agH:=hi.length;have Ñ:∀H:Hp,(∀P∈ts,H P=am (.zN #[]))->PL.SJ K H a (ns.map V.int)->lV P w H s₁.heap->(∀b o,H b=am o->(b∈ts/\o=.zN #[])\/(b=a/\K.lookup a=ce/\∃o' u,o=.bS o' u))->
   Fk (im P w) callerA (.call (.ref fa) ⟨[.ref a],[]⟩) (λr s'=>r=.ok (.ret (.bool true))/\OldK s₁.heap s'.heap/\s'.os=s₁.os/\Os s'.gens) s₁:=by
  intro H hT hS br hA;have zi:∀{b:db}{o:Obj},s₁.heap.get? b=am o->H b=ce->(yz s₁.heap H).get? b=am o:=λe n=>Rq e n;have ô:∀{b:db}{o:Obj}{es:Array DictEntry}{ep:Nat},s₁.heap.get? b=am o->o.data=.dict es ep->H b=ce:=λ{b o es ep} e d=>by
   cases q:H b with
   |none=>rfl
   |some u=>
    rcases hA b u q with⟨z,_⟩|⟨z,_⟩
    .rw[ht b z]at e;cases e;cases d
    .subst z;rw[ha]at e;cases e;cases d
  have Ĉ:∀{b:db}{m:Str->Option ci},s₁.heap.Ns b m->(yz s₁.heap H).Ns b m:=λ{b m} ⟨o,es,ep,e,d,r⟩=>⟨o,es,ep,zi e (ô e d),d,r⟩;have hKb:K.In (yz s₁.heap H):=λb o e=>zi (KX b o e) (by
   cases q:H b with
   |none=>rfl
   |some u=>
    rcases hA b u q with⟨z,_⟩|⟨z,z2,_⟩
    .rw[htK b z]at e;cases e
    .subst z;rw[z2]at e;cases e)
  have hM:Mod K mg (yz s₁.heap H):=⟨hKb,Ĉ NR,⟨mb,Ĉ hb,hbb⟩,let ⟨mc,h1,h2⟩:=ahh;⟨mc,Ĉ h1,h2⟩,let ⟨bm,ob,h1,h2,h3,h4,h5,h6⟩:=hbm;⟨bm,ob,h1,h2,zi h3 (by
   cases q:H bm with
   |none=>rfl
   |some u=>
    rcases hA bm u q with⟨z,_⟩|⟨z,_⟩
    .rw[ht bm z]at h3;cases h3;cases h6
    .subst z;rw[ha]at h3;cases h3;cases h6),h4,h5,h6⟩⟩
  have e0:KU P w K mg (yz s₁.heap H) callerA [] s₁ H:=⟨rfl,hM,λb o e=>UB e,Ga (NS _ _),trivial,λb hb=>absurd (show b∈([]:O db) from hb) (by simp),br,.of_eq hg⟩;refine FM ((F _ hKb (Ĉ NR)).run callerA [] s₁ H ⟨[.ref a],[]⟩ [.ref a] [.ref a] _ _ hr e0 (adq s₁ (.ref a)) (.cons rfl .nil) (ZM H hT hS)) λr s' h=>?_;cases r with
  |error e=>exact h.elim
  |ok fl=>
   cases fl with
   |next=>exact Bx h
   |brk=>exact Bx h
   |cont=>exact Bx h
   |ret u=>
    obtain⟨v,H',os,bare,un,ac9,r',q⟩:=h;have q':v=.bl true:=q;subst q';obtain rfl:u=F1 true:=r';refine⟨rfl,⟨λb o e=>?_,λb o e=>un.there b o e (by simp)⟩,os,bare⟩;cases q:H b with
    |none=>exact .inl (un.keep b o e q (by intro z;exact absurd (show b∈([]:O db) from z) (by simp)) (by simp))
    |some u=>
     rcases hA b u q with⟨z,rfl⟩|⟨z,_,o',u',rfl⟩
     .obtain⟨more,h2⟩:=un.u5 b _ q;have h3:s'.heap.get? b=am (FC (#[]++more)):=ac9 b _ h2;rw[ht b z]at e;cases e;exact .inr (.inl ⟨htC b z,rfl,#[],more,rfl,h3⟩)
     .have z2:=un.qR b _ _ q;obtain⟨e1,_⟩:=br b _ q;obtain⟨e2,_⟩:=ac9 b _ z2;rw[e]at e1;cases e1;exact .inl e2
 have naT:a∉ts:=λz=>by rw[ht a z]at ha;cases ha
 cases hk:K.lookup a with
 |some o=>
  have e:=KX a o hk;rw[ha]at e;cases e;refine Ñ (IC ts a ce) (λb hb=>Pe hb) (.inr ⟨_,vs.toArray,_,hk,rfl,rfl,rfl,by rw[An,agH];exact hl,by simpa using rv⟩) (λb u z=>?_) λb u z=>?_
  .rcases nA z with⟨y,rfl⟩|⟨_,y⟩
   .exact ht b y
   .cases y
  .rcases nA z with⟨y,rfl⟩|⟨_,y⟩
   .exact .inl ⟨y,rfl⟩
   .cases y
 |none=>
  refine Ñ (IC ts a (am (.bS {cls:=.type "list",data:=.seq vs.toArray} (.lst (ns.map V.int))))) (λb hb=>Pe hb) (.inl ⟨{cls:=.type "list",data:=.seq vs.toArray},X8 naT⟩) (λb u z=>?_) λb u z=>?_
  .rcases nA z with⟨y,rfl⟩|⟨rfl,y⟩
   .exact ht b y
   .cases y;exact⟨ha,by rw[Aj];exact hl,vs,_,rv,ha⟩
  .rcases nA z with⟨y,rfl⟩|⟨rfl,y⟩
   .exact .inl ⟨y,rfl⟩
   .cases y;exact .inr ⟨rfl,hk,_,_,rfl⟩
end L2
namespace FL
section
variable[bN]
abbrev EV.at(v:EV)(b:r9):EV:=⟨v.P,v.w,v.K,v.mg,b⟩
def walkT{l:PySem.W.OpenLaw}{q:wP}{d:DefRec}{K:Params->Aa}(hn:l.most=am 63)(Ĺ:d.params.defaults=[])(hr:cu k callerA)(hY:∀(w:Da) (h:r9),YP w h->(K w.params).In h/\∀P∈bN.ts.map (·.1),h.get? P=am (FC #[]))(hK:∀w:Da,∀P∈bN.ts.map (·.1),(K w.params).lookup P=ce)(hC:∀(w:Da) (h:r9),(K w.params).In h->∀P∈bN.ts.map (·.1),isCodeTable h P)(F:∀(w:Da) (mg:Str->Option ci) (fa:db) (h:r9),(K w.params).In h->h.Ns lc mg->mg d.name=am (.ref fa)->
   ∃fd:Ch,(∀(s:cr) (u:ci),BindsTo s fd ⟨[u],[]⟩ [("_law_script",u)])/\∀base:r9,(K w.params).In base->base.Ns lc mg->gP l.prog w (K w.params) mg base uP k fa fd ["_law_script"] (Pq (K w.params))):PySem.W.WalkO q Ó XP YP l.row.toRowW d [] (λf vs=>PySem.call f vs):=by
 refine Att.HZ hn Ĺ λw s₀ s₁ mg mb fa o pm cd Ç a vs ns G Y ho hd gM hmg ZO Õ Á hg=>?_;obtain⟨KX,hT⟩:=hY w _ Y;obtain⟨fd,hb,hF⟩:=F w mg fa _ KX G.T.g hmg;exact Nr KX G.T.g G.T.b G.T.builtins G.T.nolimit G.T.bmain hg ZO Õ (Ax Á ⋯) hr hT (hK w) (hC w _ KX) hF hb λH ĕ hS=>⟨λp hp=>⟨#[],ĕ _ (Au.mpr ⟨p,hp,rfl⟩),trivial,λpos c z=>by simp[codeAmong]at z⟩,a,ns,rfl,hS,Á,λ_=>rfl⟩
end
end FL
variable{i:Nat}{f:BR}{fd:O (BR×FL.FD)}{d:FL.FD}{a0:A9}
namespace FL
section
variable[bN]
def Rm{C dx:db}{fs:O (Str×V)}(br:lV P w H h)(e:Rd H a (.ins C dx fs)):∃mA,KS h a dx C mA/\∀f,qZ (fs.lookup f) (mA f):=by
 obtain⟨d,z,ne,ob,mA,n,r,q⟩:=(e.elim (br a _) λ⟨_,z⟩=>(br a _ z).2);exact⟨mA,⟨ob,n,ne⟩,r⟩
def abF(K:Aa)(ta:TE)(f:Str):TE:=λσ H Q=>ta σ H λx H1=>∃a C dx fs v,x=.ref a/\Rd H1 a (.ins C dx fs)/\OD K C/\eW K C f/\fs.lookup f=am v/\Q v H1
def Uq(he:PE X e ta)(hb:nn e f X.env (o0 e X.env)=o0 e X.env):PE X (.Attribute e f pos) (abF X.K ta f):=by
 intro Z s σ H Q I h;refine Mr hb (bU (he Z s σ H _ I h) λu s1 ⟨x,H1,I1,rx,a,C,dx,fs,v,ex,ea,c,n,l,q⟩=>?_);subst ex;obtain rfl:u=Ay a:=rx;obtain⟨mA,O_,r⟩:=Rm I1.br ea;obtain⟨u,hu,ru⟩:=qZ.some_of (by rw[<- l];exact r f);exact get_map I1.qi O_ (c.get f) c.hd n hu (wC ru) ⟨v,H1,I1.tok _,ru,q⟩
def om(f:Str):O Str->O PV->Option PV
 |n::ns,p::ps=>if f==n then am p else om f ns ps
 |_,_=>ce
def jr(f:Str):PV->W PV
 |.ob ns l=>.OK (om f ns l)
 |_=>.fail
theorem Ht{K:Aa}{p:PV}:∀{fs:O (Str×V)}{l:O PV},aE K ι H (fs.map (·.2)) l->om f (fs.map (·.1)) l=am p->f∈fs.map (·.1)/\∃v,fs.lookup f=am v/\VR K ι H v p
 |[],_,.nil,h=>by cases h
 |(n,v)::fs,q::l,.cons r s,h=>by
  rw[Av,om]at h;rw[AA];cases hn:f==n with
  |true=>rw[hn]at h;cases h;exact⟨by simp[eq_of_beq hn],v,rfl,r⟩
  |false=>
   rw[hn]at h;obtain⟨h1,h2⟩:=Ht s h;exact⟨AL _ h1,h2⟩
def HC{K:Aa}{a:nw}(hK:X.K=K)(ha:EF X K fs a wa)(hb:‹nn a f X.env (o0 a X.env)=o0 a X.env›):EF X K fs (.Attribute a f pos) (.bind wa (jr f)):=
 ⟨PE.imp (Uq ha.p hb) λσ H Q ⟨sr,q⟩=>⟨sr,wa.mono (λx q1 u1 H1 g1 s1 v1=>by
  cases v1 with
  | @ob a C dx o ws ns l e c na en r=>
   cases hp:om f ns l with
   |none=>rw[jr,hp]at q1;exact q1.elim
   |some p=>
    rw[jr,hp]at q1;subst en;obtain⟨h1,v,h2,h3⟩:=Ht r hp;exact⟨a,C,dx,ws,v,rfl,.inr ⟨_,e⟩,hK▸c,hK▸na f h1,h2,q1 _ H1 g1 s1 h3⟩
  |_=>exact q1.elim) q⟩⟩
section
variable{K:Aa}{H0:Hp}
def iX(f:Str):O (Str×FD)->Option FD
 |[]=>ce
 |(n,d)::l=>if f==n then am d else iX f l
def lW.look{p:PV}(h:lW K H ws fd)(e:iX f fd=am (.v p)):∃u,ws.lookup f=am u/\VR K [] H u p:=by
 induction h with
 |nil=>cases e
 | @v n u q ws fd r t ih=>
  rw[iX]at e;rw[AA];cases hn:f==n with
  |true=>rw[hn]at e;cases e;exact⟨u,rfl,r⟩
  |false=>rw[hn]at e;exact ih e
 | @o n b vs l ws fd e1 r t ih=>
  rw[iX]at e;rw[AA];cases hn:f==n with
  |true=>rw[hn]at e;cases e
  |false=>rw[hn]at e;exact ih e
def lW.LL{l:O PV}(h:lW K H ws fd)(e:iX f fd=am (.o b l)):ws.lookup f=am (.ref b)/\b∈hG fd/\∃vs,H b=am (.lst vs)/\aE K [] H vs l:=by
 induction h with
 |nil=>cases e
 | @v n u q ws fd r t ih=>
  rw[iX]at e;rw[AA];cases hn:f==n with
  |true=>rw[hn]at e;cases e
  |false=>rw[hn]at e;exact ih e
 | @o n b' vs l' ws fd e1 r t ih=>
  rw[iX]at e;rw[AA];cases hn:f==n with
  |true=>rw[hn]at e;cases e;exact⟨rfl,.head _,vs,e1,r⟩
  |false=>
   rw[hn]at e;obtain⟨h1,h2,h3⟩:=ih e;exact⟨h1,.tail _ h2,h3⟩
theorem uj:∀{fd:O (Str×FD)},iX f fd=am d->(f,d)∈fd
 |[],e=>by cases e
 |(n,d')::l,e=>by
  rw[iX]at e;cases hn:f==n with
  |true=>rw[hn]at e;cases e;rw[eq_of_beq hn];exact .head _
  |false=>rw[hn]at e;exact .tail _ (uj e)
theorem fc:∀(a b:O (Str×FD)),hG (a++b)=hG a++hG b
 |[],b=>rfl
 |(n,.v p)::a,b=>fc a b
 |(n,.o c l)::a,b=>congrArg (c::·) (fc a b)
def lW.put(h:lW K H ws fd)(n:iX f fd=ce)(h1:lW K H [(f,u)] [(f,d)]):lW K H (iM f u ws) (fd++[(f,d)]):=by
 have nf:∀{m:Str}{d':FD}{fd:O (Str×FD)},iX f ((m,d')::fd)=ce->m≠f/\iX f fd=ce:=λ{m d' fd} e=>by
  rw[iX]at e;cases hn:f==m with
  |true=>rw[hn]at e;cases e
  |false=>rw[hn]at e;exact⟨λz=>(by rw[z,beq_self_eq_true]at hn;cases hn),e⟩
 induction h with
 |nil=>exact h1
 |v r t ih=>rw[iM,if_neg (nf n).1];exact .v r (ih (nf n).2)
 |o e r t ih=>rw[iM,if_neg (nf n).1];exact .o e r (ih (nf n).2)
def lW.length(h:lW K H ws fd):ws.length=fd.length:=by
 induction h with
 |nil=>rfl
 |v r t ih=>rw[Aq,Aq,ih]
 |o e r t ih=>rw[Aq,Aq,ih]
def mH(sr:aR K H σ fs){C:db}(hs:fs[i]?=am (am (.ob a0 C fd))):∃a,σ[i]?=am (am (.ref a))/\fK K H a (.ob a0 C fd):=by
 obtain⟨u,e1,r⟩:=sr.at' i _ hs;rcases r with⟨v,e,_⟩|⟨a,e,r⟩
 .cases e
 .subst e;exact⟨a,e1,r⟩
def fh(s:aR K H σ fs)(g:cF σ fs H0 σ fs H){t t':SL}{c:db}(e1:fs[i]?=am (am t))(o:t.own=true)(np:∀ψ n m,t≠.cC ψ n m)(e2:σ[i]?=am (am (.ref a)))(hc:t.has a c)(Xp:∃o,H' c=am o)(nj:∀b,t'.has a b->t.has a b\/(¬bT σ fs b/\H0 b=ce))(sx:ft c H H')(ht:bh K H H'->fK K H' a t'):aR K H' σ (fs.set i (am t'))/\cF σ fs H0 σ (fs.set i (am t')) H':=by
 have oa:=s.ownAt e1 o e2;obtain⟨ob,q,n1,n2,n3⟩:=oa.ex o hc;have tk:bh K H H':=⟨λb vs z=>sx b _ (λy=>by subst y;rw[q]at z;cases z;exact n1 _ rfl) z,λb o u z=>sx b _ (λy=>by subst y;rw[q]at z;cases z;exact n2 _ _ rfl) z,xk λb φ z=>sx b _ (λy=>by subst y;rw[q]at z;cases z;cases n3) z⟩;have WI:=ht tk;have xH:∀b,bT σ (fs.set i (am t')) b->bT σ fs b\/H0 b=ce:=λb z=>by
  obtain⟨j,w,x,z1,z2,z3,z4⟩:=z;rcases bF z1 with⟨rfl,rfl⟩|⟨n,z1⟩
  .rw[e2]at z3;cases z3;exact(nj b z4).imp (λz4=>⟨j,t,a,e1,o,e2,z4⟩) λz4=>z4.2
  .exact .inl ⟨j,w,x,z1,z2,z3,z4⟩
 refine⟨⟨by simp[s.len],λj w e=>?_,λj k w x b1 b2 b z1 z2 o1 o2 q1 q2 y1 y2=>?_,s.tb.vX sx q (Lr n3) n2⟩,⟨λb ob e n=>⟨λnt=>sx b ob (λz=>by subst z;exact n ⟨i,t,a,e1,o,e2,hc⟩) ((g.keep b ob e n).1 nt),λz=>(xH b z).elim n λy=>by rw[e]at y;cases y⟩,λb e=>g.there b ?_,λb ψ m p=>?_,λb z=>tk.x b (g.x b z)⟩⟩
 .rcases bF e with⟨rfl,rfl⟩|⟨n,e⟩
  .exact⟨_,e2,.inr ⟨a,rfl,WI⟩⟩
  .obtain⟨u,h1,h2⟩:=s.at' j w e;refine⟨u,h1,h2.mono tk (λx b ob eb ow hb z _=>sx b ob (λy=>?_) z)⟩;subst y;subst eb;exact n (s.nd j i w t x a b e e1 ow o h1 e2 hb hc)
 .by_cases ji:j=i
  .by_cases ki:k=i
   .rw[ji,ki]
   .subst ji;rw[ao ki]at z2;rw[e2]at q1;cases q1;rcases bF z1 with⟨_,rfl⟩|⟨n,_⟩
    .rcases nj b y1 with h|h
     .exact s.nd j k t x a b2 b e1 z2 o o2 e2 q2 h y2
     .exact absurd ⟨k,x,b2,z2,o2,q2,y2⟩ h.1
    .exact absurd rfl n
  .rw[ao ji]at z1;rcases bF z2 with⟨rfl,rfl⟩|⟨n,z2⟩
   .rw[e2]at q2;cases q2;rcases nj b y2 with h|h
    .exact s.nd j k w t b1 a b z1 e1 o1 o q1 e2 y1 h
    .exact absurd ⟨j,w,b1,z1,o1,q1,y1⟩ h.1
   .exact s.nd j k w x b1 b2 b z1 z2 o1 o2 q1 q2 y1 y2
 .cases z:H b with
  |none=>rfl
  |some ob=>
   by_cases cc:b=c
   .subst cc;obtain⟨o2,y⟩:=Xp;rw[e]at y;cases y
   .rw[sx b ob cc z]at e;cases e
 .obtain⟨j,k,p1,p2⟩:=p;have ji:j≠i:=λz=>by subst z;rw[e1]at p1;cases p1;exact np _ _ _ rfl
  exact .inl ⟨j,k,by rw[ao ji];exact p1,p2⟩
end
end
end FL
variable{s:Dv}
namespace L2
def Inv.Vp{σ:St}{C dx:db}{fs:O (Str×V)}(I:Inv X Z σ H s)(e:H a=am (.ins C dx fs)):∃o,Inv X Z σ (upd H a (.bS o (.ins C dx fs))) s:=by
 obtain⟨d,z,ne,h1,q⟩:=(I.br a _ e);exact⟨_,I.write (by rw[e];exact BV) (.inl rfl) (λb u _ z=>z) ⟨_,h1⟩ ⟨h1,by rw[aj ne];exact d,z,ne,h1,q⟩⟩
end L2
variable{j:Nat}{MP:O PySem.Stmt}{d':FL.FD}
namespace FL
section
variable[bN]
section
variable{K:Aa}{rest:O sB}{T:Type}{out:T->End}{x:Bool}{w:W T}{l:O PV}{C:db}
def Kf(i:Nat)(hs:‹fs[i]?=am (am (.ob a0 C fd))›)(hf:‹iX f fd=am (.v v)›)(hK:X.K=K:=by first|rfl|assumption)(hN:‹X.N[i]?=am y›)(hv:wX X.env.scope y:=by first|exact B4 rfl|exact B3 (B4 rfl)|exact B3 (B3 rfl))(hb:‹nn (.Name y p) f X.env (o0 (.Name y p) X.env)=o0 (.Name y p) X.env›)(hd: ~~~(gq y))(gM: ~~~(zy y)):EF X K fs (.Attribute (.Name y p) f pos) (.ret v):=
 ⟨PE.imp (Qo (c8 hN hv hd gM) hb) λσ H Q ⟨sr,q⟩=>by
  obtain⟨a,e1,ae,c,na,_,_,dx,ws,ea,r⟩:=mH sr hs;obtain⟨u,h1,h2⟩:=r.look hf;exact⟨_,e1,a,C,dx,ws,u,rfl,ea,hK▸c,hK▸na _ (uj hf),h1,q _ H .refl sr h2⟩⟩
def SF.adM(i:Nat){k:PV->W T}(hs:fs[i]?=am (am (.ob a0 C fd)))(hK:X.K=K)(hN:X.N[i]?=am y)(hv:wX X.env.scope y)(he:EF X K fs e we)(hn:eW K C f)(hf:iX f fd=ce)(hl:fd.length<1000)(hr:∀v,SF X K x (fs.set i (am (.ob a0 C (fd++[(f,.v v)])))) rest (k v) out)(kF:‹pr e (am (.Attribute (.Name y p) f Â)) pos.line X.env=pure false›)(hd: ~~~(gq y))(gM: ~~~(zy y)):SF X K x fs (.Assign [.Attribute (.Name y p) f Â] e pos::rest) (.bind we k) out:=
 SF.step (Qf (c8 hN hv hd gM) he.p kF) λD σ H ⟨sr,q⟩=>⟨sr,we.mono (λv q1 u H1 g1 s1 v1=>by
  obtain⟨a,e1,ae,c,na,nb,nd,dx,ws,ea,r⟩:=mH s1 hs;have eb:hG (fd++[(f,.v v)])=hG fd:=by rw[fc];exact Cq _
  have sx:ft a H1 (upd H1 a (.ins C dx (iM f u ws))):=λb o n z=>by rw[aj n];exact z
  obtain⟨s2,g2⟩:=fh (t':=SL.ob a0 C (fd++[(f,FD.v v)])) s1 g1.f hs rfl (by simp) e1 (.inl rfl) ⟨_,ay⟩ (λb hb=>.inl (hb.imp id λz=>(show b∈hG fd from eb▸(show b∈hG (fd++[(f,.v v)]) from z)))) sx λtk=>⟨ae,c,λq hq=>by
   rcases AX.mp hq with z|z
   .exact na q z
   .cases Aw.mp z;exact hn,by rw[eb];exact nb,by rw[eb];exact nd,dx,_,ay,((r.put hf (.v v1 .nil)).mono tk λc vs hc z=>by
    rw[eb]at hc;rw[aj (λy:c=a=>nb (y▸hc))];exact z)⟩
  exact⟨_,e1,a,C,dx,ws,rfl,ea,hK▸c,hK▸hn,by rw[r.length];exact hl,_,k v,hr v,s2,(k v).mono (λt q2=>q2.go g2 sr s2) q1⟩) q⟩
def SF.Vs(i:Nat){k:O PV->W T}(hs:fs[i]?=am (am (.ob a0 C fd)))(hK:X.K=K)(hN:X.N[i]?=am y)(hv:wX X.env.scope y)(he:LF X K fs e wl)(hn:eW K C f)(hf:iX f fd=ce)(hl:fd.length<1000)(hr:∀b l,SF X K x (fs.set i (am (.ob a0 C (fd++[(f,.o b l)])))) rest (k l) out)(kF:‹pr e (am (.Attribute (.Name y p) f Â)) pos.line X.env=pure false›)(hd: ~~~(gq y))(gM: ~~~(zy y)):SF X K x fs (.Assign [.Attribute (.Name y p) f Â] e pos::rest) (.bind wl k) out:=
 SF.step (Qf (c8 hN hv hd gM) he.p kF) λD σ H ⟨sr,q⟩=>⟨sr,wl.mono (λl q1 b vs H1 g1 s1 n eb v1=>by
  obtain⟨a,e1,ae,c,na,nb,nd,dx,ws,ea,r⟩:=mH s1 hs;have no:=sr.noOwn n;have ef:hG (fd++[(f,.o b l)])=hG fd++[b]:=fc _ _;have ba:b≠a:=λz=>no ⟨i,_,a,hs,rfl,e1,.inl z⟩;have bf:b∉hG fd:=λz=>no ⟨i,_,a,hs,rfl,e1,.inr z⟩;have sx:ft a H1 (upd H1 a (.ins C dx (iM f (.ref b) ws))):=λb o n z=>by rw[aj n];exact z
  obtain⟨s2,g2⟩:=fh (t':=SL.ob a0 C (fd++[(f,FD.o b l)])) s1 g1.f hs rfl (by simp) e1 (.inl rfl) ⟨_,ay⟩ (λc hb=>by
   rcases hb with hb|hb
   .exact .inl (.inl hb)
   .have hb:c∈hG fd++[b]:=ef▸hb;rcases AX.mp hb with z|z
    .exact .inl (.inr z)
    .cases Aw.mp z;exact .inr ⟨no,n⟩) sx λtk=>⟨ae,c,λq hq=>by
   rcases AX.mp hq with z|z
   .exact na q z
   .cases Aw.mp z;exact hn,by rw[ef];exact λz=>(AX.mp z).elim nb λz=>ba (Aw.mp z).symm,by
    rw[ef];exact CW.mpr ⟨nd,by simp,λu hu v hv z=>by cases Aw.mp hv;exact bf (z▸hu)⟩,dx,_,ay,((r.put hf (.o eb v1 .nil)).mono tk λc vs hc z=>by
    rw[ef]at hc;rw[aj (λy:c=a=>(AX.mp hc).elim (λhc=>nb (y▸hc)) λhc=>ba ((Aw.mp hc).symm.trans y))];exact z)⟩
  exact⟨_,e1,a,C,dx,ws,rfl,ea,hK▸c,hK▸hn,by rw[r.length];exact hl,_,k l,hr b l,s2,(k l).mono (λt q2=>q2.go g2 sr s2) q1⟩) q⟩
theorem L9:∀{fd:O (Str×FD)}{j:Nat},fd[j]?=am (f,d)->(∀g:Str,hG [(g,d')]=hG [(g,d)])->hG (fd.set j (f,d'))=hG fd
 |[],_,e,_=>by simp at e
 |(n,q)::fd,0,e,h=>by
  simp at e;obtain⟨rfl,rfl⟩:=e;show hG ([(n,d')]++fd)=hG ([(n,q)]++fd);rw[fc,fc,h]
 |(n,q)::fd,j+1,e,h=>by
  show hG ([(n,q)]++fd.set j (f,d'))=hG ([(n,q)]++fd);rw[fc,fc,L9 (by simpa using e) h]
theorem Ma:∀{fd:O (Str×FD)}{j:Nat},fd[j]?=am (f,d)->∀c∈hG [(f,d)],c∈hG fd
 |[],_,e,_,_=>by simp at e
 |(n,q)::fd,0,e,c,hc=>by
  simp at e;obtain⟨rfl,rfl⟩:=e;show c∈hG ([(n,q)]++fd);rw[fc];exact BS _ hc
 |(n,q)::fd,j+1,e,c,hc=>by
  show c∈hG ([(n,q)]++fd);rw[fc];exact AZ _ (Ma (by simpa using e) c hc)
theorem lW.set(tk:bh K H H')(sx:ft b H H')(h1:lW K H' [(f,.ref b)] [(f,d')]):∀{ws:O (Str×V)}{fd:O (Str×FD)}{j:Nat},lW K H ws fd->fd[j]?=am (f,.o b l)->(hG fd).Nodup->lW K H' ws (fd.set j (f,d'))
 |_,_,j,.nil,e,_=>by simp at e
 |_,_,0,.v r t,e,_=>by simp at e
 |_,_,0,.o (n:=n) (b:=b') (fd:=fd) e1 r t,e,nd=>by
  simp at e;obtain⟨rfl,rfl,rfl⟩:=e;have nd:(b'::hG fd).Nodup:=nd;have t2:=t.mono tk λc vs hc z=>sx c _ (λy=>(Bz.mp nd).1 (y▸hc)) z;cases h1 with
  |v r1 _=>exact .v r1 t2
  |o e1 r1 _=>exact .o e1 r1 t2
 |_,_,j+1,.v r t,e,nd=>.v (VR.tk tk r) (lW.set tk sx h1 t (by simpa using e) nd)
 |_,_,j+1,.o (n:=n) (b:=b') (fd:=fd) e1 r t,e,nd=>by
  have nd:(b'::hG fd).Nodup:=nd;have e:fd[j]?=am (f,.o b l):=by simpa using e
  exact .o (sx b' _ (λy=>(Bz.mp nd).1 (y▸Ma e b (.head _))) e1) (aE.tk tk r) (lW.set tk sx h1 t e (Bz.mp nd).2)
def ui{P:Str->Prop}(h:∀q∈fd,P q.1)(e:fd[j]?=am (f,d)):∀q∈fd.set j (f,d'),P q.1:=λq hq=>by
 rcases List.mem_or_eq_of_mem_set hq with z|z
 .exact h q z
 .rw[z];exact h (f,d) (AU e)
def SF.Vt(i j:Nat){k:O PV->W T}(hs:fs[i]?=am (am (.ob a0 C fd)))(hj:fd[j]?=am (f,.o b l))(hf:iX f fd=am (.o b l))(hK:X.K=K)(hN:X.N[i]?=am y)(hv:wX X.env.scope y)(he:EF X K fs e we)(hr:∀l',SF X K x (fs.set i (am (.ob a0 C (fd.set j (f,.o b l'))))) rest (k l') out)(hd: ~~~(gq y))(gM: ~~~(zy y))(hb:‹nn (.Name y p) f X.env (o0 (.Name y p) X.env)=o0 (.Name y p) X.env›)(dm:‹nn (.Attribute (.Name y p) f p3) "append" X.env (o0 (.Attribute (.Name y p) f p3) X.env)=o0 (.Attribute (.Name y p) f p3) X.env›)(mO:‹HWa X bD [e]›)(di:‹SN Â bD›)(tV:‹gK X e []›)(dD:‹jO X bD []›)(kF:‹pr (.Call (.Attribute (.Attribute (.Name y p) f p3) "append" Â) [e] [] bD) ce pos.line X.env=pure false›):SF X K x fs (.Expr (.Call (.Attribute (.Attribute (.Name y p) f p3) "append" Â) [e] [] bD) pos::rest) (.bind we λv=>.bind (eA l v) k) out:=
 SF.step (k6 (mE K hK Bt EL EK sX (Qo (c8 hN hv hd gM) hb) (aY he.p bC tV) dm mO di tV dD) kF) λD σ H ⟨sr,q⟩=>by
  obtain⟨a,e1,ae,c,na,_,_,dx,ws,ea,r⟩:=mH sr hs;obtain⟨lk,_,vs,eb,_⟩:=r.LL hf;refine⟨_,e1,a,C,dx,ws,_,rfl,ea,hK▸c,hK▸na _ (uj hf),lk,.inl ⟨rfl,_,b9.of eb⟩,sr,we.mono (λv q1 u H1 g1 s1 v1=>?_) q⟩;obtain⟨a',uT,ae',c',Ċ,ß,nd',ě,uY,ea',r'⟩:=mH s1 hs;rw[e1]at uT;cases uT;obtain⟨lk',mb,vQ,eb',rl⟩:=r'.LL hf;refine⟨b,vQ,u,rfl,rfl,eb',by rw[rl.length];exact q1.1,λH2 sx h2=>?_⟩;have ef:hG (fd.set j (f,.o b (l++[v])))=hG fd:=L9 hj λ_=>rfl;have ab:a≠b:=λz=>ß (z▸mb);obtain⟨s2,g2⟩:=fh (t':=SL.ob a0 C (fd.set j (f,FD.o b (l++[v])))) s1 g1.f hs rfl (by simp) e1 (.inr mb) ⟨_,h2⟩ (λb' hb=>.inl (hb.imp id λz=>(show b'∈hG fd from ef▸(show b'∈hG (fd.set j (f,.o b (l++[v]))) from z)))) sx λtk=>⟨ae',c',ui Ċ hj,by rw[ef];exact ß,by rw[ef];exact nd',ě,uY,sx a _ ab ea',lW.set (ws:=uY) tk sx (.o h2 (aE.tk tk (rl.append (.one v1))) .nil) r' hj nd'⟩;exact⟨_,k _,hr _,s2,(k _).mono (λt q2=>q2.go g2 sr s2) q1.2⟩
theorem js:∀{fd:O (Str×FD)}{j:Nat}{p:PV}{c:db},c∈hG (fd.set j (f,.v p))->c∈hG fd
 |[],_,_,_,h=>by simpa using h
 |(n,.v _)::fd,0,p,c,h=>h
 |(n,.o _ _)::fd,0,p,c,h=>.tail _ h
 |(n,.v _)::fd,j+1,p,c,h=>js (fd:=fd) h
 |(n,.o b l)::fd,j+1,p,c,h=>by
  rcases AI.mp (h) with rfl|h
  .exact .head _
  .exact .tail _ (js h)
theorem oq:∀{fd:O (Str×FD)}{j:Nat}{p:PV},(hG fd).Nodup->(hG (fd.set j (f,.v p))).Nodup
 |[],_,_,h=>by simpa using h
 |(n,.v _)::fd,0,p,h=>h
 |(n,.o _ _)::fd,0,p,h=>(Bz.mp h).2
 |(n,.v _)::fd,j+1,p,h=>oq (j:=j) h
 |(n,.o b l)::fd,j+1,p,h=>by
  exact Bz.mpr ⟨λz=>(Bz.mp h).1 (js z),oq (Bz.mp h).2⟩
def SF.Vr(i j:Nat)(hs:fs[i]?=am (am (.ob a0 C fd)))(hj:fd[j]?=am (f,.o b l))(hf:iX f fd=am (.o b l))(hr:SF X K x (fs.set i (am (.ob a0 C (fd.set j (f,.v (.cl l)))))) MP w out):SF X K x fs MP w out:=⟨λZ s σ H D I ⟨sr,q⟩=>by
 obtain⟨a,e1,ae,c,na,nb,nd,dx,ws,ea,r⟩:=mH sr hs;obtain⟨_,mb,vs,eb,rl⟩:=r.LL hf;obtain⟨ob,I2⟩:=I.rQ eb;have ab:a≠b:=λz=>nb (z▸mb);have sx:ft b H (upd H b (.bS ob (.lst vs))):=λb o n z=>by rw[aj n];exact z
 obtain⟨s2,g2⟩:=fh (t':=SL.ob a0 C (fd.set j (f,FD.v (.cl l)))) sr bZ.refl.f hs rfl (by simp) e1 (.inr mb) ⟨_,ay⟩ (λb' hb=>.inl (hb.imp id λz=>js z)) sx λtk=>⟨ae,c,ui na hj,λz=>nb (js z),oq nd,dx,ws,by rw[aj ab];exact ea,lW.set tk sx (.v (.cl (.inl ⟨ob,ay⟩) (aE.tk tk rl)) .nil) r hj nd⟩;exact hr.p Z s σ _ D I2 ⟨s2,w.mono (λt q3=>q3.go g2 sr s2) q⟩⟩
def fdV:O (Str×FD)->Option (O PV)
 |[]=>am []
 |(_,.v p)::l=>(fdV l).map (p::·)
 |(_,.o _ _)::_=>ce
theorem lW.vals(tk:bh K H H'):∀{ws:O (Str×V)}{fd:O (Str×FD)}{l:O PV},lW K H ws fd->fdV fd=am l->fd.map (·.1)=ws.map (·.1)/\aE K [] H' (ws.map (·.2)) l
 |_,_,_,.nil,e=>by cases e;exact⟨rfl,.nil⟩
 |_,_,l,.v (fd:=fd) r t,e=>by
  rw[fdV]at e;cases h:fdV fd with
  |none=>rw[h]at e;cases e
  |some m=>
   rw[h]at e;cases e;obtain⟨h1,h2⟩:=lW.vals tk t h;exact⟨by rw[Av,Av,h1],.cons (VR.tk tk r) h2⟩
 |_,_,_,.o _ _ _,e=>by cases e
end
end
end FL
variable{t:L2.TS}{f:A9}{m:O PL.PV->FL.W PL.PV}
namespace FL
section
variable[bN]
variable{K:Aa}
def TJ(K:Aa)(C:db)(m:O PV->W PV):Sp:=λvs H Q _=>TB H/\∃a dx vQ l,vs=.ref a::vQ/\H a=am (.ins C dx [])/\aE K [] H vQ l/\(m l).run λv=>∀H',(∀c o,c≠a->H c=am o->o.nt=true->H' c=am o)->TB H'->(∀b,H' b=ce->H b=ce)->VR K [] H' (.ref a) v->Q .aM H'
def fdOf(ns:O Str)(l:O PV):O (Str×FD):=(ns.zip l).map λp=>(p.1,.v p.2)
def nL(ns:O Str)(l:O PV):PV:=.ob ((fdOf ns l).map (·.1)) ((ns.zip l).map (·.2))
theorem RL:∀ns l,fdV (fdOf ns l)=am ((ns.zip l).map (·.2))
 |[],_=>rfl
 |_::_,[]=>rfl
 |n::ns,p::l=>by
  show(fdV (fdOf ns l)).map (p::·)=_;rw[RL];rfl
def Ov(a C:db)(l:O PV)(n:Nat):aQ:=am (.ob a C [])::(l.map λv=>am (SL.val v))++Ao (n-1-l.length) ce
def VB(a C:db)(fd:O (Str×FD))(n:Nat):aQ:=am (.ob a C fd)::Ao (n-1) ce
section
variable{st:sB}{C:db}{fd:Ch}{N:O Str}{ns:O Str}
def mz.VB(h:mz X MP t):mz X MP λD σ H=>t {D with nx:=λσ' H'=>∃a dx ws,H' a=am (.ins C dx ws)/\∀ob,D.nx σ' (upd H' a (.bS ob (.ins C dx ws)))} σ H:=λZ s σ H D I q=>bU (h Z s σ H _ I q) λfl s' z=>by
 cases fl with
 |next=>
  obtain⟨σ',H',I',a,dx,ws,e,z⟩:=z;obtain⟨ob,I2⟩:=I'.Vp e;exact⟨σ',_,I2,z ob⟩
 |brk=>exact z
 |cont=>exact z
 |ret u=>exact z
theorem L8{m:zG (O PV) n}(Fn:OY K x qual st f fd)(S:dA N ps (aF st))(hn:n+1=ps.length)(hc:OD K C)(É:∀(a:db) (l:O PV),l.length=n->∀(dc:ci) (A:zn) (outer:O Env) (s:cr) (H:Hp) (E:XK),cu k (A.deeper (EQ qual (aF st) s.heap.objs.size f dc))->SF (qU uP P w K mg base N qual (aF st) f dc A outer s H E).SW K false (Ov a C l N.length) (bR st) (qz n m l) λt=>.nx (VB a C (fdOf ns t) N.length)):gP P w K mg base uP (k+1) f fd ps (TJ K C λl=>.bind (qz n m l) λr=>.ret (nL ns r)):=by
 refine Fn.ok S (λvs H Q E h=>?_) (λdc A outer s H vs Q E hr h=>?_)
 .obtain⟨_,a,dx,vQ,l,rfl,_,r,q⟩:=h;rw[Aq,r.length,kX q];exact hn
 obtain⟨tb,a,dx,vQ,l,rfl,ha,r,q⟩:=h;have Xf:=r.length;have Vk:∀{i:Nat}{s:SL},(Ov a C l N.length)[i]?=am (am s)->(i=0/\s=.ob a C [])\/∃j u v,i=j+1/\vQ[j]?=am u/\s=.val v/\VR K [] H u v:=λ{i s} e=>by
  unfold Ov at e;cases i with
  |zero=>simp at e;exact .inl ⟨rfl,e.symm⟩
  |succ j=>
   by_cases c:j<l.length
   .rw[AH (by simpa using c)]at e;obtain⟨u,v,h1,h2,h3⟩:=aE.slot r e;exact .inr ⟨j,u,v,rfl,h1,h2,h3⟩
   .rw[AV (by simpa using c),BU]at e
    split at e<;>cases e
 have sr:aR K H (L2.start N (.ref a::vQ)) (Ov a C l N.length):=by
  refine⟨?_,λi s e=>?_,λi j s t x y b e1 e2 o1 o2 q1 q2 _ _=>?_,tb⟩
  .unfold L2.start Ov;rw[Ak,Aj,Bq,Ak,Aq,Aq,Aj,Bq];lia
  .rcases Vk e with⟨rfl,rfl⟩|⟨j,u,v,rfl,h1,rfl,h3⟩
   .exact⟨.ref a,kZ rfl,.inr ⟨a,rfl,rfl,hc,by simp,by simp[hG],by simp[hG],dx,[],ha,.nil⟩⟩
   .exact⟨u,kZ (by simpa using h1),.inl ⟨v,rfl,h3⟩⟩
  .rcases Vk e1 with⟨rfl,rfl⟩|⟨j1,u,v,rfl,h1,rfl,h3⟩
   .rcases Vk e2 with⟨rfl,rfl⟩|⟨j1,u,v,rfl,h1,rfl,h3⟩
    .rfl
    .cases o2
   .cases o1
 refine⟨_,mz.VB (C:=C) (É a l (kX q) dc A outer s H E hr).p,sr,(qz n m l).mono (λt q1 _ σ' H' g s'=>?_) q⟩;obtain⟨u',e',r'⟩:=s'.at' 0 _ rfl;rcases r' with⟨v,z,_⟩|⟨b,rfl,rfl,c,na,nb,nd,ě,ws,eb,fr⟩
 .cases z
 refine⟨b,ě,ws,eb,λob=>q1 _ (λc o nc e nt=>?_) (s'.tb.vX (λc o nc z=>by rw[aj nc];exact z) eb rfl (by simp)) (λc z=>?_) ?_⟩
 .rw[aj nc];refine(g.keep c o e λz=>?_).1 nt;obtain⟨j,t',x,z1,z2,z3,z4⟩:=z;rcases Vk z1 with⟨rfl,rfl⟩|⟨j1,u,v,rfl,_,rfl,_⟩
  .have:=vU z3;simp at this;rcases z4 with rfl|z4
   .exact nc this.symm
   .cases z4
  .cases z2
 .by_cases y:c=b
  .subst y;rw[ay]at z;cases z
  .rw[aj y]at z;exact g.there c z
 .obtain⟨h1,h2⟩:=fr.vals (fg (.bS ob (.ins C ě ws)) eb (by simp) (by simp)) (RL ns t);exact .ob ay c (λf hf=>by
   obtain⟨q,q1,q2⟩:=Au.mp hf;exact q2▸na q q1) h1 h2
end
section
variable{C:db}{fd:Ch}
theorem aek:∀{n:Nat}{vs:O V}{l:O PV},fu K H vs (Ao n .v) l->aE K [] H vs l
 |0,_,_,h=>by cases h;exact .nil
 |n+1,_,_,h=>by
  cases h with|v r t=>exact .cons r (aek t)
def aag(M:Mk X.K C f)(F:gP X.prog X.w X.K X.mg X.base uP k f fd ps (TJ K C m))(hr:cu (k+1) X.A)(hg:Gl X x)(hm:X.mg x=am (.ref C))(hb:Binds X.K fd ps [])(ha:AF X K fs (e::es) (Ao n .v) B az)(hW:W'=B m)(jq: ~~~(gq x))(he:‹gK X e es›)(cU:‹jO X pos es›):EF X K fs (.Call (.Name x p) (e::es) [] pos) W' az:=by
 subst hW;obtain⟨w,hp,hB⟩:=ha.p;rw[hB];refine⟨PE.imp (Up (dvs:=[]) (ds:=[]) (E:=E0) M F hr hg hm hb .nil WD hp jq he cU) λσ H Q ⟨sr,q⟩=>⟨sr,w.mono (λl q1 vs H1 g1 s1 v1=>λa dx na ndx ne=>?_) q⟩⟩;have sm:∀c o,H1 c=am o->c≠a/\(upd (upd H1 dx (.own a)) a (.ins C dx [])) c=am o:=λc o z=>by
  have h1:c≠a:=λy=>by subst y;rw[na]at z;cases z
  have h2:c≠dx:=λy=>by subst y;rw[ndx]at z;cases z
  exact⟨h1,by rw[aj h1,aj h2];exact z⟩
 have same:iZ H1 (upd (upd H1 dx (.own a)) a (.ins C dx [])):=λc o z=>(sm c o z).2;refine⟨s1.tb.same same,a,dx,vs,l,by rw[Cq],ay,aE.tk ⟨λ_ _ z=>same _ _ z,λ_ _ _ z=>same _ _ z,xk λ_ _ z=>same _ _ z⟩ (aek v1),(m l).mono (λv q2 H2 kp tb th r2=>⟨rfl,?_⟩) q1⟩;have gt:∀c,H2 c=ce->H1 c=ce:=λc z=>by
  have:=th c z;cases y:H1 c with
  |none=>rfl
  |some o=>rw[(sm c o y).2]at this;cases this
 have gp:∀c ψ d,pX vs (Ao n .v) ψ d c->w4 H2 c ψ (0+d):=λc ψ d ⟨i,z,_⟩=>by
  rw[BU]at z
  split at z<;>cases z
 have gc:Wg 0 vs (Ao n .v) H1 H2:=⟨λc o z _ nt=>kp c o (sm c o z).1 (sm c o z).2 nt,tb,gt,gp,λb z=>kp b _ (sm b _ z).1 (sm b _ z).2 rfl⟩;obtain⟨s2,g3⟩:=gc.caller v1 s1;exact q2 (.ref a) H2 (g1.trans g3) s2 r2
end
end
end FL
variable{v:FL.EV}
namespace FL
section
variable[bN]
def d9:sB->sB
 |.ClassDef _ _ _ (b::_) _ _ _ _ _ _ _=>b
 |s=>s
structure CF where
 x:Str
 q:Str
 s:sB
 ns:List Str
 ps:List Str
 k:Nat
 m:List PV->W PV
structure CI(v:EV)(d:CF) where
 C:db
 f:db
 fd:Ch
 fn:OY v.K "__init__" d.q d.s f fd
 mk':Mk v.K C f
 cl:OD v.K C
 na:∀n∈d.ns,eW v.K C n
 bi:Binds v.K fd d.ps []
 at':v.mg d.x=am (.ref C)
abbrev CI.O{v:EV}{d:CF}(D:CI v d):Prop:=gP v.P v.w v.K v.mg v.base uP d.k D.f D.fd d.ps (TJ v.K D.C d.m)
structure CF.C(d:CF)(v:EV) where
 i:CI v d
 o:i.O
structure CD(K:Aa)(x q:Str)(st:sB)(ns:List Str):Prop where
 ex:∃C f fd,AN K lc x=am (am (.ref C))/\OY K "__init__" q st f fd/\Mk K C f/\OD K C/\∀n∈ns,eW K C n
section
variable{st:sB}{ns:O Str}
def mkI{m:zG (O PV) n}(D:CI v ⟨x,q,st,ns,zC st,k+1,λl=>.bind (qz n m l) λr=>.ret (nL ns r)⟩)(É:∀{dc:ci}{A:zn}{outer:O Env}{s:cr}{H:Hp}{E:XK},cu k (A.deeper (EQ q (aF st) s.heap.objs.size D.f dc))->(xP st).Nodup->∀a:db,KW n (λl w=>SF (qU uP v.P v.w v.K v.mg v.base (xP st) q (aF st) D.f dc A outer s H E).SW v.K false (Ov a D.C l (xP st).length) (bR st) w λt=>.nx (VB a D.C (fdOf ns t) (xP st).length)) m)(hn:‹n+1=(zC st).length›)(S:dA (xP st) (zC st) (aF st):=by exact fsc):D.O:=L8 D.fn S hn D.cl λa l e dc A outer s H E hr=>(É hr S.nd a).all l e
end
section
variable{K:Aa}
theorem eM{C:db}{fd:Ch}(F:gP X.prog X.w X.K X.mg X.base uP k f fd ps (TJ K C m))(M:Mk X.K C f)(bi:Binds X.K fd ps [])(hm:X.mg x=am (.ref C))(hr:cu k' X.A)(ha:AF X K fs (e::es) (Ao n .v) B)(hk:k+1<=k':=by first|exact A5 rfl|exact Al _|lia)(hg:‹Gl X x›)(hW:‹W'=B m›)(jq: ~~~(gq x))(he:‹gK X e es›)(cU:‹jO X pos es›):EF X K fs (.Call (.Name x p) (e::es) [] pos) W':=
 aag M F (hr.mono hk) hg hm bi ha hW jq he cU
def CD.go{d:CF}(D:CD v.K d.x d.q d.s d.ns)(X:v.K.In h)(G:h.Ns lc v.mg){P:Prop}(k:∀D:CI v d,D.O)(r:d.C v->P)(hb:∀(kV Ç pm:ci) (an:Option db) (dc ct:ci) (us:O ci),us.length=d.ps.length->bindArgs (BN "__init__" d.q (dw d.s) (bR d.s) (aF d.s) .none kV Ç pm an dc ct) ⟨us,[]⟩=pure (d.ps.zip us):=by exact λ_ _ _ _ _ _=>usN (by (repeat intro _);rfl)):P:=by
 obtain⟨C,f,fd,a,F,M,c,na⟩:=D.ex;exact r ⟨⟨C,f,fd,F,M,c,na,F.binds hb,BJ X G a⟩,k _⟩
end
end
end FL
namespace L2
section
def Sn{R:O ci->cr->Prop}{o:Obj}(ho:s.heap.get? it=am o)(hc:o.cls=.type "tuple")(hd:o.data=.seq items n)(hn:items.size<=sizeLine)(h:∀h':r9,s.heap.objs.size<=h'.objs.size->(∀b o,s.heap.get? b=am o->h'.get? b=am o)->R items.toList {s with heap:=h'}):ga (im prog w) A (collect (.ref it)) R E s:=by
 refine Ab (wpAny_runValue (u8 entry_proto_collect' ?_));refine Ab (Bb ?_);refine Ag ⟨wf PySem.F.plain_list_iadd _,u8 entry_list_iadd' ?_⟩;have g1:(s.heap.push {cls:=.type "list",data:=.seq ([]:O ci).toArray}).get? s.heap.objs.size=am {cls:=.type "list",data:=.seq #[] 0}:=Am _ rfl;have g2:=BH (Bg (·++items)) g1 rfl;have step:=wpAny_extend_seq (prog:=prog) (w:=w) (A:=A) (s:={s with heap:=s.heap.push {cls:=.type "list",data:=.seq ([]:O ci).toArray}})
  (R:=λq s'=>q=.ok (.ret (.ref s.heap.objs.size))/\s'={s with heap:=(s.heap.push {cls:=.type "list",data:=.seq ([]:O ci).toArray}).update s.heap.objs.size (Bg (·++items))})
  s.heap.objs.size it (.ref s.heap.objs.size) 0 (.inr rfl) g1 (Ae _ ho) hc hd ⟨rfl,rfl⟩ hn
 have e0:((#[])++items).toList=items.toList:=by simp
 have fin:ga (im prog w) A (load s.heap.objs.size >>= λx=>match x.data with | .seq xs _=>pure xs.toList | _=>unsupported "internal:collect") R E {s with heap:=(s.heap.push {cls:=.type "list",data:=.seq ([]:O ci).toArray}).update s.heap.objs.size (Bg (·++items))}:=by
  refine Ab (F4 g2 (Ag ?_));rw[e0];exact h _ (C5 (Ap g2)) (λb u e=>(BC _ _ (Nat.ne_of_gt (Ap e))).trans (Ae _ e))
 refine BF step (λfn s' x=>?_) λe s' x=>nomatch x.1;cases fn with
 |done f=>
  obtain⟨e,rfl⟩:=x;cases e;exact fin
 |again c1=>exact⟨x.1,FM x.2 λq s2 ⟨e1,e2⟩=>by
   subst e1 e2;exact fin⟩
end
section
def T8(K:Aa):O V->Hp->VK->Prop:=λxs H Q=>∃(p:db) (ns:O Int),xs=[.ref p]/\dM K H p (ns.map V.int)/\ns.length<64/\∀ms:O Int,ms.Perm ns->ms.Pairwise (·<=·)->gL H (.lst (ms.map V.int)) Q
theorem HW(K:Aa)(hK:X.K=K):cj X (.builtin "sorted") (T8 K):=by
 subst hK;intro Z s σ H xs us Q I r h;obtain⟨p,ns,rfl,hq,é,q⟩:=h;obtain⟨u,rfl,rx⟩:=vals1 r;cases rx;obtain⟨aq,r',⟨o,h1,h2,n,h3⟩,hz⟩:=I.tuple hq;have hl:=r'.length;rw[Aj]at hl hz;refine Ey kind_sorted plain_sorted entry_sorted (args_sorted1 _) ?_;unfold wS.«sorted»;refine Ab (Ag ?_);refine Ab (Sn h1 h2 h3 (by rw[An];lia) λh' Ô kp=>?_);show ga _ _ (newList aq >>= _) _ _ _;refine Ab (FW ?_ ∅);have Xh:(h'.push (ww "list" aq.toArray 0)).get? h'.objs.size=am (ww "list" aq.toArray 0):=Am _ rfl;refine Ab (Bn (Bo slot_list_sort ⟨_,Xh,rfl⟩ entry_list_sort (list_sort_tree Xh (intsAre_of r') ∅ λout ms a1 a2 a3=>⟨_,rfl,?_⟩) (args_list_sort _)));refine Ag ⟨_,rfl,?_⟩;obtain⟨e,he⟩:=sortedHeap_at Xh;refine⟨.ref h'.objs.size,_,I.laid (λb o eb=>?_) Ô (show bE X.prog X.w _ _ _ (.lst (ms.map V.int)) from⟨?_,out.toList,e,kW a1,?_⟩),rfl,(q ms a2 a3).at _ (I.br.fresh Ô)⟩
 .have lt:=Ap (kp b o eb);rw[sortedHeap_old (AB lt) (by rw[size_push'];exact Cu lt)];exact Ae _ (kp b o eb)
 .rw[Aj,a2.length_eq];exact hz
 .exact he
end
end L2
namespace FL
section
variable[bN]
variable{K:Aa}
section
variable{w:W PV}
def xr:PV->W (O PV)
 |.tup l=>kf l
 |_=>.fail
def QX(hK:X.K=K)(hg:Gl X "sorted")(hm:X.mg "sorted"=ce)(ha:EF X K fs e w)(he:‹gK X e []›)(cU:‹jO X pos []›):LF X K fs (.Call (.Name "sorted" p) [e] [] pos) (.bind w xr):=⟨PE.imp (dX (HW K hK) hg hm boot_sorted (aY ha.p bC he) ⋯ ⋯ he cU) λσ H Q ⟨sr,q⟩=>⟨sr,w.mono (λx q1 u1 H1 g1 s1 v1=>by
 cases v1<;>first|exact q1.elim|skip
 rename_i h1 r1;obtain⟨ns,el,hC,q2⟩:=iV q1;subst el;have:=lA r1;subst this;refine⟨_,ns,rfl,dM.of h1,hC,λms a2 a3=>?_⟩;rw[zX a2 a3];exact qa g1 s1 (rO _ _ _) q2) q⟩⟩
@[simp] theorem N3(l:O PV):xr (.tup l)=kf l:=(rfl)
end
end
section
variable[bN]
def cdx2{K:Aa}{st:sB}{ns:O Str}{C:db}{kV:ci}(a:AN K lc x=am (am (.ref C)))(m2:BK K (.ref C) "__init__"=am (am (.ref f)))(l:K.lookup f=am ⟨oc,od,.func (BN "__init__" q (dw st) (bR st) (aF st) .none kV Ç pm an dc ct),Qt⟩)(c:Ds K dc q=true)(k:CB K (.ref f)=true)(m1:Fj K C=true)(m3:PySem.W.isFn K (.ref f)=true)(m4:CB K (.ref C)=true)(c1:DQ K C Str.empty=true)(c2:Dr K C=true)(c3:Ez K C=true)(c4:BK K (.ref C) "__setattr__"=am (am (.builtin "object.__setattr__")))(na:∀n∈ns,BK K (.ref C) n=am ce):CD K x q st ns:=⟨C,f,_,a,RD l c k,⟨m1,m2,m3,m4⟩,⟨c1,c2,c3,c4⟩,na⟩
end
end FL
namespace My
def mM(cG:PV):W (O PV):=
 []\λng=>
 bn (cG\λx3=>ca [x3]) λoT=>
 bn (Iu (λs4=>(s4.2\λl5=>ca (!l5.isEmpty))) (λs4=>(
 bn (Gv s4.2) λt7=>
 t7.2\λx9=>bn (eA s4.1 x9) λm9=>
 ig (X6 (bn (bn (ca t7.2) (kD .str)) i6)) (
 bn (bn (ca t7.2) aG) λZo=>bn (Z9 t7.1 Zo) λsu=>
 ca (m9,su)) (
 ca (m9,t7.1)))) (ng,oT)) λs4=>
 (s4.1\λZn=>ca Zn.reverse)
def gX(cG:PV):W PV:=
 []\λeG=>
 []\λxZ=>
 bn (cG\λx3=>mM x3) λl30=>bn (cA l30 (eG,xZ) λxE s4=>(
 bn (bn (bn (ca xE) (kD .str)) i6) λb=>bn (if b=true then (
 xE\λO1=>bn (eA s4.1 O1) λK4=>
 ca (K4,s4.2)) else (
 bn (Gv s4.2) λt20=>
 bn (Gv t20.1) λYe=>
 bn (Ye.2\λTa=>t20.2\λXW=>ca (.tup [Ta,XW])) λXU=>bn (eA s4.1 XU) λK3=>
 ca (K3,Ye.1))) λYm=>
 bn (b2 GI (bn (ca Ym.1) yd) (ca (.int 1))) λx28=>bn (eA Ym.2 x28) λGY=>
 ca (Ym.1,GY))) λs4=>
 (bn (ca s4.1) ka)
def bP(cz:PV):W PV:=
 (ig (bn (bn (ca cz) (kD .str)) i6) (ca (.tup [])) (ca cz))
def gz(cG:PV):W PV:=
 bn (cG\λx2=>gX x2) λeG=>
 bn (bn (bn (ca eG) aG) λl4=>a6 l4 λp5=>(ca .aM)) λzm=>
 bn (bn (bn (ca eG) aG) λl6=>.dN (l6.length<=sizeLine) (.ret (eE 0 l6))) λW2=>bn (cA W2 zm λp8 s7=>bn (q9 p8) λt9=>(
 bn (bn (t9.2\λlM=>bP lM) aG) λQ2=>bn (cA Q2 s7 λL1 Yn=>(
 t9.1\λuX=>L1\λqx=>bn (u9 Yn qx uX) λIb=>
 ca Ib)) λYn=>
 ca Yn)) λs7=>
 (bn (ca s7) ka)
def eO(e6:PV)(kH:PV):W PV:=
 (ig (bn (bn (cY (bn (ca e6) aG) (ca kH)) (kD .str)) i6) (cY (bn (ca e6) aG) (ca kH)) (ca kH))
def jk(bQ:PV):W (O PV):=
 bn (bQ\λx2=>gz x2) λdz=>
 bn (bn (bn (ca dz) aG) λl4=>a6 l4 λp5=>(ca (.tup []))) λlz=>
 bn (bn (b2 GI (c1 gb (ca dz)) (ca (.int 1))) λx6=>bn (bn (ca (.int 1)) nR) λx7=>bn (bn (ca (.int 1)) nR) λx8=>PU x6 x7 x8) λQ2=>bn (cA Q2 lz λkG s9=>(
 bn (ig (t2 Jf (cY (bn (ca dz) aG) (ca kG)) (ca .aM)) (ca (.tup [])) (cY (ca s9) (cY (bn (ca dz) aG) (ca kG)))) λIc=>
 bn (w2 addW (kG\λw6=>ca (.tup [w6])) (ca Ic)) λuX=>kG\λqx=>bn (u9 s9 qx uX) λG0=>
 ca G0)) λs9=>
 ca s9
def fW(yb:PV)(kH:PV):W PV:=
 (bn (bn (bn (c1 gb (ca yb)) lX) λl2=>jV l2 λp3=>OM (Tf (ZG true (ca p3) (bn (cY (bn (ca yb) aG) (ca kH)) aG)) (ZG true (ca kH) (bn (cY (bn (ca yb) aG) (ca p3)) aG))) (ca p3)) ka)
def kr(bQ:PV):W PV:=
 bn (bQ\λx2=>gX x2) λfq=>
 bn (bQ\λx4=>jk x4) λlz=>
 (bn (bn (bn (c1 gb (ca fq)) lX) λl6=>a6 l6 λp7=>(bn (fq\λx8=>p7\λx9=>eO x8 x9) λlM=>(.int 0)\λsg=>bn (bn (cY (bn (ca fq) aG) (ca p7)) λw9=>bP w9) λw6=>bn ((.cl lz)\λuX=>p7\λqx=>fW uX qx) λuW=>ca (.tup [lM,sg,w6,uW]))) ka)
def eZ(e6:PV)(da:PV):W (O PV):=
 (bn (bn (bn (ca e6) aG) λl1=>bn (bn (ca da) aG) λl2=>uV l1 l2) λl3=>jV l3 λp4=>bn (q9 p4) λt5=>OM (X6 (bn (bn (ca t5.1) (kD .str)) i6)) (ca t5.2))
def jg(bQ:PV)(da:PV)(jE:PV):W (O PV):=
 bn (bQ\λx2=>gz x2) λdz=>
 []\λxG=>
 bn (bn (bn (ca jE) aG) λl4=>.dN (l4.length<=sizeLine) (.ret (eE 0 l4))) λW2=>bn (cA W2 xG λp6 s5=>bn (q9 p6) λt7=>(
 bn (bn (bn (ca da) aG) λl8=>.dN (l8.length<=sizeLine) (.ret (eE 0 l8))) λQ2=>bn (cA Q2 s5 λp10 s9=>bn (q9 p10) λSQ=>(
 ig (Tf (t2 oLe (ca SQ.2) (ca t7.2)) (tor (t2 Jf (cY (bn (ca dz) aG) (ca SQ.1)) (ca .aM)) (t2 oLt (ca t7.2) (cY (bn (ca da) aG) (cY (bn (ca dz) aG) (ca SQ.1)))))) (
 bn (SQ.1\λw6=>t7.1\λuX=>ca (.tup [w6,uX])) λqx=>bn (eA s9 qx) λGB=>
 ca GB) (
 ca s9))) λs9=>
 ca s9)) λs5=>
 ca s5
def lj(e6:PV)(da:PV)(jE:PV)(nM:PV)(Qq:PV):W PV:=
 bn (cY (bn (ca Qq) aG) (ca (.int 0))) λlB=>
 bn (cY (bn (ca Qq) aG) (ca (.int 1))) λn8=>
 bn (b2 oLt (cY (bn (ca da) aG) (ca lB)) (cY (bn (ca jE) aG) (ca n8))) λwD=>
 bn (ig (bn (ca wD) i6) (lB\λx5=>ca (.tup [x5])) (bn (cY (bn (ca e6) aG) (ca lB)) λx6=>bP x6)) λbelow_4=>
 bn (bn (bn (bn (ca below_4) aG) λl8=>a6 l8 λp9=>(dgB (ca nM) (p9\λlM=>bn (b2 GI (ca n8) (ca (.int 1))) λsg=>ca (.tup [lM,sg])))) ka) λK2=>
 bn (bn (bn (bn (ca nM) Q3) λLQ=>jV LQ λNb=>OM (Tf (t2 gs (cY (bn (ca Nb) aG) (ca (.int 1))) (ca n8)) (t2 xO (cY (bn (ca Nb) aG) (ca (.int 0))) (ca lB))) (dgB (ca nM) (ca Nb))) ka) λwV=>
 (bn (e6\λqx=>lB\λuW=>eO qx uW) λMC=>n8\λO1=>K2\λIq=>wV\λXZ=>ca (.tup [MC,O1,Iq,XZ]))
def ly(bQ:PV)(da:PV):W PV:=
 bn (bQ\λx2=>gX x2) λfq=>
 bn (bn ((.int 0)\λx4=>ca [x4]) λl7=>bn (bn (fq\λx5=>da\λx6=>eZ x5 x6) kf) λl8=>lT l7 l8) λuG=>
 bn (bQ\λlM=>da\λsg=>(.cl uG)\λw9=>jg lM sg w9) λxF=>
 bn (bn (bn (bn (bn (ca (.cl xF)) aG) λl14=>.dN (l14.length<=sizeLine) (.ret (eE 0 l14))) λl15=>a6 l15 λp16=>bn (q9 p16) λğ=>(ğ.2\λO1=>ğ.1\λIq=>ca (.tup [O1,Iq]))) Kn) λsS=>
 (bn (bn (bn (ca (.cl xF)) aG) λl20=>a6 l20 λć=>(fq\λx22=>da\λXX=>(.cl uG)\λTa=>sS\λXW=>ć\λXU=>lj x22 XX Ta XW XU)) ka)
def cH(dR:PV)(a8:PV):W PV:=
 (cY (bn (cY (bn (ca dR) aG) (ca a8)) aG) (ca (.int 2)))
def gY(dR:PV)(a8:PV):W PV:=
 (cY (bn (cY (bn (ca dR) aG) (ca a8)) aG) (ca (.int 3)))
def lu(dR:PV)(a8:PV)(Wn:PV):W PV:=
 (ah0 (b2 gs (dR\λx1=>a8\λx2=>cH x1 x2) (ca (.tup []))) (b2 gs (cY (bn (cY (bn (ca dR) aG) (ca a8)) aG) (ca (.int 0))) (ca Wn)))
def gW(ax:PV)(a8:PV):W (O PV):=
 bn (ax\λx2=>a8\λx3=>cH x2 x3) λny=>
 (ig (t2 gs (c1 gb (ca ny)) (ca (.int 2))) (ny\λx4=>bn (bn (cY (bn (ca ny) aG) (ca (.int 1))) λx5=>bn (cY (bn (ca ny) aG) (ca (.int 0))) λx6=>ca (.tup [x5,x6])) λx7=>ca [x4,x7]) (ca []))
def jh(ax:PV)(a8:PV):W (O PV):=
 bn (ax\λx2=>a8\λx3=>gY x2 x3) λuF=>
 (bn (bn (bn (ca uF) aG) λl4=>a6 l4 λp5=>(a8\λx6=>p5\λx7=>ca (.tup [x6,x7]))) λZn=>bn (bn (bn (ca uF) aG) λl8=>a6 l8 λp9=>(p9\λlM=>a8\λsg=>ca (.tup [lM,sg]))) λLQ=>lT Zn LQ)
def dC(ax:PV)(cz:PV)(a8:PV):W (O PV):=
 ig (bn (bn (ca cz) (kD .str)) i6) (
 (ig (bn (ax\λx1=>a8\λx2=>cz\λx3=>lu x1 x2 x3) i6) (bn ((.str "found")\λx4=>(.tup [])\λx5=>ca (.tup [x4,x5])) λx6=>ca [x6]) (ca []))) (
 bn (bn (ax\λx8=>a8\λx9=>gW x8 x9) λl10=>a6 l10 λp11=>((.str "split")\λw9=>p11\λw6=>ca (.tup [w9,w6]))) λLd=>
 bn (bn (ax\λqx=>a8\λuW=>jh qx uW) λQ2=>a6 Q2 λò=>((.str "over")\λIq=>ò\λXZ=>ca (.tup [Iq,XZ]))) λLs=>
 (bn (bn (bn (bn ((.str "doubled")\λXY=>bn (a8\λx22=>a8\λXX=>ca (.tup [x22,XX])) λTa=>ca (.tup [XY,Ta])) λXW=>ca [XW]) λl26=>bn (bn (ca (.cl Ld)) tm) λl27=>lT l26 l27) λl28=>bn (bn (ca (.cl Ls)) tm) λl29=>lT l28 l29) Pu))
def iR(pV:PV):W PV:=
 (ig (ZG false (ca .aM) (bn (ca pV) aG)) (ca .aM) (bn (bn (ca pV) tm) gQ))
def cI(pV:PV):W PV:=
 (bn (bn (bn (ca pV) aG) λl1=>jV l1 λp2=>OM (t2 GJ (ca p2) (ca .aM)) (ca p2)) LB)
def eN(aD:PV)(mn:PV):W PV:=
 (ig (mn\λx1=>qL false x1 ([("split":Str),("doubled":Str),("over":Str)].map PV.str)) (cY (bn (ca aD) aG) (bn (ca mn) (Ro ["split","doubled","over"]))) (ca (.int 0)))
def bL(aD:PV)(iK:PV)(cz:PV)(mn:PV):W PV:=
 bn (bn (bn (bn (cz\λx2=>bP x2) aG) λl3=>bn (bn (cY (bn (ca mn) aG) (ca (.int 1))) aG) λl4=>uV l3 l4) λl5=>a6 l5 λp6=>bn (q9 p6) λt7=>(cY (bn (cY (bn (ca iK) aG) (ca t7.1)) aG) (ca t7.2))) λGH=>
 (bn (oj (bn (bn (aD\λx8=>bn (cY (bn (ca mn) aG) (ca (.int 0))) λx9=>eN x8 x9) λlM=>ca [lM]) λZo=>bn (bn (ca (.cl GH)) tm) λZn=>lT Zo Zn)) λw6=>iR w6)
def fV(ax:PV)(aD:PV)(iK:PV)(cz:PV)(a8:PV):W (O PV):=
 (bn (ax\λx1=>cz\λx2=>a8\λx3=>dC x1 x2 x3) λl4=>a6 l4 λp5=>(aD\λx6=>iK\λx7=>cz\λx8=>p5\λx9=>bL x6 x7 x8 x9))
def fj(ax:PV)(aD:PV)(a8:PV):W PV:=
 (ig (t2 gs (c1 gb (ax\λx1=>a8\λx2=>cH x1 x2)) (ca (.int 2))) (cY (bn (ca aD) aG) (ca (.int 3))) (ca (.int 0)))
def fU(ax:PV)(aD:PV)(IT:PV)(a8:PV):W (O PV):=
 bn (ax\λx2=>aD\λx3=>a8\λx4=>fj x2 x3 x4) λGD=>
 (bn (bn (ax\λx5=>a8\λx6=>cH x5 x6) aG) λl7=>a6 l7 λp8=>(bn (oj (GD\λx9=>bn (cY (bn (ca IT) aG) (ca p8)) λlM=>ca [x9,lM])) λsg=>iR sg))
def nV(ax:PV)(aD:PV)(iK:PV)(cz:PV):W PV:=
 []\λPR=>
 bn (bn (c1 gb (ca ax)) lX) λl21=>bn (cA l21 PR λII s3=>(
 bn (bn (bn (ax\λx6=>aD\λx7=>iK\λx8=>cz\λx9=>II\λlM=>fV x6 x7 x8 x9 lM) λl15=>bn (ax\λsg=>aD\λw9=>(.cl s3)\λw6=>II\λuX=>fU sg w9 w6 uX) λl16=>lT l15 l16) vR) λMm=>
 bn ((.cl Mm)\λO1=>cI O1) λIq=>bn (eA s3 Iq) λPQ=>
 ca PQ)) λs3=>
 (bn (ca s3) ka)
def nU(ax:PV)(dU:PV)(aD:PV):W PV:=
 []\λcm=>
 bn (bn (dU\λx2=>gX x2) aG) λZn=>bn (cA Zn cm λQB s3=>(
 bn (bn (ax\λx6=>aD\λx7=>(.cl s3)\λx8=>QB\λx9=>nV x6 x7 x8 x9) O9) λlM=>bn (eA s3 lM) λPN=>
 ca PN)) λs3=>
 (bn (ca s3) ka)
def lq(ax:PV)(dU:PV)(aD:PV):W PV:=
 (bn (cY (bn (ax\λx1=>dU\λx2=>aD\λx3=>nU x1 x2 x3) aG) (bn (ca (.int 1)) nR)) λx4=>cI x4)
def dh(ax:PV)(aD:PV)(iK:PV)(Lx:PV)(cz:PV)(a8:PV):W (O PV):=
 bn (cY (bn (cY (bn (ca iK) aG) (ca Lx)) aG) (ca a8)) λyP=>
 ig (t2 Jf (ca yP) (ca .aM)) (
 (ca [])) (
 (bn (ax\λx2=>cz\λx3=>a8\λx4=>dC x2 x3 x4) λl5=>jV l5 λp6=>OM (t2 gs (aD\λx7=>iK\λx8=>cz\λx9=>p6\λlM=>bL x7 x8 x9 lM) (ca yP)) (ca p6)))
def dg(ax:PV)(aD:PV)(IT:PV)(a8:PV):W (O PV):=
 ig (t2 Jf (cY (bn (ca IT) aG) (ca a8)) (ca .aM)) (
 (ca [])) (
 bn (ax\λx2=>aD\λx3=>a8\λx4=>fj x2 x3 x4) λGD=>
 (bn (bn (ax\λx5=>a8\λx6=>cH x5 x6) xr) λl7=>jV l7 λp8=>OM (t2 gs (bn (oj (GD\λx9=>bn (cY (bn (ca IT) aG) (ca p8)) λlM=>ca [x9,lM])) λsg=>iR sg) (cY (bn (ca IT) aG) (ca a8))) (ca p8)))
def fm(ax:PV)(dU:PV)(aD:PV):W (O PV):=
 bn (ax\λx2=>dU\λx3=>aD\λx4=>nU x2 x3 x4) λcm=>
 bn (bn (c1 gb (ca ax)) λx6=>Yq (.int 0) x6) λnF=>
 bn (dU\λx8=>gX x8) λxh=>
 []\λy9=>
 []\λsE=>
 bn (bn (bn (ca xh) aG) λLQ=>.dN (LQ.length<=sizeLine) (.ret (eE 0 LQ))) λl41=>bn (cA l41 (y9,sE) λp15 PJ=>bn (q9 p15) λą=>(
 bn (oj (bn (bn (ca (.cl nF)) aG) λQ2=>a6 Q2 λò=>(oj (ax\λIq=>aD\λXZ=>cm\λXY=>ą.1\λx22=>ą.2\λXX=>ò\λTa=>dh Iq XZ XY x22 XX Ta)))) λXW=>bn (eA PJ.1 XW) λHM=>
 bn (oj (bn (bn (ca (.cl nF)) aG) λl27=>a6 l27 λp28=>(oj (ax\λx29=>aD\λx30=>bn (cY (bn (ca cm) aG) (ca ą.1)) λXT=>p28\λXS=>dg x29 x30 XT XS)))) λXR=>bn (eA PJ.2 XR) λzS=>
 ca (HM,zS))) λPJ=>
 bn (bn (cY (bn (ca cm) aG) (bn (ca (.int 1)) nR)) λx36=>cI x36) λMn=>
 bn (oj (bn (bn (ca (.cl nF)) aG) λl38=>jV l38 λñ=>OM (Tf (t2 gs (cY (bn (cY (bn (ca cm) aG) (bn (ca (.int 1)) nR)) aG) (ca ñ)) (ca Mn)) (bn (cY (bn (cY (bn (ca (.cl PJ.1)) aG) (bn (ca (.int 1)) nR)) aG) (ca ñ)) i6)) (ca ñ))) λwW=>
 ca [xh,(.cl PJ.1),(.cl PJ.2),wW]
end My
variable{x:Bool}{p m:Nat}
namespace FL
section
variable[bN]
variable{K:Aa}
def bb:sizeLine=16777216:=by decide
section
variable{rest:O sB}{S T:Type}{hd:Nat->S->aQ}{hE:S->aQ}{s0:S}{k:S->W T}{out:T->End}{R:Type}{inj:R->T}
def SF.RF{f:PV->S->W S}(hp:wn (im X.prog X.w) X.A X.env X.xe)(hc:X.calm=true)(hi:mB X K fs tg iter wl f1)(hl:c6 f1 (hd 0 s0))(hg:PG X tg (d6 i))(hb:∀j s p,j<16777216->SF X K false ((hd j s).set i (am (.val p))) body (f p s) λs'=>.nc (hd (j+1) s'))(hx:∀j s,j<=16777216->c6 (hd j s) (hE s))(hr:∀s,SF X K x (hE s) rest (k s) out)(hs:oK X iter:=by intro _;rfl):SF X K x fs (.For tg iter body [] pos::rest) (.bind wl λl=>.bind (cA l s0 f) k) out:=SF.adE hp hc hi hl (λ_ _=>S5 hg) (λ_ _=>rfl) (λj s p h=>hb j s p (bb▸h)) (λj s h=>hx j s (bb▸h)) hr hs
def SF.Z4{f:PV->S->W (Lp S R)}(hp:wn (im X.prog X.w) X.A X.env X.xe)(hc:X.calm=true)(hi:mB X K fs tg iter wl f1)(hl:c6 f1 (hd 0 s0))(hg:PG X tg (d6 i))(ho:∀t,(out (inj t)).He)(hb:∀j s p,j<16777216->SF X K false ((hd j s).set i (am (.val p))) body (f p s) (lpE (hd (j+1)) λr=>out (inj r)))(hx:∀j s,j<=16777216->c6 (hd j s) (hE s))(hr:∀s,SF X K x (hE s) rest (k s) out)(hs:oK X iter:=by intro _;rfl):SF X K x fs (.For tg iter body [] pos::rest) (.bind wl λl=>.bind (FL.lR l s0 f) (NW k inj)) out:=SF.Xq hp hc hi hl (λ_ _=>S5 hg) (λ_ _=>rfl) ho (λj s p h=>hb j s p (bb▸h)) (λj s h=>hx j s (bb▸h)) hr hs
end
section
variable{sc:pc}{f:PV->W PV}{fs3:Nat->PV->aQ}
theorem IP:∀{l:aQ}{p:Nat}{s:Option SL},l[p]?=am s->l.set p s=l
 |[],_,_,_=>rfl
 |_::l,0,s,h=>by simp at h;subst h;rfl
 |x::l,p+1,s,h=>by show x::l.set p s=_;rw[IP (by simpa using h)]
theorem set_set:∀{l:aQ}{p:Nat}{s t:Option SL},(l.set p s).set p t=l.set p t
 |[],_,_,_=>rfl
 |_::l,0,_,_=>rfl
 |x::l,p+1,s,t=>by show x::(l.set p s).set p t=x::l.set p t;rw[set_set]
abbrev eu(f1:aQ)(p:Nat)(ψ:Nat->O V->Prop)(n m:Nat):aQ:=f1.set p (am (.cC ψ n m))
def sL(hp:f1[p]?=am (am (.cC ψ n m)))(n' m':Nat):(eu f1 p ψ n' m')[p]?=am (am (.cC ψ n' m')):=bc ((Ai.mp hp).1)
def rB(hp:f1[p]?=am (am (.cC ψ n m))){a b:Nat}(h:a<=b/\b<=m):oQ (eu f1 p ψ a m) (eu f1 p ψ b m):=by
 have:=oQ.s (fs:=eu f1 p ψ a m) p (n':=b) h (sL hp a m)
 rwa [show(eu f1 p ψ a m).set p (am (.cC ψ b m))=eu f1 p ψ b m from set_set]at this
def Sv{q:Nat}(hp:f1[p]?=am (am (.cC ψ n m)))(hq:ix[q]?=am (am p))(inj:∀i i' j:Nat,ix[i]?=am (am j)->ix[i']?=am (am j)->i=i'){a b:Nat}(h:a<=b/\b<=m):c6 (aW ix (eu f1 p ψ a m)) (aW ix (eu f1 p ψ b m)):=by
 have e:aW ix (eu f1 p ψ b m)=(aW ix (eu f1 p ψ a m)).set q (am (.cC ψ b m)):=by
  unfold aW;refine B9 λr=>?_;by_cases c:r=q
  .subst c;rw[bc (by rw[Aj];exact(Ai.mp hq).1),Af,hq];show am (((eu f1 p ψ b m)[p]?).getD ce)=_;rw[sL hp];rfl
  .rw[ao c,Af,Af];cases z:ix[r]? with
   |none=>rfl
   |some o=>
    cases o with
    |none=>rfl
    |some j=>
     have jp:j≠p:=λy=>c (inj r q p (y▸z) hq);show am (((eu f1 p ψ b m)[j]?).getD ce)=am (((eu f1 p ψ a m)[j]?).getD ce);rw[ao jp,ao jp]
 rw[e];refine(oQ.s q h ?_).f;unfold aW;rw[Af,hq];show am (((eu f1 p ψ a m)[p]?).getD ce)=_;rw[sL hp];rfl
def LO{N:O Str}(S:aV Xs N sc N' ix):∀i i' j:Nat,ix[i]?=am (am j)->ix[i']?=am (am j)->i=i':=λi i' j h1 h2=>by
 have hi:i<N'.length:=by rw[<- S.len];exact(Ai.mp h1).1
 have vn:i'<N'.length:=by rw[<- S.len];exact(Ai.mp h2).1
 have e2:=(S.at h2 (Ad vn)).1;rw[((S.at h1 (Ad hi)).1)]at e2;exact(E2 S.nd).mp (Option.some.inj e2)
theorem aeR(p q d nE:Nat)(hc:X.calm=true)(S:aV X.env.scope X.N sc N' ix)(hi:mB X K fs tg iter wl f1)(hg:∀cl C s2 H2 fp,PG (dF X sc N' cl C s2 H2 fp) tg (d6 i))(he:∀cl C s2 H2 fp j t,j<16777216->EF (dF X sc N' cl C s2 H2 fp) K ((aW ix (eu f1 p ψ (n+d*j) m)).set i (am (.val t))) Ã (f t) (fs3 j t))(h3:∀j t,j<16777216->c6 (fs3 j t) (aW ix (eu f1 p ψ (n+d*(j+1)) m)))(hd:n+d*16777216<=nE/\nE<=m)(h0:ix[i]?=am ce)(hp:‹f1[p]?=am (am (.cC ψ n m))›)(hq:‹ix[q]?=am (am p)›)(hs:oK X iter:=by intro _;rfl):LF X K fs (.ListComp Ã [⟨tg,iter,[],0⟩] sc pos) (.bind wl λl=>a6 l f) (eu f1 p ψ nE m):=by
 have h1:∀j,(aW ix (eu f1 p ψ (n+d*j) m))[i]?=am ce:=λj=>by unfold aW;rw[Af,h0];rfl
 have bd:∀j,j<=sizeLine->n+d*j<=nE:=λj h=>by
  have h':j<=16777216:=by rw[<- bb];exact h
  have:=Cd d h';lia
 have up:∀j,n+d*j<=n+d*(j+1):=λj=>by have:=Cd d (Bi j 1);lia
 refine Zk (hd:=λj=>eu f1 p ψ (n+d*j) m) (fs2:=λj t=>(aW ix (eu f1 p ψ (n+d*j) m)).set i (am (.val t))) hc S hi (λcl C s2 H2 fp j=>S5 (hg cl C s2 H2 fp)) (λcl C s2 H2 fp j t h=>he cl C s2 H2 fp j t (bb▸h)) (λ_=>rfl) (λj=>(G5 (h1 j)).1) (λj hj=>by rw[Aw]at hj;subst hj;exact h0) ?_ (λj h=>rB hp ⟨bd j h,hd.2⟩) (λj h=>(rB hp ⟨up j,Ax (bd (j+1) h) hd.2⟩).ev) (λj r=>?_) (λj t h=>((G5 (h1 j)).2 t).trans (Sv hp hq (LO S) ⟨up j,Ax (bd (j+1) h) hd.2⟩)) (λj t h=>h3 j t (bb▸h)) hs
 .have:eu f1 p ψ (n+d*0) m=f1:=IP hp;rw[this];exact .refl _
 .by_cases c:r=p
  .subst c;exact .inr ⟨q,hq⟩
  .exact .inl (by rw[ao c,ao c])
theorem H9(p q d nE:Nat)(hc:X.calm=true)(hN:X.N.Nodup)(vn:X.N[k]?=am y)(hx:X.env.scope.names.lookup y=am .local)(S:aV X.env.scope X.N sc N' ix)(hi:mB X K fs tg iter wl f1)(hg:∀cl C s2 H2 fp,PG (dF X sc N' cl C s2 H2 fp) tg (d6 i))(he:∀cl C s2 H2 fp j t,j<16777216->EF (dF X sc N' cl C s2 H2 fp) K ((aW ix (eu f1 p ψ (n+d*j) m)).set i (am (.val t))) Ã (f t) (fs3 j t))(h3:∀j t,j<16777216->c6 (fs3 j t) (aW ix (eu f1 p ψ (n+d*(j+1)) m)))(hd:n+d*16777216<=nE/\nE<=m)(h0:ix[i]?=am ce)(hp:‹f1[p]?=am (am (.cC ψ n m))›)(hq:‹ix[q]?=am (am p)›)(kF:‹pr (.ListComp Ã [⟨tg,iter,[],0⟩] sc pos) (am (.Name y px)) jP.line X.env=pure true›)(hs:oK X iter:=by intro _;rfl):AS X K fs (.Assign [.Name y px] (.ListComp Ã [⟨tg,iter,[],0⟩] sc pos) jP) k (.bind wl λl=>a6 l f) (eu f1 p ψ nE m):=by
 have h1:∀j,(aW ix (eu f1 p ψ (n+d*j) m))[i]?=am ce:=λj=>by unfold aW;rw[Af,h0];rfl
 have bd:∀j,j<=sizeLine->n+d*j<=nE:=λj h=>by
  have h':j<=16777216:=by rw[<- bb];exact h
  have:=Cd d h';lia
 have up:∀j,n+d*j<=n+d*(j+1):=λj=>by have:=Cd d (Bi j 1);lia
 rw[xS (f:=f) (wt:=.ret) (te:=f) λ_=>rfl];refine Sw (hd:=λj=>eu f1 p ψ (n+d*j) m) (fs2:=λj t=>(aW ix (eu f1 p ψ (n+d*j) m)).set i (am (.val t))) hc hN vn hx S hi (λcl C s2 H2 fp j=>S5 (hg cl C s2 H2 fp)) (λ_ _ _ _ _ _ _=>uh) (λcl C s2 H2 fp j t h=>he cl C s2 H2 fp j t (bb▸h)) (λ_=>rfl) (λj=>(G5 (h1 j)).1) (λj hj=>by rw[Aw]at hj;subst hj;exact h0) ?_ (λj h=>rB hp ⟨bd j h,hd.2⟩) (λj h=>(rB hp ⟨up j,Ax (bd (j+1) h) hd.2⟩).ev) (λj r=>?_) (λj t h=>((G5 (h1 j)).2 t).trans (Sv hp hq (LO S) ⟨up j,Ax (bd (j+1) h) hd.2⟩)) (λj t h=>h3 j t (bb▸h)) kF hs
 .have:eu f1 p ψ (n+d*0) m=f1:=IP hp;rw[this];exact .refl _
 .by_cases c:r=p
  .subst c;exact .inr ⟨q,hq⟩
  .exact .inl (by rw[ao c,ao c])
end
end
end FL
variable{c:Int}
namespace FL
section
variable[bN]
variable{K:Aa}
def fv:Nat->O V->Prop:=λj vs=>∃(b:db) (s c:Int),vs=[.ref b,.int s,.int c]/\0<=c/\c<=(j:Int)
section
def NJ(I:Inv X Z σ H s)(e:cO H b):∃ns:O Int,Inv X Z σ (upd H b (.lst (ns.map V.int))) s:=by
 have e:H b=am (.ext (Ij b)):=e;obtain⟨⟨ns,eT,n',z',v',g'⟩,_⟩:=(show bE X.prog X.w H s.heap b (.ext (Ij b)) from I.br b _ e);exact⟨ns,I.write (x:=b) (e:=b) (o:=.lst (ns.map V.int)) (h':=s.heap) (t':=s.toks) (by rw[e];exact BV) (.inl rfl) (λb u _ z=>z) ⟨_,g'⟩ ⟨by rw[Aj];exact z',eT,n',v',g'⟩⟩
def NL:∀h1 h2:r9,Ij b h1->(∀o,h1.get? b=am o->h2.get? b=am o)->Ij b h2:=λ_ _ ⟨ns,aq,n,z,v,e⟩ k=>⟨ns,aq,n,z,v,k _ e⟩
def wA(I:Inv X Z σ H s)(e:H b=am (.lst (ns.map V.int))):Inv X Z σ (upd H b (.ext (Ij b))) s:=by
 obtain⟨z',eT,n',v',g'⟩:=(show bE X.prog X.w H s.heap b (.lst (ns.map V.int)) from I.br b _ e);exact I.write (x:=b) (e:=b) (o:=.ext (Ij b)) (h':=s.heap) (t':=s.toks) (by rw[e];exact BV) (.inl rfl) (λb u _ z=>z) ⟨_,g'⟩ ⟨⟨ns,eT,n',by rw[Aj]at z';exact z',v',g'⟩,⟨_,g'⟩,NL⟩
def adl(b:db)(D:Ends):Ends:={nx:=λ_ _=>False,rt:=λv H'=>∃ns:O Int,H' b=am (.lst (ns.map V.int))/\D.rt v (upd H' b (.ext (Ij b)))}
def mz.shown(h:mz X MP t):mz X MP λD σ H=>∃b,cO H b/\∀ns:O Int,t (adl b D) σ (upd H b (.lst (ns.map V.int))):=λZ s σ H D I ⟨b,e,q⟩=>by
 obtain⟨ns,I1⟩:=NJ I e;refine bU (h Z s σ _ _ I1 (q ns)) λfl s' z=>?_;cases fl with
 |next=>obtain⟨_,_,_,z⟩:=z;exact z.elim
 |brk=>obtain⟨_,_,_,z⟩:=z;exact z.elim
 |cont=>obtain⟨_,_,_,z⟩:=z;exact z.elim
 |ret u=>
  obtain⟨v,σ',H',I',r,ns,e1,z⟩:=z;exact⟨v,σ',_,wA I' e1,r,z⟩
end
section
variable{T:Type}{w:W T}{out:T->End}
def ad4(h:LF X K fs e wl az):EF X K fs e (.bind wl λl=>.dN (∃ns:O Int,l=ns.map PV.int) (.ret .hand)) az:=⟨λZ s σ H Q I ⟨sr,q⟩=>by
 refine bU (h.p Z s σ H (λu H1=>∃a vs l,u=.ref a/\bZ σ fs H H1 az/\aR K H1 σ az/\H a=ce/\H1 a=am (.lst vs)/\aE K [] H1 vs l/\(∃ns:O Int,l=ns.map PV.int)/\∀u H',bZ σ fs H H' az->aR K H' σ az->VR K [] H' u .hand->Q u H') I ⟨sr,wl.mono (λl q1 a vs H1 g1 s1 n e v=>⟨a,vs,l,rfl,g1,s1,n,e,v,q1.1,q1.2⟩) q⟩) λu s1 ⟨v,H1,I1,r1,a,vs,l,e,g1,PK,n,ea,vr,⟨ns,el⟩,q1⟩=>?_;subst e el;have:=lA vr;subst this;exact⟨.ref a,_,wA I1 ea,r1,q1 _ _ (g1.side n (λφ=>by rw[ea];simp) _) (PK.side (λz=>sr.noOwn n (g1.ev.eK z)) ea _) (.hand ay)⟩⟩
def SF.fv(i m:Nat){l:O PV}(hs:fs[i]?=am (am (.ol ce l)))(hr:SF X K x (fs.set i (am (.cC FL.fv 0 m))) MP w out)(hm: ~~~(m<=IW)):SF X K x fs MP (.dN (∃s:Int,l=[.hand,.int s,.int 0]) w) out:=⟨λZ s σ H D I ⟨sr,q⟩=>by
 obtain⟨⟨sd,el⟩,q⟩:=q;obtain⟨a,ws,e1,h1,r1⟩:=dY sr hs;subst el;cases r1 with
 |cons ra r1=>
 cases r1 with
 |cons rb r1=>
 cases r1 with
 |cons rc r1=>
 cases r1;cases ra with
 | @hand b hb=>
 cases rb;cases rc;obtain⟨s2,g2⟩:=mI (t':=.cC FL.fv 0 m) sr hs rfl (by simp) e1 (λ_ _ _ z=>z:ft a H H) λtk=>⟨⟨0,_,Al 0,h1,⟨b,sd,0,rfl,B8 0,B8 0⟩,λc hc=>by simp at hc;subst hc;exact hb⟩,Bc m,hm⟩;exact hr.p Z s σ H D I ⟨s2,w.mono (λt q2=>q2.go g2 sr s2) q⟩⟩
end
theorem UK{a b:Int}(ha:-2037035976334486086268445688409378161051468393665936250636140449354381299763336706183397376<a/\a<2037035976334486086268445688409378161051468393665936250636140449354381299763336706183397376)(hb:-2037035976334486086268445688409378161051468393665936250636140449354381299763336706183397376<b/\b<2037035976334486086268445688409378161051468393665936250636140449354381299763336706183397376):xz a b:=by
 have h:∀x:Int,-2037035976334486086268445688409378161051468393665936250636140449354381299763336706183397376<x/\x<2037035976334486086268445688409378161051468393665936250636140449354381299763336706183397376->Builtin.Int.intBits x<=300:=λx hx=>intBits_le_iff.mpr (AG (show x.natAbs<2037035976334486086268445688409378161051468393665936250636140449354381299763336706183397376 by lia) (by decide +kernel));unfold xz;have k:=h a ha;have l:=h b hb;have:Builtin.Int.intTooBig ((Builtin.Int.intBits a:Int)+(Builtin.Int.intBits b:Int))=false:=by
  unfold Builtin.Int.intTooBig;have:bitsLine=134217728:=by decide +kernel
  rw[this];exact decide_eq_false ∅
 rw[this,DH];exact AY
def bK:PV->W PV
 |.int i=>.dN (0<i/\i<1073741824) (drawn i)
 |_=>.fail
@[simp] theorem bX{i:Int}(h0:0<i)(h1:i<1073741824):bK (.int i)=drawn i:=sw ⟨h0,h1⟩
def ahD{vs:O V}{s:Int}(tb:TB H)(ea:∃ws,H a=am (.lst ws))(eb:cO H b)(k:∀x o,x≠a->x≠b->H x=am o->H' x=am o)(th:∀x,H' x=ce->H x=ce)(e1:H' a=am (.lst [.ref b,.int s,.int c]))(e2:cO H' b)(ab:a≠b)(hc:0<=c/\c<=((j+1:Nat):Int))(np:∀x ψ d,¬pX vs ks ψ d x):Wg j (.ref a::vs) (.p FL.fv 1::ks) H H':=by
 have keep:∀x o,H x=am o->x≠a->H' x=am o:=λx o h n=>by
  by_cases c:x=b
  .subst c;rw[show H x=_ from eb]at h;cases h;exact e2
  .exact k x o n c h
 obtain⟨ws,ea⟩:=ea;refine⟨λx o h n _=>keep x o h λy=>n FL.fv 1 ⟨0,rfl,by rw[y];rfl⟩,tb.mono (λx ps z=>keep x _ z λy=>by subst y;rw[ea]at z;cases z) λx o u _ z _=>⟨u,keep x _ z λy=>by subst y;rw[ea]at z;cases z⟩,th,λx ψ d ⟨i,p1,p2⟩=>?_,λx h=>keep x _ h λy=>by subst y;rw[show H x=_ from h]at ea;cases ea⟩;cases i with
 |zero=>simp at p1 p2;obtain⟨rfl,rfl⟩:=p1;subst p2;exact⟨j+1,_,Al _,e1,⟨b,s,c,rfl,hc.1,hc.2⟩,λy hy=>by simp at hy;subst hy;exact e2⟩
 |succ i=>exact(np x ψ d ⟨i,by simpa using p1,by simpa using p2⟩).elim
end
end FL
namespace L2
def T9:V->O V->Hp->VK->Prop:=λx vs H Q=>∃l xs i y,x=.ref l/\vs=[.int i,y]/\H l=am (.lst xs)/\0<=i/\i<2 ^ 63/\xs.length<sizeLine/\zK H l (.lst (xs.take i.toNat++y::xs.drop i.toNat)) (Q .aM)
theorem Nf:Mz X "list.insert" T9:=by
 intro Z s σ H x vs v us Q I rx rv h;obtain⟨l,xs,i,y,rfl,rfl,hH,h1,h2,hz,q⟩:=h;cases rx;cases rv with
 |cons ru rv=>
 cases rv with
 |cons rw rv=>
 cases rv;obtain⟨t,rfl⟩:=ru;obtain⟨z,aq,n,r,hl,e⟩:=I.qC hH;refine wE F.slot_list_insert ⟨_,e,rfl⟩ F.entry_list_insert (F.args_list_insert_3 _ _ _) (AutoSeq1.list_insert_list_int_val_1 l aq.toArray n i t _ (by rw[fitsIndex_both ∅ h2];decide) (by rw[An];lia)) ⟨e,?_⟩;refine⟨.aM,_,I.Jr hH e ?_ ((r.take i.toNat).append (.cons rw (r.drop i.toNat))) ?_,rfl,q.at⟩
 .have c:¬i<0:=by lia
  simp only[An,if_neg c];apply Array.toList_inj.mp;have hk:min i.toNat aq.length<=aq.length:=Nat.min_le_right _ _;have e1:aq.take (min i.toNat aq.length)=aq.take i.toNat:=by
   rcases Nat.le_total i.toNat aq.length with h|h
   .rw[Nat.min_eq_left h]
   .rw[Nat.min_eq_right h,BX (Al _),BX h]
  have e2:aq.drop (min i.toNat aq.length)=aq.drop i.toNat:=by
   rcases Nat.le_total i.toNat aq.length with h|h
   .rw[Nat.min_eq_left h]
   .rw[Nat.min_eq_right h,Ff (Al _),Ff h]
  simp[e1,e2];exact BX (by rw[C6];lia)
 .rw[Ak,Aq,Ci,C6];lia
end L2
namespace FL
section
variable[bN]
variable{K:Aa}
def ZC(l:O PV)(n v:PV):W (O PV):=match n with
 |.int i=>.dN (0<=i/\i<2 ^ 63/\l.length<sizeLine) (.ret (l.take i.toNat++v::l.drop i.toNat))
 |_=>.fail
theorem aE.take':∀{vs:O V}{us:O PV} (n:Nat),aE K [] H vs us->aE K [] H (vs.take n) (us.take n)
 |_,_,0,_=>.nil
 |_,_,_+1,.nil=>.nil
 |_,_,n+1,.cons r t=>.cons r (aE.take' n t)
theorem aE.drop':∀{vs:O V}{us:O PV} (n:Nat),aE K [] H vs us->aE K [] H (vs.drop n) (us.drop n)
 |_,_,0,h=>h
 |_,_,_+1,.nil=>.nil
 |_,_,n+1,.cons _ t=>aE.drop' n t
section
variable{e2:nw}{rest:O sB}{p:Pos}{T:Type}{out:T->End}{wi:W PV}{l:O PV}
theorem SF.insert(i:Nat){k:O PV->W T}(hs:fs[i]?=am (am (.ol q0 l)))(hK:X.K=K)(hN:X.N[i]?=am y)(hv:wX X.env.scope y)(hi:EF X K fs e wi az)(he:EF X K az e2 we fs2)(hr:∀l',SF X K x (fs2.set i (am (.ol q0 l'))) rest (k l') out)(hd: ~~~(gq y))(gM: ~~~(zy y))(dm:‹nn (.Name y p) "insert" X.env (o0 (.Name y p) X.env)=o0 (.Name y p) X.env›)(mO:‹((BT bD (lm [e,e2] X.env)).all (λx=>!x.1)&&(backToKw bD (keywordEach [] X.env)).all (λx=>x.1.isSome)
   && decide ([e,e2].length+([]:O Keyword).length+(if ([]:O Keyword).isEmpty then 0 else 1) < 30))=true›)(di:‹SN Â bD›)(tV:‹lm [e,e2] X.env=(false,o0 e X.env)::lm [e2] X.env›)(ag6:‹gK X e2 []›)(dD:‹(BT bD (lm [e2] X.env)).any (·.1)=false›)(kF:‹pr (.Call (.Attribute (.Name y p) "insert" Â) [e,e2] [] bD) ce pos.line X.env=pure false›):SF X K x fs (.Expr (.Call (.Attribute (.Name y p) "insert" Â) [e,e2] [] bD) pos::rest) (.bind wi λn=>.bind we λv=>.bind (ZC l n v) k) out:=
 SF.step (k6 (mE K hK Bt PySem.F.slot_list_insert PySem.F.type_list_insert Nf (c8 hN hv hd gM) (aY hi.p (aY he.p bC ag6) tV) dm mO di tV dD) kF) λD σ H ⟨sr,q⟩=>by
  obtain⟨a,ws,e1,h1,r1⟩:=dY sr hs;refine⟨_,e1,.inl ⟨rfl,_,b9.of h1⟩,sr,wi.mono (λn q0 u0 H0 g0 s0 v0=>⟨s0,we.mono (λv q1 u H1 g1 s1 v1=>?_) q0⟩) q⟩;obtain⟨a',uY,uT,fZ,zB⟩:=dY s1 ((g0.trans g1).ev.same hs (by simp));rw[e1]at uT;cases uT;cases v0 with
  |int ii=>
   have q1:(0<=ii/\ii<2 ^ 63/\l.length<sizeLine)/\_:=q1;refine⟨a,uY,ii,u,rfl,rfl,fZ,q1.1.1,q1.1.2.1,by rw[zB.length];exact q1.1.2.2,λH2 sx h2=>?_⟩;obtain⟨s2,g2⟩:=nK s1 ((g0.trans g1).ev.same hs (by simp)) e1 sx h2 ((aE.take' ii.toNat zB).append (.cons v1 (aE.drop' ii.toNat zB)));exact⟨_,k _,hr _,s2,(k _).mono (λt q2=>q2.go ((g0.trans g1).f.trans g2) sr s2) q1.2⟩
  |_=>exact q1.elim
variable{a b:nw}
def SF.acm{y:Str}{wb:W (O PV)}{YM:Pos}{kt:Nat}{k:O PV->O PV->W T}(hc:X.calm=true)(hN:X.N.Nodup)(hi:X.N[i]?=am y)(hj:X.N[j]?=am z)(ü:i≠j)(hx:X.env.scope.names.lookup y=am .local)(hy:X.env.scope.names.lookup z=am .local)(ha:LF X K fs a wl az)(hb:LF X K az b wb fs2)(hr:∀u v,SF X K x ((fs2.set i (am (.ol ce u))).set j (am (.ol ce v))) rest (k u v) out)(hw:‹Ix [.Tuple [.Name y px,.Name z py] kt pt] (.Tuple [a,b] k2 YM) X.env=pure (am [y,z])›)(hs:‹GT [.Tuple [.Name y px,.Name z py] kt pt] (.Tuple [a,b] k2 YM) pos.line X.env=pure false›)(he:‹lm [a,b] X.env=(false,o0 a X.env)::lm [b] X.env›)(ķ:‹gK X b []›):SF X K x fs (.Assign [.Tuple [.Name y px,.Name z py] kt pt] (.Tuple [a,b] k2 YM) pos::rest) (.bind wl λu=>.bind wb λv=>k u v) out:=
 SF.step (YN hc hN hi hj ü hx hy (aY ha.p (aY hb.p bC ķ) he) hw hs) λD σ H ⟨sr,q⟩=>⟨sr,wl.mono (λu q1 ad vs H1 g1 s1 n1 e1 v1=>⟨s1,wb.mono (λv q2 bd us H2 g2 s2 n2 e2 v2=>by
  have no:¬bT σ fs2 ad:=λz=>sr.noOwn n1 ((g1.trans g2).ev.eK z);have no2:¬bT σ fs2 bd:=λz=>s1.noOwn n2 (g2.ev.eK z);have ea:H2 ad=am (.lst vs):=g2.tR e1 λz=>sr.noOwn n1 (g1.ev.eK z);have ab:bd≠ad:=λy=>by subst y;rw[e1]at n2;cases n2
  have oa:fK K H2 ad (.ol ce u):=⟨λ_ z=>(nomatch z),vs,ea,g2.OG s1 v1⟩;have ob:fK K H2 bd (.ol ce v):=⟨λ_ z=>(nomatch z),us,e2,v2⟩;have s3:=s2.xA oa no i;have no3:¬bT (σ.set i (am (.ref ad))) (fs2.set i (am (.ol ce u))) bd:=λz=>(kl z s2.len).elim no2 λ⟨x,y,_,w⟩=>by
   cases y;rcases w with w|w
   .exact ab w
   .cases w
  have s4:=s3.xA ob no3 j;have g4:cF σ fs H ((σ.set i (am (.ref ad))).set j (am (.ref bd))) ((fs2.set i (am (.ol ce u))).set j (am (.ol ce v))) H2:=by
   refine⟨λc o z n=>?_,(g1.trans g2).there,λc ψ m pp=>?_,(g1.trans g2).x⟩
   .obtain⟨h1,h2⟩:=(cF.xA s2 (g1.trans g2) no n1 i (t:=.ol ce u)).keep c o z n;refine⟨h1,λw=>(kl w s3.len).elim h2 λ⟨x,y,_,w⟩=>?_⟩;cases y;rcases w with w|w
    .rw[w,g1.there bd n2]at z;cases z
    .cases w
   .rcases (cF.xA s2 (g1.trans g2) no n1 i (t:=.ol ce u)).pk c ψ m pp with w|⟨w1,w2⟩
    .refine(xC s3 w (λx y _ w2=>?_)).imp id λn=>⟨n,s3.free w⟩;cases y;rcases w2 with rfl|w2
     .exact absurd w.eK no3
     .cases w2
    .refine .inr ⟨λw=>(kl w s3.len).elim w1 λ⟨x,y,_,w3⟩=>?_,w2⟩;cases y;rcases w3 with rfl|w3
     .obtain⟨i',n',h1,h2⟩:=pp;have:=sr.free ⟨i',n',h1,h2⟩;obtain⟨_,_,_,e,_⟩:=this;rw[g1.there _ n2]at e;cases e
     .cases w3
  exact⟨_,_,rfl,_,k u v,hr u v,s4,(k u v).mono (λt q3=>q3.go g4 sr s4) q2⟩) q1⟩) q⟩
end
end
section
variable[bN]
variable{K:Aa}
section
variable{C:db}{f:Str}{l:O PV}
def ahY(I:Inv X Z σ H s)(sr:aR K H σ fs)(hs:fs[i]?=am (am (.ob a0 C fd)))(hj:fd[j]?=am (f,.o b l))(hf:iX f fd=am (.o b l)):∃ob vs,Inv X Z σ (upd H b (.bS ob (.lst vs))) s/\aR K (upd H b (.bS ob (.lst vs))) σ (fs.set i (am (.ob a0 C (fd.set j (f,.v (.cl l))))))/\ ∀σ' s' H1,Inv X Z σ' H1 s'->bZ σ (fs.set i (am (.ob a0 C (fd.set j (f,.v (.cl l)))))) (upd H b (.bS ob (.lst vs))) H1->aR K H1 σ (fs.set i (am (.ob a0 C (fd.set j (f,.v (.cl l))))))->Inv X Z σ' (upd H1 b (.lst vs)) s'/\bZ σ fs H (upd H1 b (.lst vs))/\aR K (upd H1 b (.lst vs)) σ fs/\(∀p vQ,H1 p=am (.tup vQ)->upd H1 b (.lst vs) p=am (.tup vQ))/\∀p vQ,p≠b->H1 p=am (.lst vQ)->upd H1 b (.lst vs) p=am (.lst vQ):=by
 obtain⟨a,e1,ae,c,na,nb,nd,dx,ws,ea,r⟩:=mH sr hs;obtain⟨_,mb,vs,h1,rl⟩:=r.LL hf;obtain⟨ob,I2⟩:=I.rQ h1;have ab:a≠b:=λz=>nb (z▸mb);have sx:ft b H (upd H b (.bS ob (.lst vs))):=λb o n z=>by rw[aj n];exact z
 obtain⟨s2,_⟩:=fh (t':=SL.ob a0 C (fd.set j (f,FD.v (.cl l)))) sr bZ.refl.f hs rfl (by simp) e1 (.inr mb) ⟨_,ay⟩ (λb' hb=>.inl (hb.imp id λz=>js z)) sx λtk=>⟨ae,c,ui na hj,λz=>nb (js z),oq nd,dx,ws,by rw[aj ab];exact ea,lW.set tk sx (.v (.cl (.inl ⟨ob,ay⟩) (aE.tk tk rl)) .nil) r hj nd⟩;have h0:∀o u,X.H₀ b≠am (.bS o u):=λo u z=>by
  have:=I.base.qR b o u z;rw[h1]at this;cases this
 refine⟨ob,vs,I2,s2,λσ' s' H1 J g s1=>?_⟩;have pf:∀ψ m c,eF σ (fs.set i (am (.ob a0 C (fd.set j (f,.v (.cl l)))))) ψ m c->eF σ fs ψ m c:=λψ m c ⟨j',k,z1,z3⟩=>by
  rcases bF z1 with⟨_,z⟩|⟨n,z1⟩
  .cases z
  .exact⟨j',k,z1,z3⟩
 have npb:∀ψ m,¬eF σ fs ψ m b:=λψ m ⟨j',k,z1,z3⟩=>by
  have:=sr.nd j' i _ _ b a b z1 hs rfl rfl z3 e1 (.inl rfl) (.inr mb);subst this;rw[hs]at z1;cases z1
 have e2:=g.keep b _ ay λψ m p=>npb ψ m (pf ψ m b p);have hk:=Hh J.br e2;have xx:∀c,cO H1 c->cO (upd H1 b (.lst vs)) c:=λc z=>by
  have z':H1 c=_:=z;show upd H1 b _ c=_;rw[aj (λy=>by subst y;rw[e2]at z';cases z')];exact z'
 have ge:bZ σ fs H (upd H1 b (.lst vs)):=by
  refine⟨λc o z n nt=>?_,λc z=>?_,.refl _,λc z=>xx c (g.x c ?_)⟩
  .by_cases y:c=b
   .subst y;rw[h1]at z;cases z;exact ay
   .rw[aj y];exact g.keep c o (by rw[aj y];exact z) (λψ m p=>n ψ m (pf ψ m c p)) nt
  .by_cases y:c=b
   .subst y;rw[ay]at z;cases z
   .rw[aj y]at z;have:=g.there c z;rw[aj y]at this;exact this
  .have z':H c=_:=z;show upd H b _ c=_;rw[aj (λy=>by subst y;rw[h1]at z';cases z')];exact z'
 refine⟨J.Pa e2 h0 (hk b _ ay) hk,ge,⟨sr.len,λk t z=>?_,sr.nd,s1.tb.Pa J.br e2 rfl⟩,λp vQ z=>?_,λp vQ n z=>by rw[aj n];exact z⟩
 .by_cases c:∃ψ k m,t=.cC ψ k m
  .obtain⟨ψ,k',m,rfl⟩:=c;have ki:k≠i:=λy=>by subst y;rw[hs]at z;cases z
   obtain⟨u,k1,⟨v,y,_⟩|⟨b',y,⟨j',vQ,y1,y2,y3,y4⟩,y5⟩⟩:=s1.at' k _ (by rw[ao ki];exact z)
   .cases y
   .exact⟨u,k1,.inr ⟨b',y,⟨j',vQ,y1,by rw[aj (λw=>by subst w;rw[e2]at y2;cases y2)];exact y2,y3,λc hc=>xx c (y4 c hc)⟩,y5⟩⟩
  .obtain⟨u,k1,k2⟩:=sr.at' k t z;refine⟨u,k1,k2.mono (ge.dB sr) (λx b' o eb ow hb zz nt=>ge.keep b' o zz (λψ m ⟨j',k',p1,p3⟩=>?_) nt)⟩;subst eb;have:=sr.nd k j' t _ x b' b' z p1 ow rfl k1 p3 hb (.inl rfl);subst this;rw[z]at p1;cases p1;exact c ⟨ψ,k',m,rfl⟩
 .rw[aj (λy=>by subst y;rw[e2]at z;cases z)];exact z
def V6{st:sB}{i':Nat}(i j:Nat)(hs:fs[i]?=am (am (.ob a0 C fd)))(hj:fd[j]?=am (f,.o b l))(hf:iX f fd=am (.o b l))(h:AS X K (fs.set i (am (.ob a0 C (fd.set j (f,.v (.cl l)))))) st i' wl):AS X K fs st i' (.bind wl vR):=⟨λZ s σ H D I ⟨sr,q⟩=>by
 obtain⟨ob,vs0,I2,s2,Ö⟩:=ahY I sr hs hj hf;refine bU (h.p Z s σ _ {nx:=λσ' H1=>∃c vs l',σ'=σ.set i' (am (.ref c))/\bZ σ (fs.set i (am (.ob a0 C (fd.set j (f,.v (.cl l)))))) (upd H b (.bS ob (.lst vs0))) H1/\aR K H1 σ (fs.set i (am (.ob a0 C (fd.set j (f,.v (.cl l))))))/\upd H b (.bS ob (.lst vs0)) c=ce/\H1 c=am (.lst vs)/\aE K [] H1 vs l'/\pR l'=true/\∀a vs H',bZ σ fs H H'->aR K H' σ fs->H a=ce->H' a=am (.lst vs)->aE K [] H' vs l'->D.nx (σ.set i' (am (.ref a))) H',rt:=D.rt,bk:=D.bk,ct:=D.ct} I2 ⟨s2,wl.mono (λl' q1 c vs H1 g1 s1 n e v1=>⟨c,vs,l',rfl,g1,s1,n,e,v1,q1.1,q1.2⟩) q⟩) λf s1 q1=>?_;cases f with
 |next=>
  obtain⟨σ',H1,I1,c,vs,l',rfl,g1,PK,n,eb,v1,d,q1⟩:=q1;obtain⟨I3,g3,s3,t3,k3⟩:=Ö _ s1 H1 I1 g1 PK;have nb:c≠b:=λy=>by subst y;rw[ay]at n;cases n
  exact⟨_,_,I3,q1 c vs _ g3 s3 (by rw[aj nb]at n;exact n) (k3 c vs nb eb) (aE.ju t3 v1 d)⟩
 |ret v=>exact q1
 |brk=>exact q1
 |cont=>exact q1⟩
end
end
end FL
namespace My
def gj(uk:PV):W PV:=
 (.int 1)\λeG=>
 bn (bn (ca uk) aG) λl6=>bn (cA l6 eG λHw s2=>(
 bn (b2 Qy (ca s2) (ca Hw)) λO8=>
 ca O8)) λs2=>
 (ca s2)
def dG(WO:PV)(cz:PV)(mn:PV):W PV:=
 (bn (oj (bn (bn (bn (cz\λx1=>bP x1) aG) λl2=>bn (bn (cY (bn (ca mn) aG) (ca (.int 1))) aG) λl3=>uV l2 l3) λl4=>a6 l4 λp5=>bn (q9 p5) λt6=>(cY (bn (cY (bn (ca WO) aG) (ca t6.1)) aG) (ca t6.2)))) λx7=>gj x7)
def ku(nu:PV):W (O PV):=
 []\λKl=>
 []\λJn=>
 bn (bn (bn (bn (ca nu) (jr "told")) aG) λl6=>.dN (l6.length<=sizeLine) (.ret (eE 0 l6))) λl34=>bn (cA l34 (Kl,Jn) λp8 s7=>bn (q9 p8) λt9=>(
 bn (bn (bn (bn (cY (bn (bn (ca nu) (jr "deeds")) aG) (ca t9.1)) aG) λZo=>a6 Zo λYV=>(bn (bn (bn (ca YV) aG) λLQ=>a6 LQ λNb=>((.cl s7.2)\λqx=>t9.2\λuW=>Nb\λMC=>dG qx uW MC)) gQ)) vR) λrV=>
 []\λxU=>
 bn (bn (bn (cY (bn (bn (ca nu) (jr "steps")) aG) (ca t9.1)) aG) λW2=>.dN (W2.length<=sizeLine) (.ret (eE 0 W2))) λl32=>bn (cA l32 xU λć Wx=>bn (q9 ć) λYe=>(
 bn (w2 addW (cY (bn (ca (.cl rV)) aG) (ca Ye.1)) (bn (bn (bn (ca Ye.2) aG) λl24=>a6 l24 λp25=>(cY (ca Wx) (ca p25))) gQ)) λXU=>bn (eA Wx XU) λLJ=>
 ca LJ)) λWx=>
 (.cl rV)\λx27=>bn (eA s7.1 x27) λMf=>
 (.cl Wx)\λx29=>bn (eA s7.2 x29) λLI=>
 ca (Mf,LI))) λs7=>
 ca [(.cl s7.1),(.cl s7.2)]
def xV(nu:PV)(Ml:PV):W PV:=
 (bn (bn (bn (bn (ca nu) (jr "begins")) aG) λl1=>a6 l1 λp2=>(cY (bn (cY (bn (bn (ca Ml) (jr "done")) aG) (bn (ca (.int 1)) nR)) aG) (ca p2))) gQ)
def eQ(ax:PV)(dU:PV)(aD:PV):W PV:=
 bn (ax\λx2=>dU\λx3=>aD\λx4=>bn (fm x2 x3 x4) λr=>ca (nL ["told","deeds","steps","begins"] r)) λIv=>
 (Iv\λx5=>bn (Iv\λx6=>bn (ku x6) λr=>ca (nL ["done","many"] r)) λx7=>xV x5 x7)
def fw(ax:PV)(eY:PV)(aD:PV):W PV:=
 (bn (bn (bn (ca eY) aG) λl1=>a6 l1 λp2=>(ax\λx3=>p2\λx4=>aD\λx5=>lq x3 x4 x5)) gQ)
def eL(ax:PV)(eY:PV)(aD:PV):W PV:=
 bn (bn (oj (bn (bn (ca eY) aG) λl2=>a6 l2 λp3=>(ax\λx4=>p3\λx5=>aD\λx6=>eQ x4 x5 x6))) λx7=>gj x7) λQM=>
 (bn (ax\λx8=>eY\λx9=>aD\λlM=>fw x8 x9 lM) λsg=>QM\λw9=>ca (.tup [sg,w9]))
def fY(cP:PV):W (O PV):=
 bn (w2 addW (c1 gb (ca cP)) (ca (.int 5))) λIQ=>
 bn (bn (bn (ca cP) tm) λl2=>ce\λi3=>bn (bn (ca (.int 63)) part) λj4=>ca (uA l2 i3 j4)) λl18=>bn (cA l18 IQ λSr s5=>(
 bn (b2 oMod (w2 addW (w2 addW (b2 Qy (ca s5) (ca (.int 999979))) (b2 oMod (ca Sr) (b2 Qw (ca (.int 10)) (ca (.int 30))))) (ca (.int 17))) (ca (.int 2305843009213693951))) λPF=>
 ca PF)) λs5=>
 (bn (bn (bn (bn (bn (ca cP) tm) λl8=>ce\λi9=>bn (bn (ca (.int 63)) part) λj10=>ca (uA l8 i9 j10)) λZo=>jV Zo λYV=>OM (t2 oGe (ca YV) (b2 Qw (ca (.int 10)) (ca (.int 18)))) (ca YV)) λLQ=>W.dN (∃ns:O Int,LQ=ns.map PV.int) (ca .hand)) λuX=>s5\λqx=>(.int 0)\λuW=>ca [uX,qx,uW])
def eR(pZ:PV):W PV:=
 (cY (bn (ca pZ) aG) (bn (c1 gb (ca pZ)) λx1=>bK x1))
def bH(pZ:PV):W PV:=
 bn (bn (ca pZ) aG) λJu=>
 bn (FL.jX 100 (λs2=>(t2 oGt (bn (ca s2) yd) (ca (.int 1)))) (λs2=>(
 bn (bn (bn (ca s2) yd) λx5=>bK x5) λx6=>bn (o7 s2 x6) λt7=>
 bn (bn (bn (ca t7.1) yd) λx9=>bK x9) λlM=>bn (o7 t7.1 lM) λSQ=>
 bn (bn (w2 addW (bn (ca SQ.1) yd) (ca (.int 1))) λw6=>bK w6) λuW=>bn (t7.2\λuX=>SQ.2\λqx=>ca (.tup [uX,qx])) λMC=>bn (ZC SQ.1 uW MC) λLM=>
 ca LM)) Ju) λs2=>
 (cY (ca s2) (ca (.int 0)))
def fX(adO:PV)(WN:PV):W PV:=
 bn (cY (bn (adO\λx1=>WN\λx2=>ca (.tup [x1,x2])) λx3=>bn ((.int 8)\λx4=>(.int 10)\λx5=>ca (.tup [x4,x5])) λx6=>ca [x3,x6]) (c1 KC (b2 gs ((.int 8)\λx7=>bK x7) (ca (.int 0))))) λx8=>bn (q9 x8) λt9=>
 bn (bn ((.str "a")\λsg=>(.str "ab")\λw9=>(.str "b")\λw6=>(.str "ba")\λuX=>(.str "c")\λqx=>(.str "zzzzzzzz")\λuW=>(.str "d")\λMC=>(.str "aa")\λO1=>ca [sg,w9,w6,uX,qx,uW,MC,O1]) λl20=>ce\λi21=>bn (bn (w2 addW (ca (.int 1)) (t9.1\λIq=>bK Iq)) part) λj22=>ca (uA l20 i21 j22)) λsi=>
 bn ((.cl si)\λTa=>bH Ta) λHi=>
 bn (bn (bn (w2 addW (ca (.int 1)) (t9.2\λXU=>bK XU)) lX) λl28=>a6 l28 λp29=>((.cl si)\λXT=>eR XT)) λHo=>
 (Hi\λXS=>bn ((.cl Ho)\λXR=>bH XR) λx34=>ca (.tup [XS,x34]))
def aZ:Nat->PV->W (O PV)
 |0,_=>W.fail
 |n+1,cG=>
 ig (bn (bn (ca cG) (kD .str)) i6) (
 (cG\λx1=>ca [x1])) (
 bn (bn (cY (bn (ca cG) aG) (ca (.int 0))) λx3=>aZ n x3) λsP=>
 bn (bn (cY (bn (ca cG) aG) (ca (.int 1))) λx5=>aZ n x5) λrD=>
 []\λRM=>
 bn (bn (ca (.cl rD)) aG) λl21=>bn (cA l21 RM λsV s7=>(
 bn (ig (bn (bn (ca sV) (kD .str)) i6) (ca sV) (bn (w2 addW (cY (bn (ca sV) aG) (ca (.int 0))) (c1 gb (ca (.cl sP)))) λlM=>bn (w2 addW (cY (bn (ca sV) aG) (ca (.int 1))) (c1 gb (ca (.cl sP)))) λsg=>ca (.tup [lM,sg]))) λw9=>bn (eA s7 w9) λXw=>
 ca Xw)) λs7=>
 (bn (bn (bn (ca (.cl sP)) tm) λLQ=>bn (bn (ca (.cl s7)) tm) λl14=>lT LQ l14) λl18=>bn (bn (bn (b2 GI (c1 gb (ca (.cl sP))) (ca (.int 1))) λqx=>bn (b2 GI (w2 addW (c1 gb (ca (.cl sP))) (c1 gb (ca (.cl rD)))) (ca (.int 1))) λuW=>ca (.tup [qx,uW])) λMC=>ca [MC]) λW2=>lT l18 W2))
def cJ(bQ:PV):W PV:=
 bn (bQ\λx2=>aZ 12 x2) λcm=>
 bn (bn (b2 GI (c1 gb (ca (.cl cm))) (ca (.int 1))) λx3=>ca [x3]) λJ1=>[]\λxI=>
 bn (FL.jX 100 (λs6=>(s6.1\λl8=>ca (!l8.isEmpty))) (λs6=>(
 bn (bn (bn (ca s6.1) yd) λlM=>bK lM) λsg=>bn (o7 s6.1 sg) λt12=>
 ig (X6 (bn (bn (cY (bn (ca (.cl cm)) aG) (ca t12.2)) (kD .str)) i6)) (
 t12.2\λuX=>bn (eA s6.2 uX) λGG=>
 bn (t12.1\λl16=>bn (bn (cY (bn (ca (.cl cm)) aG) (ca t12.2)) aG) λQ2=>lT l16 Q2) λL5=>
 ca (L5,GG)) (
 ca (t12.1,s6.2)))) (J1,xI)) λs6=>
 bn (bn ((.int 0)\λIq=>ca [Iq]) λl20=>bn (c1 gb (ca (.cl cm))) λXY=>TY l20 XY) λiu=>
 (.int 0)\λzb=>
 bn (s6.2\λl23=>ce\λi24=>ce\λj25=>bn (bn (bn (ca (.int 1)) nR) part) λk26=>IL l23 i24 j25 k26) λl40=>bn (cA l40 (iu,zb) λHg OH=>(
 bn (w2 addW (w2 addW (ca OH.2) (ca (.int 1))) (bn (oj ((.int 0)\λXT=>(.int 0)\λXS=>(.int 1)\λXR=>(.int 12)\λx34=>ca [XT,XS,XR,x34])) λx35=>eR x35)) λza=>
 za\λx37=>Hg\λx38=>bn (u9 OH.1 x38 x37) λmq=>
 ca (mq,za))) λOH=>
 (bn (ca OH.1) ka)
def dr:W PV:=
 []\λyI=>
 bn (bn (ca (.int 4)) lX) λl23=>bn (cA l23 yI λk_5 s3=>(
 bn (w2 addW (b2 Qw (ca (.int 10)) (ca (.int 25))) ((.int 9)\λx7=>bK x7)) λL3=>
 bn (bn (oj ((.int 0)\λx9=>(.int 1)\λlM=>(.int 2)\λsg=>(.int 3)\λw9=>bn ((.int 10)\λw6=>bK w6) λuX=>bn ((.int 1001)\λqx=>bK qx) λuW=>(.int 1)\λMC=>(.int 2)\λO1=>L3\λIq=>ca [x9,lM,sg,w9,uX,uW,MC,O1,Iq])) λXZ=>eR XZ) λXY=>bn (eA s3 XY) λL6=>
 ca L6)) λs3=>
 (bn (ca s3) ka)
def dZ(dR:PV)(eY:PV)(fR:PV):W PV:=
 bn ((.int 0)\λx1=>(.int 1)\λx2=>ca (.tup [x1,x2])) λx3=>bn (q9 x3) λt4=>
 bn (bn (ca eY) aG) λl18=>bn (cA l18 (t4.1,t4.2) λxt s5=>(
 bn (w2 addW (ca s5.1) (dR\λx8=>xt\λx9=>fR\λlM=>lq x8 x9 lM)) λSm=>
 bn (b2 Qy (ca s5.2) (dR\λw9=>xt\λw6=>fR\λuX=>eQ w9 w6 uX)) λLK=>
 ca (Sm,LK))) λs5=>
 (s5.1\λqx=>s5.2\λuW=>ca (.tup [qx,uW]))
def sZ(cP:PV):W PV:=
 bn (cP\λx2=>fY x2) λsJ=>W.dN (∃s:Int,sJ=[.hand,.int s,.int 0]) (
 bn (bn (ca (.int 4)) lX) λl73=>bn (lR l73 () λxg s4=>(
 bn ((.int 5)\λx7=>(.int 5)\λx8=>fX x7 x8) λx9=>bn (q9 x9) λID=>
 bn (bn (ID.1\λw9=>aZ 12 w9) λLQ=>jV LQ λNb=>OM (bn (bn (ca Nb) (kD .str)) i6) (ca Nb)) λjW=>
 bn (ID.2\λuW=>ca [uW]) λoV=>
 bn (bn ((.int 4)\λMC=>bK MC) lX) λl71=>bn (cA l71 oV λagQ MZ=>(
 bn (bn (bn (w2 addW (ca (.int 1)) ((.int 5)\λXX=>bK XX)) lX) λl25=>a6 l25 λp26=>((.cl jW)\λx28=>eR x28)) λLg=>
 bn (cY (bn ((.cl Lg)\λx30=>bH x30) λXT=>ID.2\λXS=>ca [XT,XS]) (c1 KC (b2 gs ((.int 5)\λXR=>bK XR) (ca (.int 0))))) λx34=>bn (eA MZ x34) λvV=>
 ca vV)) λMZ=>
 bn (ig (t2 gs ((.int 2)\λx36=>bK x36) (ca (.int 0))) (ID.1\λx37=>kr x37) (ID.1\λx38=>bn (ID.1\λx39=>cJ x39) λx40=>ly x38 x40)) λiJ=>
 bn (dr) λcn=>
 bn (iJ\λx43=>(.cl MZ)\λx44=>cn\λx45=>dZ x43 x44 x45) λkM=>
 bn (bn ((.cl MZ)\λx46=>bn (oj (bn (bn (ca (.cl MZ)) tm) λl47=>ce\λi48=>ce\λj49=>bn (bn (bn (ca (.int 1)) nR) part) λk50=>IL l47 i48 j49 k50)) λx51=>(.cl MZ)\λx52=>ca (.tup [x46,x51,x52])) aG) λl69=>bn (lR l69 () λLf Ć=>(
 ig (t2 xO (bn (iJ\λx55=>bn (bn (bn (ca Lf) aG) ka) λx56=>cn\λx57=>eL x55 x56 x57) oY) (bn (ca kM) oY)) (
 (.bl false)\λx58=>ca (Lp.out x58)) (
 ca (.go ())))) (NW (λĆ=>
 ig (t2 xO (bn (iJ\λx59=>bn (ID.2\λx60=>ca (.tup [x60])) λx61=>cn\λx62=>eL x59 x61 x62) oY) (bn (iJ\λx63=>bn (oj (ID.2\λx64=>ca [x64])) λx65=>cn\λx66=>dZ x63 x65 x66) oY)) (
 (.bl false)\λx67=>ca (Lp.out x67)) (
 ca (.go ()))) Lp.out))) (NW (λs4=>
 (ca (.bl true))) id))
end My
variable{K6 zP Pj K8 K7 Ph vS Pk:Gh}{rZ:A9}
namespace My
def top(i:Nat):sB:=PySem.Challenge.pw_treewithin_k70_several_together.main.body.getD i (.Pass ⟨0,0,0,0⟩)
abbrev dV(i k:Nat)(ks:O AK)(n:Nat)(m:zG PV n):DF:=⟨dnm (top i),top i,zC (top i),k,λK=>Pr K ks (qz n m)⟩
abbrev dL(i k:Nat)(ks:O AK)(n:Nat)(m:zG (O PV) n):DF:=⟨dnm (top i),top i,zC (top i),k,λK=>zW K ks (qz n m)⟩
abbrev dv(i k n:Nat)(m:zG PV n):DF:=dV i k (Ao n .v) n m
abbrev tH:pc:=lO [("node",lo)]
def mh:LS (top 4) tH:=lcs
abbrev tD:pc:=lO [("house",lo)]
def ma:LS (top 13) tD:=lcs
abbrev pA:pc:=lO [("far",lo),("house",fr),("lines",fr)]
def jJ:LS (top 14) pA:=lcs
abbrev xW:pc:=lO [("house",lo),("name_of",gi),("halves",gi),("apart_from",gi),("houses",fr),("lines",fr)]
def qd:LS (top 15) xW:=lcs
abbrev tB:pc:=lO [("far",lo),("stay",fr)]
abbrev tu:pc:=lO [("far",lo),("stay",fr)]
def l9:LS (top 23) tB:=lcs
def l0:LS (top 23) tu:=lcs
abbrev tF:pc:=lO [("ins",lo),("SPLIT",gi)]
abbrev tE:pc:=lO [("ins",lo),("OVER",gi)]
def me:LS (top 24) tF:=lcs
def md:LS (top 24) tE:=lcs
abbrev tG:pc:=lO [("cost",lo)]
def mf:LS (top 28) tG:=lcs
abbrev qD:pc:=lO [("half",lo),("stay",lo),("rows",fr)]
def gA:LS (top 30) qD:=lcs
abbrev pz:pc:=lO [("deed",lo),("deed_cost",gi),("node",fr),("prices",fr),("rows",fr)]
def jI:LS (top 31) pz:=lcs
abbrev pq:pc:=lO [("below",lo),("summed",gi),("own",fr),("row",fr)]
def jH:LS (top 33) pq:=lcs
abbrev nY:pc:=lO [("deed",lo),("deed_cost",gi),("entry",fr),("node",fr),("prices",fr),("rows",fr)]
def iU:LS (top 38) nY:=lcs
abbrev nX:pc:=lO [("below",lo),("summed",gi),("own",fr),("row",fr),("stay",fr)]
def iT:LS (top 39) nX:=lcs
abbrev qG:pc:=lO [("stay",lo),("least_deeds",gi),("ground",fr),("node",fr),("number",fr),("prices",fr),("rows",fr)]
abbrev qF:pc:=lO [("stay",lo),("least_steps",gi),("ground",fr),("number",fr),("prices",fr),("rows",fr)]
abbrev qE:pc:=lO [("stay",lo),("cost",fr),("rows",fr),("self",fr)]
def kA:LS (d9 (top 40)) qG:=lcs
def kz:LS (d9 (top 40)) qF:=lcs
def kx:LS (d9 (top 40)) qE:=lcs
abbrev vf:pc:=lO [("half",lo),("stay",lo),("many",fr)]
def jn:LS (top 43) vf:=lcs
abbrev xY:pc:=lO [("deed",lo),("many_by",gi),("node",fr),("self",fr)]
abbrev nZ:pc:=lO [("deeds",lo),("sum",gi),("node",fr),("self",fr)]
abbrev xX:pc:=lO [("each",lo),("many",fr)]
def qg:LT nZ xY:=lcs
def qf:LS (d9 (top 44)) nZ:=lcs
def qe:LS (d9 (top 44)) xX:=lcs
abbrev GV:pc:=lO [("stay",lo),("counts",fr)]
def tL:LS (top 45) GV:=lcs
abbrev lN:pc:=lO [("small",lo),("least",gi),("ground",fr),("prices",fr)]
def gB:LS (top 48) lN:=lcs
abbrev tq:pc:=lO [("small",lo),("how_many",gi),("ground",fr),("prices",fr)]
def lZ:LS (top 49) tq:=lcs
abbrev nW:pc:=lO [("house",lo),("date",lo),("isinstance",gi),("str",gi)]
def eS:LS (top 51) nW:=lcs
abbrev ve:pc:=lO [("each",lo),("layer",fr),("numbers",fr)]
abbrev vd:pc:=lO [("far",lo),("house",fr),("layer",fr),("numbers",fr)]
def n6:LS (top 53) ve:=lcs
def n5:LS (top 53) vd:=lcs
abbrev GX:pc:=lO [("number",lo),("pair",lo)]
abbrev GW:pc:=lO [("pair",lo),("stay_of",gi),("begins",fr),("dates",fr),("houses",fr),("numbers",fr)]
def mN:LS (top 54) GX:=lcs
def tM:LS (top 54) GW:=lcs
abbrev tI:pc:=lO [("_law_cell",lo)]
def mj:LS (top 56) tI:=lcs
abbrev pB:pc:=lO [("_law_k",lo),("_law_of",gi),("_law_pot_here",fr),("_law_words",fr)]
def jK:LS (top 60) pB:=lcs
def de:dA (xP (top 61)) (zC (top 61)) (aF (top 61)):=fsc
abbrev Np:pc:=lO [("_law_node",lo),("isinstance",gi),("str",gi)]
abbrev Nn:pc:=lO [("_law_leaf",lo),("_law_of",gi),("_law_pot_here",fr),("_law_words",fr)]
def G4:LS (top 65) Np:=lcs
def G3:LS (top 65) Nn:=lcs
structure NB(v:EV):Prop where
 isinstance:v.mg "isinstance"=ce
 str:v.mg "str"=ce
 list:v.mg "list"=ce
 reversed:v.mg "reversed"=ce
 len:v.mg "len"=ce
 tuple:v.mg "tuple"=ce
 enumerate:v.mg "enumerate"=ce
 range:v.mg "range"=ce
 sorted:v.mg "sorted"=ce
 sum:v.mg "sum"=ce
 min:v.mg "min"=ce
 zip:v.mg "zip"=ce
 dict:v.mg "dict"=ce
 int:v.mg "int"=ce
 repr:v.mg "repr"=ce
abbrev mY:DF:=dL 1 1 [.v] 1 mM
def JB(D:DI v mY)(q:NB v):D.O:=
 OL D λhr nd cG=>
 (sl 1 nd (aX (n:=0) ai rfl) λng=>
 (sl 2 nd (aX (n:=1) (av 0 ai) rfl) λoT=>
 (SF.abn (hd:=(λ(s4:O PV×O PV)=>([am (.val cG),am (.ol ce s4.1),am (.ol ce s4.2),ce]:aQ))) (s0:=(ng,oT)) AE (.refl _) (λs4=>(abv rfl (fD 2) (λ_=>rfl))) (λs4=>
 (SF.IX 2 3 rfl ⋯ rfl rfl (.inl rfl) nd rfl (B4 rfl) λt7=>
 (SF.append 1 rfl rfl rfl (.inl rfl) (af 3) λm9=>
 (SF.ifT (Pf (iH rfl (mm rfl .str rfl q.isinstance (af 3) rfl q.str FB) (λ_=>rfl)))
 (SF.extend 2 rfl rfl rfl (.inl rfl) (aH (af 3)) λsu=>
 (SF.fi rfl (.m 8)))
 (SF.fi rfl (.m 8)))))) λs4=>
 (SF.gr (acK rfl rfl rfl q.list rfl q.reversed (xy 1)) λ_=>rfl))))
abbrev jw:DF:=dv 2 2 1 gX
def U4(D:DI v jw)(q:NB v)(JX:mY.C v):D.O:=
 oO D λhr nd cG=>
 (sl 1 nd (aX (n:=0) ai rfl) λeG=>
 (sl 2 nd (aX (n:=0) ai rfl) λxZ=>
 (SF.yJ (hd:=(λ(s4:O PV×O PV)=>([am (.val cG),am (.ol ce s4.1),am (.ol ce s4.2),ce,ce,ce]:aQ))) (s0:=(eG,xZ)) AE rfl (a7 rfl (ml (lC JX hr (av 0 ai)))) (.refl _) (cR 3 nd) (λs4 xE=>
 (SF.ifS (out1:=λ(Ym:O PV×O PV)=>.nx ([am (.val cG),am (.ol ce Ym.1),am (.ol ce Ym.2),am (.val xE),ce,ce]:aQ)) (iH rfl (mm rfl .str rfl q.isinstance (af 3) rfl q.str FB) (λ_=>rfl))
 (SF.append 1 rfl rfl rfl (.inl rfl) (af 3) λK4=>
 (SF.nil rfl (.refl _)))
 (SF.IX 2 4 rfl ⋯ rfl rfl (.inl rfl) nd rfl (B4 rfl) λt20=>
 (SF.IX 2 5 rfl ⋯ rfl rfl (.inl rfl) nd rfl (B4 rfl) λYe=>
 (SF.append 1 rfl rfl rfl (.inl rfl) (a9 (n:=2) (av 5 (av 4 ai)) rfl) λK3=>
 (SF.nil rfl (.m 48)))))
 λYm=>(SF.append 2 rfl rfl rfl (.inl rfl) (wI (pP rfl rfl q.len (fD 1)) aB) λGY=>
 (SF.fi rfl (.m 8))))) λs4=>
 (SF.df (du rfl rfl q.tuple (fD 1)) λ_=>rfl))))
abbrev gG:DF:=dv 3 1 1 bP
def Q9(D:DI v gG)(q:NB v):D.O:=
 oO D λhr nd cz=>
 (SF.df (yT (iH rfl (mm rfl .str rfl q.isinstance (af 0) rfl q.str FB) (λ_=>rfl)) (a9 (n:=0) ai rfl) (af 0)) λ_=>rfl)
abbrev jB:DF:=dv 4 3 1 gz
def JJ(D:DI v jB)(q:NB v)(f6:jw.C v)(d5:gG.C v):D.O:=
 oO D λhr nd cG=>
 (sv 1 nd (eC f6 hr (av 0 ai)) λeG=>
 (SF.rm (i:=3) rfl nd rfl rfl mh (a7 rfl (bz (af 1))) (λ_ _ _ _ _=>(cR 0 mh.nd)) (λ_ _ _ _ _ p5=>qp) rfl λzm=>
 (SF.N2 (hd:=(λ(s7:O PV)=>([am (.val cG),am (.val eG),ce,am (.ol ce s7),ce,ce]:aQ))) (s0:=zm) AE rfl (jo rfl rfl q.enumerate (bz (af 1))) (.refl _) (λ_=>(N1 rfl (eJ rfl (aU (cR 4 nd) (aU (cR 2 nd) cQ))))) (λs7 t9=>
 (SF.yJ (hd:=(λ(Yn:O PV)=>([am (.val cG),am (.val eG),am (.val t9.2),am (.ol ce Yn),am (.val t9.1),ce]:aQ))) (s0:=s7) AE rfl (a7 rfl (bz (eC d5 hr (av 2 ai)))) (.refl _) (cR 5 nd) (λYn L1=>
 (SF.Yl 3 rfl rfl (.inl rfl) (af 4) (af 5) λIb=>
 (SF.fi rfl (.m 32)))) λYn=>
 (SF.fi rfl (.m 20)))) λs7=>
 (SF.df (du rfl rfl q.tuple (fD 3)) λ_=>rfl))))
abbrev dE:DF:=dv 9 1 2 cH
def Jx(D:DI v dE)(oz:v.mg "UNDER"=am (.int 2 K6)):D.O:=
 oO D λhr nd dR a8=>
 (SF.df (bg rfl (aH (bg rfl (aH (af 0)) (af 1))) (yV oz rfl)) λ_=>rfl)
abbrev kQ:DF:=dv 10 1 2 gY
def Ha(D:DI v kQ)(kT:v.mg "BESIDE"=am (.int 3 zP)):D.O:=
 oO D λhr nd dR a8=>
 (SF.df (bg rfl (aH (bg rfl (aH (af 0)) (af 1))) (yV kT rfl)) λ_=>rfl)
abbrev pU:DF:=dv 11 2 3 lu
def NA(D:DI v pU)(uD:v.mg "NAME"=am (.int 0 Pj))(cy:dE.C v):D.O:=
 oO D λhr nd dR a8 Wn=>
 (SF.df (ad6 (HE (kC rfl (bI hr)) (eC cy hr (av 0 (av 1 ai))) (a9 (n:=0) ai rfl)) (ad2 (HE (kC rfl (bI hr)) (bg rfl (aH (bg rfl (aH (af 0)) (af 1))) (yV uD rfl)) (af 2)))) λ_=>rfl)
abbrev lI:DF:=dv 12 1 2 eO
def Ny(D:DI v lI)(q:NB v):D.O:=
 oO D λhr nd e6 kH=>
 (SF.df (yT (iH rfl (mm rfl .str rfl q.isinstance (bg rfl (aH (af 0)) (af 1)) rfl q.str FB) (λ_=>rfl)) (bg rfl (aH (af 0)) (af 1)) (af 1)) λ_=>rfl)
abbrev m5:DF:=dL 13 4 [.v] 1 jk
def JE(D:DI v m5)(q:NB v)(mS:jB.C v):D.O:=
 OL D λhr nd bQ=>
 (sv 1 nd (eC mS hr (av 0 ai)) λdz=>
 (SF.rm (i:=3) rfl nd rfl rfl ma (a7 rfl (bz (af 1))) (λ_ _ _ _ _=>(cR 0 ma.nd)) (λ_ _ _ _ _ p5=>(a9 (n:=0) ai rfl)) rfl λlz=>
 (SF.yJ (hd:=(λ(s9:O PV)=>([am (.val bQ),am (.val dz),ce,am (.ol ce s9),ce]:aQ))) (s0:=lz) AE rfl (Vb rfl q.range (wI (fJ rfl rfl q.len (af 1)) aB) (ou aB) (ou aB)) (.refl _) (cR 2 nd) (λs9 kG=>
 (sv 4 nd (yT (dQ yq (bg rfl (aH (af 1)) (af 2)) qp) (a9 (n:=0) ai rfl) (bg rfl (fD 3) (bg rfl (aH (af 1)) (af 2)))) λIc=>
 (SF.Yl 3 rfl rfl (.inl rfl) (c9 rfl (a9 (n:=1) (av 2 ai) rfl) (af 4)) (af 2) λG0=>
 (SF.fi rfl (.m 20))))) λs9=>
 (SF.abV 3 rfl rfl))))
abbrev jA:DF:=dv 14 1 2 fW
def ym(D:DI v jA)(q:NB v):D.O:=
 oO D λhr nd yb kH=>
 (SF.df (du rfl rfl q.tuple (sG (qh rfl jJ (gZ rfl q.range (fJ rfl rfl q.len (af 0))) (λ_ _ _ _ _=>(cR 0 jJ.nd)) (λ_ _ _ _ _ p3=>(OA.t (xc (Pg rfl (bI hr) (af 0) (aH (bg rfl (aH (af 2)) (af 1)))) (rh (Pg rfl (bI hr) (af 1) (aH (bg rfl (aH (af 2)) (af 0)))))))) (λ_ _ _ _ _ p3=>(af 0)) rfl))) λ_=>rfl)
abbrev uy:DF:=dv 15 5 1 kr
def Ra(D:DI v uy)(q:NB v)(f6:jw.C v)(JZ:m5.C v)(pO:lI.C v)(d5:gG.C v)(yF:jA.C v):D.O:=
 oO D λhr nd bQ=>
 (sv 1 nd (eC f6 hr (av 0 ai)) λfq=>
 (sl 2 nd (lC JZ hr (av 0 ai)) λlz=>
 SF.bS 2 rfl (SF.df (du rfl rfl q.tuple (sG (d4 rfl qd (gZ rfl q.range (fJ rfl rfl q.len (af 1))) (λ_ _ _ _ _=>(cR 0 qd.nd)) (λ_ _ _ _ _ p7=>(a9 (n:=4) (ak (eC pO hr (av 1 (av 0 ai))) (ak aB (ak (eC d5 hr (ak (bg rfl (aH (af 1)) (af 0)) ai)) (ak (eC yF hr (av 2 (av 0 ai))) ai)))) rfl)) rfl))) λ_=>rfl)))
abbrev kO:DF:=dL 22 2 [.v,.v] 2 gW
def G8(D:DI v kO)(q:NB v)(cy:dE.C v):D.O:=
 OL D λhr nd ax a8=>
 (sv 2 nd (eC cy hr (av 0 (av 1 ai))) λny=>
 (SF.gr (acN (dQ (kC rfl (bI hr)) (fJ rfl rfl q.len (af 2)) aB) (aX (n:=2) (av 2 (ak (a9 (n:=2) (ak (bg rfl (aH (af 2)) aB) (ak (bg rfl (aH (af 2)) aB) ai)) rfl) ai)) rfl) (aX (n:=0) ai rfl)) λ_=>rfl))
abbrev mZ:DF:=dL 23 2 [.v,.v] 2 jh
def JD(D:DI v mZ)(Hl:kQ.C v):D.O:=
 OL D λhr nd ax a8=>
 (sv 2 nd (eC Hl hr (av 0 (av 1 ai))) λuF=>
 (SF.gr (n9 rfl (cf (d4 rfl l9 (a7 rfl (bz (af 2))) (λ_ _ _ _ _=>(cR 0 l9.nd)) (λ_ _ _ _ _ p5=>(a9 (n:=2) (av 1 (av 0 ai)) rfl)) rfl)) (cf (d4 rfl l0 (a7 rfl (bz (af 2))) (λ_ _ _ _ _=>(cR 0 l0.nd)) (λ_ _ _ _ _ p9=>(a9 (n:=2) (av 0 (av 1 ai)) rfl)) rfl))) λ_=>rfl))
abbrev jy:DF:=dL 24 3 [.v,.v,.v] 3 dC
def JH(D:DI v jy)(q:NB v)(oB:v.mg "FOUND"=am (.str "found" K8))(oA:v.mg "SPLIT"=am (.str "split" K7))(uC:v.mg "OVER"=am (.str "over" Ph))(iY:v.mg "DOUBLED"=am (.str "doubled" vS))(N0:pU.C v)(Hk:kO.C v)(JY:mZ.C v):D.O:=
 OL D λhr nd ax cz a8=>
 (SF.ifR (iH rfl (mm rfl .str rfl q.isinstance (af 1) rfl q.str FB) (λ_=>rfl))
 (SF.gr (acN (iH rfl (eC N0 hr (av 0 (av 2 (av 1 ai)))) (λ_=>rfl)) (aX (n:=1) (ak (a9 (n:=2) (ak (yU oB rfl) (ak (a9 (n:=0) ai rfl) ai)) rfl) ai) rfl) (aX (n:=0) ai rfl)) λ_=>rfl)
 (SF.rm (i:=3) rfl nd rfl rfl me (a7 rfl (ml (lC Hk hr (av 0 (av 2 ai))))) (λ_ _ _ _ _=>(cR 0 me.nd)) (λ_ _ _ _ _ p11=>(a9 (n:=2) (ak (yU oA rfl) (av 0 ai)) rfl)) rfl λLd=>
 SF.bS 3 rfl (SF.rm (i:=4) rfl nd rfl rfl md (a7 rfl (ml (lC JY hr (av 0 (av 2 ai))))) (λ_ _ _ _ _=>(cR 0 md.nd)) (λ_ _ _ _ _ ò=>(a9 (n:=2) (ak (yU uC rfl) (av 0 ai)) rfl)) rfl λLs=>
 SF.bS 4 rfl (SF.gr (UU rfl (bI hr) rfl q.sorted (cf (n9 rfl (cf (n9 rfl (cf (aX (n:=1) (ak (a9 (n:=2) (ak (yU iY rfl) (ak (a9 (n:=2) (av 2 (av 2 ai)) rfl) ai)) rfl) ai) rfl)) (i8 (af 3)))) (i8 (af 4))))) λ_=>rfl))))
abbrev kN:DF:=dv 27 1 1 iR
def Q6(D:DI v kN)(q:NB v):D.O:=
 oO D λhr nd pV=>
 (SF.df (yT (aby rfl (bI hr) qp (aH (af 0))) qp (uv rfl rfl rfl q.sum (i8 (af 0)))) λ_=>rfl)
abbrev gH:DF:=dv 28 1 1 cI
def JI(D:DI v gH)(q:NB v):D.O:=
 oO D λhr nd pV=>
 (SF.df (aaf rfl rfl rfl q.min (cf (qh rfl mf (a7 rfl (bz (af 0))) (λ_ _ _ _ _=>(cR 0 mf.nd)) (λ_ _ _ _ _ p2=>(dQ U9 (af 0) qp)) (λ_ _ _ _ _ p2=>(af 0)) rfl))) λ_=>rfl)
abbrev mW:DF:=dv 29 1 2 eN
def JA(D:DI v mW)(lJ:v.mg "DEEDS"=am (.ref rZ))(rK:SD v.K rZ ["split","doubled","over"]):D.O:=
 oO D λhr nd aD mn=>
 (SF.df (yT (abx rfl (bI hr) (af 1) lJ rK) (bg rfl (aH (af 0)) (aah rfl (af 1) lJ rK)) aB) λ_=>rfl)
abbrev hZ:DF:=dv 30 2 4 bL
def G9(D:DI v hZ)(q:NB v)(d5:gG.C v)(kI:kN.C v)(JW:mW.C v):D.O:=
 oO D λhr nd aD iK cz mn=>
 (SF.Lh (i:=4) rfl nd rfl rfl gA (JM rfl rfl q.zip (bz (eC d5 hr (av 2 ai))) (bz (bg rfl (aH (af 3)) aB))) (λ_ _ _ _ _=>(N1 rfl (eJ rfl (aU (cR 0 gA.nd) (aU (cR 1 gA.nd) cQ))))) (λ_ _ _ _ _ t7=>(bg rfl (aH (bg rfl (aH (af 2)) (af 0))) (af 1))) (US rfl rfl ⋯) ⋯ λGH=>
 SF.bS 4 rfl (SF.df (eC kI hr (ak (gF (n9 rfl (cf (aX (n:=1) (ak (eC JW hr (av 0 (ak (bg rfl (aH (af 3)) aB) ai))) ai) rfl)) (i8 (af 4)))) ai)) λ_=>rfl))
abbrev jz:DF:=dL 31 4 [.v,.v,.v,.v,.v] 5 fV
def yk(D:DI v jz)(mR:jy.C v)(kK:hZ.C v):D.O:=
 OL D λhr nd ax aD iK cz a8=>
 (SF.gr (d4 rfl jI (a7 rfl (ml (lC mR hr (av 0 (av 3 (av 4 ai)))))) (λ_ _ _ _ _=>(cR 0 jI.nd)) (λ_ _ _ _ _ p5=>(eC kK hr (av 2 (av 3 (av 1 (av 0 ai)))))) rfl) λ_=>rfl)
abbrev hX:DF:=dv 32 2 3 fj
def G7(D:DI v hX)(q:NB v)(uE:v.mg "LOST"=am (.int 3 Pk))(cy:dE.C v):D.O:=
 oO D λhr nd ax aD a8=>
 (SF.df (yT (dQ (kC rfl (bI hr)) (fJ rfl rfl q.len (eC cy hr (av 0 (av 2 ai)))) aB) (bg rfl (aH (af 1)) (yV uE rfl)) aB) λ_=>rfl)
abbrev jv:DF:=dL 33 3 [.v,.v,.v,.v] 4 fU
def yh(D:DI v jv)(kJ:hX.C v)(cy:dE.C v)(kI:kN.C v):D.O:=
 OL D λhr nd ax aD IT a8=>
 (sv 4 nd (eC kJ hr (av 0 (av 1 (av 3 ai)))) λGD=>
 (SF.gr (d4 rfl jH (a7 rfl (bz (eC cy hr (av 0 (av 3 ai))))) (λ_ _ _ _ _=>(cR 0 jH.nd)) (λ_ _ _ _ _ p8=>(eC kI hr (ak (gF (aX (n:=2) (av 1 (ak (bg rfl (aH (af 2)) (af 0)) ai)) rfl)) ai))) rfl) λ_=>rfl))
abbrev ux:DF:=dv 34 5 4 nV
def Q7(D:DI v ux)(q:NB v)(yE:jz.C v)(yC:jv.C v)(gD:gH.C v):D.O:=
 oO D λhr nd ax aD iK cz=>
 (sl 4 nd (aX (n:=0) ai rfl) λPR=>
 (SF.yJ (hd:=(λ(s3:O PV)=>([am (.val ax),am (.val aD),am (.val iK),am (.val cz),am (.ol ce s3),ce,ce]:aQ))) (s0:=PR) AE rfl (gZ rfl q.range (fJ rfl rfl q.len (af 0))) (.refl _) (cR 5 nd) (λs3 II=>
 (sl 6 nd (acO 4 rfl (n9 rfl (cf (lC yE hr (av 0 (av 1 (av 2 (av 3 (av 5 ai))))))) (cf (lC yC hr (av 0 (av 1 (av 4 (av 5 ai)))))))) λMm=>
 SF.bS 6 rfl (SF.append 4 rfl rfl rfl (.inl rfl) (eC gD hr (av 6 ai)) λPQ=>
 (SF.fi rfl (.m 96))))) λs3=>
 (SF.df (du rfl rfl q.tuple (fD 4)) λ_=>rfl)))
abbrev rX:DF:=dv 35 6 3 nU
def U3(D:DI v rX)(q:NB v)(f6:jw.C v)(Rz:ux.C v):D.O:=
 oO D λhr nd ax dU aD=>
 (sl 3 nd (aX (n:=0) ai rfl) λcm=>
 (SF.yJ (hd:=(λ(s3:O PV)=>([am (.val ax),am (.val dU),am (.val aD),am (.ol ce s3),ce]:aQ))) (s0:=cm) AE rfl (a7 rfl (bz (eC f6 hr (av 1 ai)))) (.refl _) (cR 4 nd) (λs3 QB=>
 (SF.append 3 rfl rfl rfl (.inl rfl) (ad5 3 rfl (eC Rz hr (av 0 (av 2 (av 3 (av 4 ai)))))) λPN=>
 (SF.fi rfl (.m 16)))) λs3=>
 (SF.df (du rfl rfl q.tuple (fD 3)) λ_=>rfl)))
abbrev rY:DF:=dv 36 7 3 lq
def U5(D:DI v rY)(gD:gH.C v)(yB:rX.C v):D.O:=
 oO D λhr nd ax dU aD=>
 (SF.df (eC gD hr (ak (bg rfl (aH (eC yB hr (av 0 (av 1 (av 2 ai))))) (ou aB)) ai)) λ_=>rfl)
abbrev iz:DF:=dL 38 4 [.v,.v,.v,.v,.v,.v] 6 dh
def vj(D:DI v iz)(mR:jy.C v)(kK:hZ.C v):D.O:=
 OL D λhr nd ax aD iK Lx cz a8=>
 (sv 6 nd (bg rfl (aH (bg rfl (aH (af 2)) (af 3))) (af 5)) λyP=>
 (SF.ifR (dQ yq (af 6) qp)
 (SF.gr (aX (n:=0) ai rfl) λ_=>rfl)
 (SF.gr (qh rfl iU (a7 rfl (ml (lC mR hr (av 0 (av 4 (av 5 ai)))))) (λ_ _ _ _ _=>(cR 0 iU.nd)) (λ_ _ _ _ _ p6=>(dQ (kC rfl (bI hr)) (eC kK hr (av 3 (av 4 (av 2 (av 0 ai))))) (af 1))) (λ_ _ _ _ _ p6=>(af 0)) rfl) λ_=>rfl)))
abbrev iy:DF:=dL 39 3 [.v,.v,.v,.v] 4 dg
def vi(D:DI v iy)(q:NB v)(kJ:hX.C v)(cy:dE.C v)(kI:kN.C v):D.O:=
 OL D λhr nd ax aD IT a8=>
 (SF.ifR (dQ yq (bg rfl (aH (af 2)) (af 3)) qp)
 (SF.gr (aX (n:=0) ai rfl) λ_=>rfl)
 (sv 4 nd (eC kJ hr (av 0 (av 1 (av 3 ai)))) λGD=>
 (SF.gr (qh rfl iT (a7 rfl (ml (QX rfl rfl q.sorted (eC cy hr (av 0 (av 3 ai)))))) (λ_ _ _ _ _=>(cR 0 iT.nd)) (λ_ _ _ _ _ p8=>(dQ (kC rfl (bI hr)) (eC kI hr (ak (gF (aX (n:=2) (av 1 (ak (bg rfl (aH (af 2)) (af 0)) ai)) rfl)) ai)) (bg rfl (aH (af 2)) (af 3)))) (λ_ _ _ _ _ p8=>(af 0)) rfl) λ_=>rfl)))
abbrev kR:CF:=⟨"LeastWays","LeastWays.__init__",d9 (top 40),["told","deeds","steps","begins"],zC (d9 (top 40)),7,λl=>.bind (qz 3 fm l) λr=>.ret (nL ["told","deeds","steps","begins"] r)⟩
def Hc(D:CI v kR)(q:NB v)(yB:rX.C v)(f6:jw.C v)(vz:iz.C v)(vv:iy.C v)(gD:gH.C v):D.O:=
 mkI (n:=3) (m:=fm) D λhr nd ad ax dU aD=>
 (sv 4 nd (eC yB hr (av 1 (av 2 (av 3 ai)))) λcm=>
 (sl 5 nd (QZ rfl rfl q.list rfl q.range (fJ rfl rfl q.len (af 1))) λnF=>
 SF.bS 5 rfl (SF.adM 0 rfl rfl rfl (.inr (.inl rfl)) (eC f6 hr (av 2 ai)) (D.na "told" ⋯) rfl (A5 rfl) λxh=>
 (SF.Vs 0 rfl rfl rfl (.inr (.inl rfl)) (aX (n:=0) ai rfl) (D.na "deeds" ⋯) rfl (A5 rfl) λb10 y9=>
 (SF.Vs 0 rfl rfl rfl (.inr (.inl rfl)) (aX (n:=0) ai rfl) (D.na "steps" ⋯) rfl (A5 rfl) λb12 sE=>
 (SF.N2 (hd:=(λ(PJ:O PV×O PV)=>([am (.ob ad D.C [("told",.v xh),("deeds",.o b10 PJ.1),("steps",.o b12 PJ.2)]),am (.val ax),am (.val dU),am (.val aD),am (.val cm),am (.val (.cl nF)),ce,ce,ce]:aQ))) (s0:=(y9,sE)) AE rfl (jo rfl rfl q.enumerate (bz (Kf 0))) (.refl _) (λ_=>(N1 rfl (eJ rfl (aU (cR 6 nd) (aU (cR 7 nd) cQ))))) (λPJ ą=>
 (SF.Vt 0 1 rfl rfl rfl rfl rfl (.inr (.inl rfl)) (gF (d4 rfl kA (a7 rfl (bz (af 5))) (λ_ _ _ _ _=>(cR 0 kA.nd)) (λ_ _ _ _ _ ò=>(gF (lC vz hr (av 1 (av 4 (av 5 (av 3 (av 2 (av 0 ai))))))))) rfl)) λHM=>
 (SF.Vt 0 2 rfl rfl rfl rfl rfl (.inr (.inl rfl)) (gF (d4 rfl kz (a7 rfl (bz (af 5))) (λ_ _ _ _ _=>(cR 0 kz.nd)) (λ_ _ _ _ _ p28=>(gF (lC vv hr (av 1 (av 3 (ak (bg rfl (aH (af 4)) (af 2)) (av 0 ai))))))) rfl)) λzS=>
 (SF.fi rfl (.m 192))))) λPJ=>
 (sv 8 nd (eC gD hr (ak (bg rfl (aH (af 4)) (ou aB)) ai)) λMn=>
 (SF.Vr 0 1 rfl rfl rfl
 (SF.adM 0 rfl rfl rfl (.inr (.inl rfl)) (gF (qh rfl kx (a7 rfl (bz (af 5))) (λ_ _ _ _ _=>(cR 0 kx.nd)) (λ_ _ _ _ _ ñ=>(OA.t (xc (dQ (kC rfl (bI hr)) (bg rfl (aH (bg rfl (aH (af 2)) (ou aB))) (af 0)) (af 1)) (rh (iH rfl (bg rfl (aH (bg rfl (aH (Kf 3)) (ou aB))) (af 0)) (λ_=>rfl)))))) (λ_ _ _ _ _ ñ=>(af 0)) rfl)) (D.na "begins" ⋯) rfl (A5 rfl) λwW=>
 (SF.Vr 0 2 rfl rfl rfl (SF.nil rfl (.m 318))))))))))))
abbrev lH:DF:=dv 42 1 1 gj
def Nx(D:DI v lH):D.O:=
 oO D λhr nd uk=>
 (sv 1 nd aB λeG=>
 (SF.yJ (hd:=(λ(s2:PV)=>([am (.val uk),am (.val s2),ce]:aQ))) (s0:=eG) AE rfl (a7 rfl (bz (af 0))) (.refl _) (cR 2 nd) (λs2 Hw=>
 (sv 1 nd (R5 (af 1) (af 2)) λO8=>
 (SF.fi rfl (.m 4)))) λs2=>
 (SF.df (af 1) λ_=>rfl)))
abbrev pT:DF:=dv 43 2 3 dG
def Nz(D:DI v pT)(q:NB v)(pN:lH.C v)(d5:gG.C v):D.O:=
 oO D λhr nd WO cz mn=>
 (SF.df (eC pN hr (ak (gF (QY rfl jn (JM rfl rfl q.zip (bz (eC d5 hr (av 1 ai))) (bz (bg rfl (aH (af 2)) aB))) (λ_ _ _ _ _=>(N1 rfl (eJ rfl (aU (cR 0 jn.nd) (aU (cR 1 jn.nd) cQ))))) (λ_ _ _ _ _ t6=>(bg rfl (aH (bg rfl (aH (af 2)) (af 0))) (af 1))) (US rfl rfl ⋯) ⋯)) ai)) λ_=>rfl)
abbrev uz:CF:=⟨"Counts","Counts.__init__",d9 (top 44),["done","many"],zC (d9 (top 44)),3,λl=>.bind (qz 1 ku l) λr=>.ret (nL ["done","many"] r)⟩
def Rc(D:CI v uz)(q:NB v)(NZ:pT.C v):D.O:=
 mkI (n:=1) (m:=ku) D λhr nd ad nu=>
 (SF.Vs 0 rfl rfl rfl (.inr (.inl rfl)) (aX (n:=0) ai rfl) (D.na "done" ⋯) rfl (A5 rfl) λb3 Kl=>
 (SF.Vs 0 rfl rfl rfl (.inr (.inl rfl)) (aX (n:=0) ai rfl) (D.na "many" ⋯) rfl (A5 rfl) λb5 Jn=>
 (SF.N2 (hd:=(λ(s7:O PV×O PV)=>([am (.ob ad D.C [("done",.o b3 s7.1),("many",.o b5 s7.2)]),am (.val nu),ce,ce,ce,ce,ce,ce]:aQ))) (s0:=(Kl,Jn)) AE rfl (jo rfl rfl q.enumerate (bz (HC rfl (af 1)))) (.refl _) (λ_=>(N1 rfl (eJ rfl (aU (cR 2 nd) (aU (cR 3 nd) cQ))))) (λs7 t9=>
 (SF.as (V6 0 1 rfl rfl rfl (V5 (i:=4) rfl nd rfl rfl qf (a7 rfl (bz (bg rfl (aH (HC rfl (af 1))) (af 2)))) (λ_ _ _ _ _=>(cR 0 qf.nd)) (λ_ _ _ _ _ YV=>(uv rfl rfl rfl q.sum (cf (d4 rfl (aV.rel qg) (a7 rfl (bz (af 0))) (λ_ _ _ _ _=>(cR 0 qg.nd)) (λ_ _ _ _ _ Nb=>(eC NZ hr (ak (Kf 2) (av 1 (av 0 ai))))) rfl)))) rfl)) λrV=>
 SF.bS 4 rfl (sl 5 nd (aX (n:=0) ai rfl) λxU=>
 (SF.N2 (hd:=(λ(Wx:O PV)=>([am (.ob ad D.C [("done",.o b3 s7.1),("many",.o b5 s7.2)]),am (.val nu),am (.val t9.1),am (.val t9.2),am (.val (.cl rV)),am (.ol ce Wx),ce,ce]:aQ))) (s0:=xU) AE rfl (jo rfl rfl q.enumerate (bz (bg rfl (aH (HC rfl (af 1))) (af 2)))) (.refl _) (λ_=>(N1 rfl (eJ rfl (aU (cR 6 nd) (aU (cR 7 nd) cQ))))) (λWx Ye=>
 (SF.append 5 rfl rfl rfl (.inr (.inl rfl)) (c9 rfl (bg rfl (aH (af 4)) (af 6)) (uv rfl rfl rfl q.sum (cf (d4 rfl qe (a7 rfl (bz (af 7))) (λ_ _ _ _ _=>(cR 0 qe.nd)) (λ_ _ _ _ _ p25=>(bg rfl (fD 1) (af 0))) rfl)))) λLJ=>
 (SF.fi rfl (.m 192)))) λWx=>
 (SF.Vt 0 0 rfl rfl rfl rfl rfl (.inr (.inl rfl)) (af 4) λMf=>
 (SF.bS 5 rfl (SF.Vt 0 1 rfl rfl rfl rfl rfl (.inr (.inl rfl)) (af 5) λLI=>
 (SF.fi rfl (.m 60))))))))) λs7=>
 (SF.Vr 0 0 rfl rfl rfl (SF.Vr 0 1 rfl rfl rfl (SF.nil rfl (.m 2)))))))
abbrev zc:DF:=dv 45 1 2 xV
def U2(D:DI v zc)(q:NB v):D.O:=
 oO D λhr nd nu Ml=>
 (SF.df (uv rfl rfl rfl q.sum (cf (d4 rfl tL (a7 rfl (bz (HC rfl (af 0)))) (λ_ _ _ _ _=>(cR 0 tL.nd)) (λ_ _ _ _ _ p2=>(bg rfl (aH (bg rfl (aH (HC rfl (af 1))) (ou aB))) (af 0))) rfl))) λ_=>rfl)
abbrev jx:DF:=dv 46 9 3 eQ
def JG(D:DI v jx)(g9:kR.C v)(Vl:zc.C v)(og:uz.C v):D.O:=
 oO D λhr nd ax dU aD=>
 (sv 3 nd (eM g9.o g9.i.mk' g9.i.bi g9.i.at' (n:=3) hr (av 0 (av 1 (av 2 ai)))) λIv=>
 (SF.df (eC Vl hr (av 3 (ak (eM og.o og.i.mk' og.i.bi og.i.at' (n:=1) hr (av 3 ai)) ai))) λ_=>rfl))
abbrev fB:DF:=dv 48 8 3 fw
def qJ(D:DI v fB)(q:NB v)(yD:rY.C v):D.O:=
 oO D λhr nd ax eY aD=>
 (SF.df (uv rfl rfl rfl q.sum (cf (d4 rfl gB (a7 rfl (bz (af 1))) (λ_ _ _ _ _=>(cR 0 gB.nd)) (λ_ _ _ _ _ p2=>(eC yD hr (av 1 (av 0 (av 2 ai))))) rfl))) λ_=>rfl)
abbrev mU:DF:=dv 49 10 3 eL
def Jy(D:DI v mU)(pN:lH.C v)(mQ:jx.C v)(qP:fB.C v):D.O:=
 oO D λhr nd ax eY aD=>
 (sv 3 nd (eC pN hr (ak (gF (d4 rfl lZ (a7 rfl (bz (af 1))) (λ_ _ _ _ _=>(cR 0 lZ.nd)) (λ_ _ _ _ _ p3=>(eC mQ hr (av 1 (av 0 (av 2 ai))))) rfl)) ai)) λQM=>
 (SF.df (a9 (n:=2) (ak (eC qP hr (av 0 (av 1 (av 2 ai)))) (av 3 ai)) rfl) λ_=>rfl))
abbrev iw:DF:=dL 51 1 [.v,.v] 2 eZ
def vh(D:DI v iw)(q:NB v):D.O:=
 OL D λhr nd e6 da=>
 (SF.gr (acM rfl eS (JM rfl rfl q.zip (bz (af 0)) (bz (af 1))) (λ_ _ _ _ _=>(N1 rfl (eJ rfl (aU (cR 0 eS.nd) (aU (cR 1 eS.nd) cQ))))) (λ_ _ _ _ _ t5=>(Pf (iH rfl (mm rfl .str rfl q.isinstance (af 0) rfl q.str FB) (λ_=>rfl)))) (λ_ _ _ _ _ t5=>(af 1)) (US rfl rfl ⋯) ⋯) λ_=>rfl)
abbrev mV:DF:=dL 52 4 [.v,.v,.v] 3 jg
def Jz(D:DI v mV)(q:NB v)(mS:jB.C v):D.O:=
 OL D λhr nd bQ da jE=>
 (sv 3 nd (eC mS hr (av 0 ai)) λdz=>
 (sl 4 nd (aX (n:=0) ai rfl) λxG=>
 (SF.N2 (hd:=(λ(s5:O PV)=>([am (.val bQ),am (.val da),am (.val jE),am (.val dz),am (.ol ce s5),ce,ce,ce,ce]:aQ))) (s0:=xG) AE rfl (jo rfl rfl q.enumerate (bz (af 2))) (.refl _) (λ_=>(N1 rfl (eJ rfl (aU (cR 5 nd) (aU (cR 6 nd) cQ))))) (λs5 t7=>
 (SF.N2 (hd:=(λ(s9:O PV)=>([am (.val bQ),am (.val da),am (.val jE),am (.val dz),am (.ol ce s9),am (.val t7.1),am (.val t7.2),ce,ce]:aQ))) (s0:=s5) AE rfl (jo rfl rfl q.enumerate (bz (af 1))) (.refl _) (λ_=>(N1 rfl (eJ rfl (aU (cR 7 nd) (aU (cR 8 nd) cQ))))) (λs9 SQ=>
 (SF.ifT (OA.t (xc (dQ acU (af 8) (af 6)) (rh (OA.t (abt (dQ yq (bg rfl (aH (af 3)) (af 7)) qp) (X4 (dQ W9 (af 6) (bg rfl (aH (af 1)) (bg rfl (aH (af 3)) (af 7))))))))))
 (SF.append 4 rfl rfl rfl (.inl rfl) (a9 (n:=2) (av 7 (av 5 ai)) rfl) λGB=>
 (SF.fi rfl (.m 384)))
 (SF.fi rfl (.m 384)))) λs9=>
 (SF.fi rfl (.m 96)))) λs5=>
 (SF.abV 4 rfl rfl))))
abbrev pS:DF:=dv 53 2 5 lj
def Nw(D:DI v pS)(q:NB v)(d5:gG.C v)(pO:lI.C v):D.O:=
 oO D λhr nd e6 da jE nM Qq=>
 (sv 5 nd (bg rfl (aH (af 4)) aB) λlB=>
 (sv 6 nd (bg rfl (aH (af 4)) aB) λn8=>
 (sv 7 nd (HE W9 (bg rfl (aH (af 1)) (af 5)) (bg rfl (aH (af 2)) (af 6))) λwD=>
 (sv 8 nd (yT (iH rfl (af 7) (λ_=>rfl)) (a9 (n:=1) (av 5 ai) rfl) (eC d5 hr (ak (bg rfl (aH (af 0)) (af 5)) ai))) λbelow_4=>
 (sv 9 nd (du rfl rfl q.tuple (sG (d4 rfl n6 (a7 rfl (bz (af 8))) (λ_ _ _ _ _=>(cR 0 n6.nd)) (λ_ _ _ _ _ p9=>(R8 (bI hr) (af 2) (a9 (n:=2) (av 0 (ak (wI (af 1) aB) ai)) rfl) (λ_ _=>rfl))) rfl))) λK2=>
 (sv 10 nd (du rfl rfl q.tuple (sG (qh rfl n5 (Vc (af 3)) (λ_ _ _ _ _=>(cR 0 n5.nd)) (λ_ _ _ _ _ Nb=>(OA.t (xc (dQ (kC rfl (bI hr)) (bg rfl (aH (af 0)) aB) (af 2)) (rh (dQ (Rh rfl (bI hr)) (bg rfl (aH (af 0)) aB) (af 1)))))) (λ_ _ _ _ _ Nb=>(R8 (bI hr) (af 3) (af 0) (λ_ _=>rfl))) rfl))) λwV=>
 (SF.df (a9 (n:=4) (ak (eC pO hr (av 0 (av 5 ai))) (av 6 (av 9 (av 10 ai)))) rfl) λ_=>rfl)))))))
abbrev zd:DF:=dv 54 5 2 ly
def U6(D:DI v zd)(q:NB v)(f6:jw.C v)(vt:iw.C v)(JV:mV.C v)(NY:pS.C v):D.O:=
 oO D λhr nd bQ da=>
 (sv 2 nd (eC f6 hr (av 0 ai)) λfq=>
 (sl 3 nd (n9 rfl (cf (aX (n:=1) (ak aB ai) rfl)) (cf (UW rfl rfl q.sorted (cf (lC vt hr (av 2 (av 1 ai))))))) λuG=>
 SF.bS 3 rfl (sl 4 nd (lC JV hr (av 0 (av 1 (av 3 ai)))) λxF=>
 SF.bS 4 rfl (sv 5 nd (ahU (VU rfl rfl (bI hr) rfl q.dict (cf (QY rfl mN (jo rfl rfl q.enumerate (bz (af 4))) (λ_ _ _ _ _=>(N1 rfl (eJ rfl (aU (cR 0 mN.nd) (aU (cR 1 mN.nd) cQ))))) (λ_ _ _ _ _ ğ=>(a9 (n:=2) (av 1 (av 0 ai)) rfl)) (US rfl rfl ⋯) ⋯)))) λsS=>
 (SF.df (du rfl rfl q.tuple (sG (d4 rfl tM (a7 rfl (bz (af 4))) (λ_ _ _ _ _=>(cR 0 tM.nd)) (λ_ _ _ _ _ ć=>(eC NY hr (av 3 (av 2 (av 1 (av 4 (av 0 ai))))))) rfl))) λ_=>rfl)))))
abbrev m6:DF:=dL 56 1 [.v] 1 fY
def JK(D:DI v m6)(q:NB v):D.O:=
 OL D λhr nd cP=>
 (sv 1 nd (c9 rfl (fJ rfl rfl q.len (af 0)) aB) λIQ=>
 (SF.yJ (hd:=(λ(s5:PV)=>([am (.val cP),am (.val s5),ce]:aQ))) (s0:=IQ) AE rfl (a7 rfl (ml (Zj rfl (i8 (af 0)) mK (sR aB)))) (.refl _) (cR 2 nd) (λs5 Sr=>
 (sv 1 nd (Xz (c9 rfl (c9 rfl (R5 (af 1) aB) (Xz (af 2) (R4 aB aB))) aB) aB) λPF=>
 (SF.fi rfl (.m 4)))) λs5=>
 (SF.gr (aX (n:=3) (ak (ad4 (qh rfl mj (a7 rfl (ml (Zj rfl (i8 (af 0)) mK (sR aB)))) (λ_ _ _ _ _=>(cR 0 mj.nd)) (λ_ _ _ _ _ YV=>(dQ acW (af 0) (R4 aB aB))) (λ_ _ _ _ _ YV=>(af 0)) rfl)) (av 1 (ak aB ai))) rfl) λ_=>rfl)))
abbrev cv:DF:=dV 57 1 [.p fv 1,.v] 1 bK
abbrev gn:DF:=dV 58 2 [.p fv 1,.v] 1 eR
def NC(D:DI v gn)(q:NB v)(aL:cv.C v):D.O:=
 QI D λj hr nd pZ=>
 (SF.df (bg rfl (aH (af 1)) (eP 0 aL hr (ak (fJ rfl rfl q.len (af 1)) ai))) λ_=>rfl)
abbrev fe:DF:=dV 59 2 [.p fv 300,.v] 1 bH
theorem vm(D:DI v fe)(q:NB v)(aL:cv.C v):D.O:=
 QI D λj hr nd pZ=>
 (sl 2 nd (Q0 rfl rfl q.list (aH (af 1))) λJu=>
 (SF.jX (hd:=(λ(j3:Nat) (s2:O PV)=>([am (.cC fv (j+0+3*j3+0) (j+300)),am (.val pZ),am (.ol ce s2),ce,ce]:aQ))) (hE:=(λ(s2:O PV)=>([am (.cC fv (j+300) (j+300)),am (.val pZ),am (.ol ce s2),ce,ce]:aQ))) (s0:=Ju) AE (.bump (.refl _) ⟨by omega,by omega⟩) (λj3 s2=>(dQ acV (pP rfl rfl q.len (fD 2)) aB)) (λj3 s2 _=>
 (SF.YQ 2 3 rfl ⋯ rfl rfl (.inl rfl) nd rfl (B4 rfl) (eP 0 aL hr (ak (pP rfl rfl q.len (fD 2)) ai)) λt7=>
 (SF.YQ 2 4 rfl ⋯ rfl rfl (.inl rfl) nd rfl (B4 rfl) (eP 0 aL hr (ak (pP rfl rfl q.len (fD 2)) ai)) λSQ=>
 (SF.insert 2 rfl rfl rfl (.inl rfl) (eP 0 aL hr (ak (c9 rfl (pP rfl rfl q.len (fD 2)) aB) ai)) (a9 (n:=2) (av 3 (av 4 ai)) rfl) λLM=>
 (SF.fi rfl (.bump (.m 12) ⟨by omega,by omega⟩)))))) (λj3 _ _=>(.bump (.refl _) ⟨by omega,by omega⟩)) λs2=>
 (SF.df (bg rfl (fD 2) aB) λ_=>rfl)))
abbrev jC:DF:=dV 60 3 [.p fv 16777819,.v,.v] 2 fX
theorem yn(D:DI v jC)(q:NB v)(aL:cv.C v)(e7:fe.C v)(eV:gn.C v):D.O:=
 QI D λj hr nd adO WN=>
 (SF.Yk (bg rfl (sG (aX (n:=2) (ak (a9 (n:=2) (av 1 (av 2 ai)) rfl) (ak (a9 (n:=2) (ak aB (ak aB ai)) rfl) ai)) rfl)) (Md rfl q.int (HE (kC rfl (bI hr)) (eP 0 aL hr (ak aB ai)) aB))) (N1 rfl (eJ rfl (aU (cR 3 nd) (aU (cR 4 nd) cQ)))) λt9=>
 (sl 5 nd (Zj rfl (cf (aX (n:=8) (ak qo (ak qo (ak qo (ak qo (ak qo (ak qo (ak qo (ak qo ai)))))))) rfl)) mK (sR (c9 rfl aB (eP 0 aL hr (av 3 ai))))) λsi=>
 SF.bS 5 rfl (sv 6 nd (eP 0 e7 hr (av 5 ai)) λHi=>
 (SF.as (H9 (k:=7) (n:=((((j+1)+1)+300)+1)) (m:=(j+16777819)) 0 1 1 (j+16777519) rfl nd rfl rfl jK (gZ rfl q.range (c9 rfl aB (eP 0 aL hr (av 4 ai)))) (λ_ _ _ _ _=>(cR 0 jK.nd)) (λ_ _ _ _ _ j30 p29 _=>(eP 1 eV hr (av 2 ai))) (λj30 _ _=>(.drop (.bump (.m 0) ⟨by omega,by omega⟩))) ⟨by omega,by omega⟩ rfl) λHo=>
 SF.bS 7 rfl (SF.df (a9 (n:=2) (av 6 (ak (eP 0 e7 hr (av 7 ai)) ai)) rfl) λ_=>rfl)))))
abbrev f9:DF:=dL 61 12 [.v] 1 (aZ 12)
theorem oe(D:DI v f9)(q:NB v):∀n,gP v.P v.w v.K v.mg v.base uP (n+0) D.f D.fd (zC (top 61)) (zW v.K [.v] (qz 1 (aZ n)))
 |0=>adH (TH λl Q hl=>match l,hl with|[cG],_=>λh=>h.elim)
 |n+1=>have cV:=D.cN (oe D q n)
  fnL (k:=n+0) (n:=1) (m:=aZ (n+1)) D.fn de rfl (WE Lv) λ_ l hl=>match l,hl with|[cG],_=>λ_ _ _ _ _ _ hr=>show SF _ _ _ [am (.val cG),ce,ce,ce,ce] _ (aZ (n+1) cG) _ from
 (SF.ifR (iH rfl (mm rfl .str rfl q.isinstance (af 0) rfl q.str FB) (λ_=>rfl))
 (SF.gr (aX (n:=1) (av 0 ai) rfl) λ_=>rfl)
 (sl 1 de.nd (lC cV hr (ak (bg rfl (aH (af 0)) aB) ai)) λsP=>
 SF.bS 1 rfl (sl 2 de.nd (lC cV hr (ak (bg rfl (aH (af 0)) aB) ai)) λrD=>
 SF.bS 2 rfl (sl 3 de.nd (aX (n:=0) ai rfl) λRM=>
 (SF.yJ (hd:=(λ(s7:O PV)=>([am (.val cG),am (.val (.cl sP)),am (.val (.cl rD)),am (.ol ce s7),ce]:aQ))) (s0:=RM) AE rfl (a7 rfl (bz (af 2))) (.refl _) (cR 4 de.nd) (λs7 sV=>
 (SF.append 3 rfl rfl rfl (.inl rfl) (yT (iH rfl (mm rfl .str rfl q.isinstance (af 4) rfl q.str FB) (λ_=>rfl)) (af 4) (a9 (n:=2) (ak (c9 rfl (bg rfl (aH (af 4)) aB) (fJ rfl rfl q.len (af 1))) (ak (c9 rfl (bg rfl (aH (af 4)) aB) (fJ rfl rfl q.len (af 1))) ai)) rfl)) λXw=>
 (SF.fi rfl (.m 16)))) λs7=>
 (SF.bS 3 rfl (SF.gr (n9 rfl (cf (n9 rfl (i8 (af 1)) (i8 (af 3)))) (cf (aX (n:=1) (ak (a9 (n:=2) (ak (wI (fJ rfl rfl q.len (af 1)) aB) (ak (wI (c9 rfl (fJ rfl rfl q.len (af 1)) (fJ rfl rfl q.len (af 2))) aB) ai)) rfl) ai) rfl))) λ_=>rfl)))))))
abbrev jD:DF:=dV 62 13 [.p fv 16777316,.v] 1 cJ
theorem yo(D:DI v jD)(q:NB v)(cV:f9.C v)(aL:cv.C v)(eV:gn.C v):D.O:=
 QI D λj hr nd bQ=>
 (sl 2 nd (lC cV hr (av 1 ai)) λcm=>
 SF.bS 2 rfl (SF.acm (i:=3) (j:=4) rfl nd rfl rfl ⋯ rfl rfl (aX (n:=1) (ak (wI (fJ rfl rfl q.len (af 2)) aB) ai) rfl) (aX (n:=0) ai rfl) λJ1 xI=>
 (SF.jX (hd:=(λ(j7:Nat) (s6:O PV×O PV)=>([am (.cC fv (j+0+1*j7+0) (j+16777316)),am (.val bQ),am (.val (.cl cm)),am (.ol ce s6.1),am (.ol ce s6.2),ce,ce,ce]:aQ))) (hE:=(λ(s6:O PV×O PV)=>([am (.cC fv (j+100) (j+16777316)),am (.val bQ),am (.val (.cl cm)),am (.ol ce s6.1),am (.ol ce s6.2),ce,ce,ce]:aQ))) (s0:=(J1,xI)) AE (.bump (.refl _) ⟨by omega,by omega⟩) (λj7 s6=>(abw rfl (bI hr) (xy 3))) (λj7 s6 _=>
 (SF.YQ 3 5 rfl ⋯ rfl rfl (.inl rfl) nd rfl (B4 rfl) (eP 0 aL hr (ak (pP rfl rfl q.len (fD 3)) ai)) λt12=>
 (SF.ifT (Pf (iH rfl (mm rfl .str rfl q.isinstance (bg rfl (aH (af 2)) (af 5)) rfl q.str FB) (λ_=>rfl)))
 (SF.append 4 rfl rfl rfl (.inl rfl) (af 5) λGG=>
 (sl 3 nd (n9 rfl (xy 3) (cf (Q0 rfl rfl q.list (aH (bg rfl (aH (af 2)) (af 5)))))) λL5=>
 (SF.fi rfl (.bump (.m 16) ⟨by omega,by omega⟩))))
 (SF.fi rfl (.bump (.m 16) ⟨by omega,by omega⟩))))) (λj7 _ _=>(.bump (.refl _) ⟨by omega,by omega⟩)) λs6=>
 (sl 6 nd (acL (aX (n:=1) (ak aB ai) rfl) (fJ rfl rfl q.len (af 2))) λiu=>
 (sv 7 nd aB λzb=>
 (SF.RF (hd:=(λ(ħ:Nat) (OH:O PV×PV)=>([am (.cC fv (j+100+1*ħ+0) (j+16777316)),am (.val bQ),am (.val (.cl cm)),am (.ol ce s6.1),am (.ol ce s6.2),ce,am (.ol ce OH.1),am (.val OH.2)]:aQ))) (hE:=(λ(OH:O PV×PV)=>([am (.cC fv (j+16777316) (j+16777316)),am (.val bQ),am (.val (.cl cm)),am (.ol ce s6.1),am (.ol ce s6.2),ce,am (.ol ce OH.1),am (.val OH.2)]:aQ))) (s0:=(iu,zb)) AE rfl (a7 rfl (ml (WW rfl (xy 4) mK mK (sR (ou aB))))) (.bump (.refl _) ⟨by omega,by omega⟩) (cR 5 nd) (λħ OH Hg _=>
 (sv 7 nd (c9 rfl (c9 rfl (af 7) aB) (eP 0 eV hr (ak (gF (aX (n:=4) (ak aB (ak aB (ak aB (ak aB ai)))) rfl)) ai))) λza=>
 (SF.Yl 6 rfl rfl (.inl rfl) (af 7) (af 5) λmq=>
 (SF.fi rfl (.bump (.m 16) ⟨by omega,by omega⟩))))) (λħ _ _=>(.bump (.refl _) ⟨by omega,by omega⟩)) λOH=>
 (SF.df (du rfl rfl q.tuple (fD 6)) λ_=>rfl)))))))
abbrev iA:DF:=dV 63 3 [.p fv 67108864] 0 dr
theorem vk(D:DI v iA)(q:NB v)(aL:cv.C v)(eV:gn.C v):D.O:=
 QI D λj hr nd=>
 (sl 1 nd (aX (n:=0) ai rfl) λyI=>
 (SF.RF (hd:=(λ(j4:Nat) (s3:O PV)=>([am (.cC fv (j+0+4*j4+0) (j+67108864)),am (.ol ce s3),ce,ce]:aQ))) (hE:=(λ(s3:O PV)=>([am (.cC fv (j+67108864) (j+67108864)),am (.ol ce s3),ce,ce]:aQ))) (s0:=yI) AE rfl (gZ rfl q.range aB) (.bump (.refl _) ⟨by omega,by omega⟩) (cR 2 nd) (λj4 s3 k_5 _=>
 (sv 3 nd (c9 rfl (R4 aB aB) (eP 0 aL hr (ak aB ai))) λL3=>
 (SF.append 1 rfl rfl rfl (.inl rfl) (eP 0 eV hr (ak (gF (aX (n:=9) (ak aB (ak aB (ak aB (ak aB (ak (eP 0 aL hr (ak aB ai)) (ak (eP 0 aL hr (ak aB ai)) (ak aB (ak aB (av 3 ai))))))))) rfl)) ai)) λL6=>
 (SF.fi rfl (.bump (.m 6) ⟨by omega,by omega⟩))))) (λj4 _ _=>(.bump (.refl _) ⟨by omega,by omega⟩)) λs3=>
 (SF.df (du rfl rfl q.tuple (fD 1)) λ_=>rfl)))
abbrev m7:DF:=dv 64 10 3 dZ
def JL(D:DI v m7)(yD:rY.C v)(mQ:jx.C v):D.O:=
 oO D λhr nd dR eY fR=>
 (SF.Yk (a9 (n:=2) (ak aB (ak aB ai)) rfl) (N1 rfl (eJ rfl (aU (cR 3 nd) (aU (cR 4 nd) cQ)))) λt4=>
 (SF.yJ (hd:=(λ(s5:PV×PV)=>([am (.val dR),am (.val eY),am (.val fR),am (.val s5.1),am (.val s5.2),ce]:aQ))) (s0:=(t4.1,t4.2)) AE rfl (a7 rfl (bz (af 1))) (.refl _) (cR 5 nd) (λs5 xt=>
 (sv 3 nd (c9 rfl (af 3) (eC yD hr (av 0 (av 5 (av 2 ai))))) λSm=>
 (sv 4 nd (R5 (af 4) (eC mQ hr (av 0 (av 5 (av 2 ai))))) λLK=>
 (SF.fi rfl (.m 32))))) λs5=>
 (SF.df (a9 (n:=2) (av 3 (av 4 ai)) rfl) λ_=>rfl)))
abbrev XD:DF:=dv 65 14 1 sZ
set_option maxHeartbeats 20000000 in
theorem acT(D:DI v XD)(q:NB v)(J0:m6.C v)(yG:jC.C v)(cV:f9.C v)(aL:cv.C v)(eV:gn.C v)(e7:fe.C v)(RA:uy.C v)(Vm:zd.C v)(yH:jD.C v)(vA:iA.C v)(uc:m7.C v)(ub:mU.C v):D.O:=
 oO D λhr nd cP=>
 (sl 1 nd (lC J0 hr (av 0 ai)) λsJ=>SF.fv 1 4722453177174300033024 rfl
 (SF.Z4 (hd:=(λ(j5:Nat) (s4:Unit)=>([am (.val cP),am (.cC fv (0+0+281480144093889*j5+0) 4722453177174300033024),ce,ce,ce,ce,ce,ce,ce,ce,ce,ce]:aQ))) (hE:=(λ(s4:Unit)=>([am (.val cP),am (.cC fv (0+4722453177174300033024) 4722453177174300033024),ce,ce,ce,ce,ce,ce,ce,ce,ce,ce]:aQ))) (s0:=()) (inj:=id) AE rfl (gZ rfl q.range aB) (.keep (.bump (.refl _) ⟨by omega,by omega⟩)) (cR 2 nd) (λ_=>trivial) (λj5 s4 xg _=>
 (SF.Yk (eP 1 yG hr (ak aB (ak aB ai))) (N1 rfl (eJ rfl (aU (cR 3 nd) (aU (cR 4 nd) cQ)))) λID=>
 (sl 5 nd (qh rfl G4 (a7 rfl (ml (lC cV hr (av 3 ai)))) (λ_ _ _ _ _=>(cR 0 G4.nd)) (λ_ _ _ _ _ Nb=>(iH rfl (mm rfl .str rfl q.isinstance (af 0) rfl q.str FB) (λ_=>rfl))) (λ_ _ _ _ _ Nb=>(af 0)) rfl) λjW=>
 SF.bS 5 rfl (sl 6 nd (aX (n:=1) (av 4 ai) rfl) λoV=>
 (SF.RF (hd:=(λ(ù:Nat) (MZ:O PV)=>([am (.val cP),am (.cC fv (0+0+281480144093889*j5+16777820+16777518*ù+0) 4722453177174300033024),am (.val xg),am (.val ID.1),am (.val ID.2),am (.val (.cl jW)),am (.ol ce MZ),ce,ce,ce,ce,ce]:aQ))) (hE:=(λ(MZ:O PV)=>([am (.val cP),am (.cC fv (0+0+281480144093889*j5+281480060207708) 4722453177174300033024),am (.val xg),am (.val ID.1),am (.val ID.2),am (.val (.cl jW)),am (.ol ce MZ),ce,ce,ce,ce,ce]:aQ))) (s0:=oV) AE rfl (gZ rfl q.range (eP 1 aL hr (ak aB ai))) (.keep (.bump (.refl _) ⟨by omega,by omega⟩)) (cR 7 nd) (λù MZ agQ _=>
 (SF.as (H9 (k:=8) (n:=((0+0+281480144093889*j5+16777820+16777518*ù+0)+1)) (m:=4722453177174300033024) 1 1 1 (0+0+281480144093889*j5+16777820+16777518*ù+16777217) rfl nd rfl rfl G3 (gZ rfl q.range (c9 rfl aB (eP 1 aL hr (ak aB ai)))) (λ_ _ _ _ _=>(cR 0 G3.nd)) (λ_ _ _ _ _ j27 p26 _=>(eP 1 eV hr (av 2 ai))) (λj27 _ _=>(.drop (.bump (.m 0) ⟨by omega,by omega⟩))) ⟨by omega,by omega⟩ rfl) λLg=>
 SF.bS 8 rfl (SF.append 6 rfl rfl rfl (.inl rfl) (bg rfl (sG (aX (n:=2) (ak (eP 1 e7 hr (av 8 ai)) (av 4 ai)) rfl)) (Md rfl q.int (HE (kC rfl (bI hr)) (eP 1 aL hr (ak aB ai)) aB))) λvV=>
 (SF.fi rfl (.keep (.bump (.m 96) ⟨by omega,by omega⟩)))))) (λù _ _=>(.keep (.bump (.refl _) ⟨by omega,by omega⟩))) λMZ=>
 (sv 9 nd (yT (dQ (kC rfl (bI hr)) (eP 1 (n:=(0+0+281480144093889*j5+281480060207708)) aL hr (ak aB ai)) aB) (EF.le (eC RA hr (av 3 ai)) (.keep (.bump (n:=((0+0+281480144093889*j5+281480060207708)+1)) (n':=(0+0+281480144093889*j5+281480076985025)) ⟨by omega,by omega⟩ (.refl _)))) (EF.le (eC Vm hr (av 3 (ak (eP 1 (n:=((0+0+281480144093889*j5+281480060207708)+1)) yH hr (av 3 ai)) ai))) (.keep (.bump (n:=(((0+0+281480144093889*j5+281480060207708)+1)+16777316)) (n':=(0+0+281480144093889*j5+281480076985025)) ⟨by omega,by omega⟩ (.refl _))))) λiJ=>
 (sv 10 nd (eP 1 vA hr ai) λcn=>
 (SF.bS 6 rfl (sv 11 nd (eC uc hr (av 9 (av 6 (av 10 ai)))) λkM=>
 (SF.adD (hd:=(λ(Ć:Unit)=>([am (.val cP),am (.cC fv (0+0+281480144093889*j5+281480144093889) 4722453177174300033024),am (.val xg),am (.val ID.1),am (.val ID.2),am (.val (.cl jW)),am (.val (.cl MZ)),ce,ce,am (.val iJ),am (.val cn),am (.val kM)]:aQ))) (s0:=()) (inj:=Lp.out) AE rfl (a7 rfl (bz (a9 (n:=3) (av 6 (ak (gF (WW rfl (i8 (af 6)) mK mK (sR (ou aB)))) (av 6 ai))) rfl))) (.keep (.bump (.refl _) ⟨by omega,by omega⟩)) (cR 8 nd) (λ_=>trivial) (λĆ Lf=>
 (SF.ifT (dQ (Rh rfl (bI hr)) (yS rfl hr rfl q.repr (eC ub hr (av 9 (ak (du rfl rfl q.tuple (aH (af 8))) (av 10 ai))))) (yS rfl hr rfl q.repr (af 11)))
 (SF.ret (k:=λx58=>(Lp.out x58)) aaj λ_=>rfl)
 (SF.fi rfl (.keep (.bump (.m 64) ⟨by omega,by omega⟩))))) λĆ=>
 (SF.ifT (dQ (Rh rfl (bI hr)) (yS rfl hr rfl q.repr (eC ub hr (av 9 (ak (a9 (n:=1) (av 4 ai) rfl) (av 10 ai))))) (yS rfl hr rfl q.repr (eC uc hr (av 9 (ak (gF (aX (n:=1) (av 4 ai) rfl)) (av 10 ai))))))
 (SF.ret (k:=λx67=>(Lp.out x67)) aaj λ_=>rfl)
 (SF.fi rfl (.keep (.bump (.m 927) ⟨by omega,by omega⟩)))))))))))))) (λj5 _ _=>(.keep (.bump (.refl _) ⟨by omega,by omega⟩))) λs4=>
 (SF.df aaj λ_=>rfl)))
section
local macro_rules | `(tactic| one_sign) => `(tactic| ((try dsimp only); first
 |with_reducible refine Yv ?_
 |with_reducible refine YA ?_
 |with_reducible refine T4 ?_
 |((with_reducible refine Ys (v:=?rdV) ?rdE ?_);case rdE=>exact rfl)
 |with_reducible refine agp ?_
 |with_reducible refine abX ?_
 |with_reducible refine ail ?_
 |with_reducible refine ais ?_
 |((with_reducible refine ags ?rdC ?_);try (case rdC=>first|lia|exact⟨by omega,by omega⟩|exact WM ∅ ∅ | exact mul_r ∅ ∅ | exact UK ⟨by omega,by omega⟩ ⟨by omega,by omega⟩|exact⟨by decide,by decide,by decide⟩))
 |with_reducible refine T7 ?_
 |with_reducible refine Yw ?_
 |with_reducible refine T5 ?_
 |with_reducible refine Yz ?_
 |with_reducible refine TZ ?_
 |with_reducible refine aim ?_
 |with_reducible refine YB ?_
 |with_reducible refine aio ?_
 |with_reducible refine agm ?_
 |with_reducible refine aeG ?_
 |with_reducible refine agl ?_
 |with_reducible refine aeB ?_
 |with_reducible refine aiq ?_
 |with_reducible refine Yx ?_
 |with_reducible refine T6 ?_
 |with_reducible refine agi ?_
 |with_reducible refine Yy ?_
 |with_reducible refine aeE ?_
 |with_reducible refine air ?_
 |with_reducible refine ago ?_
 |with_reducible refine agn ?_
 |with_reducible refine ab1 ?_
 |with_reducible refine agq ?_
 |with_reducible refine ab0 ?_
 |with_reducible refine Yu ?_
 |with_reducible refine abZ ?_
 |with_reducible refine T3 ?_
 |with_reducible refine agk ?_
 |with_reducible refine aez ?_
 |with_reducible refine aey ?_
 |with_reducible refine abY ?_
 |with_reducible refine aeC ?_
 |with_reducible refine aeD ?_
 |with_reducible refine ain ?_
 |with_reducible refine aeA ?_
 |with_reducible refine aaH ?_
 |with_reducible refine abW ?_
 |with_reducible refine aeF ?_
 |with_reducible refine aip ?_
 |with_reducible refine agj ?_
 |with_reducible refine agr ?_))
local macro_rules | `(tactic| one_item) => `(tactic| repeat (one_sign))
def Kp(a b:db)(H H':Hp):Prop:=∀c o,c≠a->c≠b->H c=am o->H' c=am o
def Kp.trans(h:Kp a b H H1)(k:Kp a b H1 H2):Kp a b H H2:=λc o n m e=>k c o n m (h c o n m e)
def Kp.same(h:iZ H H'):Kp a b H H':=λc o _ _ e=>h c o e
def Kp.xa(h:ft a H H'):Kp a b H H':=λc o n _ e=>h c o n e
def Kp.xb(h:ft b H H'):Kp a b H H':=λc o _ n e=>h c o n e
theorem Hb(D:DI v cv):D.O:=by
 have nd:(xP (top 57)).Nodup:=by decide +kernel
 refine D.fn.ok (N:=xP (top 57)) fsc (λvs H Q E h=>?_) (λdc A outer s H vs Q E hr h=>?_)
 .obtain⟨_,_,l,h,_⟩:=h;rw[h.len];rfl
 obtain⟨tb,j,l,h,q⟩:=h;cases h with
 | @p a _ _ vs ks l pt jm t=>
 cases t with
 | @v u x vs ks l r t=>
 cases t;obtain⟨j',ws,hj,ea,⟨b,sd,c,rfl,c0,c1⟩,hb⟩:=pt;have eb:cO H b:=hb b (by simp);have q:(bK x).run _:=q;obtain⟨m,rfl⟩:∃m,x=.int m:=by
  cases x with
  |int m=>exact⟨m,rfl⟩
  |_=>exact q.elim
 cases r;obtain⟨⟨m0,m1⟩,q⟩:=q;have ab:a≠b:=λy=>by subst y;rw[show H a=_ from eb]at ea;cases ea
 have jm:j+1<=2 ^ 250:=jm;refine⟨_,mz.shown (dW (Gq AE (PW.pt (Qa (gR (mJ v.K rfl hr.O6) (fF (ck v.K rfl) (pv 0) bq (λ_ _=>rfl)) (xD bC) (gw _)) (Lk (gR acw (fF (ck v.K rfl) (fF (ck v.K rfl) (pv 0) bq (λ_ _=>rfl)) bq (λ_ _=>rfl)) bq (gw _))))) (rz (k6 (mE v.K rfl Bt DM DL GO (fF (ck v.K rfl) (pv 0) bq (λ_ _=>rfl)) (aY bq bC)))))
  (dW (Ll (gR (mJ v.K rfl hr.O6) (fF (ck v.K rfl) (pv 0) bq (λ_ _=>rfl)) (xD bC) (gw _)) (dW (mD (i:=2) nd rfl (B4 rfl) (cX o9 (fF (ck v.K rfl) (fF (ck v.K rfl) (pv 0) bq (λ_ _=>rfl)) bq (λ_ _=>rfl)) (pv 1)))
  (dW (xB (cX xJ (fF (ck v.K rfl) (fF (ck v.K rfl) (pv 0) bq (λ_ _=>rfl)) bq (λ_ _=>rfl)) (pv 1)) (IZ (fF (ck v.K rfl) (pv 0) bq (λ_ _=>rfl)) bq oX))
  (rz (sH (pv 2))))) rA)
  (dW (xB (cX (lg v.K rfl) (fF (ck v.K rfl) (pv 0) bq (λ_ _=>rfl)) bq) (IZ (pv 0) bq oX))
  (dW (mD (i:=3) nd rfl (B4 rfl) (cX o9 (cX k8 (cX (lg v.K rfl) (cX (lg v.K rfl) (fF (ck v.K rfl) (pv 0) bq (λ_ _=>rfl)) (cX k8 (cX k8 bq (fF (ck v.K rfl) (pv 0) bq (λ_ _=>rfl))) (fF (ck v.K rfl) (pv 0) bq (λ_ _=>rfl)))) bq) bq) bq))
  (dW (mD (i:=3) nd rfl (B4 rfl) (cX o9 (cX k8 (pv 3) (cX (lg v.K rfl) (cX o9 (pv 3) bq) (cX k8 bq (fF (ck v.K rfl) (pv 0) bq (λ_ _=>rfl))))) bq))
  (rz (sH (cX o9 (cX (lg v.K rfl) (cX xJ (pv 3) bq) (cX xJ (pv 3) bq)) (pv 1))))))))),?_⟩
 show ∃b,cO H b/\∀ns:O Int,_;refine⟨b,eb,λns=>?_⟩;have fin:∀(d:Int) (H3:Hp) (sd' c':Int) (SV:O Int),0<=d->d<m->0<=c'->c'<=((j+1:Nat):Int)->Kp a b H H3->H3 a=am (.lst [.ref b,.int sd',.int c'])->H3 b=am (.lst (SV.map V.int))->(adl b {nx:=λ_ H'=>Q .aM H',rt:=Q}).rt (.int d) H3:=λd H3 sd' c' SV d0 d1 c2 c3 kp h1 h2=>by
  refine⟨SV,h2,q _ ⟨d,rfl,d0,d1⟩ _ _ (ahD tb ⟨_,ea⟩ eb (λx o n1 n2 h=>by rw[aj n2];exact kp x o n1 n2 h) (λx hx=>?_) (by rw[aj ab];exact h1) ay ab ⟨c2,c3⟩ λx ψ d ⟨i,p1,_⟩=>?_) (.int d)⟩
  .by_cases xb:x=b
   .subst xb;rw[ay]at hx;cases hx
   .rw[aj xb]at hx;by_cases xa:x=a
    .subst xa;rw[h1]at hx;cases hx
    .cases z:H x with
     |none=>rfl
     |some o=>rw[kp x o xa xb z]at hx;cases hx
  .cases i with
   |zero=>simp at p1
   |succ i=>simp at p1
 have k0:Kp a b H (upd H b (.lst (ns.map V.int))):=λx o nx xb hx=>by rw[aj xb];exact hx
 have a0:upd H b (.lst (ns.map V.int)) a=am (.lst [.ref b,.int sd,.int c]):=by rw[aj ab];exact ea
 have b0:upd H b (.lst (ns.map V.int)) b=am (.lst (ns.map V.int)):=ay;generalize upd H b (.lst (ns.map V.int))=H1 at k0 a0 b0;show _;refine⟨λk σ' H'=>σ'=[am (.ref a),am (.int m),ce,ce]/\Kp a b H H'/\H' a=am (.lst [.ref b,.int sd,.int c])/\∃ns:O Int,H' b=am (.lst (ns.map V.int))/\k=ns.length,⟨_,rfl,k0,a0,ns,b0,rfl⟩,?_⟩;rintro k σ' H2 ⟨rfl,k2,a2,ns2,b2,rfl⟩
 one_item
 refine c7 (b9.of a2) rfl ?_
 one_item
 refine⟨Bc _,λp H3 s3 h3 n3=>?_⟩;have a3:=s3 _ _ a2;have b3:=s3 _ _ b2;have k3:=k2.trans (Kp.same s3);refine⟨b,p,ns2.map V.int,rfl,rfl,b9.of b3,b9.of h3,_,rfl,?_⟩;cases ns2 with
 |nil=>
  rw[if_neg ⋯,if_neg ⋯]
  one_item
  refine c7 (b9.of a3) rfl ?_
  one_item
  refine⟨Bc _,λp' H4 s4 h4 n4=>?_⟩;have a4:=s4 _ _ a3;have b4:=s4 _ _ b3;have k4:=k3.trans (Kp.same s4);refine⟨b,p',[],rfl,rfl,b9.of b4,b9.of h4,?_⟩
  one_item
  rw[if_neg ⋯]
  one_item
  refine c7 (b9.of a4) rfl ?_
  one_item
  refine Lj a4 rfl λH5 x5 h5=>?_
  one_item
  refine c7 (b9.of h5) rfl ?_
  one_item
  refine c7 (b9.of h5) rfl ?_
  one_item
  refine c7 (b9.of h5) rfl ?_
  one_item
  refine c7 (b9.of h5) rfl ?_
  one_item
  exact fin _ H5 sd (c+1) [] (Int.emod_nonneg _ ∅) (Int.emod_lt_of_pos _ m0) ∅ ∅ (k4.trans (Kp.xa x5)) h5 (x5 _ _ ab.symm b4)
 |cons x r=>
  rw[if_pos (by rfl)]
  one_item
  refine c7 (b9.of a3) rfl ?_
  one_item
  have ł:fC ((x::r).map V.int) 0=am (.int x):=by simp[fC,rN]
  refine c7 (b9.of b3) ł ?_
  one_item
  refine⟨rfl,_,rfl,?_⟩;rw[Mi];by_cases hx:x=0
  .subst hx;rw[if_pos (by rfl)];refine⟨λσ' H'=>σ'=[am (.ref a),am (.int m),ce,ce]/\Kp a b H H'/\H' a=am (.lst [.ref b,.int sd,.int c])/\H' b=am (.lst (r.map V.int)),?_,?_⟩
   .rintro σ' H' ⟨z1,z2,z3,z4⟩;exact⟨r.length,by simp,z1,z2,z3,r,z4,rfl⟩
   .one_item
    refine c7 (b9.of a3) rfl ?_
    one_item
    refine⟨Yt b3,?_⟩
    one_item
    obtain⟨i1,i2,i3,i4⟩:=rM (n:=((0::r).map V.int).length) (i:=0) (j:=0) (by simp[rN]);refine⟨b,_,0,0,_,rfl,rfl,b3,by decide,by decide,i1,rfl,rfl,k3.trans (Kp.xb (vW _)),?_,?_⟩
    .rw[aj ab];exact a3
    .exact ay
  .rw[if_neg (by simpa using hx)]
   one_item
   refine c7 (b9.of a3) rfl ?_
   one_item
   refine⟨Bc _,λp' H4 s4 h4 n4=>?_⟩;have a4:=s4 _ _ a3;have b4:=s4 _ _ b3;have k4:=k3.trans (Kp.same s4);refine⟨b,p',_,rfl,rfl,b9.of b4,b9.of h4,?_⟩
   one_item
   rw[if_pos (by rfl)]
   one_item
   refine c7 (b9.of a4) rfl ?_
   one_item
   refine c7 (b9.of b4) ł ?_
   one_item
   refine c7 (b9.of a4) rfl ?_
   one_item
   refine c7 (b9.of b4) ł ?_
   one_item
   refine c7 (b9.of a4) rfl ?_
   one_item
   refine Lj b4 (j:=0) (by simp[rN]) λH5 x5 h5=>?_
   one_item
   exact fin _ H5 sd c ((x / m)::r) (Int.emod_nonneg _ ∅) (Int.emod_lt_of_pos _ m0) c0 ∅ (k4.trans (Kp.xb x5)) (x5 _ _ ab a4) h5
def Tr.pv:Tr->PV
 |.leaf x=>.str x
 |.node l r=>.tup [l.pv,r.pv]
def Ent.pv:Ent->PV
 |.word x=>.str x
 |.pair a b=>.tup [.int (a:Int),.int (b:Int)]
variable{t:Tr}
def TN{l:List α}(h:l≠[]):∃a x,l=a++[x]:=⟨l.dropLast,l.getLast h,(List.dropLast_concat_getLast h).symm⟩
def PB{a b:O Tr}(h:iO a++b=t.post):eD a+b.length=t.size:=by
 have h1:=congrArg Cv h;rw[Ak,t.kh]at h1;have h2:∀l:O Tr,(iO l).length=eD l:=by
  intro l
  induction l with
  |nil=>rfl
  |cons x l ih=>
   have e1:iO (x::l)=x.post++iO l:=rfl;have e2:eD (x::l)=x.size+eD l:=rfl;rw[e1,e2,Ak,ih,x.kh]
 rw[h2]at h1;exact h1
theorem cM{l:O PV}{x:PV}(h:l.length<1000):eA l x=.ret (l++[x]):=sw (by have:=bO (Al _);lia)
theorem Qp(t:Tr)(hz:t.size<=900):(mM t.pv).le (.ret (t.post.map Tr.pv)):=λQ q=>by
 refine Ir (λn s=>∃ts bs:O Tr,n=eD ts/\s=(bs.map Tr.pv,ts.map Tr.pv)/\iO ts++bs.reverse=t.post) ⟨[t],[],rfl,rfl,by rw[o6];simp⟩ ?_;rintro n s ⟨ts,bs,rfl,rfl,hp⟩;have hs:=PB hp;rw[CA]at hs;by_cases he:ts=[]
 .subst he;have ĳ:bs.reverse=t.post:=hp;simp;rw[<- EZ,ĳ];exact q
 .obtain⟨us,u,rfl⟩:=TN he;have Xi:=wo us;rw[fP,oW]at hs;simp;rw[cM (by rw[Aj];lia)];cases u with
  |leaf x=>
   simp[Tr.pv];refine⟨_,?_,us,rfl,bs++[.leaf x],⟨by simp[Tr.pv],rfl⟩,?_⟩
   .rw[fP,oW];show eD us<eD us+1;lia
   .rw[jb,o6]at hp;rw[FV,<- hp];simp[Tr.post]
  |node c d=>
   have e1:Z9 (us.map Tr.pv) [c.pv,d.pv]=.ret (us.map Tr.pv++[c.pv,d.pv]):=sw (bO (by
    simp;lia))
   simp[Tr.pv,e1];refine⟨_,?_,us++[c,d],rfl,bs++[.node c d],⟨by simp[Tr.pv],by simp⟩,?_⟩
   .have e2:eD [Tr.node c d]=c.size+d.size+1:=by rw[oW];rfl
    have e3:eD [c,d]=c.size+d.size:=by simp[eD]
    rw[fP,fP,e2,e3];lia
   .rw[jb,o6]at hp;rw[FV,<- hp,jb,M6];simp[Tr.post]
def aJ(l:O Nat):O PV:=l.map λ(n:Nat)=>.int (n:Int)
@[simp] theorem iQ(l:O Nat):(aJ l).length=l.length:=Aj _
@[simp] theorem acH(a b:O Nat):aJ (a++b)=aJ a++aJ b:=Az
@[simp] theorem aaJ(a:Nat)(l:O Nat):aJ (a::l)=.int (a:Int)::aJ l:=rfl
variable{Q:O PV->Prop}{f:PV->W (Option PV)}
@[simp] theorem acG:aJ []=[]:=rfl
def pI(n:Nat):g8 0 n=aJ (Ar n):=by
 refine Bp λi _=>?_;rw[Gd]
theorem QU{p:Nat->Bool}:∀{l:O Nat},(∀k∈l,f (.int ((k:Nat):Int))=.ret (if p k=true then am (.int ((k:Nat):Int)) else ce))->jV (aJ l) f=.ret (aJ (l.filter p))
 |[],_=>rfl
 |k::l,h=>by
  show bn (f _) (λo=>bn (jV (aJ l) f) λm=>ca (o.toList++m))=_;rw[h k (.head _),QU λy hy=>h y (.tail _ hy),E3];cases p k<;>rfl
theorem rG{f:PV->W PV}{g:Nat->PV}:∀{l:O Nat},(∀k∈l,f (.int ((k:Nat):Int))=.ret (g k))->a6 (aJ l) f=.ret (l.map g)
 |[],_=>rfl
 |k::l,h=>by
  show bn (f _) (λy=>bn (a6 (aJ l) f) λm=>ca (y::m))=_;rw[h k (.head _),rG λy hy=>h y (.tail _ hy)];rfl
def WU{l:O PV}(g:PV->Option PV)(h:∀x∈l,f x=.ret (g x))(q:Q (l.filterMap g)):(jV l f).run Q:=by rw[yg h];exact q
def QL{l:O PV}{f:PV->W PV}(g:PV->PV)(h:∀x∈l,f x=.ret (g x))(q:Q (l.map g)):(a6 l f).run Q:=by rw[LH h];exact q
def QR{l:O Nat}(p:Nat->Bool)(h:∀k∈l,f (.int ((k:Nat):Int))=.ret (if p k=true then am (.int ((k:Nat):Int)) else ce))(q:Q (aJ (l.filter p))):(jV (aJ l) f).run Q:=by rw[QU h];exact q
theorem ko(t:Tr)(hz:t.size<=900):(gX t.pv).le (.ret (.tup ((t.nd 0).map Ent.pv))):=λQ q=>by
 unfold gX;simp;refine W.le.use (Qp t hz) ?_;refine ud (λr s=>∃(k:O Tr) (À:O Ent) (ls:O Nat),r=k.map Tr.pv/\s=(À.map Ent.pv,aJ ls.reverse)/\run k À ls=am (t.nd 0,[t.size-1])/\À.length+k.length<=900/\ls.length<=À.length) ⟨t.post,[],[],rfl,rfl,M0 t,by simp[t.kh];lia,Al _⟩ ?_ ?_
 .rintro x r s ⟨k,À,ls,e,rfl,h,hl,Ē⟩;cases k with
  |nil=>cases e
  |cons p k=>
   injection e with e1 e2;subst e1;subst e2;rw[Aq]at hl;cases p with
   |leaf x=>
    have a1:∀y,eA (aJ ls.reverse) y=.ret (aJ ls.reverse++[y]):=λy=>cM (by simp;lia);simp[Tr.pv,cM (l:=À.map Ent.pv) (by simp;lia),a1];refine⟨k,rfl,À++[Ent.word x],À.length::ls,⟨by simp[Ent.pv],by simp⟩,h,by simp;lia,by simp;lia⟩
   |node c d=>
    match ls,h,Ē with
    |b::a::ls,h,Ē=>
     rw[Aq,Aq]at Ē;have a0:aJ (b::a::ls).reverse=(aJ ls.reverse++[.int a])++[.int b]:=by simp
     have a1:∀y,eA (aJ ls.reverse) y=.ret (aJ ls.reverse++[y]):=λy=>cM (by simp;lia);rw[a0];simp only[Tr.pv,lw,lG,lF,d8,if_false,aac];simp[cM (l:=À.map Ent.pv) (by simp;lia),a1];refine⟨k,rfl,À++[Ent.pair a b],À.length::ls,⟨by simp[Ent.pv],by simp⟩,h,by simp;lia,by simp;lia⟩
 .rintro s ⟨k,À,ls,e,rfl,h,hl,Ē⟩;cases k with
  |nil=>
   cases h;simpa using q
  |cons p k=>cases e
variable{a b v:Int}
theorem mulL(h:-1000000000<=a/\a<=1000000000):xz a b:=WM ∅ ∅
theorem mulR(h:-1000000000<=b/\b<=1000000000):xz a b:=mul_r ∅ ∅
theorem cS{i j:Int}(h:-1000<=i/\i<=1000/\-1000<=j/\j<=1000)(h2:j-i<=1000):okN i j:=⟨by lia,by lia,by lia,by lia,bO ∅⟩
def jS:Ent->Bool
 |.word _=>false
 |.pair _ _=>true
structure Dt(t:Tr)(ds:List Int)(left:List Nat)(d:Int):Prop where
 len:ds.length=t.size
 zero:∀j,j<t.size->(jS (en t 0 j)=false\/j∈left)->ds.getD j 0=0
 up:∀j,j<t.size->j∉left->∀a b,en t 0 j=.pair a b->a∉left/\b∉left/\ds.getD a 0<ds.getD j 0/\ds.getD b 0<ds.getD j 0/\1<=ds.getD j 0/\ds.getD j 0<=d
 inj:∀i j,i<t.size->j<t.size->i∉left->j∉left->jS (en t 0 i)=true->jS (en t 0 j)=true->ds.getD i 0=ds.getD j 0->i=j
 pos:0<=d
 lft:∀j∈left,j<t.size/\jS (en t 0 j)=true
 ris:left.Pairwise (· < ·)
def ik{l:O Int}(h:i<l.length):(l.set i v).getD i 0=v:=by rw[Ah,CN h];rfl
def bM{l:O Int}(h:i≠j):(l.set i v).getD j 0=l.getD j 0:=by rw[Ah,B6 h,<- Ah]
def lY{l:O Nat}(h:l.Pairwise (· < ·)){x y:Nat}:y∈l.erase x↔y∈l/\y≠x:=by
 have nd:l.Nodup:=h.imp (λz=>AB z);rw[nd.mem_erase_iff];exact⟨λz=>⟨z.2,z.1⟩,λz=>⟨z.2,z.1⟩⟩
theorem dI(t:Tr){a b:Nat}(h:j<t.size)(e:en t 0 j=.pair a b):a<j/\b<j:=by
 rcases Mq t 0 j h with⟨x,e1,_⟩|⟨a',b',e1,e2,e3,_⟩
 .rw[e1]at e;cases e
 .rw[e1]at e;injection e with h1 h2;lia
variable{x d:Int}{a:Nat}{ds:O Int}
theorem Dt.next{left:O Nat}{b:Nat}(D:Dt t ds left d)(hj:j∈left)(e:en t 0 j=.pair a b)(ha:a∉left)(hb:b∉left)(hx:0<=x):Dt t (ds.set j (d+1+x)) (left.erase j) (d+1+x):=by
 obtain⟨hjs,hjp⟩:=D.lft j hj;obtain⟨haj,hbj⟩:=dI t hjs e;have æ:j<ds.length:=by rw[D.len];exact hjs
 have hm:∀y,y∈left.erase j↔y∈left/\y≠j:=λy=>lY D.ris;have Ò:∀y,y<t.size->y∉left->ds.getD y 0<=d:=λy hy č=>by
  cases ey:en t 0 y with
  |word w=>rw[D.zero y hy (.inl (by rw[ey];rfl))];exact D.pos
  |pair p q=>exact(D.up y hy č p q ey).2.2.2.2.2
 refine⟨by rw[BA];exact D.len,λy hy hc=>?_,λy hy č p q ey=>?_,λu v hu hv hul hvl pu pv SY=>?_,by have:=D.pos;lia,λy hy=>D.lft y ((hm y).mp hy).1,List.Pairwise.sublist List.erase_sublist D.ris⟩
 .have ú:j≠y:=λz=>by
   subst z;rcases hc with hc|hc
   .rw[hjp]at hc;cases hc
   .exact((hm j).mp hc).2 rfl
  rw[bM ú];exact D.zero y hy (hc.imp id λz=>((hm y).mp z).1)
 .by_cases ú:j=y
  .subst ú;rw[e]at ey;injection ey with h1 h2;subst h1 h2;have la:=Ò a ∅ ha;have lb:=Ò b ∅ hb;rw[ik æ,bM ∅,bM ∅];have:=D.pos;exact⟨λz=>ha ((hm a).mp z).1,λz=>hb ((hm b).mp z).1,by lia,by lia,by lia,by lia⟩
  .have agW:y∉left:=λz=>č ((hm y).mpr ⟨z,BQ ú⟩);obtain⟨p1,p2,p3,p4,p5,p6⟩:=D.up y hy agW p q ey;have np:j≠p:=λz=>p1 (z▸hj);have nq:j≠q:=λz=>p2 (z▸hj);rw[bM ú,bM np,bM nq];exact⟨λz=>p1 ((hm p).mp z).1,λz=>p2 ((hm q).mp z).1,p3,p4,p5,by lia⟩
 .by_cases c1:j=u
  .by_cases c2:j=v
   .exact c1.symm.trans c2
   .exfalso;subst c1;have ZJ:v∉left:=λz=>hvl ((hm v).mpr ⟨z,BQ c2⟩);rw[ik æ,bM c2]at SY;have:=Ò v hv ZJ;lia
  .have ac6:u∉left:=λz=>hul ((hm u).mpr ⟨z,BQ c1⟩);by_cases c2:j=v
   .exfalso;subst c2;rw[ik æ,bM c1]at SY;have:=Ò u hu ac6;lia
   .have ZJ:v∉left:=λz=>hvl ((hm v).mpr ⟨z,BQ c2⟩);rw[bM c1,bM c2]at SY;exact D.inj u v hu hv ac6 ZJ pu pv SY
def splits(t:Tr):O Nat:=(Ar t.size).filter λj=>jS (en t 0 j)
def Dt.first(t:Tr):Dt t (Ao t.size 0) (splits t) 0:=by
 have z:∀j,(Ao t.size (0:Int)).getD j 0=0:=λj=>by
  rw[Ah,BU]
  split<;>rfl
 have mem:∀j,j∈splits t↔j<t.size/\jS (en t 0 j)=true:=λj=>by unfold splits;rw[A3,AQ]
 exact⟨Bq,λj _ _=>z j,λj hj hn a b e=>absurd ((mem j).mpr ⟨hj,by rw[e];rfl⟩) hn,λi j hi hj hni _ pi _ _=>absurd ((mem i).mpr ⟨hi,pi⟩) hni,B8 _,λj hj=>(mem j).mp hj,List.Pairwise.filter _ Fc⟩
def v9(l:O Nat):aJ l=(l.map λn=>((n:Nat):Int)).map PV.int:=by unfold aJ;rw[AO];rfl
theorem J5(y:Nat):∀l:O Nat,(l.map λn=>((n:Nat):Int)).erase (y:Int)=(l.erase y).map λn=>((n:Nat):Int)
 |[]=>rfl
 |a::l=>by
  rw[Av,List.erase_cons,List.erase_cons,J5 y l];by_cases c:a=y
  .subst c;simp
  .have c1:(a==(y:Int))=false:=by simp;lia
   have c2:(a==y)=false:=by simpa using c
   rw[c1,c2];simp
def Yi(s:Nat):Ent->Ent
 |.word x=>.word x
 |.pair p q=>.pair (p+s) (q+s)
theorem Ji:∀(t:Tr) (o s:Nat),t.nd (o+s)=(t.nd o).map (Yi s)
 |.leaf _,_,_=>rfl
 |.node a b,o,s=>by
  have ha:=a.size_pos;rw[Tr.nd,Tr.nd,Ji a o s,show o+s+a.size=o+a.size+s by lia,Ji b (o+a.size) s,Az,Az];congr 2;congr 1<;>lia
def gI{l m:O PV}(h:l.length+m.length<=1000):lT l m=.ret (l++m):=sw (bO h)
variable{v:PV}
theorem ZF(k:Nat)(l:O Nat)(b:Bool):qL b (.int (k:Int)) (aJ l)=.ret (if b then !decide (k∈l) else decide (k∈l)):=by
 have h1:Ve (.int k) (aJ l):=⟨by simp,iW.mpr λx hx=>by
  obtain⟨n,_,rfl⟩:=Au.mp hx;simp,kL λx hx=>by
  obtain⟨n,_,rfl⟩:=Au.mp hx;simp⟩
 have h2:tZ (.int (k:Int)) (aJ l)=decide (k∈l):=by
  unfold tZ aJ;rw[List.any_map]
  induction l with
  |nil=>simp
  |cons a l ih=>
   have ih:=ih ⟨by simp,iW.mpr λx hx=>by
    obtain⟨n,_,rfl⟩:=Au.mp hx;simp,kL λx hx=>by
    obtain⟨n,_,rfl⟩:=Au.mp hx;simp⟩
   rw[CU,ih];by_cases c:a=k
   .subst c;simp
   .have c1:(a==(k:Int))=false:=by simp;lia
    have c2:¬k=a:=λz=>c z.symm;simp[c1,c2]
 unfold qL;rw[sw h1,h2]
def bx(ds:O Int):O PV:=ds.map PV.int
@[simp] theorem fo(ds:O Int):(bx ds).length=ds.length:=Aj _
def Rl(ds:O Int)(y:Nat)(v:Int):(bx ds).set y (.int v)=bx (ds.set y v):=by unfold bx;rw[Gb]
theorem LU(h:k<n):rN n (k:Int)=am k:=by
 unfold rN;rw[if_pos ∅,if_pos ∅];simp
def rq{l:O PV}(h:k<l.length):u9 l (.int (k:Int)) v=.ret (l.set k v):=by
 unfold u9;simp[LU h]
def Zc(t:Tr)(h:j<t.size):fC ((t.nd 0).map Ent.pv) (j:Int)=am (en t 0 j).pv:=gh (by rw[Af,gV t 0 j h];rfl)
def okJ(t:Tr)(ds:O Int)(j:Nat):Bool:=match en t 0 j with
 |.word _=>ds.getD j 0==0
 |.pair a b=>decide (ds.getD a 0<ds.getD j 0)&&decide (ds.getD b 0<ds.getD j 0)&&decide (1<=ds.getD j 0)&&decide (ds.getD j 0<=99)
def MV(t:Tr)(ds:O Int):O Int:=(splits t).map (ds.getD · 0)
def Vd(t:Tr)(ds:O Int):Bool:=decide (ds.length=t.size)&&(decide (MV t ds).Nodup&&(Ar t.size).all (okJ t ds))
def int_at(h:j<ds.length):fC (bx ds) (j:Int)=am (.int (ds.getD j 0)):=gh (by
 unfold bx;rw[Af,Ad h,Ah,Ad h];rfl)
theorem XM(t:Tr)(ds:O Int)(h:ds.length=t.size):oS ((t.nd 0).map Ent.pv) (bx ds)=(Ar t.size).map λj=>PV.tup [(en t 0 j).pv,.int (ds.getD j 0)]:=by
 refine B9 λj=>?_;by_cases hj:j<t.size
 .have hl:j<(oS ((t.nd 0).map Ent.pv) (bx ds)).length:=by rw[nr];simp[t.bJ,h];exact hj
  obtain⟨x,y,hx,hy,e⟩:=sf (Ad hl);rw[Af,gV t 0 j hj]at hx;have æ:j<ds.length:=by lia
  unfold bx at hy;rw[Af,Ad æ]at hy;rw[Ad hl,e,<- (Option.some.inj hx),<- (Option.some.inj hy),Af,A7 hj];show _=am (PV.tup [_,.int (ds.getD j 0)]);rw[Ah,Ad æ];rfl
 .rw[Br (by rw[nr];simp[t.bJ,h];lia),Br (by simp;lia)]
theorem split_le(t:Tr)(ds:O Int)(h:ds.length=t.size)(hz:t.size<=900):eZ (.tup ((t.nd 0).map Ent.pv)) (.tup (bx ds))=.ret (bx (MV t ds)):=by
 unfold eZ;have c:((t.nd 0).map Ent.pv).length<=sizeLine:=bO (by rw[Aj,t.bJ];lia);simp only[lw,aK,uV,sw c,XM t ds h];rw[yg (g:=λx=>match x with|.tup [.str _,_]=>ce|.tup [_,y]=>am y|_=>ce) λx hx=>?_]
 .congr 1;unfold MV splits bx;generalize Ar t.size=l
  induction l with
  |nil=>rfl
  |cons j l ih=>
   rw[Av,AJ,E3,ih];cases e:en t 0 j with
   |word w=>rfl
   |pair a b=>rfl
 .obtain⟨j,hj,rfl⟩:=Au.mp hx;cases en t 0 j with
  |word w=>simp[Ent.pv]
  |pair a b=>simp[Ent.pv]
section
variable{α β:Type}
theorem QJ{c:α->PV}{f:PV->W PV}{g:α->PV}:∀{l:List α},(∀x∈l,(f (c x)).le (.ret (g x)))->(a6 (l.map c) f).le (.ret (l.map g))
 |[],_=>W.le.refl _
 |x::r,h=>W.le.ret (h x (.head _)) (W.le.ret (QJ λy hy=>h y (.tail _ hy)) (W.le.refl _))
theorem WS{c:α->PV}{g:α->Option PV}:∀{l:List α},(∀x∈l,(f (c x)).le (.ret (g x)))->(jV (l.map c) f).le (.ret (l.filterMap g))
 |[],_=>W.le.refl _
 |x::r,h=>W.le.ret (h x (.head _)) (W.le.ret (WS λy hy=>h y (.tail _ hy)) (W.le.of_eq (by rw[AJ];cases g x<;>rfl)))
def je{c:α->PV}{f:PV->W PV}(g:α->PV){l:List α}(h:∀x∈l,(f (c x)).le (.ret (g x)))(q:Q (l.map g)):(a6 (l.map c) f).run Q:=QJ h Q q
def QQ{c:α->PV}(g:α->Option PV){l:List α}(h:∀x∈l,(f (c x)).le (.ret (g x)))(q:Q (l.filterMap g)):(jV (l.map c) f).run Q:=WS h Q q
theorem RG{p:α->Bool}{g:α->β}:∀l:List α,l.filterMap (λx=>if p x=true then am (g x) else ce)=(l.filter p).map g
 |[]=>rfl
 |x::l=>by
  rw[AJ,E3,RG l];cases p x<;>rfl
end
def RZ(c:α->PV)(l:List α)(k:Nat):eE k (l.map c)=(l.zipIdx k).map λp=>PV.tup [.int ((p.2:Nat):Int),c p.1]:=by
 induction l generalizing k with
 |nil=>rfl
 |cons a l ih=>rw[Av,eE,ih,List.zipIdx_cons,Av]
def vp:V->PV
 |.int i=>.int i
 |.str x=>.str x
 |.bl b=>.bl b
 |_=>.aM
def ahL(t:Tr):O PV:=(ah (t.nd 0) 0 (Ao t.size V.aM)).map vp
@[simp] theorem Mt(t:Tr):(ahL t).length=t.size:=by unfold ahL;rw[Aj,KD,Bq]
def Mu(t:Tr)(h:j<t.size):(ahL t)[j]?=am (vp (jU t 0 j .aM)):=by unfold ahL;rw[Af,aat t h];rfl
def bV(t:Tr):((t.nd 0).map Ent.pv).length=t.size:=by rw[Aj,t.bJ]
theorem Ia(t:Tr)(hz:t.size<=900):(gz t.pv).le (.ret (.tup (ahL t))):=λQ q=>by
 unfold gz;have c:((t.nd 0).map Ent.pv).length<=sizeLine:=bO (by rw[bV];lia);simp only[lw,f8];refine W.le.use (ko t hz) ?_;simp only[aK,mo];refine QL (λ_=>.aM) (λx hx=>rfl) ?_;simp only[sw c,mo];have e0:((t.nd 0).map Ent.pv).map (λ_=>PV.aM)=(ah ((t.nd 0).take 0) 0 (Ao t.size V.aM)).map vp:=by
  rw[List.take_zero,ah,List.map_replicate,List.map_const',bV];rfl
 rw[e0];refine cD (λi s=>s=(ah ((t.nd 0).take i) 0 (Ao t.size V.aM)).map vp) rfl (λi x s hx hs=>?_) (λs hs=>?_)
 .subst hs;have hi:i<t.size:=by have:=(Ai.mp hx).1;rw[bu,bV]at this;exact this
  obtain⟨y,hy,rfl⟩:=dH hx;have e:=gV t 0 i hi;rw[Af,e]at hy;have hy:=Option.some.inj hy;subst hy;have et:(t.nd 0).take (i+1)=(t.nd 0).take i++[en t 0 i]:=by rw[C1,e];rfl
  have ea:ah ((t.nd 0).take (i+1)) 0 (Ao t.size V.aM)=SA (ah ((t.nd 0).take i) 0 (Ao t.size V.aM)) (0+i) (en t 0 i):=by
   rw[et,zp,Ci,t.bJ];congr 1;lia
  have hal:(ah ((t.nd 0).take i) 0 (Ao t.size V.aM)).length=t.size:=by rw[KD,Bq]
  rw[ea];generalize hA:ah ((t.nd 0).take i) 0 (Ao t.size V.aM)=A at hal ⊢;unfold bP;cases en':en t 0 i with
  |word w=>simp[Ent.pv,cA,SA]
  |pair a b=>
   obtain⟨ha,hb⟩:=dI t hi en';have s1:u9 (A.map vp) (.int a) (.int ((0+i:Nat)))=.ret ((A.map vp).set a (.int ((0+i:Nat):Int))):=rq (by rw[Aj];lia);have s2:u9 ((A.map vp).set a (.int ((0+i:Nat):Int))) (.int b) (.int ((0+i:Nat):Int))=.ret (((A.map vp).set a (.int ((0+i:Nat):Int))).set b (.int ((0+i:Nat):Int))):=rq (by rw[BA,Aj];lia);simp only[Ent.pv,gE,mo,lG,lF,d8,f8,AM,if_false,aK,cA,lw,s1,s2];show _=E1 vp ((A.set a _).set b _);rw[Gb,Gb];rfl
 .subst hs;simp only[bu,Aj];rw[DV];exact q
def Jh(e:Ent)(j:Nat):PV:=match e with|.word x=>.str x|.pair _ _=>.int (j:Int)
def Im(t:Tr)(ds:O Int)(b:Int)(j:Nat):Bool:=decide (ds.getD j 0<=b)&&(match jU t 0 j .aM with|.int a=>decide (b<ds.getD a.toNat 0)|_=>true)
def zV(t:Tr)(ds:O Int)(b:Int)(n j:Nat):O (Nat×Nat):=((Ar j).filter (Im t ds b)).map λk=>(k,n)
def aP(t:Tr)(ds bs:O Int):Nat->O (Nat×Nat)
 |0=>[]
 |i+1=>aP t ds bs i++zV t ds (bs.getD i 0) i t.size
def OJ(l:O (Nat×Nat)):O PV:=l.map λp=>.tup [.int (p.1:Int),.int (p.2:Int)]
def xq(t:Tr)(ds:O Int)(b:Int)(n j:Nat):(zV t ds b n j).length<=j:=by
 unfold zV;rw[Aj];refine Ax (Bf _ _) ?_;rw[Bs];exact Al _
theorem i7(t:Tr)(ds bs:O Int):∀i,(aP t ds bs i).length<=i*t.size
 |0=>Bc _
 |i+1=>by
  rw[aP,Ak];have h1:=i7 t ds bs i;have h2:=xq t ds (bs.getD i 0) i t.size;rw[Dy];lia
def Pn(t:Tr)(ds:O Int)(b:Int)(n j:Nat):zV t ds b n (j+1)=zV t ds b n j++(if Im t ds b j then [(j,n)] else []):=by
 unfold zV;rw[Di,Cm,Az];congr 1;by_cases c:Im t ds b j<;>simp[c]
def tQ(p:Nat×Nat):O Key:=[.inl (p.1:Int),.inl (p.2:Int)]
theorem G6{p q:Nat×Nat}(h:tQ p=tQ q):p=q:=by
 obtain⟨a,b⟩:=p;obtain⟨c,d⟩:=q;simp[tQ]at h;exact Prod.ext ∅ ∅
def mL:Nat->O (Nat×Nat)->O (O Key×PV)
 |_,[]=>[]
 |k,p::l=>(tQ p,.int (k:Int))::mL (k+1) l
theorem lh:∀(k:Nat) (l:O (Nat×Nat)),(mL k l).map (·.1)=l.map tQ
 |_,[]=>rfl
 |k,p::l=>by rw[mL,Av,Av,lh (k+1) l]
def GK(k:Nat)(l:O (Nat×Nat)):(mL k l).length=l.length:=by have:=congrArg Cv (lh k l);simpa using this
theorem sT:∀(k:Nat) (l:O (Nat×Nat)) (p:Nat×Nat),p∈l->lQ (mL k l) (tQ p)=am (.int ((k+l.idxOf p:Nat):Int))
 |k,q::l,p,h=>by
  rw[List.idxOf_cons];by_cases c:q=p
  .subst c;simp[mL,lQ]
  .have c2:tQ q≠tQ p:=λz=>c (G6 z);have c3:(q==p)=false:=by simpa using c
   have e:lQ (mL k (q::l)) (tQ p)=lQ (mL (k+1) l) (tQ p):=by simp[mL,lQ,c2]
   rw[e,(sT (k+1) l p ((AI.mp h).elim (λz=>absurd z.symm c) id)),c3];congr 2;show((k+1+l.idxOf p))=((k+(l.idxOf p+1)):Int);lia
def HX(e:Ent)(j:Nat)(d b:Int):O Nat:=if d<b then [j] else match e with|.word _=>[]|.pair x y=>[x,y]
def bsd(l:O (Nat×Nat))(j n:Nat):O Nat:=(l.filter λp=>decide (p.2=n)&&!decide (p.1=j)).map λp=>l.idxOf p
def Me(e:Ent)(l:O (Nat×Nat))(j n:Nat)(d b:Int):PV:=.tup [Jh e j,.int (n:Int),.tup (aJ ((HX e j d b).map λx=>l.idxOf (x,n-1))),.tup (aJ (bsd l j n))]
def Lz{f:α->β}(hf:∀x y,f x=f y->x=y){l:List α}(h:l.Nodup):(l.map f).Nodup:=List.Pairwise.map f (λa b n z=>n (hf a b z)) h
def MR(t:Tr)(ds:O Int)(b:Int)(n j:Nat):(zV t ds b n j).Nodup:=by
 exact Lz (λx y h=>(Prod.mk.inj h).1) (List.Pairwise.filter _ EY)
theorem eI{t:Tr}{ds bs:O Int}:∀{i:Nat}{p:Nat×Nat},p∈aP t ds bs i->p.2<i/\p.1<t.size
 |0,_,h=>by simp[aP]at h
 |i+1,p,h=>by
  rcases AX.mp h with h|h
  .have:=eI h;lia
  .obtain⟨k,hk,rfl⟩:=Au.mp h;have:=AQ.mp (A3.mp hk).1;exact⟨CC _,this⟩
variable{e:Ent}{es:O Ent}
theorem fM(t:Tr)(ds bs:O Int):∀i,(aP t ds bs i).Nodup
 |0=>FN
 |i+1=>by
  refine CW.mpr ⟨fM t ds bs i,MR _ _ _ _ _,λa ha b hb z=>?_⟩;subst z;obtain⟨k,_,rfl⟩:=Au.mp hb;exact AR _ ((eI ha).1)
def cB{l:O PV}(h:l[k]?=am v):rL l (.int (k:Int))=.ret v:=by
 rw[cZ,gh h];rfl
def Hy(ds:O Int){x:PV}(h:(eE 0 (bx ds))[i]?=am x):i<ds.length/\x=.tup [.int (i:Int),.int (ds.getD i 0)]:=by
 have hi:i<ds.length:=by have:=(Ai.mp h).1;rw[bu,fo]at this;exact this
 obtain⟨y,hy,rfl⟩:=dH h;unfold bx at hy;rw[Af,Ad hi]at hy;have hy:=Option.some.inj hy;subst hy;refine⟨hi,?_⟩;rw[AW,Ah,Ad hi];rfl
theorem zT(t:Tr)(ds bs:O Int)(hd:ds.length=t.size)(hz:t.size<=100)(hb:bs.length*t.size<=900)(hb2:bs.length<=900):(jg t.pv (.tup (bx ds)) (.cl (bx bs))).le (.ret (OJ (aP t ds bs bs.length))):=λQ q=>by
 unfold jg;have c1:(bx bs).length<=sizeLine:=bO (by rw[fo];lia);have c2:(bx ds).length<=sizeLine:=bO (by rw[fo];lia);simp only[lw,f8];refine W.le.use (Ia t ∅) ?_;simp only[bA,mo,sw c1];refine cD (λi s=>s=OJ (aP t ds bs i)) rfl (λi x s hx hs=>?_) (λs hs=>?_)
 .subst hs;obtain⟨hi,rfl⟩:=Hy bs hx;simp only[gE,mo,f8,aK,sw c2];have hl:=i7 t ds bs i;have hm:i*t.size+t.size<=900:=by
   have:(i+1)*t.size<=bs.length*t.size:=B5 _ hi;rw[Dy]at this;lia
  refine cD (λj s=>s=OJ (aP t ds bs i++zV t ds (bs.getD i 0) i j)) (by simp[zV]) (λj x s hx hs=>?_) (λs hs=>?_)
  .subst hs;obtain⟨hj,rfl⟩:=Hy ds hx;have Xi:=xq t ds (bs.getD i 0) i j;simp only[gE,mo,f8];rw[Pn];have å:j<t.size:=by lia
   have ĝ:Im t ds (bs.getD i 0) j=true->(eA (OJ (aP t ds bs i++zV t ds (bs.getD i 0) i j)) (PV.tup [.int j,.int i])).run λs=>s=OJ (aP t ds bs i++(zV t ds (bs.getD i 0) i j++if Im t ds (bs.getD i 0) j=true then [(j,i)] else [])):=λc=>by
    rw[cM (by unfold OJ;rw[Aj,Ak];lia),if_pos c];unfold OJ;rw[<- AD,Az (l₂:=[(j,i)])];rfl
   have no:Im t ds (bs.getD i 0) j=false->OJ (aP t ds bs i++zV t ds (bs.getD i 0) i j)=OJ (aP t ds bs i++(zV t ds (bs.getD i 0) i j++if Im t ds (bs.getD i 0) j=true then [(j,i)] else [])):=λc=>by rw[c];simp
   generalize eb:bs.getD i 0=b at ĝ no ⊢;generalize ed:ds.getD j 0=d at *;simp only[lw,f8,adU,mo,cL,aK,cB (Mu t å)];by_cases c:d<=b
   .simp only[c,decide_true,if_true,f8,mo];rcases sC t 0 j .aM [] å with⟨_,e,_⟩|⟨a,_,ha,e,_⟩
    .have sb:Im t ds b j=true:=by unfold Im;rw[e,ed];simp[c]
     rw[e];simp;exact ĝ sb
    .rw[AW]at e;have sb:Im t ds b j=decide (b<ds.getD a 0):=by unfold Im;rw[e,ed];simp[c]
     rw[e];have i2:fC (bx ds) a=am (.int (ds.getD a 0)):=int_at ∅;simp only[vp,um,mo,cL,PV.jL,if_false,cZ,i2,Op,Xy,lw];by_cases c2:b<ds.getD a 0
     .rw[decide_eq_true c2]at sb ⊢;exact ĝ sb
     .rw[decide_eq_false c2]at sb ⊢;exact no sb
   .have sb:Im t ds b j=false:=by unfold Im;rw[ed];simp[c]
    simp only[c,decide_false,AM,if_false,mo];exact no sb
  .subst hs;rw[bu,fo,hd];rfl
 .subst hs;rw[bu,fo];exact q
def UH{l:O (Nat×Nat)}(h:l≠[])(k:Nat):mL k l≠[]:=by cases l with|nil=>exact absurd rfl h|cons a l=>simp[mL]
def Jg(k:Nat)(l:O (Nat×Nat)):((mL k l).map λkv=>PV.tup (kv.1.map kP))=l.map λp=>PV.tup [.int (p.1:Int),.int (p.2:Int)]:=by
 have:=congrArg (E1 λx:O Key=>PV.tup (x.map kP)) (lh k l);rw[AO,AO]at this;exact this
theorem Tx{bs:O Int}{l:O (Nat×Nat)}(h1:es[j]?=am e)(h2:j<ds.length)(h3:n<bs.length)(hl:l.length<=1000)(h0:l≠[])(hb:∀x∈HX e j (ds.getD j 0) (bs.getD n 0),1<=n/\(x,n-1)∈l):(lj (.tup (es.map Ent.pv)) (.tup (bx ds)) (.cl (bx bs)) (Sf (mL 0 l)) (.tup [.int (j:Int),.int (n:Int)])).le (.ret (Me e l j n (ds.getD j 0) (bs.getD n 0))):=λQ q=>by
 unfold lj;have i0:fC [PV.int j,PV.int n] 0=am (.int j):=rfl;have i1:fC [PV.int (j:Int),PV.int (n:Int)] 1=am (.int n):=rfl;have i4:fC (es.map Ent.pv) (j:Int)=am e.pv:=gh (by rw[Af,h1];rfl);simp only[lw,f8,aK,bA,cZ,i0,i1,(int_at h2),(int_at h3),i4,Op,mo,Xy,d8];generalize hdj:ds.getD j 0=d at *;generalize hbn:bs.getD n 0=b at *;have below:∀{R:PV->Prop},R (.tup (aJ (HX e j d b)))->(if decide (d<b)=true then ca (PV.tup [PV.int (j:Int)]) else bP e.pv).run R:=λ{R} r=>by
  unfold HX at r;unfold bP;by_cases c:d<b
  .rw[if_pos c]at r;simpa[c]using r
  .cases e with
   |word w=>simpa[c,Ent.pv]using r
   |pair a b=>simpa[c,Ent.pv]using r
 refine below ?_;refine je (λx=>.int ((l.idxOf (x,n-1):Nat):Int)) (λk hk=>?_) ?_
 .obtain⟨g1,g2⟩:=hb k hk;intro R r;have en1:(n:Int)-1=((n-1:Nat):Int):=by lia
  simp only[dgB,lw,f8,yL,mo,en1];rw[show PV.tup [.int k,.int ((n-1:Nat):Int)]=.tup ((tQ (k,n-1)).map kP) from rfl];refine Mh (sT 0 l (k,n-1) g2) ?_;rw[AW];exact r
 simp;refine Nt (UH h0 0) (by rw[GK];exact bO hl) ?_;rw[Jg];refine QQ (λp=>if (decide (p.2=n)&&!decide (p.1=j))=true then am (.int ((l.idxOf p:Nat):Int)) else ce) (λp hp=>?_) ?_
 .intro R r;obtain⟨u,v⟩:=p;have j0:fC [PV.int u,PV.int v] 0=am (.int u):=rfl;have j1:fC [PV.int (u:Int),PV.int (v:Int)] 1=am (.int v):=rfl;simp only[dgB,lw,f8,aK,cZ,j0,j1,Op,mo,mT,aad,cL];have get:∀{R:PV->Prop},R (.int ((l.idxOf (u,v):Nat):Int))->(dgW (Sf (mL 0 l)) (PV.tup [.int (u:Int),.int (v:Int)])).run R:=λ{R} r=>by
   refine Mh (sT 0 l (u,v) hp) ?_;rw[AW];exact r
  by_cases c1:v=n
  .subst c1;by_cases c2:u=j
   .subst c2;simp;simpa using r
   .have c3:((u:Int)==(j:Int))=false:=by simp;lia
    simp only[beq_self_eq_true,c3,Bool.not_false,if_true,mo,f8];refine get ?_;simpa[c2]using r
  .have c3:((v:Int)==(n:Int))=false:=by simp;lia
   simp only[c3,AM,if_false,mo];simpa[c1]using r
 rw[RG];have nm:∀{R:PV->Prop},R (Jh e j)->(eO (.tup (es.map Ent.pv)) (.int (j:Int))).run R:=λ{R} r=>by
  unfold eO;simp only[lw,f8,aK,cZ,i4,Op,mo];cases e with
  |word w=>simpa[Ent.pv,Jh]using r
  |pair a b=>simpa[Ent.pv,Jh]using r
 refine nm ?_;have e1:(l.filter λp=>decide (p.2=n)&&!decide (p.1=j)).map (λp=>PV.int ((l.idxOf p:Nat):Int))=aJ (bsd l j n):=by
  unfold aJ bsd;rw[AO];rfl
 have e2:(HX e j d b).map (λx=>PV.int ((l.idxOf (x,n-1):Nat):Int))=aJ ((HX e j d b).map λx=>l.idxOf (x,n-1)):=by
  unfold aJ;rw[AO];rfl
 rw[e1,e2];exact q
def dgL(t:Tr)(ds bs:O Int):O PV:=(aP t ds bs bs.length).map λp=>Me (en t 0 p.1) (aP t ds bs bs.length) p.1 p.2 (ds.getD p.1 0) (bs.getD p.2 0)
def okD(t:Tr)(ds bs:O Int):Prop:=∀p∈aP t ds bs bs.length,∀x∈HX (en t 0 p.1) p.1 (ds.getD p.1 0) (bs.getD p.2 0),1<=p.2/\(x,p.2-1)∈aP t ds bs bs.length
theorem sU:∀(k:Nat) (l:O (Nat×Nat)),(l.zipIdx k).map (λp=>PV.tup [PV.tup [.int (p.1.1:Int),.int (p.1.2:Int)],.int ((p.2:Nat):Int)])=(mL k l).map Lq
 |_,[]=>rfl
 |k,p::l=>by rw[List.zipIdx_cons,Av,sU (k+1) l];rfl
def aO(t:Tr)(ds:O Int):O Int:=0::sortI (MV t ds)
def TK(t:Tr)(ds:O Int):(MV t ds).length<=t.size:=by
 unfold MV splits;rw[Aj];have:=Bf (λj=>jS (en t 0 j)) (Ar t.size);rw[Bs]at this;exact this
def wg{l:O Int}:x∈sortI l↔x∈l:=(Cz l _).mem_iff
def oU(l:O Int):(sortI l).length=l.length:=(Cz l _).length_eq
theorem Sj(t:Tr)(ds:O Int)(hd:ds.length=t.size)(hz:t.size<=25)(h0:aP t ds (aO t ds) (aO t ds).length≠[])(ok:okD t ds (aO t ds)):(ly t.pv (.tup (bx ds))).le (.ret (.tup (dgL t ds (aO t ds)))):=λQ q=>by
 unfold ly;simp only[lw,f8];refine W.le.use (ko t ∅) ?_;have hs:=TK t ds;have hl:(aO t ds).length<=t.size+1:=by unfold aO;rw[Aq,oU];lia
 have e2:kf (bx (MV t ds))=.ret (bx (sortI (MV t ds))):=by
  unfold kf bx;rw[eU];show W.dN _ _=_;rw[sw ∅]
 have e3:lT [PV.int 0] (bx (sortI (MV t ds)))=.ret (bx (aO t ds)):=by
  rw[gI (by rw[fo,oU];simp;lia)];rfl
 simp only[split_le t ds hd ∅,mo,e2,e3];have hb:(aO t ds).length*t.size<=900:=by
  have:=DA (by omega) hz;lia
 refine W.le.use (zT t ds (aO t ds) hd ∅ hb ∅) ?_;generalize hL:aP t ds (aO t ds) (aO t ds).length=L at *;have hLl:L.length<=900:=by rw[<- hL];exact Ax (i7 _ _ _ _) hb
 have c:(OJ L).length<=sizeLine:=bO (by unfold OJ;rw[Aj];lia);simp only[bA,mo,sw c];unfold OJ;rw[RZ];refine je (λp:(Nat×Nat)×Nat=>PV.tup [PV.tup [.int p.1.1,.int p.1.2],.int p.2]) (λp _ R r=>by simpa using r) ?_;rw[sU];refine Od ?_ (by rw[GK];lia) ?_
 .rw[lh];exact Lz (λ_ _ h=>G6 h) (hL▸fM t ds _ _)
 refine je (λp:Nat×Nat=>Me (en t 0 p.1) L p.1 p.2 (ds.getD p.1 0) ((aO t ds).getD p.2 0)) (λp hp=>?_) ?_
 .obtain⟨g1,g2⟩:=(λp hp=>eI (hL▸hp)) p hp;refine Tx (gV t 0 p.1 g2) ∅ g1 ∅ h0 λx hx=>?_;have:=ok p (by rw[hL];exact hp) x hx;rw[hL]at this;exact this
 .have:dgL t ds (aO t ds)=L.map λp:Nat×Nat=>Me (en t 0 p.1) L p.1 p.2 (ds.getD p.1 0) ((aO t ds).getD p.2 0):=by unfold dgL;rw[hL]
  rw[<- this];exact q
theorem iB:∀(t:Tr) (o x:Nat) (p:V),x<t.size->(x=t.size-1/\jU t o x p=p)\/∃a u v,x<a/\a<t.size/\jU t o x p=.int ((o+a:Nat):Int)/\en t o a=.pair u v/\(u=o+x\/v=o+x)
 |.leaf _,o,x,p,h=>.inl ⟨by have:x<1:=h;show x=0;lia,rfl⟩
 |.node l r,o,x,p,h=>by
  have es:(Tr.node l r).size=l.size+r.size+1:=rfl;have top:en (.node l r) o (l.size+r.size)=.pair (o+l.size-1) (o+l.size+r.size-1):=by rw[en,if_neg ∅,if_neg ∅]
  by_cases c1:x<l.size
  .rw[show jU (.node l r) o x p=jU l o x (.int (o+l.size+r.size:Nat)) by rw[jU,if_pos c1]];rcases iB l o x (.int (o+l.size+r.size:Nat)) c1 with⟨h1,h2⟩|⟨a,u,v,h1,h2,h3,h4,h5⟩
   .exact .inr ⟨l.size+r.size,_,_,by lia,by lia,by rw[h2,A6],top,.inl ∅⟩
   .exact .inr ⟨a,u,v,h1,by lia,h3,by rw[en,if_pos h2];exact h4,h5⟩
  .by_cases c2:x<l.size+r.size
   .rw[show jU (.node l r) o x p=jU r (o+l.size) (x-l.size) (.int (o+l.size+r.size:Nat)) by rw[jU,if_neg c1,if_pos c2]];rcases iB r (o+l.size) (x-l.size) (.int (o+l.size+r.size:Nat)) ∅ with⟨h1,h2⟩|⟨a,u,v,h1,h2,h3,h4,h5⟩
    .exact .inr ⟨l.size+r.size,_,_,by lia,by lia,by rw[h2,A6],top,.inr ∅⟩
    .refine .inr ⟨l.size+a,u,v,by lia,by lia,by rw[h3,A6],?_,by lia⟩;rw[en,if_neg ∅,if_pos ∅,Dp];exact h4
   .exact .inl ⟨by lia,by rw[jU,if_neg c1,if_neg c2]⟩
theorem ur:∀(t:Tr) (o j:Nat) (p:V) (a b:Nat),j<t.size->en t o j=.pair a b->o<=a/\o<=b/\a<o+j/\b<o+j/\a<b/\jU t o (a-o) p=.int ((o+j:Nat):Int)/\jU t o (b-o) p=.int ((o+j:Nat):Int)
 |.leaf _,o,j,p,a,b,h,e=>by rw[en]at e;cases e
 |.node l r,o,j,p,a,b,h,e=>by
  have es:(Tr.node l r).size=l.size+r.size+1:=rfl;have lp:=l.size_pos;have rp:=r.size_pos;by_cases c1:j<l.size
  .rw[en,if_pos c1]at e;obtain⟨h1,h2,h3,h4,h5,h6,h7⟩:=ur l o j (.int (o+l.size+r.size)) a b c1 e;refine⟨h1,h2,h3,h4,h5,?_,?_⟩
   .rw[jU,if_pos ∅];exact h6
   .rw[jU,if_pos ∅];exact h7
  .by_cases c2:j<l.size+r.size
   .rw[en,if_neg c1,if_pos c2]at e;obtain⟨h1,h2,h3,h4,h5,h6,h7⟩:=ur r (o+l.size) (j-l.size) (.int (o+l.size+r.size:Nat)) a b ∅ e;refine⟨by lia,by lia,by lia,by lia,h5,?_,?_⟩
    .rw[jU,if_neg ∅,if_pos ∅,FK,h6,show o+l.size+(j-l.size)=o+j by lia]
    .rw[jU,if_neg ∅,if_pos ∅,FK,h7,show o+l.size+(j-l.size)=o+j by lia]
   .rw[en,if_neg c1,if_neg c2]at e;injection e with e1 e2;subst e1;subst e2;have hj:j=l.size+r.size:=by lia
    subst hj;have ï:∀t o p,jU t o (t.size-1) p=p:=λt o p=>by
     have tp:=t.size_pos;rcases iB t o (t.size-1) p ∅ with⟨_,h⟩|⟨a,_,_,h1,h2,_⟩
     .exact h
     .omega
    refine⟨by lia,by lia,by lia,by lia,by lia,?_,?_⟩
    .rw[jU,if_pos ∅,show o+l.size-1-o=l.size-1 by lia,ï,A6]
    .rw[jU,if_neg ∅,if_pos ∅,show o+l.size+r.size-1-o-l.size=r.size-1 by lia,ï,A6]
structure DD(t:Tr)(ds:List Int):Prop where
 len:ds.length=t.size
 leaf:∀j w,j<t.size->en t 0 j=.word w->ds.getD j 0=0
 pair:∀j a b,j<t.size->en t 0 j=.pair a b->ds.getD a 0<ds.getD j 0/\ds.getD b 0<ds.getD j 0/\1<=ds.getD j 0
 nd:(MV t ds).Nodup
def DD.of(h:Vd t ds=true):DD t ds:=by
 unfold Vd at h;rw[A1,A1,decide_eq_true_iff,decide_eq_true_iff]at h;obtain⟨h1,h2,h3⟩:=h;have h4:∀j,j<t.size->okJ t ds j=true:=λj hj=>C7.mp h3 j (AQ.mpr hj);refine⟨h1,λj w hj e=>?_,λj a b hj e=>?_,h2⟩
 .have:=h4 j hj;unfold okJ at this;rw[e]at this;exact eq_of_beq this
 .have:=h4 j hj;unfold okJ at this;rw[e]at this;rw[A1,A1,A1,decide_eq_true_iff,decide_eq_true_iff,decide_eq_true_iff,decide_eq_true_iff]at this;exact⟨this.1.1.1,this.1.1.2,this.1.2⟩
def DD.mem(D:DD t ds)(hj:j<t.size):ds.getD j 0∈aO t ds:=by
 cases e:en t 0 j with
 |word w=>rw[D.leaf j w hj e];exact .head _
 |pair a b=>
  exact AL _ (wg.mpr (Au.mpr ⟨j,A3.mpr ⟨AQ.mpr hj,by rw[e];rfl⟩,rfl⟩))
theorem Pt(l:O Int):(sortI l).Pairwise (·<=·):=(EX (λa b c=>by simp;lia) (λa b=>by simp;lia) l).imp (by simp)
theorem DD.inc(D:DD t ds):(aO t ds).Pairwise (· < ·):=by
 unfold aO;refine List.pairwise_cons.mpr ⟨λx hx=>?_,?_⟩
 .have hx:=wg.mp hx;unfold MV splits at hx;obtain⟨j,hj,rfl⟩:=Au.mp hx;obtain⟨h1,h2⟩:=A3.mp hj;cases e:en t 0 j with
  |word w=>rw[e]at h2;cases h2
  |pair a b=>have:=(D.pair j a b (AQ.mp h1) e).2.2;lia
 .exact(List.Pairwise.and (Pt _) ((Cz _ _).nodup_iff.mpr D.nd)).imp λ⟨h1,h2⟩=>Int.lt_iff_le_and_ne.mpr ⟨h1,h2⟩
theorem tU{l:O Int}(h:l.Pairwise (· < ·))(hn:n<l.length)(hx:x∈l)(lt:x<l.getD n 0):1<=n/\x<=l.getD (n-1) 0:=by
 obtain⟨i,hi,rfl⟩:=Ed hx;have gd:∀{k} (hk:k<l.length),l.getD k 0=l[k]:=λ{k} hk=>by rw[Ah,Ad hk];rfl
 rw[gd hn]at lt;have c:i<n:=by
  rcases DB i n with c|c
  .exact c
  .rcases Et c with c|c
   .subst c;lia
   .have:=BZ.mp h _ _ hn hi c;lia
 refine⟨by lia,?_⟩;rw[gd ∅];rcases Et (show i<=n-1 by lia) with c2|c2
 .subst c2;exact B8 _
 .have:=BZ.mp h _ _ hi ∅ c2;lia
theorem yw{l:O Int}(h:l.Pairwise (· < ·))(hn:n<l.length)(hi:i<n):l.getD i 0<l.getD n 0:=by
 have gd:∀{k} hk,l.getD k 0=l[k]:=λ{k} hk=>by rw[Ah,Ad hk];rfl
 rw[gd hn,gd ∅];exact BZ.mp h _ _ ∅ hn hi
theorem cb{t:Tr}{ds bs:O Int}:∀{m:Nat}{j n:Nat},(j,n)∈aP t ds bs m↔n<m/\j<t.size/\Im t ds (bs.getD n 0) j=true
 |0,j,n=>by simp[aP]
 |m+1,j,n=>by
  rw[aP,AX,cb];unfold zV;rw[Au]
  constructor
  .rintro (⟨h1,h2,h3⟩|⟨k,hk,e⟩)
   .exact⟨by lia,h2,h3⟩
   .obtain⟨h1,h2⟩:=A3.mp hk;injection e with e1 e2;subst e1;subst e2;exact⟨by lia,AQ.mp h1,h2⟩
  .rintro⟨h1,h2,h3⟩;by_cases c:n=m
   .subst c;exact .inr ⟨j,A3.mpr ⟨AQ.mpr h2,h3⟩,rfl⟩
   .exact .inl ⟨by lia,h2,h3⟩
theorem fN(hj:j<t.size):Im t ds b j=true↔ds.getD j 0<=b/\∀a,jU t 0 j .aM=.int ((a:Nat):Int)->b<ds.getD a 0:=by
 unfold Im;rw[A1,decide_eq_true_iff];rcases iB t 0 j .aM hj with⟨_,e⟩|⟨a,u,v,_,ha,e,_,_⟩
 .rw[e];exact⟨λh=>⟨h.1,λa z=>by cases z⟩,λh=>⟨h.1,rfl⟩⟩
 .rw[AW]at e;rw[e];refine⟨λh=>⟨h.1,λa' z=>?_⟩,λh=>⟨h.1,?_⟩⟩
  .injection z with z;have:a=a':=by lia
   subst this;simpa using h.2
  .simpa using h.2 a rfl
theorem DD.ok(D:DD t ds):okD t ds (aO t ds):=by
 rintro⟨j,n⟩ hp x hx;obtain⟨hn,hj,hs⟩:=cb.mp hp;obtain⟨tX,qM⟩:=(fN hj).mp hs;have inc:=D.inc;show 1<=n/\(x,n-1)∈_;unfold HX at hx;by_cases c:ds.getD j 0<(aO t ds).getD n 0
 .rw[if_pos c]at hx;have:x=j:=by simpa using hx
  subst this;obtain⟨g1,g2⟩:=tU inc hn (D.mem hj) c;have lt:=yw inc hn (show n-1<n by lia);exact⟨g1,cb.mpr ⟨by lia,hj,(fN hj).mpr ⟨g2,λa e=>by have:=qM a e;lia⟩⟩⟩
 .rw[if_neg c]at hx;cases e:en t 0 j with
  |word w=>rw[e]at hx;cases hx
  |pair a b=>
   rw[e]at hx;obtain⟨p1,p2,p3⟩:=D.pair j a b hj e;obtain⟨_,_,a1,a2,_,a3,a4⟩:=ur t 0 j .aM a b hj e;rw[AW,Fb]at *;have hx:x=a\/x=b:=by simpa using hx
   have key:x<t.size/\ds.getD x 0<ds.getD j 0/\jU t 0 x .aM=.int j:=by
    rcases hx with rfl|rfl
    .exact⟨by lia,p1,a3⟩
    .exact⟨by lia,p2,a4⟩
   obtain⟨k1,k2,k3⟩:=key;obtain⟨g1,g2⟩:=tU inc hn (D.mem k1) ∅;have lt:=yw inc hn (show n-1<n by lia);refine⟨g1,cb.mpr ⟨by lia,k1,(fN k1).mpr ⟨g2,λa' e'=>?_⟩⟩⟩;rw[k3]at e';injection e' with e';have:j=a':=by lia
   subst this;lia
theorem Mc:∀(t:Tr) (o:Nat),∃w,en t o 0=.word w
 |.leaf w,o=>⟨w,rfl⟩
 |.node l r,o=>by rw[en,if_pos (show 0<l.size from l.size_pos)];exact Mc l o
theorem DD.ne(D:DD t ds):aP t ds (aO t ds) (aO t ds).length≠[]:=by
 intro z;have:(0,0)∈aP t ds (aO t ds) (aO t ds).length:=by
  obtain⟨w,e⟩:=Mc t 0;refine cb.mpr ⟨by simp[aO],t.size_pos,(fN t.size_pos).mpr ⟨?_,λa ea=>?_⟩⟩
  .rw[D.leaf 0 w t.size_pos e];exact B8 _
  .rcases iB t 0 0 .aM t.size_pos with⟨_,e⟩|⟨a',u,v,_,ha,e,ep,_⟩
   .rw[e]at ea;cases ea
   .rw[e,AW]at ea;injection ea with ea;have:a'=a:=by lia
    subst this;have:=(D.pair a' u v ha ep).2.2;show 0<_;lia
 rw[z]at this;cases this
def Si(D:DD t ds)(hz:t.size<=25):(ly t.pv (.tup (bx ds))).le (.ret (.tup (dgL t ds (aO t ds)))):=Sj t ds D.len hz D.ne D.ok
def X2(t:Tr):O PV:=(Ar t.size).map λj=>.tup (aJ (up t 0 j []))
@[simp] theorem Td(t:Tr):(X2 t).length=t.size:=by unfold X2;simp
def K1(t:Tr)(h:j<t.size):(X2 t)[j]?=am (.tup (aJ (up t 0 j []))):=by unfold X2;simp[h]
theorem X1(t:Tr):∀(k j:Nat),j+k+1=t.size->(up t 0 j []).length<=k+1:=λk=>by
 induction k using Cc with
 |ind k ih=>
  intro j hj;rcases sC t 0 j .aM [] ∅ with⟨q1,q2,q3⟩|⟨a,q1,q2,q3,q4⟩
  .rw[q3];show 1<=k+1;lia
  .rw[q4,Aq];have:=ih (t.size-a-1) ∅ a ∅;lia
theorem abp(t:Tr)(h:j<t.size):(up t 0 j []).length<=t.size:=by
 have:=X1 t (t.size-j-1) j ∅;lia
def K0(t:Tr)(i:Nat):O PV:=(Ar t.size).map λj=>if j+i<t.size then .tup [] else .tup (aJ (up t 0 j []))
def q8(t:Tr)(i:Nat):(K0 t i).length=t.size:=by unfold K0;simp
def KZ(t:Tr)(i:Nat)(h:j<t.size)(c:¬j+i<t.size):(K0 t i)[j]?=am (.tup (aJ (up t 0 j []))):=by unfold K0;simp[h,c]
theorem Tb(t:Tr)(i j:Nat)(h:j+i+1=t.size):(K0 t i).set j (.tup (aJ (up t 0 j [])))=K0 t (i+1):=by
 apply B9;intro k;by_cases hk:k<t.size
 .by_cases e:j=k
  .subst e;rw[CN (by rw[q8];exact hk),KZ t (i+1) hk ∅]
  .rw[B6 e];unfold K0;simp only[Af,A7 hk,CP];by_cases c:k+i<t.size
   .rw[if_pos c,if_pos ∅]
   .rw[if_neg c,if_neg ∅]
 .rw[Br (by rw[BA,q8];lia),Br (by rw[q8];lia)]
def abq(t:Tr):K0 t 0=Ao t.size (.tup []):=by
 apply B9;intro k;unfold K0;by_cases hk:k<t.size
 .simp[hk]
 .simp[hk]
theorem Tc(t:Tr):K0 t t.size=X2 t:=by
 apply Bp;intro j _;rw[if_neg ∅]
theorem QP(t:Tr)(hz:t.size<=900):(jk t.pv).le (.ret (X2 t)):=λQ q=>by
 unfold jk;simp;refine W.le.use (Ia t hz) ?_;simp only[aK,mo];refine QL (λ_=>.tup []) (λx hx=>rfl) ?_;have e0:(ahL t).map (λ_=>PV.tup [])=K0 t 0:=by rw[List.map_const',Mt,abq]
 have en:((t.size:Int)-1 - -1).toNat=t.size:=by lia
 rw[e0];simp only[rR,Mt,lw,yL,mo,RQ,Vx,en];refine⟨⟨trivial,cS ∅ ∅⟩,?_⟩;refine cD (λi s=>s=K0 t i) rfl (λi x s hx hs=>?_) (λs hs=>?_)
 .subst hs;obtain⟨hi,rfl⟩:=wK hx;obtain⟨j,hj⟩:∃j:Nat,j=t.size-1-i:=⟨_,rfl⟩;have ej:(((t.size:Nat):Int)-1-i)=j:=by lia
  rw[ej];have å:j<t.size:=by lia
  have fin:∀l:O PV,l.length<=900->.int (j:Int)::l=aJ (up t 0 j [])->(bn (addW (.tup [.int (j:Int)]) (.tup l)) λx=>u9 (K0 t i) (.int (j:Int)) x).run λs=>s=K0 t (i+1):=λl hl he=>by
   rw[Vz,sw (bO (by simp;lia))];show(u9 _ _ (.tup (.int (j:Int)::l))).run _;rw[he,rq (by rw[q8];exact å),Tb t i j ∅];rfl
  simp only[lw,f8,cB (Mu t å),mo];rcases sC t 0 j .aM [] å with⟨_,e,e2⟩|⟨a,ha1,ha,e,e2⟩
  .rw[e];simp only[vp,um,PV.jL,cL,mo,if_true];have:=fin [] (by simp) (by rw[e2,AW];rfl);simpa using this
  .rw[AW]at e;rw[e];simp only[vp,um,PV.jL,cL,mo,AM,if_false,(cB (KZ t i ha ∅)),lw];have ua:=abp t ha;have:=fin (aJ (up t 0 a [])) (by rw[iQ];lia) (by rw[e2];simp);simpa using this
 .subst hs;have el:(qr (((t.size:Nat):Int)-1) t.size).length=t.size:=by unfold qr;simp
  rw[el,Tc];exact q
def apt(t:Tr)(j:Nat):O Nat:=(Ar t.size).filter λk=>!decide (k∈up t 0 j [])&&!decide (j∈up t 0 k [])
theorem Sx(t:Tr)(hz:t.size<=900)(hj:j<t.size):(fW (.cl (X2 t)) (.int (j:Int))).le (.ret (.tup (aJ (apt t j)))):=λQ q=>by
 unfold fW;simp only[f8,jt,Td,hJ,sw (cS (i:=0) (j:=t.size) ∅ ∅),mo,pI];refine QR (λk=>!decide (k∈up t 0 j [])&&!decide (j∈up t 0 k [])) (λk hk=>?_) q;simp only[lw,bA,cB (K1 t hj),cB (K1 t (AQ.mp hk)),aK,ZF,if_true];by_cases c1:k∈up t 0 j []
 .simp[c1]
 .by_cases c2:j∈up t 0 k []
  .simp[c1,c2]
  .simp[c1,c2]
def OO:Ent->O Nat
 |.word _=>[]
 |.pair a b=>[a,b]
def gm(e:Ent):bP e.pv=.ret (.tup (aJ (OO e))):=by
 unfold bP;cases e with
 |word w=>simp[Ent.pv,OO]
 |pair a b=>simp[Ent.pv,OO]
def UJ(h:es[j]?=am e):eO (.tup (es.map Ent.pv)) (.int (j:Int))=.ret (Jh e j):=by
 have i1:rL (es.map Ent.pv) (.int j)=.ret e.pv:=cB (by rw[Af,h];rfl);unfold eO;cases e with
 |word w=>simp only[lw,aK,i1];rfl
 |pair a b=>simp only[lw,aK,i1];rfl
def grS(t:Tr)(j:Nat):PV:=.tup [Jh (en t 0 j) j,.int 0,.tup (aJ (OO (en t 0 j))),.tup (aJ (apt t j))]
def grL(t:Tr):O PV:=(Ar t.size).map (grS t)
theorem NV(t:Tr)(hz:t.size<=900):(kr t.pv).le (.ret (.tup (grL t))):=λQ q=>by
 unfold kr;simp;refine W.le.use (ko t hz) ?_;refine W.le.use (QP t hz) ?_;simp only[rR,bV,mo,hJ,sw (cS (i:=0) (j:=t.size) ∅ ∅),pI];unfold aJ;refine je (grS t) (λj hj R r=>?_) q;have hj:=AQ.mp hj;have i1:rL ((t.nd 0).map Ent.pv) (.int j)=.ret (en t 0 j).pv:=cB (by rw[Af,gV t 0 j hj];rfl);simp only[UJ (gV t 0 j hj),aK,i1,gm,f8,mo];exact W.le.use (Sx t hz hj) r
structure Sy where
 nm:PV
 lv:Nat
 un:List Nat
 be:List Nat
def Sy.pv(s:Sy):PV:=.tup [s.nm,.int (s.lv:Int),.tup (aJ s.un),.tup (aJ s.be)]
def lP(g:O Sy):PV:=.tup (g.map Sy.pv)
def sy(g:O Sy)(i:Nat):Sy:=g.getD i ⟨.aM,0,[],[]⟩
def Yf{g:O Sy}(h:i<g.length):g[i]?=am (sy g i):=by
 unfold sy;rw[Ah,Ad h];rfl
def Z2{g:O Sy}(h:i<g.length):rL (g.map Sy.pv) (.int (i:Int))=.ret (sy g i).pv:=cB (by rw[Af,Yf h];rfl)
def Rk(w:Str):PV->Bool
 |.str s=>s==w
 |_=>false
def hm(g:O Sy)(i:Nat)(w:Str):Bool:=(sy g i).un.isEmpty&&Rk w (sy g i).nm
inductive OX(g:List Sy):Nat->Nat->Prop
 |refl (i:Nat):OX g i i
 |step {i u j:Nat}:u∈(sy g i).un->OX g u j->OX g i j
structure WG(g:List Sy)(ws:List Str):Prop where
 pos:0<g.length
 len:g.length<=300
 dn:∀i,i<g.length->∀u∈(sy g i).un,u<i
 q9:∀i,i<g.length->(sy g i).un.length<=2
 be:∀i,i<g.length->∀u∈(sy g i).be,u<g.length
 aei:∀i,i<g.length->(sy g i).be.length<=30
 nm:∀i,i<g.length->(∃s,(sy g i).nm=.str s)\/∃n,(sy g i).nm=.int n
 ahf:∀w∈ws,∃i,i<g.length/\OX g (g.length-1) i/\hm g i w=true
 rch:∀i,i<g.length->OX g (g.length-1) i
variable{g:O Sy}{ws:O Str}
def j9(h:i<g.length):cH (lP g) (.int (i:Int))=.ret (.tup (aJ (sy g i).un)):=by
 unfold cH lP;simp only[lw,aK,Z2 h];rfl
def Ou(h:i<g.length):gY (lP g) (.int (i:Int))=.ret (.tup (aJ (sy g i).be)):=by
 unfold gY lP;simp only[lw,aK,Z2 h];rfl
theorem eq_nil(l:O Nat)(h:l.length<=1000):of2 gs (.tup (aJ l)) (.tup [])=.ret (.bl l.isEmpty):=by
 have fk:d7 (aJ l)=true:=iW.mpr λx hx=>by
  obtain⟨n,_,rfl⟩:=Au.mp hx;simp
 have fd:dq (aJ l)<=1:=kL λx hx=>by
  obtain⟨n,_,rfl⟩:=Au.mp hx;simp
 rw[wH,sw ⟨by simp[fk],by simp,by simp;lia⟩];cases l with
 |nil=>simp
 |cons a l=>simp[f7]
def adX{x:PV}(h:(∃s,x=.str s)\/∃n,x=.int n)(w:Str):of2 gs x (.str w)=.ret (.bl (Rk w x)):=by
 rcases h with⟨s,rfl⟩|⟨n,rfl⟩
 .rw[wH,sw ⟨by simp,by simp,by simp⟩,Xt];rfl
 .rw[wH,sw ⟨by simp,by simp,by simp⟩];simp[jT,Rk]
theorem LZ(G:WG g ws)(h:i<g.length)(w:Str):lu (lP g) (.int (i:Int)) (.str w)=.ret (.bl (hm g i w)):=by
 unfold lu;have l2:=G.q9 i h;have i0:fC [(sy g i).nm,PV.int ((sy g i).lv),.tup (aJ (sy g i).un),.tup (aJ (sy g i).be)] 0=am (sy g i).nm:=rfl;simp only[lw,j9 h,eq_nil _ (show(sy g i).un.length<=1000 by lia)];unfold lP hm;cases e:(sy g i).un.isEmpty with
 |false=>simp
 |true=>simp only[Vy,aK,lw,Z2 h,Sy.pv,cZ,i0,Op,adX (G.nm i h) w,FY]
abbrev Dd:=Str×Nat×Nat
def d2(d:Dd):PV:=.tup [.str d.1,.tup [.int (d.2.1:Int),.int (d.2.2:Int)]]
abbrev dbl(i:Nat):Dd:=("doubled",i,i)
abbrev ovr(i o:Nat):O Dd:=[("over",i,o),("over",o,i)]
def IK:O Nat->O Dd
 |[a,b]=>[("split",a,b),("split",b,a)]
 |_=>[]
def dds(g:O Sy)(i:Nat):O Dd:=dbl i::(IK (sy g i).un++(sy g i).be.flatMap (ovr i))
def Tz(l:O Nat):(IK l).length<=2:=by unfold IK;split<;>simp
theorem aan(G:WG g ws)(h:i<g.length){d:Dd}(hd:d∈dds g i):d.2.1<g.length/\d.2.2<g.length:=by
 rcases AI.mp hd with rfl|hd
 .exact⟨h,h⟩
 rcases AX.mp hd with hd|hd
 .have hu:=G.dn i h;revert hu hd;generalize (sy g i).un=l;intro hd hu
  match l with
  |[a,b]=>
   have h1:=hu a (by simp);have h2:=hu b (by simp);simp[IK]at hd;rcases hd with rfl|rfl
   .exact⟨by show a<_;lia,by show b<_;lia⟩
   .exact⟨by show b<_;lia,by show a<_;lia⟩
  |[]=>simp[IK]at hd
  |[_]=>simp[IK]at hd
  |_::_::_::_=>simp[IK]at hd
 .obtain⟨o,ho,hd⟩:=List.mem_flatMap.mp hd;have:=G.be i h o ho;simp at hd;rcases hd with rfl|rfl
  .exact⟨h,this⟩
  .exact⟨this,h⟩
def fa(F:O (O Bool))(j i:Nat):Bool:=(F.getD j []).getD i false
def lD(g:O Sy)(F:O (O Bool))(e:Ent)(i:Nat):O Dd:=match e with
 |.word w=>if hm g i w=true then [("found",i,i)] else []
 |.pair a b=>(dds g i).filter λd=>fa F a d.2.1&&fa F b d.2.2
def Ik(n:Nat):Ent->Prop
 |.word _=>True
 |.pair a b=>a<n/\b<n
def pM{l m:List α}{d:α}(h:i<l.length):(l++m).getD i d=l.getD i d:=by
 rw[Ah,AH h,<- Ah]
def pK{l m:List α}{d:α}(h:l.length<=i):(l++m).getD i d=m.getD (i-l.length) d:=by
 rw[Ah,AV h,<- Ah]
def S6(es:O Ent)(j:Nat):Ent:=es.getD j (.word "")
def ht:Tr->Nat->Nat
 |.leaf _,_=>0
 |.node l r,j=>if j<l.size then ht l j else if j<l.size+r.size then ht r (j-l.size) else (Tr.node l r).depth
theorem LY(t:Tr):ht t (t.size-1)=t.depth:=by
 cases t with
 |leaf _=>rfl
 |node l r=>
  have es:(Tr.node l r).size=l.size+r.size+1:=rfl;rw[ht,if_neg ∅,if_neg ∅]
theorem Xc:∀(t:Tr) (o j a b:Nat),j<t.size->en t o j=.pair a b->ht t (a-o)<ht t j/\ht t (b-o)<ht t j
 |.leaf _,o,j,a,b,h,e=>by rw[en]at e;cases e
 |.node l r,o,j,a,b,h,e=>by
  have lp:=l.size_pos;have rp:=r.size_pos;by_cases c1:j<l.size
  .rw[en,if_pos c1]at e;obtain⟨h1,h2,h3,h4,_⟩:=ur l o j .aM a b c1 e;have:=Xc l o j a b c1 e;have q1:∀x,x<l.size->ht (.node l r) x=ht l x:=λx hx=>by rw[ht,if_pos hx]
   rw[q1 (a-o) ∅,q1 (b-o) ∅,q1 j c1];exact this
  .by_cases c2:j<l.size+r.size
   .rw[en,if_neg c1,if_pos c2]at e;obtain⟨h1,h2,h3,h4,_⟩:=ur r (o+l.size) (j-l.size) .aM a b ∅ e;have:=Xc r (o+l.size) (j-l.size) a b ∅ e;have q1:∀x,¬x<l.size->x<l.size+r.size->ht (.node l r) x=ht r (x-l.size):=λx h1 h2=>by rw[ht,if_neg h1,if_pos h2]
    rw[q1 (a-o) ∅ ∅,q1 (b-o) ∅ ∅,q1 j c1 c2,FK,FK];exact this
   .rw[en,if_neg c1,if_neg c2]at e;injection e with e1 e2;subst e1;subst e2;have er:(Tr.node l r).depth=max l.depth r.depth+1:=rfl;have ej:ht (.node l r) j=(Tr.node l r).depth:=by rw[ht,if_neg c1,if_neg c2]
    have e3:ht (.node l r) (o+l.size-1-o)=l.depth:=by rw[ht,if_pos ∅,show o+l.size-1-o=l.size-1 by lia,LY]
    have e4:ht (.node l r) (o+l.size+r.size-1-o)=r.depth:=by rw[ht,if_neg ∅,if_pos ∅,show o+l.size+r.size-1-o-l.size=r.size-1 by lia,LY]
    lia
theorem yQ:∀(t:Tr) (o j:Nat) (w:Str),j<t.size->en t o j=.word w->w∈t.aw
 |.leaf x,o,j,w,h,e=>by
  injection e with e;subst e;simp[Tr.aw]
 |.node l r,o,j,w,h,e=>by
  by_cases c1:j<l.size
  .rw[en,if_pos c1]at e;exact BS _ (yQ l o j w c1 e)
  .by_cases c2:j<l.size+r.size
   .rw[en,if_neg c1,if_pos c2]at e;exact AZ _ (yQ r _ (j-l.size) w ∅ e)
   .rw[en,if_neg c1,if_neg c2]at e;cases e
def Hz(t:Tr)(h:j<t.size):Ik j (en t 0 j):=by
 cases e:en t 0 j with
 |word w=>trivial
 |pair a b=>exact dI t h e
def dl(g:O Sy)(i:Nat):O Dd:=dbl i::(IK (sy g i).un++((sy g i).be.map (λo=>(("over",i,o):Dd))++(sy g i).be.map (λo=>(("over",o,i):Dd))))
theorem Km(G:WG g ws)(h:i<g.length):(dl g i).length<=63:=by
 unfold dl;simp;have:=Tz (sy g i).un;have:=G.aei i h;lia
theorem VO(d:Dd):pH (d2 d)=true:=rfl
def NM(p:Nat×Nat):PV:=.tup [.int (p.1:Int),.int (p.2:Int)]
def Pp(G:WG g ws)(h:i<g.length):gW (lP g) (.int (i:Int))=.ret ((IK (sy g i).un).map λd=>NM (d.2.1,d.2.2)):=by
 unfold gW;simp only[lw,j9 h];have hu:=G.q9 i h;revert hu;generalize (sy g i).un=l;intro hu
 match l,hu with
 |[],_=>simp;rfl
 |[a],_=>simp;rfl
 |[a,b],_=>
  simp;rfl
theorem Uu(G:WG g ws)(h:i<g.length):jh (lP g) (.int (i:Int))=.ret ((sy g i).be.map (λo=>NM (i,o))++(sy g i).be.map (λo=>NM (o,i))):=by
 unfold jh;have l3:=G.aei i h;simp only[lw,Ou h,aK];rw[rG (g:=λo=>NM (i,o)) λk hk=>rfl,rG (g:=λo=>NM (o,i)) λk hk=>rfl];simp;rw[gI (by simp;lia)]
theorem wL(G:WG g ws){b:Nat}(h:i<g.length)(q:∀m:O PV,m.Perm ((dl g i).map d2)->Q m):(dC (lP g) (Ent.pair a b).pv (.int (i:Int))).run Q:=by
 have l63:=Km G h;unfold dC;simp only[Ent.pv,f8,lG,lF,d8,mo,AM,if_false,Pp G h,Uu G h];refine je (λd:Dd=>.tup [.str "split",NM (d.2.1,d.2.2)]) (λd _ R r=>r) ?_;have em:(sy g i).be.map (λo=>NM (i,o))++(sy g i).be.map (λo=>NM (o,i))=((sy g i).be.map (λo=>((i,o):Nat×Nat))++(sy g i).be.map (λo=>(o,i))).map NM:=by
  rw[Az,AO,AO];rfl
 rw[em];refine je (λp:Nat×Nat=>.tup [.str "over",NM p]) (λp _ R r=>r) ?_;simp only[mo,hU];have es:(IK (sy g i).un).map (λd=>PV.tup [.str "split",NM (d.2.1,d.2.2)])=(IK (sy g i).un).map d2:=by
  refine Bp λd hd=>?_;have:d.1=("split"):=by
   revert hd;generalize (sy g i).un=l;intro hd;unfold IK at hd
   split at hd
   .simp at hd;rcases hd with rfl|rfl<;>rfl
   .cases hd
  unfold d2 NM;rw[this]
 have eo:((sy g i).be.map (λo=>((i,o):Nat×Nat))++(sy g i).be.map (λo=>(o,i))).map (λp=>PV.tup [.str "over",NM p])=((sy g i).be.map (λo=>(("over",i,o):Dd))++(sy g i).be.map (λo=>(("over",o,i):Dd))).map d2:=by
  simp;rfl
 rw[es,eo];have ll:(dl g i).length=1+(IK (sy g i).un).length+((sy g i).be.map (λo=>(("over",i,o):Dd))++(sy g i).be.map (λo=>(("over",o,i):Dd))).length:=by
  unfold dl;simp;lia
 rw[gI (by simp;lia)];simp only[mo];rw[gI (by simp at *;lia)];have e:([PV.tup [.str "doubled",.tup [.int i,.int (i:Int)]]]++(IK (sy g i).un).map d2)++((sy g i).be.map (λo=>(("over",i,o):Dd))++(sy g i).be.map (λo=>(("over",o,i):Dd))).map d2=(dl g i).map d2:=by
  unfold dl;simp;rfl
 simp only[mo];rw[e];refine⟨⟨by rw[Aj];lia,C7.mpr λx hx=>?_⟩,λm hm=>q m hm⟩;obtain⟨d,_,rfl⟩:=Au.mp hx;exact VO d
theorem Dt.isD(D:Dt t ds [] d)(h:d<=99):Vd t ds=true:=by
 unfold Vd;rw[A1,A1,decide_eq_true_iff,decide_eq_true_iff];refine⟨D.len,?_,C7.mpr λj hj=>?_⟩
 .unfold MV;have hp:(splits t).Pairwise (· < ·):=by unfold splits;exact List.Pairwise.filter _ Fc
  rw[List.nodup_iff_pairwise_ne,List.pairwise_map];refine List.Pairwise.imp_of_mem (λ{x y} hx hy lt e=>?_) hp;obtain⟨x1,x2⟩:=A3.mp hx;obtain⟨y1,y2⟩:=A3.mp hy;have:=D.inj x y (AQ.mp x1) (AQ.mp y1) (by simp) (by simp) x2 y2 e;lia
 .have hj':=AQ.mp hj;unfold okJ;cases e:en t 0 j with
  |word w=>
   rw[D.zero j hj' (.inl (by rw[e];rfl))];rfl
  |pair a b=>
   obtain⟨_,_,h1,h2,h3,h4⟩:=D.up j hj' (by simp) a b e;show(decide (ds.getD a 0<ds.getD j 0)&&decide (ds.getD b 0<ds.getD j 0)&&decide (1<=ds.getD j 0)&&decide (ds.getD j 0<=99))=true;rw[decide_eq_true h1,decide_eq_true h2,decide_eq_true h3,decide_eq_true ∅];rfl
theorem uB:∀(t:Tr) (o:Nat),(t.nd o).countP jS+1=t.aw.length
 |.leaf _,_=>rfl
 |.node l r,o=>by
  have h1:=uB l o;have h2:=uB r (o+l.size);rw[Tr.nd,List.countP_append,List.countP_append];show _+(List.countP jS [Ent.pair _ _])+1=(l.aw++r.aw).length;simp[jS];lia
theorem Zb(t:Tr):t.nd 0=(Ar t.size).map (en t 0):=by
 refine B9 λj=>?_;by_cases h:j<t.size
 .rw[gV t 0 j h,Af,A7 h];rfl
 .rw[Br (by rw[t.bJ];lia),Br (by simp;lia)]
def IJ(t:Tr):(splits t).length+1=t.aw.length:=by
 rw[<- uB t 0,Zb t,List.countP_map];unfold splits;rw[<- List.countP_eq_length_filter];rfl
variable{u:Nat}
def OX.snoc(r:OX g i j)(hu:u∈(sy g j).un):OX g i u:=by
 induction r with
 |refl i=>exact .step hu (.refl _)
 |step h _ ih=>exact .step h (ih hu)
def gS(t:Tr):O Sy:=(Ar t.size).map λj=>⟨Jh (en t 0 j) j,0,OO (en t 0 j),apt t j⟩
def qj(t:Tr)(h:j<t.size):sy (gS t) j=⟨Jh (en t 0 j) j,0,OO (en t 0 j),apt t j⟩:=by
 unfold sy gS;rw[Ah,Af,A7 h];rfl
@[simp] theorem ip(t:Tr):(gS t).length=t.size:=by unfold gS;simp
def adx(t:Tr):lP (gS t)=.tup (grL t):=by
 unfold lP gS grL;rw[AO];congr 1
def WJ(e:Ent)(j:Nat):(∃s,Jh e j=.str s)\/∃n,Jh e j=.int n:=by
 cases e with
 |word w=>exact .inl ⟨w,rfl⟩
 |pair a b=>exact .inr ⟨_,rfl⟩
def ZK(e:Ent):(OO e).length<=2:=by cases e<;>simp[OO]
theorem rH:∀(s:Tr) (t:Tr) (o:Nat) (w:Str),(∀k,k<s.size->en t 0 (o+k)=en s o k)->o+s.size<=t.size->w∈s.aw->∃i,i<t.size/\OX (gS t) (o+s.size-1) i/\en t 0 i=.word w
 |.leaf x,t,o,w,hs,hz,hw=>by
  have hz:o+1<=t.size:=hz;have:w=x:=by simpa[Tr.aw]using hw
  subst this;exact⟨o,by lia,.refl _,(hs 0 (by show 0<1;decide))⟩
 |.node l r,t,o,w,hs,hz,hw=>by
  have es:(Tr.node l r).size=l.size+r.size+1:=rfl;have er:en t 0 (o+(l.size+r.size))=.pair (o+l.size-1) (o+l.size+r.size-1):=by rw[hs _ ∅,en,if_neg ∅,if_neg ∅]
  have ei:o+(Tr.node l r).size-1=o+(l.size+r.size):=by lia
  have un:(sy (gS t) (o+(l.size+r.size))).un=[o+l.size-1,o+l.size+r.size-1]:=by rw[qj t ∅,er];rfl
  rw[ei];rcases AX.mp (hw) with hw|hw
  .obtain⟨i,h1,h2,h3⟩:=rH l t o w (λk hk=>by rw[hs k ∅,en,if_pos hk]) ∅ hw;exact⟨i,h1,.step (by rw[un];simp) h2,h3⟩
  .obtain⟨i,h1,h2,h3⟩:=rH r t (o+l.size) w (λk hk=>by rw[A6,hs _ ∅,en,if_neg ∅,if_pos ∅,Dp]) ∅ hw;exact⟨i,h1,.step (by rw[un];simp) h2,h3⟩
theorem vP(hz:t.size<=30):WG (gS t) t.aw:=by
 have tp:=t.size_pos;have Ï:∀k i,i+k+1=t.size->OX (gS t) (t.size-1) i:=λk=>by
  induction k using Cc with
  |ind k ih=>
   intro i hk;rcases iB t 0 i .aM ∅ with⟨e,_⟩|⟨a,u,v,ia,ha,_,ep,SY⟩
   .rw[<- e];exact .refl _
   .refine(ih (t.size-a-1) ∅ a ∅).snoc ?_;rw[qj t ha,ep];rcases SY with rfl|rfl<;>simp[OO]
 refine⟨by rw[ip];lia,by rw[ip];lia,λi hi u hu=>?_,λi hi=>?_,λi hi u hu=>?_,λi hi=>?_,λi hi=>?_,λw hw=>?_,λi hi=>by rw[ip]at hi ⊢;exact Ï (t.size-i-1) i ∅⟩
 .rw[ip]at hi;rw[qj t hi]at hu;cases e:en t 0 i with
  |word w=>rw[e]at hu;cases hu
  |pair a b=>
   rw[e]at hu;have:=dI t hi e;have hu:u=a\/u=b:=by simpa[OO]using hu
   lia
 .rw[ip]at hi;rw[qj t hi];exact ZK _
 .rw[ip]at hi ⊢;rw[qj t hi]at hu;exact AQ.mp (A3.mp hu).1
 .rw[ip]at hi;rw[qj t hi];have:=Bf (λk=>!decide (k∈up t 0 i [])&&!decide (i∈up t 0 k [])) (Ar t.size);rw[Bs]at this;show(apt t i).length<=30;unfold apt;lia
 .rw[ip]at hi;rw[qj t hi];exact WJ _ _
 .obtain⟨i,h1,h2,h3⟩:=rH t t 0 w (λk hk=>by rw[AW]) ∅ hw;rw[AW]at h2;refine⟨i,by rw[ip];exact h1,by rw[ip];exact h2,?_⟩;unfold hm;rw[qj t h1,h3];simp[OO,Jh,Rk]
def dS(t:Tr)(ds bs:O Int):O Sy:=(aP t ds bs bs.length).map λp=>⟨Jh (en t 0 p.1) p.1,p.2,(HX (en t 0 p.1) p.1 (ds.getD p.1 0) (bs.getD p.2 0)).map λx=>(aP t ds bs bs.length).idxOf (x,p.2-1),bsd (aP t ds bs bs.length) p.1 p.2⟩
def ad8(t:Tr)(ds bs:O Int):lP (dS t ds bs)=.tup (dgL t ds bs):=by
 unfold lP dS dgL;rw[AO];congr 1
@[simp] theorem Sl(t:Tr)(ds bs:O Int):(dS t ds bs).length=(aP t ds bs bs.length).length:=by unfold dS;rw[Aj]
theorem pY(t:Tr)(ds bs:O Int):∀m,(aP t ds bs m).Pairwise λp q=>p.2<=q.2
 |0=>.nil
 |m+1=>by
  have MU:∀p∈zV t ds (bs.getD m 0) m t.size,p.2=m:=λp hp=>by
   obtain⟨k,_,rfl⟩:=Au.mp hp;rfl
  refine D6.mpr ⟨pY t ds bs m,?_,λa ha b hb=>?_⟩
  .exact BZ.mpr λi j hi hj _=>by rw[MU _ (CG hi),MU _ (CG hj)];exact Al _
  .have h1:=(eI ha).1;rw[MU b hb];lia
theorem wu(t:Tr)(ds bs:O Int)(n:Nat):∀m,((aP t ds bs m).filter λp=>decide (p.2=n)).length<=t.size
 |0=>Bc _
 |m+1=>by
  rw[aP,Cm,Ak];have ih:=wu t ds bs n m;by_cases c:n=m
  .subst c;have z:(aP t ds bs n).filter (λp=>decide (p.2=n))=[]:=by
    rw[Fe];intro p hp;have:=(eI hp).1;simp;lia
   rw[z];have h1:=Bf (λp:Nat×Nat=>decide (p.2=n)) (zV t ds (bs.getD n 0) n t.size);have h2:=xq t ds (bs.getD n 0) n t.size;simp only[Ft];lia
  .have z:(zV t ds (bs.getD m 0) m t.size).filter (λp=>decide (p.2=n))=[]:=by
    rw[Fe];intro p hp;obtain⟨k,_,rfl⟩:=Au.mp hp;simp;lia
   rw[z];simpa using ih
section
theorem DD.above(D:DD t ds)(h:(j,n)∈aP t ds (aO t ds) (aO t ds).length)(hn:n+1<(aO t ds).length):∃a,(a,n+1)∈aP t ds (aO t ds) (aO t ds).length/\j∈HX (en t 0 a) a (ds.getD a 0) ((aO t ds).getD (n+1) 0):=by
 obtain⟨hnl,hj,hs⟩:=cb.mp h;obtain⟨s1,s2⟩:=(fN hj).mp hs;have inc:=D.inc;have lt:=yw inc hn (show n<n+1 by lia);have Ú:(∀a,jU t 0 j .aM=.int ((a:Nat))->(aO t ds).getD (n+1) 0<ds.getD a 0)->∃a,(a,n+1)∈aP t ds (aO t ds) (aO t ds).length/\j∈HX (en t 0 a) a (ds.getD a 0) ((aO t ds).getD (n+1) 0):=λhx=>
  ⟨j,cb.mpr ⟨hn,hj,(fN hj).mpr ⟨by lia,hx⟩⟩,by unfold HX;rw[if_pos ∅];exact .head _⟩
 rcases iB t 0 j .aM hj with⟨_,e⟩|⟨a,u,v,ja,ha,e,ep,SY⟩
 .exact Ú λa z=>by rw[e]at z;cases z
 .rw[AW]at e SY;by_cases c:(aO t ds).getD (n+1) 0<ds.getD a 0
  .refine Ú λa' z=>?_;rw[e]at z;injection z with z;have:a=a':=by lia
   subst this;exact c
  .have sa:=s2 a e;have eq:ds.getD a 0=(aO t ds).getD (n+1) 0:=by
    rcases Int.lt_or_eq_of_le (show ds.getD a 0<=(aO t ds).getD (n+1) 0 by lia) with c2|c2
    .have:=(tU inc hn (D.mem ha) c2).2;rw[Nat.add_sub_cancel]at this;lia
    .exact c2
   refine⟨a,cb.mpr ⟨hn,ha,(fN ha).mpr ⟨by lia,λa2 e2=>?_⟩⟩,?_⟩
   .rcases iB t 0 a .aM ha with⟨_,e3⟩|⟨a3,u3,v3,_,h3,e3,ep3,ac5⟩
    .rw[e3]at e2;cases e2
    .rw[e3]at e2;injection e2 with e2;rw[AW]at e2 ac5;have:a3=a2:=by lia
     subst this;have:=D.pair a3 u3 v3 h3 ep3;rcases ac5 with rfl|rfl<;>lia
   .unfold HX;rw[if_neg ∅,ep];rcases SY with rfl|rfl<;>simp
theorem DD.last(D:DD t ds)(h:(j,n)∈aP t ds (aO t ds) (aO t ds).length)(hn:n+1=(aO t ds).length):j=t.size-1:=by
 obtain⟨hnl,hj,hs⟩:=cb.mp h;obtain⟨s1,s2⟩:=(fN hj).mp hs;rcases iB t 0 j .aM hj with⟨e,_⟩|⟨a,u,v,ja,ha,e,ep,SY⟩
 .exact e
 .rw[AW]at e;have sa:=s2 a e;obtain⟨i,hi,ei⟩:=Ed (D.mem ha);have gd:(aO t ds).getD i 0=ds.getD a 0:=by rw[Ah,Ad hi];exact ei
  rcases DB i n with c|c
  .have:=yw D.inc hnl c;lia
  .have:i=n:=by lia
   subst this;lia
def JQ[BEq α][LawfulBEq α]{l:List α}(nd:l.Nodup){x:α}(h:l[i]?=am x):l.idxOf x=i:=by
 obtain⟨hi,e⟩:=Ai.mp h;rw[<- e];exact nd.idxOf_getElem i hi
def zj[BEq α][LawfulBEq α]{l:List α}{x:α}(h:x∈l):l[l.idxOf x]?=am x:=by
 have:=Cf h;rw[Ad this,List.getElem_idxOf this]
theorem O3(D:DD t ds)(hz:t.size<=15)(hb:(aO t ds).length<=16):WG (dS t ds (aO t ds)) t.aw:=by
 have nd:=fM t ds (aO t ds) (aO t ds).length;have ġ:=pY t ds (aO t ds) (aO t ds).length;have lay:=λn=>wu t ds (aO t ds) n (aO t ds).length;have ok:=D.ok;have ne:=D.ne;have ll:=i7 t ds (aO t ds) (aO t ds).length;have above:=λj n=>D.above (j:=j) (n:=n);have last:=λj n=>D.last (j:=j) (n:=n);have Ĩ:=@cb t ds (aO t ds) (aO t ds).length;unfold okD at ok;have hS:∀i p,(aP t ds (aO t ds) (aO t ds).length)[i]?=am p->sy (dS t ds (aO t ds)) i=⟨Jh (en t 0 p.1) p.1,p.2,(HX (en t 0 p.1) p.1 (ds.getD p.1 0) ((aO t ds).getD p.2 0)).map λx=>(aP t ds (aO t ds) (aO t ds).length).idxOf (x,p.2-1),bsd (aP t ds (aO t ds) (aO t ds).length) p.1 p.2⟩:=λi p hp=>by
  unfold sy dS;rw[Ah,Af,hp];rfl
 have hL:(dS t ds (aO t ds)).length=(aP t ds (aO t ds) (aO t ds).length).length:=Sl t ds _;have hmul:=DA hb hz;generalize aP t ds (aO t ds) (aO t ds).length=L at *;have get:∀i,i<(dS t ds (aO t ds)).length->∃p,L[i]?=am p/\p∈L:=λi hi=>by
  rw[hL]at hi;exact⟨L[i],Ad hi,CG hi⟩
 have Ò:∀(i a:Nat) p r,L[i]?=am p->L[a]?=am r->r.2<p.2->a<i:=λi a p r h1 h2 lt=>by
  rcases DB a i with c|c
  .exact c
  .exfalso;obtain⟨g1,e1⟩:=Ai.mp h1;obtain⟨g2,e2⟩:=Ai.mp h2;rcases Et c with c|c
   .subst c;rw[h1]at h2;cases h2;lia
   .have:=BZ.mp ġ i a g1 g2 c;rw[e1,e2]at this;lia
 have Ï:∀k i,i+k+1=L.length->OX (dS t ds (aO t ds)) (L.length-1) i:=λk=>by
  induction k using Cc with
  |ind k ih=>
   intro i hk;obtain⟨⟨j,n⟩,hp,hm⟩:=get i (by rw[hL];lia);have nl:=(Ĩ.mp hm).1;by_cases c:n+1<(aO t ds).length
   .obtain⟨a,ha,hb⟩:=above j n hm c;have ia:=zj ha;have lt:=Ò _ i (a,n+1) (j,n) ia hp (by show n<n+1;lia);have il:=Cf ha;refine(ih (L.length-L.idxOf (a,n+1)-1) ∅ (L.idxOf (a,n+1)) ∅).snoc ?_;rw[hS _ _ ia];exact Au.mpr ⟨j,hb,JQ nd hp⟩
   .have hj:=last j n hm ∅;have:i=L.length-1:=by
     obtain⟨⟨j2,n2⟩,zD,S3⟩:=get (L.length-1) (by rw[hL];lia);have n2l:=(Ĩ.mp S3).1;rcases DB n2 n with c2|c2
     .have:=Ò i (L.length-1) _ _ hp zD c2;lia
     .have en2:n2=n:=by lia
      subst en2;rw[(last j2 n2 S3 ∅),<- hj]at zD;exact(JQ nd hp).symm.trans (JQ nd zD)
    rw[this];exact .refl _
 refine⟨by rw[hL];exact(De.mpr ne),by rw[hL];lia,λi hi u hu=>?_,λi hi=>?_,λi hi u hu=>?_,λi hi=>?_,λi hi=>?_,λw hw=>?_,λi hi=>by rw[hL]at hi ⊢;exact Ï (L.length-i-1) i ∅⟩
 .obtain⟨p,hp,hm⟩:=get i hi;rw[hS i p hp]at hu;obtain⟨x,hx,rfl⟩:=Au.mp hu;obtain⟨n1,xm⟩:=ok p hm x hx;exact Ò i _ p (x,p.2-1) hp (zj xm) (by show p.2-1<p.2;lia)
 .obtain⟨p,hp,hm⟩:=get i hi;rw[hS i p hp];unfold HX
  split
  .simp
  .cases en t 0 p.1<;>simp
 .obtain⟨p,hp,hm⟩:=get i hi;rw[hS i p hp]at hu;unfold bsd at hu;obtain⟨x,hx,rfl⟩:=Au.mp hu;rw[hL];exact Cf (A3.mp hx).1
 .obtain⟨p,hp,hm⟩:=get i hi;rw[hS i p hp];unfold bsd;rw[Aj];have h1:=lay p.2;have h2:(L.filter λq=>decide (q.2=p.2)&&!decide (q.1=p.1)).length<=(L.filter λq=>decide (q.2=p.2)).length:=by
   have e:L.filter (λq=>decide (q.2=p.2)&&!decide (q.1=p.1))=(L.filter λq=>decide (q.2=p.2)).filter λq=>!decide (q.1=p.1):=by
    rw[List.filter_filter];refine congrArg (λf=>L.filter f) (funext λq=>Bool.and_comm _ _)
   rw[e];exact Bf _ _
  lia
 .obtain⟨p,hp,hm⟩:=get i hi;rw[hS i p hp];exact WJ _ _
 .obtain⟨j,hj,_,ej⟩:=rH t t 0 w (λk hk=>by rw[AW]) ∅ hw;have b0:(aO t ds).getD 0 0=0:=rfl;have mem:(j,0)∈L:=Ĩ.mpr ⟨by simp[aO],hj,(fN hj).mpr ⟨by rw[D.leaf j w hj ej,b0];exact B8 _,λa ea=>by
   rcases iB t 0 j .aM hj with⟨_,e⟩|⟨a',u,v,_,ha,e,ep,_⟩
   .rw[e]at ea;cases ea
   .rw[e,AW]at ea;injection ea with ea;have:a'=a:=by lia
    subst this;have:=(D.pair a' u v ha ep).2.2;rw[b0];lia⟩⟩
  have il:=Cf mem;refine⟨L.idxOf (j,0),by rw[hL];exact il,by rw[hL];exact Ï (L.length-L.idxOf (j,0)-1) _ ∅,?_⟩;unfold hm;rw[hS _ _ (zj mem)];unfold HX;rw[b0,D.leaf j w hj ej,if_neg ∅,ej];simp[Jh,Rk]
end
inductive WT where
 |lf (p:List Nat) (i:Nat)
 |nd (p:List Nat) (i:Nat) (nm:Str) (a b:WT)
theorem Hs{f g:α->Option β}:∀{l:List α},(∀x∈l,f x=g x)->l.filterMap f=l.filterMap g
 |[],_=>rfl
 |x::l,h=>by rw[AJ,AJ,h x (.head _),Hs λy hy=>h y (.tail _ hy)]
def pf(f:Nat->Nat):O Nat->Nat->O Nat
 |[],_=>[]
 |x::r,i=>if f x=f (r.headD i) then pf f r i else f x::pf f r i
def wm(f:Nat->Nat):WT->WT
 |.lf p i=>.lf (pf f p i) (f i)
 |.nd p i nm a b=>.nd (pf f p i) (f i) nm (wm f a) (wm f b)
def sM{l:O PV}(h:l[j]?=am v)(hl:l.length<=1000):o7 l (.int (j:Int))=.ret (l.eraseIdx j,v):=by
 unfold o7;simp only[LU ((Ai.mp h).1),Op,lw,h,sw (bO hl)]
def ug{l:O Tr}{x:Tr}(h:l[j]?=am x):(x.aw++(l.eraseIdx j).flatMap Tr.aw).Perm (l.flatMap Tr.aw):=by
 induction l generalizing j with
 |nil=>simp at h
 |cons a l ih=>cases j with
  |zero=>simp at h;subst h;simp
  |succ j=>
   simp;have:=(ih (by simpa using h)).append_left a.aw;refine List.Perm.trans ?_ this;rw[<- AD,<- AD];exact BI.append_right _
def wj{l:O Tr}:(l.map Tr.pv).eraseIdx j=(l.eraseIdx j).map Tr.pv:=by
 induction l generalizing j with
 |nil=>simp
 |cons a l ih=>cases j with
  |zero=>simp
  |succ j=>simp[ih]
def QE{l:O Nat}{x:PV}(h:(aJ l)[i]?=am x):∃k,l[i]?=am k/\x=.int (k:Int):=by
 unfold aJ at h;rw[Af]at h;cases e:l[i]? with
 |none=>rw[e]at h;cases h
 |some k=>rw[e]at h;exact⟨k,rfl,(Option.some.inj h).symm⟩
abbrev OI:=Option Int
def oP:OI->PV
 |none=>.aM
 |some i=>.int i
def Jd(l:O OI):O Int:=l.filterMap id
def kd(l:O OI):OI:=if ce∈l then ce else am (Jd l).sum
def ic(l:O OI):OI:=if Jd l=[] then ce else am (xQ (Jd l))
theorem Lw:∀{l:O OI},ce∉l->l.map oP=(Jd l).map PV.int
 |[],_=>rfl
 |none::l,h=>absurd (.head _) h
 |some a::l,h=>by
  have:=Lw λz=>h (.tail _ z);rw[Av,this];rfl
def Z5(l:O OI):(l.map oP).filterMap (λx=>if x matches .aM then ce else am x)=(Jd l).map PV.int:=by
 induction l with
 |nil=>rfl
 |cons a l ih=>cases a with
  |none=>rw[Av,AJ];exact ih
  |some i=>rw[Av,AJ];exact congrArg _ ih
def ZE(l:O OI):qL false .aM (l.map oP)=.ret (decide (ce∈l)):=by
 have h0:∀x∈l.map oP,PV.fy x=true/\PV.iq x<=150:=λx hx=>by
  obtain⟨o,_,rfl⟩:=Au.mp hx;cases o<;>simp[oP]
 have h1:Ve .aM (l.map oP):=⟨by simp,iW.mpr λx hx=>(h0 x hx).1,kL λx hx=>(h0 x hx).2⟩;have h2:tZ .aM (l.map oP)=decide (ce∈l):=by
  unfold tZ;rw[List.any_map];clear h0 h1
  induction l with
  |nil=>rfl
  |cons a l ih=>
   rw[CU,ih];cases a<;>simp[oP,jT]
 unfold qL;rw[sw h1,h2];simp
def iI(l:O OI):iR (.cl (l.map oP))=.ret (oP (kd l)):=by
 unfold iR kd;simp only[lw,bA,ZE];by_cases h:ce∈l
 .simp[h,oP]
 .rw[if_neg h];simp only[h,hU,lw,Lw h,gQ,eU];rfl
def LA(l:O OI):LB ((Jd l).map PV.int)=.ret (oP (ic l)):=by
 unfold LB ic;rw[eU,lw]
 split<;>rfl
def HS(l:O OI):(jV (l.map oP) λp2=>OM (bn (of2 GJ p2 .aM) asB) (ca p2))=.ret ((Jd l).map PV.int):=by
 rw[<- Z5];refine yg λx hx=>?_;obtain⟨o,_,rfl⟩:=Au.mp hx;cases o<;>simp[oP,PV.jL]
def HQ(l:O OI):cI (.cl (l.map oP))=.ret (oP (ic l)):=by
 unfold cI;simp only[lw,bA,HS,LA]
variable{ps:O Int}
def oy(l:O OI):cI (.tup (l.map oP))=.ret (oP (ic l)):=by
 unfold cI;simp only[lw,aK,HS,LA]
def Nj{a b:O Int}(h:a.Perm b):xQ a=xQ b:=by
 by_cases c:a=[]
 .subst c;rw[List.nil_perm.mp h]
 .exact Fv (rF (h.mem_iff.mpr (nS (λz=>c (by subst z;exact List.perm_nil.mp h))))) (rF (h.mem_iff.mp (nS c)))
def Ni{a b:O OI}(h:a.Perm b):ic a=ic b:=by
 have h2:(Jd a).Perm (Jd b):=h.filterMap _;unfold ic;rw[Nj h2];have:(Jd a=[])=(Jd b=[]):=propext ⟨λz=>List.nil_perm.mp (z▸h2),λz=>List.perm_nil.mp (z▸h2)⟩;simp only[this]
def Sk(l:O OI):pR (l.map oP)=true:=HN.mpr λx hx=>by
 obtain⟨o,_,rfl⟩:=Au.mp hx;cases o<;>(rw[oP,PV.dat]<;>simp)
def dpl(d:Str):Nat:=if d="split" then 0 else if d="doubled" then 1 else 2
def Ue(ps:O Int)(d:Str):Int:=ps.getD (dpl d) 0
theorem aak(d:Str):dpl d<3:=by unfold dpl;split;lia;split<;>lia
theorem XG(h:ps.length=4)(hk:k<4):fC (bx ps) (k:Int)=am (.int (ps.getD k 0)):=gh (by
 unfold bx;rw[Af,Ad ∅,Ah,Ad ∅];rfl)
variable{d:Str}
def Zz(d:Str):Prop:=d="split"\/d="doubled"\/d="over"
def LV:qL false (.str d) ([("split":Str),("doubled":Str),("over":Str)].map PV.str)=.ret (decide (d∈[("split":Str),("doubled":Str),("over":Str)])):=by
 unfold qL;rw[sw ⟨by simp,by simp[d7],by simp[dq]⟩];congr 1;simp only[tZ,Xt];have e:∀a:Str,(a==d)=decide (d=a):=λa=>by
  by_cases c:a=d
  .subst c;simp
  .have c2:¬d=a:=λz=>c z.symm;simp[c,c2]
 simp[e]
theorem Qg(h:ps.length=4)(hd:Zz d):eN (.tup (bx ps)) (.str d)=.ret (.int (Ue ps d)):=by
 unfold eN;have hm:d∈[("split":Str),("doubled"),("over")]:=by rcases hd with rfl | rfl | rfl <;> simp
 have hi:Ro ["split","doubled","over"] (.str d)=.ret (.int ((dpl d))):=by
  show W.dN _ _=_;rw[sw hm];rcases hd with rfl|rfl|rfl<;>rfl
 have:=aak d;simp only[lw,LV,hm,if_true,aK,hi,cZ,XG h (k:=dpl d) ∅];rfl
def p0:eN (.tup (bx ps)) (.str "found")=.ret (.int 0):=by
 unfold eN;have hm:("found":Str)∉[("split":Str),("doubled"),("over")]:=by decide +kernel
 simp only[lw,LV,hm,decide_false,AM,if_false]
def rg(T:O (O OI))(j i:Nat):OI:=(T.getD j []).getD i ce
def rP(T:O (O OI)):O PV:=T.map λr=>.tup (r.map oP)
def kS(ps:O Int)(R:Nat->Nat->OI)(a b:Nat)(d:Dd):OI:=kd [am (Ue ps d.1),R a d.2.1,R b d.2.2]
def XC(g:O Sy)(ps:O Int)(R:Nat->Nat->OI)(e:Ent)(i:Nat):O OI:=match e with
 |.word w=>if hm g i w=true then [am 0] else []
 |.pair a b=>(dl g i).map (kS ps R a b)
variable{T:O (O OI)}
def km(g:O Sy)(ps:O Int)(i:Nat):Int:=if (sy g i).un.length=2 then ps.getD 3 0 else 0
def Ww(g:O Sy)(ps:O Int)(row:O OI)(i:Nat):O OI:=(sy g i).un.map λu=>kd [am (km g ps i),row.getD u ce]
def jQ(g:O Sy)(ps:O Int)(R:Nat->Nat->OI)(e:Ent):Nat->O OI
 |0=>[]
 |k+1=>jQ g ps R e k++[ic (XC g ps R e k++Ww g ps (jQ g ps R e k) k)]
def bj(g:O Sy)(ps:O Int)(es:O Ent):Nat->O (O OI)
 |0=>[]
 |j+1=>bj g ps es j++[jQ g ps (rg (bj g ps es j)) (S6 es j) g.length]
theorem iL(g:O Sy)(ps:O Int)(R:Nat->Nat->OI)(e:Ent):∀k,(jQ g ps R e k).length=k
 |0=>rfl
 |k+1=>by rw[jQ,Ak,iL g ps R e k];rfl
theorem dP(g:O Sy)(ps:O Int)(es:O Ent):∀j,(bj g ps es j).length=j
 |0=>rfl
 |j+1=>by rw[bj,Ak,dP g ps es j];rfl
structure Wide(g:List Sy)(T:List (List OI))(n:Nat):Prop where
 len:T.length=n
 row:∀j,j<n->(T.getD j []).length=g.length
theorem eH(g:O Sy)(ps:O Int)(es:O Ent):∀j,Wide g (bj g ps es j) j
 |0=>⟨rfl,λj h=>absurd h (Nat.not_lt_zero j)⟩
 |j+1=>⟨dP g ps es _,λk hk=>by
  have W:=eH g ps es j;rw[bj];by_cases c:k<j
  .rw[pM (by rw[W.len];exact c)];exact W.row k c
  .have:k=j:=by lia
   subst this;rw[pK (by rw[W.len];exact Al _),W.len,Dz];exact iL _ _ _ _ _⟩
def P5(W':Wide g T n)(hj:j<n)(hi:i<g.length):(cY (bn (cY (ca (rP T)) (ca (.int (j:Int)))) aG) (ca (.int (i:Int))))=.ret (oP (rg T j i)):=by
 have hl:=W'.row j hj;have h1:fC (rP T) j=am (.tup ((T.getD j []).map oP)):=gh (by
  unfold rP;rw[Af,Ad (by rw[W'.len];exact hj),Ah,Ad (by rw[W'.len];exact hj)];rfl)
 have h2:fC ((T.getD j []).map oP) i=am (oP (rg T j i)):=gh (by
  unfold rg;rw[Af,Ad (by rw[hl];exact hi),Ah (l:=T.getD j []),Ad (by rw[hl];exact hi)];rfl)
 simp only[lw,cZ,h1,Op,aK,h2]
variable{d:Dd}
def XB(h:d∈dl g i):Zz d.1:=by
 unfold dl at h;rcases AI.mp h with rfl|h
 .exact .inr (.inl rfl)
 rcases AX.mp h with h|h
 .unfold IK at h
  split at h
  .simp at h;rcases h with rfl|rfl<;>exact .inl rfl
  .cases h
 .rcases AX.mp h with h|h<;>obtain⟨o,_,rfl⟩:=Au.mp h<;>exact .inr (.inr rfl)
def sN{f:α->β}{a b:List β}(h:a.Perm b):∀{l:List α},b=l.map f->∃ds:List α,a=ds.map f/\ds.Perm l:=by
 induction h with
 |nil=>intro l e;exact⟨[],rfl,by rw[List.map_eq_nil_iff.mp e.symm]⟩
 |cons x _ ih=>
  intro l e;cases l with
  |nil=>cases e
  |cons y l=>
   injection e with e1 e2;obtain⟨ds,h1,h2⟩:=ih e2;exact⟨y::ds,by rw[Av,e1,h1],h2.cons y⟩
 |swap x y r=>
  intro l e
  match l,e with
  |u::v::l,e=>
   injection e with e1 e2;injection e2 with e2 e3;exact⟨v::u::l,by rw[Av,Av,e1,e2,e3],.swap u v l⟩
 |trans _ _ LW JP=>
  intro l e;obtain⟨ds,h1,h2⟩:=JP e;obtain⟨es,h3,h4⟩:=LW h1;exact⟨es,h3,h4.trans h2⟩
theorem wF(f h:α->β):∀l:List α,(l.map f++l.map h).Perm (l.flatMap λo=>[f o,h o])
 |[]=>.nil
 |a::l=>by
  exact((List.perm_middle).trans ((wF f h l).cons _)).cons _
def VM(g:O Sy)(i:Nat):(dl g i).Perm (dds g i):=((wF (λo=>(("over",i,o):Dd)) (λo=>(("over",o,i):Dd)) (sy g i).be).append_left _).cons _
def uw(G:WG g ws)(h:i<g.length)(hd:d∈dl g i):d.2.1<g.length/\d.2.2<g.length:=aan G h ((VM g i).mem_iff.mp hd)
theorem wM(p4:ps.length=4){b:Nat}(W':Wide g T n)(ha:a<n)(hb:b<n)(hd:Zz d.1)(hx:d.2.1<g.length)(hy:d.2.2<g.length):bL (.tup (bx ps)) (.cl (rP T)) (Ent.pair a b).pv (d2 d)=.ret (oP (kS ps (rg T) a b d)):=by
 unfold bL;have i0:fC [PV.str d.1,PV.tup [.int d.2.1,.int d.2.2]] 0=am (.str d.1):=rfl;have i1:fC [PV.str d.1,PV.tup [.int (d.2.1:Int),.int (d.2.2:Int)]] 1=am (.tup [.int (d.2.1:Int),.int (d.2.2:Int)]):=rfl;have ez:uV [PV.int a,.int (b:Int)] [.int (d.2.1:Int),.int (d.2.2:Int)]=.ret [.tup [.int (a:Int),.int (d.2.1:Int)],.tup [.int (b:Int),.int (d.2.2:Int)]]:=sw (by simp;exact bO ∅);have ec:lT [PV.int (Ue ps d.1)] [oP (rg T a d.2.1),oP (rg T b d.2.2)]=.ret ([am (Ue ps d.1),rg T a d.2.1,rg T b d.2.2].map oP):=by rw[gI (by simp)];rfl
 have em:(a6 [PV.tup [.int (a:Int),.int (d.2.1:Int)],.tup [.int (b:Int),.int (d.2.2:Int)]] λp6=>bn (q9 p6) λt7=>(cY (bn (cY (ca (rP T)) (ca t7.1)) aG) (ca t7.2)))=.ret [oP (rg T a d.2.1),oP (rg T b d.2.2)]:=by
  simp only[a6,gE,lw];have h1:=P5 W' ha hx;have h2:=P5 W' hb hy;simp only[lw]at h1 h2;simp only[h1,h2,lw]
 simp only[lw]at em;simp only[d2,lw,gm,OO,aJ,Av,Fd,aK,cZ,i0,i1,Op,ez,em,Qg p4 hd,bA,hU,ec];exact iI [am (Ue ps d.1),rg T a d.2.1,rg T b d.2.2]
def Ko(G:WG g ws)(p4:ps.length=4)(W':Wide g T n)(he:Ik n e)(hi:i<g.length)(q:∀L:O OI,L.Perm (XC g ps (rg T) e i)->Q (L.map oP)):(fV (lP g) (.tup (bx ps)) (.cl (rP T)) e.pv (.int (i:Int))).run Q:=by
 unfold fV;simp;cases e with
 |word w=>
  unfold dC;simp only[Ent.pv,lw,f8,rT,rS,d8,mo,if_true,LZ G hi];unfold XC at q;cases h:hm g i w with
  |false=>
   simp only[h,AM,if_false]at q ⊢;exact q [] (List.Perm.refl _)
  |true=>
   simp only[h,if_true]at q ⊢;have ef:bL (.tup (bx ps)) (.cl (rP T)) (.str w) (.tup [.str "found",.tup []])=.ret (.int 0):=by
    unfold bL;have i0:fC [PV.str "found",PV.tup []] 0=am (.str "found"):=rfl;have i1:fC [PV.str "found",PV.tup []] 1=am (.tup []):=rfl;have hv:bP (.str w)=.ret (.tup []):=gm (.word w);have ez:uV [] []=.ret []:=sw (by simp);have ec:lT [PV.int 0] []=.ret ([am 0].map oP):=by rw[gI (by simp)];rfl
    simp only[lw,hv,aK,cZ,i0,i1,Op,ez,a6,p0,hU,ec,iI];rfl
   simp only[mo,a6,lw,ef];exact q [am 0] (List.Perm.refl _)
 |pair a b=>
  refine wL G hi λm hm=>?_;obtain⟨ds,rfl,hp⟩:∃ds:O Dd,m=ds.map d2/\ds.Perm (dl g i):=sN hm rfl;refine je (λd=>oP (kS ps (rg T) a b d)) (λd hd=>?_) ?_
  .have þ:=hp.mem_iff.mp hd;obtain⟨h1,h2⟩:=uw G hi þ;rw[wM p4 W' he.1 he.2 (XB þ) h1 h2];exact λQ q=>q
  .have e:ds.map (λd=>oP (kS ps (rg T) a b d))=(ds.map (kS ps (rg T) a b)).map oP:=by rw[AO];rfl
   rw[e];exact q _ (hp.map _)
theorem Qr(p4:ps.length=4)(hi:i<g.length):fj (lP g) (.tup (bx ps)) (.int (i:Int))=.ret (.int (km g ps i)):=by
 unfold fj km;simp only[lw,j9 hi,rR,iQ,mT,cL,cZ];by_cases c:(sy g i).un.length=2
 .have h3:=XG p4 (k:=3) ∅;have c2:(((sy g i).un.length:Int)==2)=true:=by simp[c]
  rw[if_pos c,c2];simp;rw[show((3:Nat):Int)=3 from rfl]at h3;rw[h3];rfl
 .have c2:(((sy g i).un.length:Int)==2)=false:=by simp;lia
  rw[if_neg c,c2];rfl
variable{v:Int}
theorem Pm(G:WG g ws)(p4:ps.length=4){row:O OI}(hi:i<g.length)(hr:row.length=i):fU (lP g) (.tup (bx ps)) (.cl (row.map oP)) (.int (i:Int))=.ret ((Ww g ps row i).map oP):=by
 unfold fU Ww;simp only[lw,Qr p4 hi,j9 hi];rw[AO];refine rG λu hu=>?_;have hu:=G.dn i hi u hu;have h1:fC (row.map oP) u=am (oP (row.getD u ce)):=gh (by rw[Af,Ad ∅,Ah,Ad ∅];rfl);have e:[PV.int (km g ps i),oP (row.getD u ce)]=[am (km g ps i),row.getD u ce].map oP:=rfl;simp only[lw,bA,cZ,h1,Op,e,iI];rfl
theorem Yp(G:WG g ws)(p4:ps.length=4)(W':Wide g T n)(he:Ik n e):(nV (lP g) (.tup (bx ps)) (.cl (rP T)) e.pv).le (.ret (.tup ((jQ g ps (rg T) e g.length).map oP))):=λQ q=>by
 unfold nV;have hg:=G.len;have el:Je gb [lP g]=.ret (.int g.length):=by simp[lP]
 simp;simp only[el,mo,hJ,sw (cS (i:=0) (j:=(g.length:Int)) ∅ ∅)];refine ue (λi s=>s=(jQ g ps (rg T) e i).map oP) rfl (λi s hi hs=>?_) (λs hs=>?_)
 .subst hs;have ı:=iL g ps (rg T) e i;refine Ko G p4 W' he hi λL hL=>?_;rw[Pm G p4 hi ı];have h1:L.length<=63:=by
   rw[hL.length_eq];cases e with
   |word w=>show(if hm g i w=true then [am 0] else []).length<=63;split<;>simp
   |pair a b=>show((dl g i).map _).length<=63;rw[Aj];exact Km G hi
  have h2:(Ww g ps (jQ g ps (rg T) e i) i).length<=2:=by unfold Ww;rw[Aj];exact G.q9 i hi
  simp;rw[gI (by rw[Aj,Aj];lia),<- Az];have et:vR ((L++Ww g ps (jQ g ps (rg T) e i) i).map oP)=.ret ((L++Ww g ps (jQ g ps (rg T) e i) i).map oP):=sw (Sk _);simp only[mo,et,HQ];rw[cM (by rw[Aj];lia)];rw[jQ,Az,Ni (hL.append_right _)];rfl
 .subst hs;exact q
theorem zO(G:WG g ws)(p4:ps.length=4)(hz:t.size<=400):(nU (lP g) t.pv (.tup (bx ps))).le (.ret (.tup (rP (bj g ps (t.nd 0) t.size)))):=λQ q=>by
 unfold nU;simp;refine W.le.use (ko t ∅) ?_;simp;refine cD (λi s=>s=rP (bj g ps (t.nd 0) i)) rfl (λi x s hx hs=>?_) (λs hs=>?_)
 .subst hs;have hi:i<t.size:=by have:=(Ai.mp hx).1;rw[bV]at this;exact this
  rw[Af,gV t 0 i hi]at hx;have ex:=(Option.some.inj hx).symm;subst ex;simp;refine W.le.use (Yp G p4 (eH g ps (t.nd 0) i) (Hz t hi)) ?_;have ed:S6 (t.nd 0) i=en t 0 i:=by unfold S6;rw[Ah,gV t 0 i hi];rfl
  have et:O9 (.tup ((jQ g ps (rg (bj g ps (t.nd 0) i)) (en t 0 i) g.length).map oP))=.ret (.tup ((jQ g ps (rg (bj g ps (t.nd 0) i)) (en t 0 i) g.length).map oP)):=sw (by rw[PV.dat];exact Sk _);simp only[et,mo];rw[cM (by unfold rP;rw[Aj,dP];lia)];rw[bj,ed];unfold rP;rw[Az];rfl
 .subst hs;rw[bV];exact q
abbrev kk(j i:Nat):O Key:=[.inl (j:Int),.inl (i:Int)]
theorem IE{l:O Nat}(h:∀x∈l,x<=m):l.sum<=l.length*m:=by
 induction l with
 |nil=>simp
 |cons a l ih=>
  rw[BM,Aq,Dy];have:=h a (.head _);have:=ih λx hx=>h x (.tail _ hx);lia
section
theorem nG(R:Nat->Nat->OI)(e:Ent):∀{k:Nat},i<k->(jQ g ps R e k).getD i ce=ic (XC g ps R e i++Ww g ps (jQ g ps R e i) i)
 |k+1,h=>by
  rw[jQ];by_cases c:i<k
  .rw[pM (by rw[iL];exact c)];exact nG R e c
  .have:i=k:=by lia
   subst this;rw[pK (by rw[iL];exact Al _),iL,Dz];rfl
theorem nB:∀{k:Nat},j<k->(bj g ps es k).getD j []=jQ g ps (rg (bj g ps es j)) (S6 es j) g.length
 |k+1,h=>by
  rw[bj];by_cases c:j<k
  .rw[pM (by rw[dP];exact c)];exact nB c
  .have:j=k:=by lia
   subst this;rw[pK (by rw[dP];exact Al _),dP,Dz];rfl
theorem Yr(h:j<=k){x:Nat}(ha:a<j):rg (bj g ps es j) a x=rg (bj g ps es k) a x:=by
 unfold rg;rw[nB ha,nB (show a<k by lia)]
def Oe{R R':Nat->Nat->OI}(he:Ik n e)(h:∀a x,a<n->R a x=R' a x):XC g ps R e i=XC g ps R' e i:=by
 cases e with
 |word w=>rfl
 |pair a b=>exact Bp λd _=>by unfold kS;rw[h a _ he.1,h b _ he.2]
def stC(g:O Sy)(ps:O Int)(f:Nat->OI)(i:Nat):O OI:=(sy g i).un.map λu=>kd [am (km g ps i),f u]
theorem abU(G:WG g ws)(hj:j<n)(hi:i<g.length)(he:Ik j (S6 es j)):rg (bj g ps es n) j i=ic (XC g ps (rg (bj g ps es n)) (S6 es j) i++stC g ps (rg (bj g ps es n) j) i):=by
 have e0:∀x,rg (bj g ps es n) j x=(jQ g ps (rg (bj g ps es j)) (S6 es j) g.length).getD x ce:=λx=>by unfold rg;rw[nB hj];rfl
 rw[e0,nG _ _ hi,Oe he λa x ha=>Yr (k:=n) ∅ ha];congr 2;refine Bp λu hu=>?_;have hu:=G.dn i hi u hu;rw[e0,nG _ _ hu,nG _ _ (show u<g.length by lia)]
end
theorem Rg{P:Nat->Nat->Prop}(h:∀j i,j<n->i<m->(∀a x,a<j->x<m->P a x)->(∀u,u<i->P j u)->P j i):∀j i,j<n->i<m->P j i:=by
 intro j
 induction j using Cc with
 |ind j ihj=>
  intro i
  induction i using Cc with
  |ind i ihi=>exact λhj hi=>h j i hj hi (λa x ha hx=>ihj a ha x ∅ hx) λu hu=>ihi u hu hj ∅
def LC{l:O OI}:v∈Jd l↔am v∈l:=by
 unfold Jd;rw[Eu];exact⟨λ⟨o,h1,h2⟩=>by rw[id]at h2;rw[<- h2];exact h1,λh=>⟨_,h,rfl⟩⟩
def rE{l:O OI}(h:am v∈l):∃m,ic l=am m/\m<=v:=by
 have h:=LC.mpr h;unfold ic;rw[if_neg (λz=>by rw[z]at h;cases h)];exact⟨_,rfl,rF h⟩
def GS{l:O OI}{m:Int}(h:ic l=am m):am m∈l:=by
 unfold ic at h
 split at h
 .cases h
 .next c=>
  cases h;exact LC.mp (nS c)
variable{a:Int}{o:OI}{w:Str}
def sum2:kd [am a,am b]=am (a+b):=by simp[kd,Jd]
def abO:kd [am a,am b,am c]=am (a+(b+c)):=by simp[kd,Jd]
def Tt(h:kd [am a,o]=am v):∃b,o=am b/\v=a+b:=by
 cases o with
 |none=>simp[kd]at h
 |some b=>rw[sum2]at h;exact⟨b,rfl,(Option.some.inj h).symm⟩
def Ts{p:OI}(h:kd [am a,o,p]=am v):∃b c,o=am b/\p=am c/\v=a+(b+c):=by
 cases o with
 |none=>simp[kd]at h
 |some b=>cases p with
  |none=>simp[kd]at h
  |some c=>rw[abO]at h;exact⟨b,c,rfl,rfl,(Option.some.inj h).symm⟩
section
def RT(h:j<t.size):S6 (t.nd 0) j=en t 0 j:=by unfold S6;rw[Ah,gV t 0 j h];rfl
def xj(G:WG g ws)(ps:O Int)(hj:j<t.size)(hi:i<g.length):rg (bj g ps (t.nd 0) t.size) j i=ic (XC g ps (rg (bj g ps (t.nd 0) t.size)) (en t 0 j) i++stC g ps (rg (bj g ps (t.nd 0) t.size) j) i):=by
 have:=abU (es:=t.nd 0) (ps:=ps) G hj hi (by rw[RT hj];exact Hz t hj);rw[RT hj]at this;exact this
def tab_of(G:WG g ws)(hj:j<t.size)(hi:i<g.length)(h:rg (bj g ps (t.nd 0) t.size) j i=am v):(∃w,en t 0 j=.word w/\hm g i w=true/\v=0)\/(∃a b d x y,en t 0 j=.pair a b/\d∈dl g i/\rg (bj g ps (t.nd 0) t.size) a d.2.1=am x/\rg (bj g ps (t.nd 0) t.size) b d.2.2=am y/\v=Ue ps d.1+(x+y))\/∃u x,u∈(sy g i).un/\rg (bj g ps (t.nd 0) t.size) j u=am x/\v=km g ps i+x:=by
 rw[xj G ps hj hi]at h;rcases AX.mp (GS h) with h|h
 .cases e:en t 0 j with
  |word w=>
   rw[e]at h;have h:am v∈(if hm g i w=true then [am 0] else []):=h
   split at h
   .next c=>exact .inl ⟨w,rfl,c,Option.some.inj (Aw.mp h)⟩
   .cases h
  |pair a b=>
   rw[e]at h;obtain⟨d,hd,h⟩:=Au.mp h;obtain⟨x,y,h1,h2,h3⟩:=Ts h;exact .inr (.inl ⟨a,b,d,x,y,rfl,hd,h1,h2,h3⟩)
 .obtain⟨u,hu,h⟩:=Au.mp h;obtain⟨x,h1,h2⟩:=Tt h;exact .inr (.inr ⟨u,x,hu,h1,h2⟩)
def Pb(G:WG g ws)(ps:O Int)(hj:j<t.size)(hi:i<g.length)(e:en t 0 j=.word w)(h:hm g i w=true):∃m,rg (bj g ps (t.nd 0) t.size) j i=am m/\m<=0:=by
 rw[xj G ps hj hi,e];refine rE (BS _ ?_);show am 0∈(if hm g i w=true then [am 0] else []);rw[if_pos h];exact .head _
def Pd(G:WG g ws)(ps:O Int){a b:Nat}{y:Int}(hj:j<t.size)(hi:i<g.length)(e:en t 0 j=.pair a b)(hd:d∈dl g i)(h1:rg (bj g ps (t.nd 0) t.size) a d.2.1=am x)(h2:rg (bj g ps (t.nd 0) t.size) b d.2.2=am y):∃m,rg (bj g ps (t.nd 0) t.size) j i=am m/\m<=Ue ps d.1+(x+y):=by
 rw[xj G ps hj hi,e];refine rE (BS _ (Au.mpr ⟨d,hd,?_⟩));unfold kS;rw[h1,h2,abO]
def Pc(G:WG g ws)(ps:O Int)(hj:j<t.size)(hi:i<g.length)(hu:u∈(sy g i).un)(h1:rg (bj g ps (t.nd 0) t.size) j u=am x):∃m,rg (bj g ps (t.nd 0) t.size) j i=am m/\m<=km g ps i+x:=by
 rw[xj G ps hj hi];refine rE (AZ _ (Au.mpr ⟨u,hu,?_⟩));rw[h1,sum2]
theorem Tj(G:WG g ws)(ps:O Int)(hj:j<t.size)(r:OX g i k):i<g.length->∀{x},rg (bj g ps (t.nd 0) t.size) j k=am x->∃m,rg (bj g ps (t.nd 0) t.size) j i=am m:=by
 induction r with
 |refl=>intro _ x h;exact⟨x,h⟩
 |step hu r ih=>
  intro hi x h;obtain⟨y,hy⟩:=ih (by have:=G.dn _ hi _ hu;lia) h;obtain⟨m,hm,_⟩:=Pc G ps hj hi hu hy;exact⟨m,hm⟩
theorem Ti(G:WG g ws)(ps:O Int)(hw:∀w∈t.aw,w∈ws):∀j,j<t.size->∃m,rg (bj g ps (t.nd 0) t.size) j (g.length-1)=am m:=by
 have hp:=G.pos;intro j
 induction j using Cc with
 |ind j ih=>
  intro hj;cases e:en t 0 j with
  |word w=>
   obtain⟨i,hi,hr,hh⟩:=G.ahf w (hw w (yQ t 0 j w hj e));obtain⟨m,hm,_⟩:=Pb G ps hj hi e hh;exact Tj G ps hj hr ∅ hm
  |pair a b=>
   obtain⟨h1,h2⟩:=dI t hj e;obtain⟨x,hx⟩:=ih a h1 ∅;obtain⟨y,hy⟩:=ih b h2 ∅;obtain⟨m,hm,_⟩:=Pd G ps hj (show g.length-1<g.length by lia) e (.head _) hx hy;exact⟨m,hm⟩
theorem X7(G:WG g ws)(h:∀k,0<=ps.getD k 0):∀j i,j<t.size->i<g.length->∀v,rg (bj g ps (t.nd 0) t.size) j i=am v->0<=v:=Rg λj i hj hi LW JP v hv=>by
 have h3:0<=km g ps i:=by unfold km;split;exact h 3;exact B8 _
 rcases tab_of G hj hi hv with⟨w,e,hh,rfl⟩|⟨a,b,d,x,y,e,hd,h1,h2,rfl⟩|⟨u,x,hu,h1,rfl⟩
 .exact B8 _
 .obtain⟨k1,k2⟩:=dI t hj e;obtain⟨l1,l2⟩:=uw G hi hd;have:=LW a _ k1 l1 x h1;have:=LW b _ k2 l2 y h2;have:=h (dpl d.1);unfold Ue;lia
 .have:=JP u (G.dn i hi u hu) x h1;lia
end
def fH(g:O Sy)(ps:O Int)(t:Tr):O OI:=(bj g ps (t.nd 0) t.size).getD (t.size-1) []
section
theorem pE:(fH g ps t).length=g.length:=(eH g ps (t.nd 0) t.size).row _ (by have:=t.size_pos;lia)
theorem tP(i:Nat):(fH g ps t).getD i ce=rg (bj g ps (t.nd 0) t.size) (t.size-1) i:=rfl
def QW:am v∈fH g ps t↔∃i,i<g.length/\rg (bj g ps (t.nd 0) t.size) (t.size-1) i=am v:=by
 constructor
 .intro h;obtain⟨i,hi⟩:=Cw h;refine⟨i,by have:=(Ai.mp hi).1;rw[pE]at this;exact this,?_⟩;rw[<- tP,Ah,hi];rfl
 .rintro⟨i,hi,h⟩;rw[<- tP,Ah,Ad (by rw[pE];exact hi)]at h;rw[<- h];exact CG _
theorem least_le(G:WG g ws)(p4:ps.length=4)(hz:t.size<=400):(lq (lP g) t.pv (.tup (bx ps))).le (.ret (oP (ic (fH g ps t)))):=λQ q=>by
 unfold lq;simp;refine W.le.use (zO G p4 hz) ?_;have hp:=t.size_pos;have hl:=dP g ps (t.nd 0) t.size;have hx:fC (rP (bj g ps (t.nd 0) t.size)) (-1)=am (.tup ((fH g ps t).map oP)):=by
  unfold fC rN;have e:(rP (bj g ps (t.nd 0) t.size)).length=t.size:=by unfold rP;rw[Aj,hl]
  rw[e,if_neg ∅,if_pos ∅];show(rP (bj g ps (t.nd 0) t.size))[(-1+(t.size:Int)).toNat]?=_;rw[show(-1+(t.size:Int)).toNat=t.size-1 by lia];unfold rP fH;rw[Af,Ad ∅,Ah,Ad ∅];rfl
 simp only[aK,mo,cZ,hx,Op,oy];exact q
theorem Jv(G:WG g ws)(hw:∀w∈t.aw,w∈ws):∃m,ic (fH g ps t)=am m:=by
 have hp:=t.size_pos;have hg:=G.pos;obtain⟨v,hv⟩:=Ti G ps hw (t.size-1) ∅;obtain⟨m,hm,_⟩:=rE (QW.mpr ⟨g.length-1,by lia,hv⟩);exact⟨m,hm⟩
end
def Wid(g:O Sy)(U:O (O OI)):Prop:=∀r∈U,r.length=g.length
def Tg(g:O Sy)(ps:O Int)(t:Tr):Wid g (bj g ps (t.nd 0) t.size):=λr hr=>by
 have W':=eH g ps (t.nd 0) t.size;obtain⟨m,hm⟩:=Cw hr;have:=W'.row m (by have:=(Ai.mp hm).1;rw[W'.len]at this;exact this);rw[Ah,hm]at this;exact this
def Vn(t:Tr):(gS t).length=t.size:=by unfold gS;rw[Aj,Bs]
def QG:xz 1 b:=IntMulOk.of_left (intBits_le_64 ⋯ ⋯)
def sc(c:Int):OI->OI:=Option.map (c*·)
abbrev qX(g:O Sy)(ps:O Int)(t:Tr):Nat->Nat->OI:=rg (bj g ps (t.nd 0) t.size)
def RU(o:OI)(v:Int):of2 gs (oP o) (.int v)=.ret (.bl (decide (o=am v))):=by
 cases o with
 |none=>
  show of2 gs .aM (.int v)=_;rw[wH,sw ⟨by simp,by simp,by simp⟩];simp[jT]
 |some x=>
  show of2 gs (.int x) (.int v)=_;rw[mT];congr 2;rw[CS];simp
def pD{c:α->PV}(p:α->Bool){l:List α}(h:∀x∈l,f (c x)=.ret (if p x=true then am (c x) else ce))(q:Q ((l.filter p).map c)):(jV (l.map c) f).run Q:=by
 refine QQ (λx=>if p x=true then am (c x) else ce) (λx hx R r=>by rw[h x hx];exact r) ?_;rw[RG];exact q
section
def MW(l:O Nat):∃m:O Nat,m.Perm l/\(sortI (l.map λn=>((n:Nat):Int)))=m.map λn=>((n:Nat):Int):=by
 obtain⟨m,hm,hp⟩:=sN (Cz (l.map λn=>((n:Nat):Int)) (λa b=>decide (a<=b))) rfl;exact⟨m,hp,hm⟩
end
theorem xR{f:PV->W PV}{P:Nat->PV->Prop}:∀{l:O Nat}{Q:O PV->Prop},(∀i∈l,∀R:PV->Prop,(∀x,P i x->R x)->(f (.int (i:Int))).run R)->(∀xs:O PV,xs.length=l.length->(∀(m i:Nat),l[m]?=am i->∃x,xs[m]?=am x/\P i x)->Q xs)->(a6 (aJ l) f).run Q
 |[],Q,_,q=>q [] rfl λm i h=>by simp at h
 |k::l,Q,h,q=>by
  show(bn (f (.int (k:Int))) λy=>bn (a6 (aJ l) f) λm=>ca (y::m)).run Q;rw[f8];refine h k (.head _) _ λx hx=>?_;rw[f8];refine xR (λi hi=>h i (.tail _ hi)) λxs hl ī=>?_;refine q (x::xs) (by simp[hl]) λm i hm=>?_;cases m with
  |zero=>
   have:k=i:=by simpa using hm
   subst this;exact⟨x,rfl,hx⟩
  |succ m=>exact ī m i (by simpa using hm)
section
def LN:O Str:=["told","deeds","steps","begins"]
end
theorem sk{S:Type}{N:Nat}{c:S->W Bool}{b:S->W S}{Q:S->Prop}(I:Nat->S->Prop){s:S}(hn:n<N)(h0:I n s)(hs:∀n s,I n s->(c s).run λk=>if k=true then (b s).run (λs'=>∃m,m<n/\I m s') else Q s):(FL.jX N c b s).run Q:=by
 have key:∀k n s,n<k->I n s->(ib c b k s).run Q:=by
  intro k
  induction k with
  |zero=>intro n s h;lia
  |succ k ih=>
   intro n s h hI;show(bn (c s) _).run Q;rw[f8];refine(c s).mono (λx q=>?_) (hs n s hI);cases x with
   |true=>
    simp at q;show(bn (b s) _).run Q;rw[f8];exact(b s).mono (λs' ⟨m,h1,h2⟩=>ih m s' ∅ h2) q
   |false=>simpa using q
 exact⟨N,Al _,key N n s hn h0⟩
def RH{l:O Tr}{p:Tr}:((l.take j++p::l.drop j).flatMap Tr.aw).Perm (p.aw++l.flatMap Tr.aw):=by
 have e:l.flatMap Tr.aw=(l.take j).flatMap Tr.aw++(l.drop j).flatMap Tr.aw:=by rw[<- Ee,Fx]
 rw[e,Ee,List.flatMap_cons,<- AD,<- AD];exact BI.append_right _
theorem ZA{l:O PV}{v:PV}(hi:i<=l.length)(hl:l.length<=1000):ZC l (.int (i:Int)) v=.ret (l.take i++v::l.drop i):=by
 show W.dN _ _=_;rw[sw ⟨by lia,by lia,by have:=bO hl;rw[bb]at *;lia⟩];rfl
variable{Q:PV->Prop}{f:PV->W PV}
theorem Hd{us:O Tr}(hw:us≠[])(h8:us.length<=90)(q:∀t:Tr,t.aw.Perm (us.flatMap Tr.aw)->Q t.pv){x:PV}(hx:(bn (ca x) aG)=.ret (us.map Tr.pv)):(bH x).run Q:=by
 have hp:=De.mpr hw;unfold bH;rw[f8,hx,mo,f8];refine sk (λn s=>∃ts:O Tr,s=ts.map Tr.pv/\ts.length=n+1/\n<=90/\(ts.flatMap Tr.aw).Perm (us.flatMap Tr.aw)) (n:=us.length-1) ∅ ⟨us,rfl,by lia,by lia,.refl _⟩ ?_;rintro n s ⟨ts,rfl,hl,hn,ä⟩;have eg:of2 oGt (.int ((ts.map Tr.pv).length:Int)) (.int 1)=.ret (.bl (decide (1<ts.length))):=by
  rw[adV];congr 2;rw[CS];simp;lia
 simp only[lw,f8,yN,eg,cL,mo];by_cases h1:1<ts.length
 .rw[decide_eq_true h1,if_pos rfl];simp only[Aj,bX (show(0:Int)<ts.length by lia) ∅];refine bB λd d0 d1=>?_;obtain⟨j,rfl⟩:∃j:Nat,d=(j:Int):=⟨d.toNat,by lia⟩;obtain⟨a,ha⟩:∃a,ts[j]?=am a:=⟨_,Ad ∅⟩;have el:(ts.eraseIdx j).length=ts.length-1:=by rw[D7];simp;lia
  simp only[sM (v:=a.pv) (by rw[Af,ha];rfl) (by rw[Aj];lia),mo,wj,yN,Aj,el,bX (show(0:Int)<((ts.length-1:Nat):Int) by lia) ∅];refine bB λe e0 e1=>?_;obtain⟨m,rfl⟩:∃m:Nat,e=(m:Int):=⟨e.toNat,by lia⟩;obtain⟨b,hb⟩:∃b,(ts.eraseIdx j)[m]?=am b:=⟨_,Ad ∅⟩;have ę:((ts.eraseIdx j).eraseIdx m).length=ts.length-2:=by rw[D7,el];split<;>lia
  simp only[sM (v:=b.pv) (by rw[Af,hb];rfl) (by rw[Aj];lia),mo,wj,yN,Aj,ę,cW,bX (show(0:Int)<((ts.length-2:Nat):Int)+1 by lia) ∅];refine bB λf f0 f1=>?_;obtain⟨k,rfl⟩:∃k:Nat,f=(k:Int):=⟨f.toNat,by lia⟩;simp only[lw,f8,mo,ZA (l:=((ts.eraseIdx j).eraseIdx m).map Tr.pv) (i:=k) (by rw[Aj,ę];lia) (by rw[Aj,ę];lia),mo];refine⟨n-1,by lia,((ts.eraseIdx j).eraseIdx m).take k++(.node a b)::((ts.eraseIdx j).eraseIdx m).drop k,by simp[Tr.pv,FX,List.map_drop],?_,by lia,?_⟩
  .have:=Fx k ((ts.eraseIdx j).eraseIdx m);have:=congrArg Cv this;rw[Ak]at this;rw[Ak,Aq];lia
  .refine RH.trans (List.Perm.trans ?_ ((ug ha).trans ä));show((a.aw++b.aw)++_).Perm _;rw[AD];exact(ug hb).append_left _
 .rw[decide_eq_false h1];simp
  match ts,hl,ä,h1 with
  |[t],_,ä,_=>
   have i0:fC [t.pv] 0=am t.pv:=rfl;simp[i0];exact q t (by simpa using ä)
  |_::_::_,_,_,h1=>exact absurd (by simp) h1
theorem pC{S:PV->Prop}:∀{l:O PV},(∀x∈l,∀R:PV->Prop,(∀v,S v->R v)->(f x).run R)->∀{Q:O PV->Prop},(∀m,m.length=l.length->(∀v∈m,S v)->Q m)->(a6 l f).run Q
 |[],_,Q,q=>q [] rfl (λ_ h=>nomatch h)
 |x::l,h,Q,q=>by
  show(bn (f x) λy=>bn (a6 l f) λm=>ca (y::m)).run Q;refine h x (.head _) _ λv hv=>?_;refine pC (λy hy=>h y (.tail _ hy)) λm hm hs=>?_;exact q (v::m) (by simp[hm]) λu hu=>by
   rcases AI.mp hu with rfl|hu
   .exact hv
   .exact hs u hu
theorem tj:∀{m:O PV}{ls:O Str},(∀v∈m,∃w∈ls,v=PV.str w)->∃ws:O Str,m=ws.map PV.str/\∀w∈ws,w∈ls
 |[],_,_=>⟨[],rfl,λ_ h=>nomatch h⟩
 |v::m,ls,h=>by
  obtain⟨w,hw,rfl⟩:=h v (.head _);obtain⟨ws,rfl,h2⟩:=tj λu hu=>h u (.tail _ hu);exact⟨w::ws,rfl,λx hx=>by
   rcases AI.mp hx with rfl|hx
   .exact hw
   .exact h2 x hx⟩
theorem xM{l:O PV}(h0:l≠[])(h1:l.length<=1000)(q:∀x∈l,Q x):(eR (.cl l)).run Q:=by
 have hp:=De.mpr h0;unfold eR;simp only[lw,f8,bA,jt,bX (show(0:Int)<l.length by lia) ∅,mo];refine bB λd d0 d1=>?_;obtain⟨j,rfl⟩:∃j:Nat,d=(j:Int):=⟨d.toNat,by lia⟩;obtain⟨a,ha⟩:∃a,l[j]?=am a:=⟨_,Ad ∅⟩;simp only[cZ,gh ha,Op,mo];exact q a (AU ha)
theorem VV(l:O PV){a:Nat}(h:a<=l.length):uA l ce (am (a:Int))=l.take a:=by
 unfold uA;have e1:HT.va l.length 0 (ce:Option Int)=0:=rfl;have e2:HT.va l.length l.length (am (a:Int))=a:=by
  unfold HT.va;simp only[];rw[if_neg ∅];lia
 rw[e1,e2];simp
def sj:O Str:=["a","ab","b","ba","c","zzzzzzzz","d","aa"]
def Vu(ws:O Str):(ws.map Tr.leaf).flatMap Tr.aw=ws:=by
 rw[List.flatMap_map];simp[Tr.aw,List.flatMap_singleton']
def QK(ws:O Str):ws.map PV.str=(ws.map Tr.leaf).map Tr.pv:=by simp[Tr.pv]
def kB(hw:ws≠[])(h8:ws.length<=90)(q:∀t:Tr,t.aw.Perm ws->Q t.pv):(bH (.cl (ws.map PV.str))).run Q:=
 Hd (us:=ws.map Tr.leaf) (by simpa using hw) (by simpa using h8) (λt ht=>q t (by rw[Vu]at ht;exact ht)) (by rw[QK];simp)
theorem MK(q:∀t s:Tr,t.aw.Nodup->t.aw.length<=8->(∀w∈t.aw,w∈sj)->(∀w∈s.aw,w∈t.aw)->s.aw.length<=10->Q (.tup [t.pv,s.pv])):(fX (.int 5) (.int 5)).run Q:=by
 unfold fX;simp only[lw,f8,bX (show(0:Int)<8 by decide) ⋯];refine bB λd d0 d1=>?_;obtain⟨a,b,ha,a0,a1,b0,b1⟩:∃a b:Int,fC [PV.tup [.int 5,.int 5],PV.tup [.int 8,.int 10]] (if (d==0)=true then 1 else 0)=am (.tup [.int a,.int b])/\0<a/\a<=8/\0<b/\b<=10:=by
  by_cases h:d=0
  .subst h;exact⟨8,10,rfl,by decide,by decide,by decide,by decide⟩
  .have:(d==0)=false:=by simpa using h
   rw[this];exact⟨5,5,rfl,by decide,by decide,by decide,by decide⟩
 simp only[mT,Mb,lw,cZ,ha,Op,mo,gE,bX a0 (show a < 1073741824 by lia)];refine bB λe e0 e1=>?_;obtain⟨k,hk⟩:∃k:Nat,1+e=(k:Int):=⟨(1+e).toNat,by lia⟩;have hw:uA [PV.str "a",PV.str "ab",PV.str "b",PV.str "ba",PV.str "c",PV.str "zzzzzzzz",PV.str "d",PV.str "aa"] ce (am (k:Int))=(sj.take k).map PV.str:=by
  rw[VV _ (show k<=8 by lia),FX];rfl
 have hl:(sj.take k).length=k:=by rw[Ci];show min k 8=k;lia
 have OP:sj.take k≠[]:=λz=>by rw[z]at hl;simp at hl;lia
 have ep:∀i:Int,part (.int i)=.ret (am i):=λi=>rfl;simp only[cW,lw,f8,hk,ep,mo,hw];refine kB OP ∅ λt ht=>?_;have htl:t.aw.length=k:=by rw[ht.length_eq,hl]
 simp only[lw,f8,bX b0 (show b<1073741824 by lia)];refine bB λf f0 f1=>?_;obtain⟨m,hm⟩:∃m:Nat,1+f=(m:Int):=⟨(1+f).toNat,by lia⟩;simp only[cW,mo,hm,hJ,sw (cS (i:=0) (j:=(m:Int)) ∅ ∅),Ca];refine pC (S:=λv=>∃w∈sj.take k,v=PV.str w) (λx _ R r=>xM (by simpa using OP) (by rw[Aj];lia) λv hv=>r v (let ⟨w,h1,h2⟩:=Au.mp hv;⟨w,h1,h2.symm⟩)) λms ZQ hs=>?_;obtain⟨us,rfl,hu⟩:=tj hs;rw[gk,Aj]at ZQ;refine kB (λz=>by rw[z]at ZQ;simp at ZQ;lia) ∅ λs hp=>?_;exact q t s (ht.nodup_iff.mpr (List.Nodup.sublist (DC _ _) (by decide +kernel))) ∅ (λw h=>FO (ht.mem_iff.mp h)) (λw h=>ht.mem_iff.mpr (hu w (hp.mem_iff.mp h))) (by rw[hp.length_eq];lia)
theorem jl:∀(n:Nat) (t:Tr),t.depth<n->t.size<=400->(aZ n t.pv).le (.ret ((t.nd 0).map Ent.pv))
 |0,_,h,_=>by lia
 |n+1,.leaf w,_,_=>λQ q=>by
  unfold aZ;simp[Tr.pv];exact q
 |n+1,.node a b,h,hz=>λQ q=>by
  have hs:(Tr.node a b).size=a.size+b.size+1:=rfl;have hpa:=a.size_pos;have hpb:=b.size_pos;have hd:a.depth<n/\b.depth<n:=by simp[Tr.depth]at h;lia
  unfold aZ;have i0:fC [a.pv,b.pv] 0=am a.pv:=rfl;have i1:fC [a.pv,b.pv] 1=am b.pv:=rfl;simp only[Tr.pv,lw,f8,lG,lF,d8,AM,if_false,aK,cZ,i0,i1,Op];refine W.le.use (jl n a hd.1 ∅) ?_;simp only[mo];refine W.le.use (jl n b hd.2 ∅) ?_;simp only[mo,bA];refine cD (λi s=>s=(((b.nd 0).take i).map (Yi a.size)).map Ent.pv) (by simp) (λi x s hx hs=>?_) (λs hs=>?_)
  .subst hs;rw[Af]at hx;cases e:(b.nd 0)[i]? with
   |none=>rw[e]at hx;cases hx
   |some en=>
    rw[e]at hx;have ex:=Option.some.inj hx;subst ex;have hi:i<b.size:=by have:=(Ai.mp e).1;rw[b.bJ]at this;exact this
    have et:(b.nd 0).take (i+1)=(b.nd 0).take i++[en]:=by rw[C1,e];rfl
    have al:∀y,eA ((((b.nd 0).take i).map (Yi a.size)).map Ent.pv) y=.ret ((((b.nd 0).take i).map (Yi a.size)).map Ent.pv++[y]):=λy=>cM (by simp;lia);cases en with
    |word w=>
     simp only[Ent.pv,lw,f8,rT,rS,d8,al,mo,et,if_true];simp[Yi,Ent.pv]
    |pair u v=>
     have j0:fC [PV.int (u:Int),PV.int (v:Int)] 0=am (.int u):=rfl;have j1:fC [PV.int (u:Int),PV.int (v:Int)] 1=am (.int v):=rfl;simp only[Ent.pv,lw,f8,lG,lF,d8,AM,if_false,aK,cZ,j0,j1,Op,cW,jt,Aj,a.bJ,al,mo,et];simp[Yi,Ent.pv]
  .subst hs;rw[BX (by rw[Aj];exact Al _)];have es:(b.nd 0).map (Yi a.size)=b.nd a.size:=by rw[<- Ji b 0 a.size,AW]
   rw[es];simp only[lw,f8,hU,yL,jt,cW,Aj,a.bJ,b.bJ,mo,gI (l:=(a.nd 0).map Ent.pv) (m:=(b.nd a.size).map Ent.pv) (by simp[a.bJ,b.bJ];lia)];rw[gI (by simp[a.bJ,b.bJ];lia)];have e:(Tr.node a b).nd 0=a.nd 0++b.nd a.size++[.pair (a.size-1) (a.size+b.size-1)]:=by rw[Tr.nd];simp
   rw[e]at q;have e1:((a.size:Int)-1)=((a.size-1:Nat):Int):=by lia
   have e2:((a.size:Int)+(b.size:Int)-1)=((a.size+b.size-1:Nat):Int):=by lia
   rw[e1,e2];simpa[Ent.pv]using q
theorem VW(ds:O Int)(i j:Option Int):∃es:O Int,uA (ds.map PV.int) i j=es.map PV.int/\es.length<=ds.length:=by
 unfold uA;rw[<- List.map_drop,<- FX];exact⟨_,rfl,by rw[Ci,C6];lia⟩
def V1(B:Int):PV->Option PV
 |.int c=>if B<=c then am (.int c) else ce
 |_=>ce
theorem Hv(B:Int):∀es:O Int,∃ms:O Int,(es.map PV.int).filterMap (V1 B)=ms.map PV.int
 |[]=>⟨[],rfl⟩
 |c::es=>by
  obtain⟨ms,h⟩:=Hv B es;rw[Av,AJ,h];by_cases k:B<=c
  .exact⟨c::ms,by simp[V1,k]⟩
  .exact⟨ms,by simp[V1,k]⟩
theorem Qi{Q:O PV->Prop}(q:∀s:Int,Q [.hand,.int s,.int 0]):(fY (.cl (ns.map PV.int))).run Q:=by
 obtain⟨es,he,_⟩:=VW ns ce (am 63);have ep:∀i:Int,part (.int i)=.ret (am i):=λi=>rfl;have p1:OE 10 30:=⟨by decide,by decide,by decide⟩;have p2:OE 10 18:=⟨by decide,by decide,by decide⟩;have m1:(0:Int)<10 ^ (30:Int).toNat:=by decide +kernel
 unfold fY;simp only[lw,f8,jt,cW,hU,ep,mo,he];refine cD (λi s=>∃k:Int,s=.int k) ⟨_,rfl⟩ (λi x s hx hs=>?_) (λs hs=>?_)
 .obtain⟨k,rfl⟩:=hs;rw[Af]at hx;cases e:es[i]? with
  |none=>rw[e]at hx;cases hx
  |some c=>
   rw[e]at hx;have:=Option.some.inj hx;subst this;simp only[lw,yM,sw (mulR (a:=k) (b:=999979) ∅),J3,sw p1,aae,sw m1,cW,sw (show(0:Int)<2305843009213693951 by decide),mo];exact⟨_,rfl⟩
 .obtain⟨k,rfl⟩:=hs;refine WU (V1 ((10:Int) ^ (18:Int).toNat)) (λx hx=>?_) ?_
  .obtain⟨c,hc,rfl⟩:=Au.mp hx;simp only[lw,J3,sw p2,adW,cL];by_cases h:(10:Int) ^ (18:Int).toNat<=c
   .rw[decide_eq_true h];show _=ca (if _ then _ else _);rw[if_pos h];rfl
   .rw[decide_eq_false h];show _=ca (if _ then _ else _);rw[if_neg h];rfl
  .have:=Hv ((10:Int) ^ (18:Int).toNat) es;simp only[lw,W.Li,mo];exact⟨this,q k⟩
theorem Gs(q:∀ps:O Int,ps.length=4->(∀p∈ps,0<=p/\p<=10 ^ 29)->Q (.tup (bx ps))):dr.run Q:=by
 unfold dr;have p2:OE 10 25:=⟨by decide,by decide,by decide⟩;simp only[f8,mo,hJ,sw (cS (i:=0) (j:=4) ∅ ∅)];refine ue (λi s=>∃ps:O Int,s=bx ps/\ps.length=i/\∀p∈ps,0<=p/\p<=10 ^ 29) ⟨[],rfl,rfl,by simp⟩ ?_ ?_
 .rintro i s hi ⟨ps,rfl,hl,hp⟩;simp only[lw,f8,mo,J3,sw p2,bX (show(0:Int)<9 by decide) ⋯];refine bB λa a0 a1=>?_;simp only[cW,mo,lw,f8,bX (show(0:Int)<10 by decide) ⋯];refine bB λb b0 b1=>?_;simp only[mo,lw,f8,bX (show(0:Int)<1001 by decide) ⋯];refine bB λc c0 c1=>?_;refine xM (by simp) (by simp) λx hx=>?_;obtain⟨v,rfl,hv⟩:∃v:Int,x=.int v/\0<=v/\v<=10 ^ 29:=by
   simp at hx;rcases hx with rfl|rfl|rfl|rfl|rfl|rfl|rfl|rfl|rfl
   all_goals first|exact⟨_,rfl,by lia⟩|exact⟨_,rfl,by have:=(by decide +kernel);simp at this;lia⟩
  rw[cM (by rw[fo];lia)];exact⟨ps++[v],by simp[bx],by simp[hl],λp h=>by rcases AX.mp h with h|h;exact hp p h;rw[Aw.mp h];exact hv⟩
 .rintro s ⟨ps,rfl,hl,hp⟩;exact q ps hl hp
variable{a b:Tr}{o:Nat}
theorem Gx(xs:List α):kj xs ce ce (am (-1))=xs.reverse:=by
 have hb:v4 ce ce (am (-1)) xs.length=((xs.length:Int)-1,-1,-1):=rfl;have hr:sliceRange ((xs.length:Int)-1) (-1) (-1)=(Ar xs.length).map λk=>xs.length-1-k:=by
  unfold sliceRange;have e:(if (-1:Int) > 0 then (if (xs.length:Int)-1 < -1 then (-1-((xs.length:Int)-1) + -1-1) / -1 else 0) else (if (xs.length:Int)-1 > -1 then ((xs.length:Int)-1 - -1 - -1-1) / (- -1) else 0))=(xs.length:Int):=by
   rw[if_neg ⋯]
   split
   .rw[show(- -1:Int)=1 from rfl,Int.ediv_one];lia
   .omega
  simp only[e,Ca];exact Bp λk hk=>by have:=AQ.mp hk;lia
 unfold kj;rw[hb];simp only[hr];apply B9;intro i;have key:∀n,n<=xs.length->((Ar n).map λk=>xs.length-1-k).filterMap (xs[·]?)=(Ar n).filterMap λk=>xs.reverse[k]?:=λn hn=>by
  rw[List.filterMap_map];exact Hs λk hk=>by
   have:=AQ.mp hk;show xs[xs.length-1-k]?=_;rw[DN ∅]
 rw[key _ (Al _)];have all:∀(ys:List α),(Ar ys.length).filterMap (λk=>ys[k]?)=ys:=λys=>by
  induction ys with
  |nil=>rfl
  |cons y ys ih=>
   rw[Aq,DG,AJ];simp only[List.getElem?_cons_zero,List.filterMap_map];congr 1
 rw[show xs.length=xs.reverse.length by simp,all]
def At(t s:Tr)(o:Nat):Prop:=o+s.size<=t.size/\∀j,j<s.size->en t 0 (o+j)=en s o j
theorem At.l(h:At t (.node a b) o):At t a o:=by
 have hs:(Tr.node a b).size=a.size+b.size+1:=rfl;refine⟨by have:=h.1;lia,λj hj=>?_⟩;rw[h.2 j ∅,en,if_pos hj]
theorem At.r(h:At t (.node a b) o):At t b (o+a.size):=by
 have hs:(Tr.node a b).size=a.size+b.size+1:=rfl;refine⟨by have:=h.1;lia,λj hj=>?_⟩;rw[A6,h.2 (a.size+j) ∅,en,if_neg ∅,if_pos ∅,Dp]
theorem At.top(h:At t (.node a b) o):en t 0 (o+a.size+b.size)=.pair (o+a.size-1) (o+a.size+b.size-1):=by
 have hs:(Tr.node a b).size=a.size+b.size+1:=rfl;rw[A6,h.2 (a.size+b.size) ∅,en,if_neg ∅,if_neg ∅,A6]
abbrev FT:=O (Tr×Nat)
def rt(x:Tr×Nat):Nat:=x.2+x.1.size-1
def pG(x:Tr×Nat):O Nat:=(Ar x.1.size).map (x.2+·)
def Ri(a b:Tr)(o:Nat):(pG (.node a b,o)).Perm ((o+a.size+b.size)::(pG (a,o)++pG (b,o+a.size))):=by
 have hs:(Tr.node a b).size=a.size+b.size+1:=rfl;have e:pG (.node a b,o)=(pG (a,o)++pG (b,o+a.size))++[o+a.size+b.size]:=by
  unfold pG;simp only[hs];rw[Di,Az,List.range_add,Az,AO];simp[Function.comp_def,A6]
 rw[e];exact BI
structure Wk(t:Tr)(fs:FT)(pp:List Nat):Prop where
 pm:(fs.flatMap pG++pp).Perm (Ar t.size)
 at':∀x∈fs,At t x.1 x.2
 od:(pp.filter λk=>jS (en t 0 k)).Pairwise λx y=>∀a b,en t 0 y=.pair a b->x≠a/\x≠b
variable{fs:FT}{pp:O Nat}
theorem Wk.lt(h:Wk t fs pp):fs.length+pp.length<=t.size:=by
 have:=h.pm.length_eq;rw[Ak,Bs]at this;have:∀l:FT,l.length<=(l.flatMap pG).length:=λl=>by
  induction l with
  |nil=>simp
  |cons x l ih=>
   have:=x.1.size_pos;rw[List.flatMap_cons,Ak,Aq];have:(pG x).length=x.1.size:=by unfold pG;simp
   lia
 have:=this fs;lia
def Hr{l:FT}{x:Tr×Nat}(h:l[j]?=am x):(pG x++(l.eraseIdx j).flatMap pG).Perm (l.flatMap pG):=by
 induction l generalizing j with
 |nil=>simp at h
 |cons a l ih=>cases j with
  |zero=>simp at h;subst h;simp
  |succ j=>
   simp;have:=(ih (by simpa using h)).append_left (pG a);refine List.Perm.trans ?_ this;rw[<- AD,<- AD];exact BI.append_right _
def Wk.leaf(h:Wk t fs pp)(hj:fs[j]?=am (.leaf w,o)):en t 0 o=.word w/\Wk t (fs.eraseIdx j) (pp++[o]):=by
 have ha:=h.at' _ (AU hj);have e:en t 0 o=.word w:=ha.2 0 (Nat.zero_lt_one);refine⟨e,?_,λx hx=>h.at' x (ES hx),?_⟩
 .have:=(Hr hj).symm.append_right pp;refine List.Perm.trans ?_ (this.symm.trans h.pm);have e:pG (.leaf w,o)=[o]:=by unfold pG;rfl
  rw[e,<- AD];refine List.Perm.trans BI ?_;rw[AD]
 .rw[Cm];have:[o].filter (λk=>jS (en t 0 k))=[]:=by simp[e,jS]
  rw[this,Cq];exact h.od
theorem Wk.node(h:Wk t fs pp)(hj:fs[j]?=am (.node a b,o)):en t 0 (o+a.size+b.size)=.pair (o+a.size-1) (o+a.size+b.size-1)/\Wk t (fs.eraseIdx j++[(a,o),(b,o+a.size)]) (pp++[o+a.size+b.size]):=by
 have ha:=h.at' _ (AU hj);have e:=ha.top;have pa:=a.size_pos;have pb:=b.size_pos;refine⟨e,?_,λx hx=>?_,?_⟩
 .have h1:=(Hr hj).symm.append_right pp;refine List.Perm.trans ?_ (h1.symm.trans h.pm);rw[Ee];have e2:[(a,o),(b,o+a.size)].flatMap pG=pG (a,o)++pG (b,o+a.size):=by simp
  rw[e2];have:=Ri a b o;generalize pG (.node a b,o)=I at *;generalize pG (a,o)++pG (b,o+a.size)=J at *;generalize (fs.eraseIdx j).flatMap pG=F at *;generalize o+a.size+b.size=k at *;refine List.Perm.trans ?_ ((this.append_right F).append_right pp).symm;show((F++J)++(pp++[k])).Perm ((k::(J++F))++pp);rw[<- AD];refine List.Perm.trans BI ?_;show(k::((F++J)++pp)).Perm (k::((J++F)++pp));exact(BI.append_right pp).cons k
 .rcases AX.mp hx with hx|hx
  .exact h.at' x (ES hx)
  .simp at hx;rcases hx with rfl|rfl
   .exact ha.l
   .exact ha.r
 .rw[Cm];have:[o+a.size+b.size].filter (λk=>jS (en t 0 k))=[o+a.size+b.size]:=by simp[e,jS]
  rw[this,D6];refine⟨h.od,List.pairwise_singleton _ _,λx hx y hy u v ey=>?_⟩;rw[Aw]at hy;subst hy;rw[e]at ey;injection ey with e1 e2;have nd:=(h.pm.nodup_iff.mpr EY);have hxp:=(A3.mp hx).1;have dj:=(CW.mp nd).2.2;have mi:∀k,k<a.size+b.size->o+k∈fs.flatMap pG:=λk hk=>List.mem_flatMap.mpr ⟨_,AU hj,Au.mpr ⟨k,AQ.mpr (by show k<a.size+b.size+1;lia),rfl⟩⟩;refine⟨λz=>?_,λz=>?_⟩
  .have:=mi (a.size-1) ∅;exact dj _ this x hxp ∅
  .have:=mi (a.size+b.size-1) ∅;exact dj _ this x hxp ∅
abbrev M5(t:Tr)(pp:O Nat):O Nat:=pp.filter λk=>jS (en t 0 k)
theorem Zf(f:α->β):∀(l:List α) (j:Nat),(l.map f).eraseIdx j=(l.eraseIdx j).map f
 |[],_=>by simp
 |_::l,0=>by simp
 |_::l,j+1=>by simp[Zf f l j]
def Jj(l:O Nat)(j:Nat):(aJ l).eraseIdx j=aJ (l.eraseIdx j):=Zf _ l j
theorem Kq(t:Tr)(hz:t.size<=60)(hd:t.depth<12)(q:∀ds d,Dt t ds [] d->d<=13*((splits t).length:Int)->Q (.tup (bx ds))):(cJ t.pv).run Q:=by
 have tp:=t.size_pos;unfold cJ;have e1:TY [PV.int 0] (.int (t.size:Int))=.ret (bx (Ao t.size 0)):=by
  rw[aaa,sw ⟨by lia,by lia,bO (by simp;lia)⟩];congr 1;rw[Ca]
  induction t.size with
  |zero=>rfl
  |succ n ih=>rw[Dc,EI,ih];rfl
 simp only[lw,f8];refine W.le.use (jl 12 t hd ∅) ?_;simp only[lw,jt,e1,mo,yL,f8,Aj,t.bJ];refine sk (λn s=>∃(fs:FT) (pp:O Nat),s=(aJ (fs.map rt),aJ (M5 t pp))/\Wk t fs pp/\n+pp.length=t.size) (n:=t.size) ∅ ⟨[(t,0)],[],?_,⟨?_,?_,?_⟩,rfl⟩ ?_
 .have:((t.size:Int)-1)=((t.size-1:Nat):Int):=by lia
  rw[this];simp[aJ,rt]
 .have:pG (t,0)=Ar t.size:=by unfold pG;simp
  simp[this]
 .intro x hx;rw[Aw]at hx;subst hx;exact⟨by simp,λj hj=>by simp⟩
 .exact List.Pairwise.nil
 .rintro n s ⟨fs,pp,rfl,hW,hn⟩;have gC:=hW.lt;have ē:(aJ (fs.map rt)).length=fs.length:=by rw[iQ,Aj]
  simp only[lw,mo];cases NT:fs with
  |nil=>
   subst NT;have hp:pp.Perm (Ar t.size):=by simpa using hW.pm
   have NP:(M5 t pp).Perm (splits t):=hp.filter _;have Ĳ:=hW.od;have hnd:(M5 t pp).Nodup:=NP.nodup_iff.mpr (List.Nodup.sublist List.filter_sublist EY);generalize hO:M5 t pp=od at *;have Ĳ:od.Pairwise λx y=>∀a b,en t 0 y=.pair a b->x≠a/\x≠b:=hO▸Ĳ;have ep:∀i:Int,part (.int i)=.ret (am i):=λi=>rfl;have er:IL (aJ od) ce ce (am (-1))=.ret (aJ od.reverse):=by
    unfold IL;rw[sw ⋯,Gx];unfold aJ;rw[EZ]
   have Ă:nR (PV.int 1)=.ret (.int (-1)):=rfl;have OP:(aJ ([]:O Nat))=[]:=rfl;simp only[Fd,OP,List.isEmpty_nil,Bool.not_true,AM,if_false,lw,f8,mo,e1,Ă,ep,er,jt];refine cD (λi s=>∃ds d left,s=(bx ds,PV.int d)/\Dt t ds left d/\(∀x,x∈left↔x∈od.take (od.length-i))/\d<=13*(i:Int)) ⟨_,0,_,rfl,Dt.first t,λx=>by rw[Fb,DV];exact NP.mem_iff.symm,by lia⟩ (λi x s hx hs=>?_) (λs hs=>?_)
   .obtain⟨ds,d,left,rfl,D,hm,Vj⟩:=hs;obtain⟨k,hk,rfl⟩:=QE hx;have hi:i<od.length:=by have:=(Ai.mp hk).1;simpa using this
    rw[DN hi]at hk;have e0:od.length-i=(od.length-1-i)+1:=by lia
    have e9:od.length-(i+1)=od.length-1-i:=by lia
    rw[e0]at hm;have et:od.take (od.length-1-i+1)=od.take (od.length-1-i)++[k]:=by rw[C1,hk];rfl
    rw[et]at hm;generalize od.length-1-i=m at *;have hkl:k∈left:=(hm k).mpr (by simp);obtain⟨ks,kp⟩:=D.lft k hkl;have nd2:(od.take m++[k]).Nodup:=et▸List.Nodup.sublist (DC _ _) hnd;have pw2:(od.take m++[k]).Pairwise λx y=>∀a b,en t 0 y=.pair a b->x≠a/\x≠b:=et▸List.Pairwise.sublist (DC _ _) Ĳ;cases ek:en t 0 k with
    |word w=>rw[ek]at kp;cases kp
    |pair a b=>
     obtain⟨ha,hb⟩:=dI t ks ek;have no:∀c,(c=a\/c=b)->c∉left:=λc hc hcl=>by
      rcases AX.mp ((hm c).mp hcl) with z|z
      .have:=(D6.mp pw2).2.2 c z k (by simp) a b ek;rcases hc with rfl|rfl
       .exact this.1 rfl
       .exact this.2 rfl
      .rw[Aw]at z;rcases hc with rfl|rfl<;>lia
     simp only[lw,f8,mo,cW];refine xM (by simp) (by simp) λx hx=>?_;obtain⟨v,rfl,v0,v1⟩:∃v:Int,x=.int v/\0<=v/\v<=12:=by
      simp at hx;rcases hx with rfl|rfl|rfl
      all_goals exact⟨_,rfl,by decide,by decide⟩
     simp only[cW,mo,lw,rq (k:=k) (by rw[fo,D.len];exact ks),Rl];refine⟨_,_,_,rfl,D.next hkl ek (no a (.inl rfl)) (no b (.inr rfl)) v0,λx=>?_,by lia⟩;rw[lY D.ris,hm x,e9];have kn:k∉od.take m:=λz=>(CW.mp nd2).2.2 k z k (by simp) rfl
     constructor
     .rintro⟨z,nk⟩;rcases AX.mp z with z|z
      .exact z
      .exact absurd (Aw.mp z) nk
     .intro z;exact⟨BS _ z,λy=>kn (y▸z)⟩
   .obtain⟨ds,d,left,rfl,D,hm,Vj⟩:=hs;rw[iQ,CA]at hm Vj;have:left=[]:=List.eq_nil_iff_forall_not_mem.mpr λx hx=>by
     have:=(hm x).mp hx;simp at this
    subst this;rw[<- NP.length_eq]at q;show(ka (bx ds)).run Q;exact q ds d D Vj
  |cons x0 fr=>
   have OP:0<fs.length:=by rw[NT];simp
   rw[<- NT];have hem:(aJ (fs.map rt)).isEmpty=false:=by
    rw[List.isEmpty_eq_false_iff];intro z;rw[z]at ē;simp at ē;lia
   rw[hem];simp only[Bool.not_false,if_true,lw,f8,yN,ē,mo,bX (show(0:Int)<fs.length by lia) ∅];refine bB λd d0 d1=>?_;obtain⟨j,rfl⟩:∃j:Nat,d=(j:Int):=⟨d.toNat,by lia⟩;obtain⟨x,hx⟩:∃x,fs[j]?=am x:=⟨_,Ad ∅⟩;have hat:=hW.at' _ (AU hx);have xs:=x.1.size_pos;have hrt:rt x<t.size:=by unfold rt;have:=hat.1;lia
   simp only[sM (l:=aJ (fs.map rt)) (j:=j) (v:=.int (rt x:Int)) (by unfold aJ;rw[Af,Af,hx];rfl) (by rw[ē];lia),mo,bA,cZ,Zc t hrt,Op,lw,f8,Jj];have em:(fs.map rt).eraseIdx j=(fs.eraseIdx j).map rt:=Zf _ _ _;have cU:(M5 t pp).length<=pp.length:=Bf _ _;obtain⟨s,o⟩:=x;cases s with
   |leaf w=>
    obtain⟨e,W'⟩:=hW.leaf hx;have Ł:rt (.leaf w,o)=o:=rfl;simp only[Ł,e,Ent.pv,rT,rS,d8,lw,mo];refine⟨n-1,by lia,fs.eraseIdx j,pp++[o],?_,W',by simp;lia⟩;rw[em];have:M5 t (pp++[o])=M5 t pp:=by simp[M5,Cm,e,jS]
    rw[this]
   |node a b=>
    obtain⟨e,W'⟩:=hW.node hx;have Ł:rt (.node a b,o)=o+a.size+b.size:=by show o+(a.size+b.size+1)-1=_;lia
    have ap:=a.size_pos;have bp:=b.size_pos;have al:eA (aJ (M5 t pp)) (.int ((o+a.size+b.size:Nat):Int))=.ret (aJ (M5 t pp)++[.int ((o+a.size+b.size:Nat):Int)]):=cM (by rw[iQ];lia);have cl:lT (aJ ((fs.map rt).eraseIdx j)) [.int ((o+a.size-1:Nat):Int),.int ((o+a.size+b.size-1:Nat):Int)]=.ret (aJ ((fs.map rt).eraseIdx j)++[.int ((o+a.size-1:Nat):Int),.int ((o+a.size+b.size-1:Nat):Int)]):=gI (by rw[iQ,D7];simp;split<;>lia);simp only[Ł,e,Ent.pv,lG,lF,d8,lw,mo,al,cl,aK];refine⟨n-1,by lia,fs.eraseIdx j++[(a,o),(b,o+a.size)],pp++[o+a.size+b.size],?_,W',by simp;lia⟩;have e2:M5 t (pp++[o+a.size+b.size])=M5 t pp++[o+a.size+b.size]:=by simp[M5,Cm,e,jS]
    rw[em,e2];simp[aJ,rt]
def Mg(g:O Sy)(ps:O Int)(t:Tr)(a b j i:Nat):O Dd:=match qX g ps t j i with
 |none=>[]
 |some v=>(dl g i).filter λd=>decide (kS ps (qX g ps t) a b d=am v)
variable{a b:Nat}{Q:O PV->Prop}{D dd ss:O PV}
def KY(g:O Sy)(ps:O Int)(t:Tr)(w:Str)(j i:Nat):Bool:=hm g i w&&decide (qX g ps t j i=am 0)
def zU(g:O Sy)(ps:O Int)(t:Tr)(j i:Nat):O Nat:=match qX g ps t j i with
 |none=>[]
 |some v=>(sy g i).un.filter λu=>decide (kd [am (km g ps i),qX g ps t j u]=am v)
def Xr:PV:=.tup [.str "found",.tup []]
def OZ(g:O Sy)(ps:O Int)(t:Tr)(j i:Nat)(D:O PV):Prop:=match en t 0 j with
 |.word w=>D=if KY g ps t w j i=true then [Xr] else []
 |.pair a b=>∃ds:O Dd,D=ds.map d2/\ds.Perm (Mg g ps t a b j i)
section
theorem G1(G:WG g ws)(p4:ps.length=4)(hj:j<t.size)(hi:i<g.length)(q:∀D,OZ g ps t j i D->Q D):(dh (lP g) (.tup (bx ps)) (.tup (rP (bj g ps (t.nd 0) t.size))) (.int (j:Int)) (en t 0 j).pv (.int (i:Int))).run Q:=by
 have Wd:=eH g ps (t.nd 0) t.size;have h1:=P5 Wd hj hi;simp only[lw]at h1;unfold dh;simp only[lw,f8,aK,h1,mo];cases hv:rg (bj g ps (t.nd 0) t.size) j i with
 |none=>
  simp;refine q [] ?_;have SX:qX g ps t j i=ce:=hv;unfold OZ Mg KY;rw[SX];cases en t 0 j with
  |word w=>simp
  |pair a b=>exact⟨[],rfl,.refl _⟩
 |some v=>
  have SX:qX g ps t j i=am v:=hv;simp only[oP,um,PV.jL,cL,mo,AM,if_false,f8];have gC:=Hz t hj;cases e:en t 0 j with
  |word w=>
   have fin:∀D,(D=if KY g ps t w j i=true then [Xr] else [])->Q D:=λD h=>q D (by unfold OZ;rw[e];exact h);unfold dC;simp only[Ent.pv,lw,f8,rT,rS,d8,mo,if_true,LZ G hi];cases h:hm g i w with
   |false=>
    simp;exact fin [] (by simp[KY,h])
   |true=>
    simp;have ef:bL (.tup (bx ps)) (.tup (rP (bj g ps (t.nd 0) t.size))) (.str w) (.tup [.str "found",.tup []])=.ret (.int 0):=by
     unfold bL;have i0:fC [PV.str "found",PV.tup []] 0=am (.str "found"):=rfl;have i1:fC [PV.str "found",PV.tup []] 1=am (.tup []):=rfl;have hv:bP (.str w)=.ret (.tup []):=gm (.word w);have ez:uV [] []=.ret []:=sw (by simp);have ec:lT [PV.int 0] []=.ret ([am 0].map oP):=by rw[gI (by simp)];rfl
     simp only[lw,hv,aK,cZ,i0,i1,Op,ez,a6,p0,hU,ec,iI];rfl
    simp only[mo,jV,lw,ef,mT,cL,f8];by_cases c:v=0
    .subst c;exact fin _ (by simp[KY,h,SX,Xr])
    .have c2:((0:Int)==v)=false:=by simp;lia
     rw[c2];exact fin _ (by simp[KY,h,SX,c])
  |pair a b=>
   rw[e]at gC;have gC:a<j/\b<j:=gC;refine wL G hi λm hm=>?_;obtain⟨ds,rfl,hp⟩:∃ds:O Dd,m=ds.map d2/\ds.Perm (dl g i):=sN hm rfl;refine pD (λd=>decide (kS ps (qX g ps t) a b d=am v)) (λd hd=>?_) ?_
   .have þ:=hp.mem_iff.mp hd;obtain⟨x1,x2⟩:=uw G hi þ;have hc:bL (.tup (bx ps)) (.tup (rP (bj g ps (t.nd 0) t.size))) (Ent.pair a b).pv (d2 d)=.ret (oP (kS ps (qX g ps t) a b d)):=wM p4 Wd (show a<t.size by lia) (show b<t.size by lia) (XB þ) x1 x2;simp only[lw,hc,RU,cL];cases decide (kS ps (qX g ps t) a b d=am v)<;>rfl
   .refine q _ ?_;unfold OZ Mg;rw[e,SX];exact⟨_,rfl,hp.filter _⟩
theorem GU(G:WG g ws)(p4:ps.length=4)(hj:j<t.size)(hi:i<g.length)(q:∀S:O Nat,S.Perm (zU g ps t j i)->Q (aJ S)):(dg (lP g) (.tup (bx ps)) (.tup (((bj g ps (t.nd 0) t.size).getD j []).map oP)) (.int (i:Int))).run Q:=by
 have hr:=(eH g ps (t.nd 0) t.size).row j hj;have ix:∀u,u<g.length->rL (((bj g ps (t.nd 0) t.size).getD j []).map oP) (.int u)=.ret (oP (qX g ps t j u)):=λu hu=>cB (by
  rw[Af,Ad ∅];unfold qX rg;rw[Ah (l:=(bj g ps (t.nd 0) t.size).getD j []),Ad ∅];rfl)
 unfold dg;simp only[lw,f8,aK,ix i hi,mo];cases hv:qX g ps t j i with
 |none=>
  simp;exact q [] (by unfold zU;rw[hv])
 |some v=>
  have q9:=G.q9 i hi;obtain⟨m,hp,hs⟩:=MW (sy g i).un;have es:kf (aJ (sy g i).un)=.ret (aJ m):=by
   unfold kf;rw[v9,eU];show W.dN _ _=_;rw[sw (by rw[Aj];lia),hs,<- v9]
  simp only[oP,um,PV.jL,cL,mo,if_false,f8,Qr p4 hi,j9 hi,N3,es,lw];refine pD (λu=>decide (kd [am (km g ps i),qX g ps t j u]=am v)) (λu hu=>?_) ?_
  .have ã:=G.dn i hi u (hp.mem_iff.mp hu);have e:[PV.int (km g ps i),oP (qX g ps t j u)]=[am (km g ps i),qX g ps t j u].map oP:=rfl;simp only[ix u ∅,lw,e,iI,ix i hi,hv];rw[RU];simp only[lw,cL];cases decide (kd [am (km g ps i),qX g ps t j u]=am v)<;>rfl
  .refine q _ ?_;unfold zU;rw[hv];exact hp.filter _
structure LX(g:List Sy)(ps:List Int)(t:Tr)(k:Nat)(dd ss:List PV):Prop where
 l1:dd.length=k
 l2:ss.length=k
 at':∀j,j<k->∃r r':List PV,dd[j]?=am (.cl r)/\ss[j]?=am (.cl r')/\r.length=g.length/\r'.length=g.length/\∀i,i<g.length->∃D S,r[i]?=am (.cl D)/\r'[i]?=am (.cl (aJ S))/\OZ g ps t j i D/\S.Perm (zU g ps t j i)
theorem LX.snoc(h:LX g ps t k dd ss){r r':O PV}(l1:r.length=g.length)(l2:r'.length=g.length)(hr:∀i,i<g.length->∃D S,r[i]?=am (.cl D)/\r'[i]?=am (.cl (aJ S))/\OZ g ps t k i D/\S.Perm (zU g ps t k i)):LX g ps t (k+1) (dd++[.cl r]) (ss++[.cl r']):=by
 refine⟨by simp[h.l1],by simp[h.l2],λj hj=>?_⟩;by_cases c:j<k
 .obtain⟨a,a',h1,h2,h3⟩:=h.at' j c;exact⟨a,a',by rw[AH (by rw[h.l1];exact c)];exact h1,by rw[AH (by rw[h.l2];exact c)];exact h2,h3⟩
 .have:j=k:=by lia
  subst this;refine⟨r,r',?_,?_,l1,l2,hr⟩
  .rw[AV (by rw[h.l1];exact Al _),h.l1,Dz];rfl
  .rw[AV (by rw[h.l2];exact Al _),h.l2,Dz];rfl
def neX(g:O Sy)(ps:O Int)(t:Tr)(j i:Nat):Bool:=match en t 0 j with
 |.word w=>KY g ps t w j i
 |.pair a b=>!(Mg g ps t a b j i).isEmpty
def OZ.ne(h:OZ g ps t j i D):(!D.isEmpty)=neX g ps t j i:=by
 unfold OZ at h;unfold neX;cases e:en t 0 j with
 |word w=>
  rw[e]at h;have h:D=if KY g ps t w j i=true then [Xr] else []:=h
  subst h;show(!(if KY g ps t w j i=true then [Xr] else []).isEmpty)=KY g ps t w j i;cases KY g ps t w j i<;>rfl
 |pair a b=>
  rw[e]at h;obtain⟨ds,rfl,hp⟩:=h;have:=hp.length_eq;show(!(ds.map d2).isEmpty)=!(Mg g ps t a b j i).isEmpty;congr 1;cases ds with
  |nil=>rw[Ft]at this;rw[B7 this.symm];rfl
  |cons x l=>
   cases hx:Mg g ps t a b j i with
   |nil=>rw[hx]at this;simp at this
   |cons y m=>rfl
def Ot(g:O Sy)(ps:O Int)(t:Tr)(c:Int):O Nat:=(Ar g.length).filter λi=>decide (qX g ps t (t.size-1) i=am c)&&neX g ps t (t.size-1) i
theorem tK(G:WG g ws)(p4:ps.length=4)(hz:t.size<=400)(hc:ic (fH g ps t)=am c)(q:∀dd ss,LX g ps t t.size dd ss->Q [.tup ((t.nd 0).map Ent.pv),.cl dd,.cl ss,.cl (aJ (Ot g ps t c))]):(fm (lP g) t.pv (.tup (bx ps))).run Q:=by
 have tp:=t.size_pos;have Wd:=eH g ps (t.nd 0) t.size;have gl:=G.len;unfold fm;simp only[lw,f8];refine W.le.use (zO G p4 hz) ?_;have e1:Je gb [lP g]=.ret (.int (g.length:Int)):=by unfold lP;rw[rR,Aj]
 have e2:Yq (.int 0) (.int (g.length:Int))=.ret (aJ (Ar g.length)):=by
  show W.dN _ _=_;rw[sw ⟨⟨by lia,by lia,by lia,by lia⟩,by have:=bO (n:=g.length) ∅;lia⟩];simp[pI]
 simp only[e1,mo,e2];refine W.le.use (ko t ∅) ?_;simp only[aK,bA,mo,lw];refine⟨bO (by rw[bV];lia),?_⟩;rw[mo];refine cD (λk s=>LX g ps t k s.1 s.2) ⟨rfl,rfl,λj h=>absurd h (Nat.not_lt_zero _)⟩ (λk x s hx hI=>?_) (λs hI=>?_)
 .have hk:k<t.size:=by have:=(Ai.mp hx).1;rw[bu,bV]at this;exact this
  obtain⟨y,hy,rfl⟩:=dH hx;rw[Af,gV t 0 k hk]at hy;have hy:(en t 0 k).pv=y:=Option.some.inj hy;subst hy;rw[AW];simp only[gE,mo,f8,lw];have ixr:rL (rP (bj g ps (t.nd 0) t.size)) (.int (k:Int))=.ret (.tup (((bj g ps (t.nd 0) t.size).getD k []).map oP)):=cB (by
   unfold rP;rw[Af,Ad (by rw[Wd.len];exact hk),Ah,Ad (by rw[Wd.len];exact hk)];rfl)
  show(bn (a6 _ _) _).run _;rw[f8];refine xR (P:=λi x=>∃D,x=.cl D/\OZ g ps t k i D) (λi hi R r=>?_) λxs hl ī=>?_
  .show(bn (dh _ _ _ _ _ _) _).run _;rw[f8];exact G1 G p4 hk (AQ.mp hi) λD hD=>r _ ⟨D,rfl,hD⟩
  have l1:=hI.l1;have l2:=hI.l2;rw[cM ∅,mo];refine xR (P:=λi x=>∃S,x=.cl (aJ S)/\S.Perm (zU g ps t k i)) (λi hi R r=>?_) λys hl' hys=>?_
  .simp only[ixr,lw];show(bn (dg _ _ _ _) _).run _;rw[f8];exact GU G p4 hk (AQ.mp hi) λS hS=>r _ ⟨S,rfl,hS⟩
  rw[cM ∅,mo];refine hI.snoc (by rw[hl,Bs]) (by rw[hl',Bs]) λi hi=>?_;obtain⟨x,h1,D,rfl,hD⟩:=ī i i (A7 hi);obtain⟨y,h2,S,rfl,hS⟩:=hys i i (A7 hi);exact⟨D,S,h1,h2,hD,hS⟩
 .rw[bu,bV]at hI;obtain⟨r,r',h1,h2,_,_,h3⟩:=hI.at' (t.size-1) ∅;have acD:∀{l:O PV}{x:PV},l.length=t.size->l[t.size-1]?=am x->rL l (.int (-1))=.ret x:=λ{l x} hl hx=>by
   rw[cZ];unfold fC rN;rw[hl,if_neg ∅,if_pos ∅];show W.OK (l[(-1+(t.size:Int)).toNat]?)=_;rw[show(-1+(t.size:Int)).toNat=t.size-1 by lia,hx];rfl
  have ı:(rP (bj g ps (t.nd 0) t.size)).length=t.size:=by unfold rP;rw[Aj,Wd.len]
  have hrx:(rP (bj g ps (t.nd 0) t.size))[t.size-1]?=am (.tup ((fH g ps t).map oP)):=by
   unfold rP fH;rw[Af,Ad (by rw[Wd.len];lia),Ah,Ad (by rw[Wd.len];lia)];rfl
  have lx:∀i,i<g.length->rL ((fH g ps t).map oP) (.int (i:Int))=.ret (oP (qX g ps t (t.size-1) i)):=λi hi=>cB (by
   have:=pE (g:=g) (ps:=ps) (t:=t);rw[Af,Ad ∅];unfold qX;rw[<- tP,Ah,Ad ∅];rfl)
  simp only[RQ,mo,acD ı hrx,acD hI.l1 h1,oy,hc,lw,aK,bA];refine pD (c:=λn:Nat=>PV.int (n:Int)) (l:=Ar g.length) (λi=>decide (qX g ps t (t.size-1) i=am c)&&neX g ps t (t.size-1) i) (λi hi=>?_) (q _ _ hI);have hi:=AQ.mp hi;obtain⟨D,S,g1,g2,hD,_⟩:=h3 i hi;have e5:of2 gs (oP (qX g ps t (t.size-1) i)) (oP (am c))=.ret (.bl (decide (qX g ps t (t.size-1) i=am c))):=RU _ c;rw[<- hD.ne];simp only[lx i hi,lw,e5,cL,cB g1,Vw];cases decide (qX g ps t (t.size-1) i=am c)<;>cases D.isEmpty<;>rfl
end
section
abbrev UC(t:Tr)(dd ss:O PV)(B:O Nat):PV:=nL LN [.tup ((t.nd 0).map Ent.pv),.cl dd,.cl ss,.cl (aJ B)]
def adI(dd ss:O PV)(B:O Nat):jr "told" (UC t dd ss B)=.ret (.tup ((t.nd 0).map Ent.pv)):=by
 unfold UC nL LN jr;simp[FL.fdOf,om]
def adK(dd ss:O PV)(B:O Nat):jr "deeds" (UC t dd ss B)=.ret (.cl dd):=by
 have n1:(("deeds":Str)=="told")=false:=by decide +kernel
 unfold UC nL LN jr;simp[FL.fdOf,om,n1]
def adJ(dd ss:O PV)(B:O Nat):jr "steps" (UC t dd ss B)=.ret (.cl ss):=by
 have n1:(("steps":Str)=="told")=false:=by decide +kernel
 have n2:(("steps":Str)=="deeds")=false:=by decide +kernel
 unfold UC nL LN jr;simp[FL.fdOf,om,n1,n2]
def adL(dd ss:O PV)(B:O Nat):jr "begins" (UC t dd ss B)=.ret (.cl (aJ B)):=by
 have n1:(("begins":Str)=="told")=false:=by decide +kernel
 have n2:(("begins":Str)=="deeds")=false:=by decide +kernel
 have n3:(("begins":Str)=="steps")=false:=by decide +kernel
 unfold UC nL LN jr;simp[FL.fdOf,om,n1,n2,n3]
end
def dn(g:O Sy)(ps:O Int)(t:Tr)(M:Nat->Nat->Nat)(j i:Nat):Nat:=match en t 0 j with
 |.word w=>if KY g ps t w j i=true then 1 else 0
 |.pair a b=>((Mg g ps t a b j i).map λd=>M a d.2.1*M b d.2.2).sum
def mF(g:O Sy)(ps:O Int)(t:Tr):Nat->Nat->Nat->Nat
 |0,_,_=>0
 |n+1,j,i=>dn g ps t (mF g ps t n) j i+((zU g ps t j i).map (mF g ps t n j)).sum
def mX(g:O Sy)(ps:O Int)(t:Tr):Nat->Nat->Nat:=mF g ps t (t.size*g.length+1)
section
def y7(h:d∈Mg g ps t a b j i):d∈dl g i:=by
 unfold Mg at h
 split at h
 .cases h
 .exact(A3.mp h).1
def xo(h:u∈zU g ps t j i):u∈(sy g i).un:=by
 unfold zU at h
 split at h
 .cases h
 .exact(A3.mp h).1
theorem acI(G:WG g ws){M M':Nat->Nat->Nat}(hj:j<t.size)(hi:i<g.length)(h:∀a x,x<g.length->(a<j\/a=j/\x<i)->M a x=M' a x):dn g ps t M j i+((zU g ps t j i).map (M j)).sum=dn g ps t M' j i+((zU g ps t j i).map (M' j)).sum:=by
 have h1:(zU g ps t j i).map (M j)=(zU g ps t j i).map (M' j):=Bp λu hu=>by
  have:=G.dn i hi u (xo hu);exact h j u ∅ (.inr ⟨rfl,this⟩)
 rw[h1];congr 1;unfold dn;have gC:=Hz t hj;cases e:en t 0 j with
 |word w=>rfl
 |pair a b=>
  rw[e]at gC;have gC:a<j/\b<j:=gC;show(E1 _ _).sum=(E1 _ _).sum;congr 1;refine Bp λd hd=>?_;obtain⟨x1,x2⟩:=uw G hi (y7 hd);rw[h a d.2.1 x1 (.inl gC.1),h b d.2.2 x2 (.inl gC.2)]
theorem pj(G:WG g ws):∀(n j i:Nat),j<t.size->i<g.length->j*g.length+i<n->mF g ps t n j i=mF g ps t (n+1) j i
 |0,_,_,_,_,h=>by lia
 |n+1,j,i,hj,hi,h=>by
  rw[mF,mF];refine acI G hj hi λa x hx hc=>?_;rcases hc with hc|⟨rfl,hc⟩
  .have:(a+1)*g.length<=j*g.length:=B5 _ hc;rw[Dy]at this;exact pj G n a x ∅ hx ∅
  .exact pj G n a x hj hx ∅
theorem WR(G:WG g ws)(hj:j<t.size)(hi:i<g.length):mX g ps t j i=dn g ps t (mX g ps t) j i+((zU g ps t j i).map (mX g ps t j)).sum:=by
 have:(j+1)*g.length<=t.size*g.length:=B5 _ hj;rw[Dy]at this;have e:mX g ps t j i=mF g ps t (t.size*g.length+1+1) j i:=pj G _ j i hj hi ∅;rw[e];rfl
def SM(g:O Sy)(ps:O Int)(t:Tr):Prop:=∀j i,j<t.size->i<g.length->Builtin.Int.intBits ((mX g ps t j i:Nat):Int)<=2 ^ 20
theorem LG:∀{r:O PV} (o:Nat) (h:Nat->PV) {Q:O PV->Prop},(∀i x,r[i]?=am x->∀R:PV->Prop,R (h (o+i))->(f x).run R)->Q ((Ar r.length).map λi=>h (o+i))->(a6 r f).run Q
 |[],o,h,Q,_,q=>q
 |x::r,o,h,Q,H,q=>by
  show(bn (f x) λy=>bn (a6 r f) λm=>ca (y::m)).run Q;rw[f8];refine H 0 x rfl _ ?_;rw[f8];refine LG (o+1) h (λi y hy R hR=>H (i+1) y hy R (by rw[show o+(i+1)=o+1+i by lia];exact hR)) ?_;rw[Aq,DG,Av,AO]at q;have e:((λi=>h (o+i))∘Nat.succ)=λi=>h (o+1+i):=by funext i;show h (o+(i+1))=_;congr 1;lia
  rw[e]at q;exact q
def nI(l:O Nat):O PV:=l.map λn=>PV.int ((n:Nat):Int)
theorem ke(l:O Nat):gQ (nI l)=.ret (.int ((l.sum:Nat):Int)):=by
 have e:nI l=(l.map λn:Nat=>(n:Int)).map PV.int:=by unfold nI;rw[AO];rfl
 rw[e];unfold gQ;rw[eU];simp only[lw];congr 2
 induction l with
 |nil=>rfl
 |cons a l ih=>rw[Av,BM,ih (by unfold nI;rw[AO];rfl),BM];lia
def IU(g:O Sy)(f:Nat->Nat):PV:=.cl (nI ((Ar g.length).map f))
def Nh(g:O Sy)(ps:O Int)(t:Tr)(k:Nat):O PV:=(Ar k).map λj=>IU g (mX g ps t j)
def Sg(g:O Sy)(ps:O Int)(t:Tr)(k:Nat):O PV:=(Ar k).map λj=>IU g (dn g ps t (mX g ps t) j)
def xw{f:Nat->Nat}{x:Nat}(h:x<g.length):rL (nI ((Ar g.length).map f)) (.int (x:Int))=.ret (.int ((f x:Nat):Int)):=cB (by
 unfold nI;rw[Af,Af,A7 h];rfl)
theorem Nm(G:WG g ws)(hb:SM g ps t)(ha:a<k)(Ĕ:b<k)(hk:k<=t.size)(hi:i<g.length)(hd:d∈dl g i):dG (.cl (Nh g ps t k)) (Ent.pair a b).pv (d2 d)=.ret (.int ((mX g ps t a d.2.1*mX g ps t b d.2.2:Nat):Int)):=by
 obtain⟨x1,x2⟩:=uw G hi hd;have i1:rL [PV.str d.1,.tup [.int (d.2.1:Int),.int (d.2.2:Int)]] (.int 1)=.ret (.tup [.int (d.2.1:Int),.int (d.2.2:Int)]):=rfl;have hv:bP (Ent.pair a b).pv=.ret (.tup (aJ [a,b])):=gm (.pair a b);have ez:uV (aJ [a,b]) [PV.int (d.2.1:Int),.int (d.2.2:Int)]=.ret [.tup [.int (a:Int),.int (d.2.1:Int)],.tup [.int (b:Int),.int (d.2.2:Int)]]:=sw (bO (by simp[aJ]));have r1:rL (Nh g ps t k) (.int (a:Int))=.ret (IU g (mX g ps t a)):=cB (by unfold Nh;rw[Af,A7 ha];rfl);have r2:rL (Nh g ps t k) (.int (b:Int))=.ret (IU g (mX g ps t b)):=cB (by unfold Nh;rw[Af,A7 Ĕ];rfl);have c1:xz 1 ((mX g ps t a d.2.1:Nat):Int):=QG;have c2:xz ((mX g ps t a d.2.1:Nat):Int) ((mX g ps t b d.2.2:Nat):Int):=ET (hb a _ ∅ x1) (hb b _ ∅ x2);unfold dG d2 gj;simp only[lw,hv,aK,bA,i1,ez,a6,gE,r1,r2,IU,xw x1,xw x2,cA,yM,sw c1,Int.one_mul,sw c2];rw[Fu]
def Nl:dG (.cl (Nh g ps t k)) (.str w) Xr=.ret (.int 1):=by
 have i1:rL [PV.str "found",.tup []] (.int 1)=.ret (.tup []):=rfl;have hv:bP (.str w)=.ret (.tup []):=gm (.word w);have ez:uV [] []=.ret []:=sw (by simp);unfold dG Xr gj;simp only[lw,hv,aK,bA,i1,ez,a6,cA]
end
theorem Mj:∀l:O Nat,pR (nI l)=true
 |[]=>rfl
 |n::l=>by
  have:=Mj l;show((PV.int (n:Int)).dat&&pR (nI l))=true;rw[this];rfl
theorem nT{c F:α->PV}:∀{l:List α},(∀x∈l,f (c x)=.ret (F x))->a6 (l.map c) f=.ret (l.map F)
 |[],_=>rfl
 |x::l,h=>by
  show bn (f (c x)) _=_;rw[h x (.head _)];simp only[lw];show bn (a6 (l.map c) f) _=_;rw[nT λy hy=>h y (.tail _ hy)];rfl
theorem Gy:∀{l m:O Nat},l.Perm m->l.sum=m.sum:=λh=>by
 induction h with
 |nil=>rfl
 |cons x _ ih=>rw[BM,BM,ih]
 |swap x y l=>simp only[BM];lia
 |trans _ _ LW JP=>rw[LW,JP]
section
set_option maxHeartbeats 20000000 in
theorem done_one(G:WG g ws)(hb:SM g ps t)(hk:k<t.size)(hi:i<g.length)(hD:OZ g ps t k i D):bn (a6 D λp=>dG (.cl (Nh g ps t k)) (en t 0 k).pv p) gQ=.ret (.int ((dn g ps t (mX g ps t) k i:Nat):Int)):=by
 have gC:=Hz t hk;unfold OZ at hD;unfold dn;cases e:en t 0 k with
 |word w=>
  rw[e]at hD;have hD:D=if KY g ps t w k i=true then [Xr] else []:=hD
  subst hD;show bn (a6 _ λp=>dG _ (.str w) p) gQ=_;by_cases c:KY g ps t w k i=true
  .simp only[c,if_true,a6,Nl,lw];exact ke [1]
  .simp only[if_neg c,a6,lw];exact ke []
 |pair a b=>
  rw[e]at hD gC;have gC:a<k/\b<k:=gC;obtain⟨ds,rfl,hp⟩:=hD;rw[nT (F:=λd=>PV.int ((mX g ps t a d.2.1*mX g ps t b d.2.2:Nat):Int)) λd hd=>Nm G hb gC.1 gC.2 ∅ hi (y7 (hp.mem_iff.mp hd))];have e2:ds.map (λd=>PV.int ((mX g ps t a d.2.1*mX g ps t b d.2.2:Nat):Int))=nI (ds.map λd=>mX g ps t a d.2.1*mX g ps t b d.2.2):=by unfold nI;rw[AO];rfl
  rw[e2,lw,ke,Gy (hp.map _)]
theorem Kr(G:WG g ws)(hb:SM g ps t)(hz:t.size<=400){B:O Nat}(hL:LX g ps t t.size dd ss)(q:Q [.cl (Sg g ps t t.size),.cl (Nh g ps t t.size)]):(ku (UC t dd ss B)).run Q:=by
 have tp:=t.size_pos;have gl:=G.len;unfold ku;simp only[lw,f8,adI,aK,mo];refine⟨bO (by rw[bV];lia),?_⟩;rw[mo];refine cD (λk s=>s=(Sg g ps t k,Nh g ps t k)) rfl (λk x s hx hI=>?_) (λs hI=>?_)
 .subst hI;have hk:k<t.size:=by have:=(Ai.mp hx).1;rw[bu,bV]at this;exact this
  obtain⟨y,hy,rfl⟩:=dH hx;rw[Af,gV t 0 k hk]at hy;have hy:(en t 0 k).pv=y:=Option.some.inj hy;subst hy;rw[AW];obtain⟨r,r',h1,h2,l1,l2,h3⟩:=hL.at' k hk;have x1:rL dd (.int (k:Int))=.ret (.cl r):=cB h1;have x2:rL ss (.int (k:Int))=.ret (.cl r'):=cB h2;simp only[gE,mo,f8,lw,adK,adJ,bA,x1,x2];refine LG 0 (λi=>PV.int ((dn g ps t (mX g ps t) k i:Nat):Int)) (λi x hx R hR=>?_) ?_
  .have hi:i<g.length:=by have:=(Ai.mp hx).1;lia
   obtain⟨D,S,g1,g2,hD,hS⟩:=h3 i hi;rw[g1]at hx;have:=Option.some.inj hx;subst this;simp only[lw,bA,done_one G hb hk hi hD,mo];rw[AW]at hR;exact hR
  have er:((Ar r.length).map λi=>PV.int ((dn g ps t (mX g ps t) k (0+i):Nat):Int))=nI ((Ar g.length).map (dn g ps t (mX g ps t) k)):=by
   unfold nI;rw[AO,l1];refine Bp λi _=>?_;rw[AW];rfl
  rw[er];have et:vR (nI ((Ar g.length).map (dn g ps t (mX g ps t) k)))=.ret (nI ((Ar g.length).map (dn g ps t (mX g ps t) k))):=sw (Mj _);simp only[et,mo];refine⟨bO ∅,?_⟩;rw[mo];refine cD (λi s=>s=nI ((Ar i).map (mX g ps t k))) rfl (λi x s hx hs=>?_) (λs hs=>?_)
  .subst hs;have hi:i<g.length:=by have:=(Ai.mp hx).1;rw[bu]at this;lia
   obtain⟨y,hy,rfl⟩:=dH hx;rw[AW];obtain⟨D,S,g1,g2,hD,hS⟩:=h3 i hi;rw[g2]at hy;have:=Option.some.inj hy;subst this;have ixu:∀u∈S,rL (nI ((Ar i).map (mX g ps t k))) (.int (u:Int))=.ret (.int ((mX g ps t k u:Nat):Int)):=λu hu=>by
    have:=G.dn i hi u (xo (hS.mem_iff.mp hu));exact cB (by
     unfold nI;rw[Af,Af,A7 this];rfl)
   have em:a6 (aJ S) (λp=>rL (nI ((Ar i).map (mX g ps t k))) p)=.ret (nI (S.map (mX g ps t k))):=by
    have:=nT (c:=λn:Nat=>PV.int (n:Int)) (F:=λu=>PV.int ((mX g ps t k u:Nat):Int)) (f:=λp=>rL (nI ((Ar i).map (mX g ps t k))) p) (l:=S) ixu;refine this.trans ?_;unfold nI;rw[AO];rfl
   have al:∀y,eA (nI ((Ar i).map (mX g ps t k))) y=.ret (nI ((Ar i).map (mX g ps t k))++[y]):=λy=>cM (by unfold nI;simp;lia);simp only[gE,mo,f8,lw,bA,xw hi,em,ke,cW,al,Gy (hS.map _)];have:=WR (ps:=ps) G hk hi;rw[Di,Az];unfold nI;rw[Az];congr 1;show [PV.int _]=[PV.int ((mX g ps t k i:Nat):Int)];rw[this];congr 2
  .subst hs;rw[bu,l2];have a1:∀y,eA (Sg g ps t k) y=.ret (Sg g ps t k++[y]):=λy=>cM (by unfold Sg;simp;lia);have a2:∀y,eA (Nh g ps t k) y=.ret (Nh g ps t k++[y]):=λy=>cM (by unfold Nh;simp;lia);simp only[lw,a1,a2,mo];unfold Sg Nh;rw[Di,Az,Az];rfl
 .subst hI;rw[bu,bV];simp only[mo];exact q
end
section
def Z7(x y:PV):jr "done" (nL ["done","many"] [x,y])=.ret x:=by
 unfold nL jr;rfl
def hmX(g:O Sy)(ps:O Int)(t:Tr)(c:Int):Nat:=((Ot g ps t c).map (dn g ps t (mX g ps t) (t.size-1))).sum
theorem Hf(G:WG g ws)(p4:ps.length=4)(hz:t.size<=400)(hb:SM g ps t)(hc:ic (fH g ps t)=am c){Q:PV->Prop}(q:Q (.int ((hmX g ps t c:Nat):Int))):(eQ (lP g) t.pv (.tup (bx ps))).run Q:=by
 have tp:=t.size_pos;unfold eQ;simp only[lw,f8];refine tK G p4 hz hc λdd ss hL=>?_;simp only[lw,f8,mo];refine Kr (B:=Ot g ps t c) G hb hz hL ?_;have fb:jr "begins" (nL ["told","deeds","steps","begins"] [.tup ((t.nd 0).map Ent.pv),.cl dd,.cl ss,.cl (aJ (Ot g ps t c))])=.ret (.cl (aJ (Ot g ps t c))):=adL dd ss _;have dl:(Sg g ps t t.size).length=t.size:=by unfold Sg;simp
 have xl:rL (Sg g ps t t.size) (.int (-1))=.ret (IU g (dn g ps t (mX g ps t) (t.size-1))):=by
  rw[cZ];unfold fC rN;rw[dl,if_neg ∅,if_pos ∅];show W.OK ((Sg g ps t t.size)[(-1+(t.size:Int)).toNat]?)=_;rw[show(-1+(t.size:Int)).toNat=t.size-1 by lia];unfold Sg;rw[Af,A7 ∅];rfl
 have Ă:nR (PV.int 1)=.ret (.int (-1)):=rfl;have em:a6 (aJ (Ot g ps t c)) (λp=>rL (nI ((Ar g.length).map (dn g ps t (mX g ps t) (t.size-1)))) p)=.ret (nI ((Ot g ps t c).map (dn g ps t (mX g ps t) (t.size-1)))):=by
  have:=nT (c:=λn:Nat=>PV.int (n:Int)) (F:=λu=>PV.int ((dn g ps t (mX g ps t) (t.size-1) u:Nat):Int)) (f:=λp=>rL (nI ((Ar g.length).map (dn g ps t (mX g ps t) (t.size-1)))) p) (l:=Ot g ps t c) λu hu=>xw (by
   unfold Ot at hu;exact AQ.mp (A3.mp hu).1)
  refine this.trans ?_;unfold nI;rw[AO];rfl
 unfold xV;simp only[lw,mo,fb,Z7,bA,Ă,xl,IU,em,ke];exact q
end
theorem uI:∀(t:Tr) (o j:Nat),1<=(be t o j).length
 |.leaf _,_,_=>Al _
 |.node l r,o,j=>by
  unfold be
  split
  .exact uI l o j
  .split
   .exact uI r _ _
   .rw[Ak];have:=uI l o (l.size-1);lia
theorem HY:∀(t:Tr) (o j:Nat),(be t o j).length<=t.aw.length
 |.leaf _,_,_=>Al _
 |.node l r,o,j=>by
  have hl:(Tr.node l r).aw.length=l.aw.length+r.aw.length:=by rw[Tr.aw,Ak]
  unfold be;rw[hl]
  split
  .have:=HY l o j;lia
  .split
   .have:=HY r (o+l.size) (j-l.size);lia
   .rw[Ak];have:=HY l o (l.size-1);have:=HY r (o+l.size) (r.size-1);lia
def p2(h:a<=b):2 ^ a<=2 ^ b:=Ct ⋯ h
structure Flat(g:List Sy)(ht:Nat->Nat):Prop where
 le:∀i,i<g.length->ht i<=14
 dn:∀i,i<g.length->∀u∈(sy g i).un,ht u<ht i
def eX(t:Tr)(j:Nat):Nat:=42*(be t 0 j).length-36
section
variable{ht:Nat->Nat}
theorem WQ(G:WG g ws)(F:Flat g ht):∀n j,j<n->j<t.size->(∀i,i<g.length->dn g ps t (mX g ps t) j i<=2 ^ eX t j)/\∀i,i<g.length->mX g ps t j i<=2 ^ eX t j*(2 ^ (ht i+1)-1):=by
 intro n
 induction n with
 |zero=>intro j h;lia
 |succ n ih=>
  intro j hjn hj;have top:∀a i,a<j->i<g.length->mX g ps t a i<=2 ^ (eX t a+15):=λa i ha hi=>by
   have h0:ht i+1<=15:=by have:=F.le i hi;lia
   have h1:=(ih a ∅ ∅).2 i hi;refine Ax h1 ?_;rw[D5 2 (eX t a) 15];exact Cd _ (Ax (Nat.sub_le _ _) (p2 h0))
  have hd:∀i,i<g.length->dn g ps t (mX g ps t) j i<=2 ^ eX t j:=λi hi=>by
   unfold dn;rcases Mq t 0 j hj with⟨x,e1,e2⟩|⟨a,b,e1,e2,e3,e4⟩
   .rw[e1];have:=Nat.one_le_two_pow (n:=eX t j);show(if _ then 1 else 0)<=_
    split<;>lia
   .rw[e1];show(E1 _ (Mg g ps t (0+a) (0+b) j i)).sum<=_;rw[AW,AW];have hs:=IE (l:=(Mg g ps t a b j i).map λd=>mX g ps t a d.2.1*mX g ps t b d.2.2) (m:=2 ^ (eX t a+15)*2 ^ (eX t b+15)) λx hx=>by
     obtain⟨d,hd,rfl⟩:=Au.mp hx;obtain⟨x1,x2⟩:=uw G hi (y7 hd);exact DA (top a _ e2 x1) (top b _ e3 x2)
    rw[Aj]at hs;have hl:(Mg g ps t a b j i).length<=63:=by
     have:=Km G hi;unfold Mg
     split
     .simp
     .exact Ax (Bf _ _) this
    have h3:=B5 (2 ^ (eX t a+15)*2 ^ (eX t b+15)) (show(Mg g ps t a b j i).length<=2 ^ 6 by lia);have h4:2 ^ 6*(2 ^ (eX t a+15)*2 ^ (eX t b+15))=2 ^ eX t j:=by
     rw[<- D5,<- D5];congr 1;have pa:=uI t 0 a;have pb:=uI t 0 b;unfold eX;rw[e4,Ak];lia
    lia
  refine⟨hd,λi=>?_⟩
  induction i using Cc with
  |ind i JP=>
   intro hi;rw[WR G hj hi];have h0:=hd i hi;have Á:(zU g ps t j i).length<=2:=by
    have:=G.q9 i hi;unfold zU
    split
    .simp
    .exact Ax (Bf _ _) this
   have hs:=IE (l:=(zU g ps t j i).map (mX g ps t j)) (m:=2 ^ eX t j*(2 ^ ht i-1)) λx hx=>by
    obtain⟨u,hu,rfl⟩:=Au.mp hx;have hu:=xo hu;have h1:=G.dn i hi u hu;refine Ax (JP u h1 ∅) (Cd _ ?_);have:=F.dn i hi u hu;exact Nat.sub_le_sub_right (p2 ∅) 1
   rw[Aj]at hs;have h2:=B5 (2 ^ eX t j*(2 ^ ht i-1)) Á;have h1:=Nat.one_le_two_pow (n:=ht i);have e1:2 ^ (ht i+1)-1=1+2*(2 ^ ht i-1):=by rw[F8];lia
   rw[e1,Nat.mul_add,Nat.mul_one];have e2:2 ^ eX t j*(2*(2 ^ ht i-1))=2*(2 ^ eX t j*(2 ^ ht i-1)):=by rw[<- DZ,F9 (2 ^ eX t j) 2,DZ]
   lia
theorem XA(hl:t.aw.length<=10)(j:Nat):eX t j<=384:=by
 have:=HY t 0 j;unfold eX;lia
theorem V0(G:WG g ws)(F:Flat g ht)(hl:t.aw.length<=10):SM g ps t:=λj i hj hi=>by
 have h:=(WQ (ps:=ps) G F (j+1) j ∅ hj).2 i hi;have h0:ht i+1<=15:=by have:=F.le i hi;lia
 have h3:2 ^ eX t j<=2 ^ 384:=p2 (XA hl j);have h4:=DA h3 (Ax (Nat.sub_le (2 ^ (ht i+1)) 1) (p2 h0));rw[<- D5]at h4;refine Ax (m:=400) (intBits_le_iff.mpr ?_) ⋯;rw[Ew];exact CM (Ax h h4) (C0 ⋯ ⋯)
theorem ZR(G:WG g ws)(F:Flat g ht)(hl:t.aw.length<=10)(c:Int):hmX g ps t c<2 ^ 400:=by
 have tp:=t.size_pos;have gl:=G.len;unfold hmX;have hs:=IE (l:=(Ot g ps t c).map (dn g ps t (mX g ps t) (t.size-1))) (m:=2 ^ 384) λx hx=>by
  obtain⟨i,hi,rfl⟩:=Au.mp hx;unfold Ot at hi;have hi:=AQ.mp (A3.mp hi).1;exact Ax ((WQ (ps:=ps) G F t.size (t.size-1) ∅ ∅).1 i hi) (p2 (XA hl _))
 rw[Aj]at hs;have hb:(Ot g ps t c).length<=2 ^ 9:=by
  unfold Ot;have:=Bf (λi=>decide (qX g ps t (t.size-1) i=am c)&&neX g ps t (t.size-1) i) (Ar g.length);rw[Bs]at this;lia
 have h2:=B5 (2 ^ 384) hb;rw[<- D5]at h2;exact CM (Ax hs h2) (C0 ⋯ ⋯)
end
theorem Hu(hz:t.size<=15):∃ht,Flat (gS t) ht:=by
 have G:WG (gS t) t.aw:=vP ∅;have hl:=Vn t;exact⟨λi=>i,λi hi=>by lia,λi hi u hu=>G.dn i hi u hu⟩
theorem J2(D:DD t ds)(hb:(aO t ds).length<=15):∃ht,Flat (dS t ds (aO t ds)) ht:=by
 have nd:=fM t ds (aO t ds) (aO t ds).length;have ok:=D.ok;have lt:=@eI t ds (aO t ds) (aO t ds).length;unfold okD at ok;have hS:∀i p,(aP t ds (aO t ds) (aO t ds).length)[i]?=am p->sy (dS t ds (aO t ds)) i=⟨Jh (en t 0 p.1) p.1,p.2,(HX (en t 0 p.1) p.1 (ds.getD p.1 0) ((aO t ds).getD p.2 0)).map λx=>(aP t ds (aO t ds) (aO t ds).length).idxOf (x,p.2-1),_⟩:=λi p hp=>by
  unfold sy dS;rw[Ah,Af,hp];rfl
 have hL:(dS t ds (aO t ds)).length=(aP t ds (aO t ds) (aO t ds).length).length:=Sl t ds _;generalize aP t ds (aO t ds) (aO t ds).length=L at *;have get:∀i,i<(dS t ds (aO t ds)).length->∃p,L[i]?=am p/\p∈L:=λi hi=>by
  rw[hL]at hi;exact⟨L[i],Ad hi,CG hi⟩
 refine⟨λi=>(L.getD i (0,0)).2,λi hi=>?_,λi hi u hu=>?_⟩
 .obtain⟨p,hp,hm⟩:=get i hi;have:=(lt hm).1;show(L.getD i (0,0)).2<=14;rw[Ah,hp];show p.2<=14;lia
 .obtain⟨p,hp,hm⟩:=get i hi;rw[hS i p hp]at hu;obtain⟨x,hx,rfl⟩:=Au.mp hu;obtain⟨h1,h2⟩:=ok p hm x hx;show(L.getD _ (0,0)).2<(L.getD i (0,0)).2;rw[Ah,Ah,hp,zj h2];show p.2-1<p.2;lia
variable{s:Tr}{Q:PV->Prop}{ss:O Tr}
theorem IH(h8:t.aw.length<=8)(q:∀s,WG s t.aw->(∃ht,Flat s ht)->Q (lP s)):(ig (t2 gs ((.int 2)\λx36=>bK x36) (ca (.int 0))) (t.pv\λx37=>kr x37) (t.pv\λx38=>bn (t.pv\λx39=>cJ x39) λx40=>ly x38 x40)).run Q:=by
 have hz:=t.size_eq;have hdp:=t.ox;have ac3:t.size<=15:=by lia
 simp only[lw,f8,bX (show(0:Int)<2 by decide) ⋯];refine bB λd _ _=>?_;simp only[mT,cL,mo];cases c:d==0 with
 |true=>
  simp only[if_true];refine NV t ∅ Q ?_;rw[<- adx];exact q _ (vP ∅) (Hu ac3)
 |false=>
  simp only[AM,if_false,f8];refine Kq t ∅ ∅ λds d D Vj=>?_;have ZM:(splits t).length<=7:=by have:=IJ t;lia
  have ń:=DD.of (D.isD ∅);have hb:(aO t ds).length<=8:=by unfold aO;rw[Aq,oU];unfold MV;rw[Aj];lia
  refine Si ń ∅ Q ?_;rw[<- ad8];exact q _ (O3 ń ac3 ∅) (J2 ń ∅)
theorem ph{c F:α->PV}:∀{l:List α}{Q:O PV->Prop},(∀x∈l,∀R:PV->Prop,R (F x)->(f (c x)).run R)->Q (l.map F)->(a6 (l.map c) f).run Q
 |[],Q,_,q=>q
 |x::l,Q,h,q=>by
  show(bn (f (c x)) λy=>bn (a6 (l.map c) f) λm=>ca (y::m)).run Q;rw[f8];refine h x (.head _) _ ?_;rw[f8];exact ph (λy hy=>h y (.tail _ hy)) q
def uQ:O Nat->Nat
 |[]=>1
 |a::l=>a*uQ l
theorem sI(x:Nat):∀l:O Nat,uQ (l++[x])=uQ l*x
 |[]=>by simp[uQ]
 |a::l=>by rw[List.cons_append,uQ,sI x l,uQ,DZ]
def Qh:∀{l m:O Nat},l.Perm m->uQ l=uQ m:=λh=>by
 induction h with
 |nil=>rfl
 |cons x _ ih=>rw[uQ,uQ,ih]
 |swap x y l=>rw[uQ,uQ,uQ,uQ,<- DZ,<- DZ,F9 x y]
 |trans _ _ LW JP=>rw[LW,JP]
theorem IV:∀{l:O Nat},(∀x∈l,x<2 ^ 400)->uQ l<=2 ^ (400*l.length)
 |[],_=>Al _
 |a::l,h=>by
  have h1:=IV (l:=l) λx hx=>h x (.tail _ hx);have h2:=h a (.head _);rw[uQ,Aq,Nat.mul_succ,Nat.add_comm,D5];exact DA (C5 h2) h1
theorem NF(x:Int)(l:O Int):(l++[x]).sum=l.sum+x:=by
 induction l with
 |nil=>simp
 |cons a l ih=>rw[List.cons_append,BM,ih,BM];lia
theorem NG:∀{l m:O Int},l.Perm m->l.sum=m.sum:=λh=>by
 induction h with
 |nil=>rfl
 |cons x _ ih=>rw[BM,BM,ih]
 |swap x y l=>simp only[BM];lia
 |trans _ _ LW JP=>rw[LW,JP]
section
variable{ht:Nat->Nat}
def HV(g:O Sy)(ps:O Int)(s:Tr):Int:=(ic (fH g ps s)).getD 0
def OS(g:O Sy)(ps:O Int)(s:Tr):Nat:=hmX g ps s (HV g ps s)
structure vN(ws:List Str)(s:Tr):Prop where
 ws:∀w∈s.aw,w∈ws
 few:s.aw.length<=10
theorem vN.size(h:vN ws s):s.size<=19:=by have:=s.size_eq;have:=h.few;lia
def vN.cc(G:WG g ws)(h:vN ws s):ic (fH g ps s)=am (HV g ps s):=by
 obtain⟨m,hm⟩:=Jv (ps:=ps) G h.ws;unfold HV;rw[hm];rfl
theorem vN.least(G:WG g ws)(p4:ps.length=4)(h:vN ws s)(q:Q (.int (HV g ps s))):(lq (lP g) s.pv (.tup (bx ps))).run Q:=by
 refine least_le (ps:=ps) G p4 (by have:=h.size;lia) Q ?_;rw[h.cc G];exact q
theorem vN.many(G:WG g ws)(F:Flat g ht)(p4:ps.length=4)(h:vN ws s)(q:Q (.int ((OS g ps s:Nat):Int))):(eQ (lP g) s.pv (.tup (bx ps))).run Q:=
 Hf G p4 (by have:=h.size;lia) (V0 G F h.few) (h.cc G) q
theorem Mp(hk:k<=100)(h:n<=2 ^ (400*k)):Builtin.Int.intBits ((n:Nat):Int)<=2 ^ 20:=by
 refine Ax (m:=400*k+1) (intBits_le_iff.mpr ?_) (by have:(2:Nat) ^ 20=1048576:=⋯;lia);rw[Ew];exact CM h (C0 ⋯ ∅)
def Rr(G:WG g ws)(F:Flat g ht)(h:vN ws s):OS g ps s<2 ^ 400:=ZR G F h.few _
def L0(G:WG g ws)(F:Flat g ht)(h:vN ws s):Builtin.Int.intBits ((OS g ps s:Nat):Int)<=2 ^ 20:=Mp (k:=1) ⋯ (C5 (Rr G F h))
theorem Gu(G:WG g ws)(F:Flat g ht)(h:∀s∈ss,vN ws s)(hl:ss.length<=100)(i:Nat):Builtin.Int.intBits ((uQ ((ss.take i).map (OS g ps)):Nat):Int)<=2 ^ 20:=by
 have:=IV (l:=(ss.take i).map (OS g ps)) λx hx=>by
  obtain⟨s,hs,rfl⟩:=Au.mp hx;exact Rr G F (h s (FO hs))
 rw[Aj]at this;exact Mp (k:=(ss.take i).length) (by rw[Ci];lia) this
def vc(g:O Sy)(ps:O Int)(ss:O Tr):PV:=.tup [.int (ss.map (HV g ps)).sum,.int ((uQ (ss.map (OS g ps)):Nat):Int)]
def HI(G:WG g ws)(F:Flat g ht)(p4:ps.length=4)(h:∀s∈ss,vN ws s)(hl:ss.length<=100)(q:Q (vc g ps ss)):(dZ (lP g) (.cl (ss.map Tr.pv)) (.tup (bx ps))).run Q:=by
 unfold dZ;simp only[lw,f8,gE,bA,mo];refine cD (λi s=>s=(PV.int ((ss.take i).map (HV g ps)).sum,PV.int ((uQ ((ss.take i).map (OS g ps)):Nat):Int))) rfl (λi x s hx hs=>?_) (λs hs=>?_)
 .subst hs;rw[Af]at hx;cases e:ss[i]? with
  |none=>rw[e]at hx;cases hx
  |some a=>
   rw[e]at hx;have:=Option.some.inj hx;subst this;have ha:=h a (AU e);have et:ss.take (i+1)=ss.take i++[a]:=by rw[C1,e];rfl
   simp only[lw,f8];refine ha.least G p4 ?_;simp only[lw,f8,cW,mo];refine ha.many G F p4 ?_;simp only[yM,sw (ET (Gu (ps:=ps) G F h hl i) (L0 (ps:=ps) G F ha)),mo];rw[et,Az,Az];show _=(PV.int (_++[HV g ps a]).sum,PV.int ((uQ (_++[OS g ps a]):Nat):Int));rw[NF,sI,Fu]
 .subst hs;rw[Aj,DV];simp only[lw,mo];exact q
def K5(G:WG g ws)(F:Flat g ht)(p4:ps.length=4)(h:∀s∈ss,vN ws s)(hl:ss.length<=100)(q:Q (vc g ps ss)):(eL (lP g) (.tup (ss.map Tr.pv)) (.tup (bx ps))).run Q:=by
 unfold eL;simp only[lw,f8,aK];refine ph (F:=λs=>PV.int ((OS g ps s:Nat):Int)) (λs hs R r=>(h s hs).many G F p4 r) ?_;simp only[lw,f8,mo];unfold gj;simp only[lw,f8,bA,mo];refine cD (λi s=>s=PV.int ((uQ ((ss.take i).map (OS g ps)):Nat):Int)) rfl (λi x s hx hs=>?_) (λs hs=>?_)
 .subst hs;rw[Af]at hx;cases e:ss[i]? with
  |none=>rw[e]at hx;cases hx
  |some a=>
   rw[e]at hx;have:=Option.some.inj hx;subst this;have ha:=h a (AU e);have et:ss.take (i+1)=ss.take i++[a]:=by rw[C1,e];rfl
   simp only[lw,yM,sw (ET (Gu (ps:=ps) G F h hl i) (L0 (ps:=ps) G F ha)),mo];rw[et,Az];show _=PV.int ((uQ (_++[OS g ps a]):Nat):Int);rw[sI,Fu]
 .subst hs;rw[Aj,DV];unfold fw;simp only[lw,f8,aK,mo];refine ph (F:=λs=>PV.int (HV g ps s)) (λs hs R r=>(h s hs).least G p4 r) ?_;have e1:(ss.map λs=>PV.int (HV g ps s))=(ss.map (HV g ps)).map PV.int:=by rw[AO];rfl
  have e2:gQ ((ss.map (HV g ps)).map PV.int)=.ret (.int (ss.map (HV g ps)).sum):=by
   unfold gQ;rw[eU];rfl
  rw[e1,e2];simp only[lw,mo];exact q
end
theorem Th(G:WG g ws){M:Int}(m0:0<=M)(h:∀k,ps.getD k 0<=M):∀j i,j<t.size->i<g.length->∀v,rg (bj g ps (t.nd 0) t.size) j i=am v->v<=M*(((2 ^ (j+1)-2:Nat):Int)*((g.length:Int)+1)+1+(i:Int)):=Rg λj i hj hi LW JP v hv=>by
 have h3:km g ps i<=M:=by unfold km;split;exact h 3;exact m0
 have Ò:∀a x w,a<j->x<g.length->rg (bj g ps (t.nd 0) t.size) a x=am w->w<=M*(((2 ^ j-1:Nat):Int)*((g.length:Int)+1)):=λa x w ha hx hw=>by
  refine Int.le_trans (LW a x ha hx w hw) (CK ?_ m0);have p1:2 ^ (a+1)<=2 ^ j:=Ct ⋯ ∅;have p2:0<2 ^ (a+1):=Fq _;have p3:2 ^ (a+1)=2*2 ^ a:=by rw[F8];lia
  have p4:0<2 ^ a:=Fq _;have e:((2 ^ (a+1)-2:Nat):Int)*((g.length:Int)+1)+((g.length:Int)+1)<=((2 ^ j-1:Nat):Int)*((g.length:Int)+1):=by
   have:=DY (a:=((2 ^ (a+1)-2:Nat):Int)+1) (b:=((2 ^ j-1:Nat):Int)) (c:=(g.length:Int)+1) ∅ ∅;rw[Int.add_mul,Int.one_mul]at this;exact this
  lia
 rcases tab_of G hj hi hv with⟨w,e,hh,rfl⟩|⟨a,b,d,x,y,e,hd,h1,h2,rfl⟩|⟨u,x,hu,h1,rfl⟩
 .refine FP m0 ?_;have:0<=((2 ^ (j+1)-2:Nat):Int)*((g.length:Int)+1):=FP ∅ ∅;lia
 .obtain⟨k1,k2⟩:=dI t hj e;obtain⟨l1,l2⟩:=uw G hi hd;have a1:=Ò a _ x k1 l1 h1;have a2:=Ò b _ y k2 l2 h2;have a3:=h (dpl d.1);have p4:0<2 ^ j:=Fq _;have p3:2 ^ (j+1)=2*2 ^ j:=by rw[F8];lia
  have e:M*(((2 ^ (j+1)-2:Nat):Int)*((g.length:Int)+1)+1+(i:Int))=M+2*(M*(((2 ^ j-1:Nat):Int)*((g.length:Int)+1)))+M*(i:Int):=by
   have:((2 ^ (j+1)-2:Nat):Int)=2*((2 ^ j-1:Nat):Int):=by lia
   rw[this];simp only[Int.mul_add,Int.mul_one,Int.mul_assoc,Int.mul_left_comm,Int.add_comm,Int.add_left_comm]
  have:0<=M*(i:Int):=FP m0 ∅;have:Ue ps d.1<=M:=a3;rw[e];lia
 .have b1:=G.dn i hi u hu;have:=JP u b1 x h1;have e:M*(((2 ^ (j+1)-2:Nat):Int)*((g.length:Int)+1)+1+(i:Int))=M*(((2 ^ (j+1)-2:Nat):Int)*((g.length:Int)+1)+1+(u:Int))+M*((i:Int)-(u:Int)):=by
   rw[<- Int.mul_add];congr 1;lia
  have:M*1<=M*((i:Int)-(u:Int)):=CK ∅ m0;lia
theorem IB(G:WG g ws)(p4:ps.length=4)(hp:∀p∈ps,0<=p/\p<=10 ^ 29)(hz:t.size<=19){r:O OI}(hr:r∈bj g ps (t.nd 0) t.size)(hv:am v∈r):0<=v/\v<10 ^ 39:=by
 have gl:=G.len;have wd:=Tg g ps t r hr;obtain⟨j,hj⟩:=Cw hr;obtain⟨i,hi⟩:=Cw hv;have hj2:j<t.size:=by have:=(Ai.mp hj).1;rwa [dP]at this
 have ç:i<g.length:=by have:=(Ai.mp hi).1;lia
 have e:rg (bj g ps (t.nd 0) t.size) j i=am v:=by
  unfold rg;have a:(bj g ps (t.nd 0) t.size).getD j []=r:=by rw[Ah,hj];rfl
  rw[a,Ah,hi];rfl
 have hk:∀k,0<=ps.getD k 0/\ps.getD k 0<=10 ^ 29:=λk=>by
  rw[Ah];cases c:ps[k]? with
  |none=>exact⟨B8 _,by decide +kernel⟩
  |some p=>exact hp p (AU c)
 refine⟨X7 G (λk=>(hk k).1) j i hj2 ç v e,?_⟩;have:=Th G (t:=t) (M:=10 ^ 29) (by decide +kernel) (λk=>(hk k).2) j i hj2 ç v e;have pw:2 ^ (j+1)<=2 ^ 19:=Ct ⋯ ∅;have b1:((2 ^ (j+1)-2:Nat):Int)*((g.length:Int)+1)+1+(i:Int)<=524288*301+301:=by
  have:((2 ^ (j+1)-2:Nat):Int)*((g.length:Int)+1)<=524288*301:=Int.mul_le_mul ∅ ∅ ∅ ⋯;lia
 have b2:=CK b1 (show(0:Int)<=10 ^ 29 by decide +kernel);have b3:(10:Int) ^ 29*(524288*301+301)<10 ^ 39:=by decide +kernel
 lia
def log2_small(h:n<=2 ^ 1700):n.log2<1920:=by
 by_cases c:n=0
 .rw[c];decide
 .rw[Nat.log2_lt c];exact CM h (C0 ⋯ ⋯)
theorem Yj{a b:Int}(ha:a.natAbs.log2<1920)(hb:b.natAbs.log2<1920):zY (.tup [.int a,.int b]):=by
 have e:SU [PV.int a,PV.int b]=[Cj a,Cj b]:=rfl;have la:=int_text_length_le (k:=1920) ⋯ ha;have lb:=int_text_length_le (k:=1920) ⋯ hb;refine⟨?_,?_,?_,?_⟩
 .rw[Vq];exact iW.mpr λx hx=>by
   simp at hx;rcases hx with rfl|rfl<;>simp
 .rw[PV.pd,e,PyData.showable];simp only[PyData.showableAll,PyData.showable,decide_eq_true ha,decide_eq_true hb];rfl
 .rw[PV.pd,e,PyData.depth];simp[PyData.depthAll,PyData.depth]
 .rw[PV.pd,e,PyData.shown];have hn:Cn [Cj a,Cj b]≠[]:=by simp[Cn]
  have e2:piled (Cn [Cj a,Cj b])<=3846:=by
   simp only[Cn,PyData.shown,piled_cons,PySem.ofString_length];have:piled ([]:O Str)=0:=rfl;lia
  have h3:(tupleText (Cn [Cj a,Cj b])).length<=piled (Cn [Cj a,Cj b])+3:=by
   unfold tupleText;rw[Str.length_append,Str.length_append];have:=join_length_add _ hn;have h1:(("(":String):Str).length=1:=by decide
   have h2:∀b:Bool,((if b then ",)" else ")":String):Str).length<=2:=by decide
   have:=h2 ((Cn [Cj a,Cj b]).length==1);lia
  rw[bb];lia
theorem YW{ht:Nat->Nat}(G:WG g ws)(F:Flat g ht)(p4:ps.length=4)(hp:∀p∈ps,0<=p/\p<=10 ^ 29)(h:∀s∈ss,vN ws s)(hl:ss.length<=4):zY (vc g ps ss):=by
 have hc:∀s∈ss,0<=HV g ps s/\HV g ps s<10 ^ 39:=λs hs=>by
  have tp:=s.size_pos;have hm:=GS ((h s hs).cc (ps:=ps) G);refine IB G p4 hp (h s hs).size (r:=fH g ps s) ?_ hm;unfold fH;have:=dP g ps (s.nd 0) s.size;rw[Ah,Ad ∅];exact CG _
 have hs:0<=(ss.map (HV g ps)).sum/\(ss.map (HV g ps)).sum<=(ss.length:Int)*10 ^ 39:=by
  clear hl h
  induction ss with
  |nil=>exact⟨B8 _,B8 _⟩
  |cons a l ih=>
   have i1:=ih λs hs=>hc s (.tail _ hs);have i2:=hc a (.head _);rw[Av,BM,Aq];generalize (10:Int) ^ 39=B at *;have:((l.length+1:Nat):Int)*B=(l.length:Int)*B+B:=by rw[Int.natCast_add,Int.add_mul];simp
   rw[this];lia
 unfold vc;refine Yj (log2_small ?_) ?_
 .have h4:(ss.length:Int)*10 ^ 39<=4*10 ^ 39:=DY ∅ ⋯;have h5:(ss.map (HV g ps)).sum.natAbs<=4*10 ^ 39:=by
   have:(4*10 ^ 39:Int)=((4*10 ^ 39:Nat):Int):=by decide +kernel
   rw[this]at h4;generalize (4*10 ^ 39:Nat)=B at *;lia
  refine Ax h5 (Ax (m:=2 ^ 200) (by decide +kernel) (Ct ⋯ ⋯))
 .refine log2_small ?_;rw[Ew];have:=IV (l:=ss.map (OS g ps)) λx hx=>by
   obtain⟨s,hs,rfl⟩:=Au.mp hx;exact Rr G F (h s hs)
  rw[Aj]at this;exact Ax this (Ct ⋯ ∅)
def Qs{Po:O Tr}(h:ss.Perm Po):vc g ps ss=vc g ps Po:=by
 unfold vc;rw[NG (h.map _),Qh (h.map _)]
def wdF:PV->Option PV
 |.str w=>am (.str w)
 |_=>ce
def O2(t:Tr):∀o,((t.nd o).map Ent.pv).filterMap wdF=t.aw.map PV.str:=by
 induction t with
 |leaf w=>intro o;rfl
 |node l r il ir=>
  intro o;have hn:(Tr.node l r).nd o=l.nd o++r.nd (o+l.size)++[.pair (o+l.size-1) (o+l.size+r.size-1)]:=rfl;rw[hn,Az,Az,FA,FA,il,ir,Tr.aw,Az];simp[Ent.pv,wdF]
def zZ{ht:Nat->Nat}(G:WG g ws)(F:Flat g ht)(p4:ps.length=4)(hp:∀p∈ps,0<=p/\p<=10 ^ 29)(h:∀s∈ss,vN ws s)(hl:ss.length<=4):oY (vc g ps ss)=.ret (.str (PV.pd (vc g ps ss)).shown):=sw (YW G F p4 hp h hl)
theorem law70_ok(ns:O Int)(hl:ns.length<=63):(sZ (.cl (ns.map PV.int))).run (·=.bl true):=by
 unfold sZ;simp only[lw,f8];refine Qi λsd=>?_;rw[W.Li];refine⟨⟨sd,rfl⟩,?_⟩;simp only[f8,mo,hJ,sw (cS (i:=0) (j:=4) ∅ ∅)];refine RE (n:=4) (λ_ _=>True) trivial ?_ ?_
 .rintro i s hi -;simp only[lw,f8];refine MK λt s0 hnd h8 hw8 kF ag8=>?_;have hz:=t.size_eq;have hdp:=t.ox;have tp:=t.size_pos;simp only[lw,f8,gE,mo];refine W.le.use (jl 12 t ∅ ∅) ?_;refine WU wdF (λx hx=>?_) ?_
  .obtain⟨e,_,rfl⟩:=Au.mp hx;cases e with
   |word w=>simp[Ent.pv,wdF]
   |pair u v=>simp[Ent.pv,wdF]
  rw[O2 t 0];have S0:vN t.aw s0:=⟨kF,ag8⟩;have lne:t.aw≠[]:=λz=>by have:=t.size_eq;rw[z]at this;simp at this
  simp only[lw,f8,mo,bX (show(0:Int)<4 by decide) ⋯];refine bB λm m0 m1=>?_;obtain⟨m,rfl⟩:∃k:Nat,m=(k:Int):=⟨m.toNat,by lia⟩;simp only[hJ,sw (cS (i:=0) (j:=(m:Int)) ∅ ∅),mo,Ca];refine ue (λi s=>∃ss:O Tr,s=ss.map Tr.pv/\ss.length=i+1/\∀a∈ss,vN t.aw a) ⟨[s0],rfl,rfl,λa ha=>by rw[Aw]at ha;exact ha▸S0⟩ ?_ ?_
  .rintro i s hi ⟨ss,rfl,hsl,Xe⟩;simp only[lw,f8,bX (show(0:Int)<5 by decide) ⋯];refine bB λd d0 d1=>?_;obtain⟨k,hk⟩:∃k:Nat,1+d=(k:Int):=⟨(1+d).toNat,by lia⟩;simp only[cW,mo,hk,hJ,sw (cS (i:=0) (j:=(k:Int)) ∅ ∅),Ca];refine pC (S:=λv=>∃w∈t.aw,v=PV.str w) (λx _ R r=>xM (by simpa using lne) (by rw[Aj];lia) λv hv=>r v (let ⟨w,h1,h2⟩:=Au.mp hv;⟨w,h1,h2.symm⟩)) λms ZQ hs=>?_;obtain⟨us,rfl,hu⟩:=tj hs;rw[gk,Aj]at ZQ;refine kB (λz=>by rw[z]at ZQ;simp at ZQ;lia) ∅ λa hp=>?_;have Sa:vN t.aw a:=⟨λw h=>hu w (hp.mem_iff.mp h),by rw[hp.length_eq];lia⟩;refine bB λe e0 e1=>?_;obtain⟨b,hb,Sb⟩:∃b:Tr,fC [a.pv,s0.pv] (if (e==0)=true then 1 else 0)=am b.pv/\vN t.aw b:=by
    by_cases h:e=0
    .subst h;exact⟨s0,rfl,S0⟩
    .have:(e==0)=false:=by simpa using h
     rw[this];exact⟨a,rfl,Sa⟩
   have al:eA (ss.map Tr.pv) b.pv=.ret (ss.map Tr.pv++[b.pv]):=cM (by rw[Aj];lia);simp only[mT,Mb,lw,cZ,hb,Op,mo,al];exact⟨ss++[b],by simp,by simp[hsl],λx hx=>by rcases AX.mp hx with h|h;exact Xe x h;rw[Aw.mp h];exact Sb⟩
  .rintro s ⟨ss,rfl,hsl,Xe⟩;refine IH h8 λg G ⟨ht,F⟩=>?_;refine Gs λps p4 hp=>?_;refine HI G F p4 Xe ∅ ?_;have hr:∀a∈ss.reverse,vN t.aw a:=λa ha=>Xe a (List.mem_reverse.mp ha);have ep:∀i:Int,part (.int i)=.ret (am i):=λi=>rfl;have Ă:nR (PV.int 1)=.ret (.int (-1)):=rfl;have er:IL (ss.map Tr.pv) ce ce (am (-1))=.ret (ss.reverse.map Tr.pv):=by
    unfold IL;rw[sw ⋯,Gx,EZ]
   simp only[lw,f8,hU,Ă,ep,er,aK,mo];have one:∀Po:O Tr,Po.Perm ss->∀R:PV->Prop,R (vc g ps ss)->(eL (lP g) (.tup (Po.map Tr.pv)) (.tup (bx ps))).run R:=λPo h R r=>K5 G F p4 (λa ha=>Xe a (h.mem_iff.mp ha)) (by rw[h.length_eq];lia) (by rw[Qs h];exact r);have ex:=zZ G F p4 hp Xe ∅;have nx:∀x:Str,of2 xO (.str x) (.str x)=.ret (.bl false):=λx=>by
    rw[RS,sw ⟨by simp,by simp,by simp⟩];simp
   refine L7 (λ_ _=>True) trivial (λi x s hx _=>?_) (λs _=>?_)
   .obtain⟨Po,rfl,ĳ⟩:∃Po:O Tr,x=.cl (Po.map Tr.pv)/\Po.Perm ss:=by
     have hm:=AU hx;simp only[AI,DW,or_false]at hm;rcases hm with rfl|rfl|rfl
     .exact⟨ss,rfl,.refl _⟩
     .exact⟨ss.reverse,rfl,List.reverse_perm _⟩
     .exact⟨ss,rfl,.refl _⟩
    have tw:∀l:O PV,ka l=.ret (.tup l):=λl=>rfl;simp only[bA,lw,f8,tw];refine one Po ĳ _ ?_;simp only[ex,lw,mo,nx,cL,AM,if_false]
   .have S1:∀a∈[s0],vN t.aw a:=λa ha=>by rw[Aw]at ha;exact ha▸S0
    have ex1:=zZ G F p4 hp S1 (by simp);simp only[NW,f8];refine K5 (ss:=[s0]) G F p4 S1 (by simp) ?_;simp only[ex1,lw,mo];refine HI (ss:=[s0]) G F p4 S1 (by simp) ?_;simp only[ex1,lw,mo,nx,cL,AM,if_false]
 .intro s _;simp
def all_d{K:Aa}(X:K.In h)(G:h.Ns lc mg)(Ka:DX K "parts_of" (top 1))(VF:DX K "nodes" (top 2))(R6:DX K "halves" (top 3))(Ki:DX K "ahead_of" (top 4))(J6:DX K "under_at" (top 9))(HF:DX K "beside_at" (top 10))(Oa:DX K "is_home" (top 11))(N8:DX K "name_of" (top 12))(Kc:DX K "lines_up" (top 13))(yX:DX K "apart_from" (top 14))(R7:DX K "ground" (top 15))(HB:DX K "split_ins" (top 22))(Kb:DX K "over_ins" (top 23))(Kg:DX K "deeds_at" (top 24))(R1:DX K "summed" (top 27))(Kh:DX K "cheapest" (top 28))(J9:DX K "price_of" (top 29))(HD:DX K "deed_cost" (top 30))(yW:DX K "deed_costs" (top 31))(HA:DX K "step_cost" (top 32))(yR:DX K "step_costs" (top 33))(R3:DX K "row_of" (top 34))(VD:DX K "table" (top 35))(VG:DX K "least" (top 36))(vD:DX K "least_deeds" (top 38))(vC:DX K "least_steps" (top 39))(HH:CD K "LeastWays" "LeastWays.__init__" (d9 (top 40)) ["told","deeds","steps","begins"])(N7:DX K "product" (top 42))(N9:DX K "many_by" (top 43))(Se:CD K "Counts" "Counts.__init__" (d9 (top 44)) ["done","many"])(VC:DX K "total" (top 45))(Ke:DX K "how_many" (top 46))(qT:DX K "cost_together" (top 48))(J7:DX K "together" (top 49))(vB:DX K "split_dates" (top 51))(J8:DX K "standing" (top 52))(N6:DX K "stay_of" (top 53))(VH:DX K "dated" (top 54))(Kj:DX K "_law_pot" (top 56))(HG:DX K "_law_take" (top 57))(Oc:DX K "_law_of" (top 58))(vF:DX K "_law_joined" (top 59))(yY:DX K "_law_trees" (top 60))(yZ:DX K "_law_nodes" (top 61))(y6:DX K "_law_dates" (top 62))(vE:DX K "_law_prices" (top 63))(Kk:DX K "_law_due" (top 64))(oz:AN K lc "UNDER"=am (am (.int 2 K6)))(kT:AN K lc "BESIDE"=am (am (.int 3 zP)))(uD:AN K lc "NAME"=am (am (.int 0 Pj)))(oB:AN K lc "FOUND"=am (am (.str "found" K8)))(oA:AN K lc "SPLIT"=am (am (.str "split" K7)))(uC:AN K lc "OVER"=am (am (.str "over" Ph)))(iY:AN K lc "DOUBLED"=am (am (.str "doubled" vS)))(lJ:AN K lc "DEEDS"=am (am (.ref rZ)))(rK:SD K rZ ["split","doubled","over"])(uE:AN K lc "LOST"=am (am (.int 3 Pk)))(w5:AN K lc "isinstance"=am ce)(abe:AN K lc "str"=am ce)(XO:AN K lc "list"=am ce)(Ip:AN K lc "reversed"=am ce)(abg:AN K lc "len"=am ce)(S8:AN K lc "tuple"=am ce)(zH:AN K lc "enumerate"=am ce)(S9:AN K lc "range"=am ce)(O0:AN K lc "sorted"=am ce)(abd:AN K lc "sum"=am ce)(abf:AN K lc "min"=am ce)(abc:AN K lc "zip"=am ce)(XQ:AN K lc "dict"=am ce)(abh:AN K lc "int"=am ce)(XN:AN K lc "repr"=am ce):aes K mg XD:=by
 constructor
 rintro v rfl rfl D;have q:∀b,NB (v.at b):=λb=>⟨A0 X G w5,A0 X G abe,A0 X G XO,A0 X G Ip,A0 X G abg,A0 X G S8,A0 X G zH,A0 X G S9,A0 X G O0,A0 X G abd,A0 X G abf,A0 X G abc,A0 X G XQ,A0 X G abh,A0 X G XN⟩;replace oz:=BJ X G oz;replace kT:=BJ X G kT;replace uD:=BJ X G uD;replace oB:=BJ X G oB;replace oA:=BJ X G oA;replace uC:=BJ X G uC;replace iY:=BJ X G iY;replace lJ:=BJ X G lJ;replace uE:=BJ X G uE;have p:=q v.base;refine Ka.go (d:=mY) X G (λD=>JB D p) λKN=>?_;refine VF.go (d:=jw) X G (λD=>U4 D p KN) λoH=>?_;refine R6.go (d:=gG) X G (λD=>Q9 D p) λkU=>?_;refine Ki.go (d:=jB) X G (λD=>JJ D p oH kU) λuM=>?_;refine J6.go (d:=dE) X G (λD=>Jx D oz) λgJ=>?_;refine HF.go (d:=kQ) X G (λD=>Ha D kT) λIh=>?_;refine Oa.go (d:=pU) X G (λD=>NA D uD gJ) λOz=>?_;refine N8.go (d:=lI) X G (λD=>Ny D p) λwZ=>?_;refine Kc.go (d:=m5) X G (λD=>JE D p uM) λKP=>?_;refine yX.go (d:=jA) X G (λD=>ym D p) λzu=>?_;refine R7.go (d:=uy) X G (λD=>Ra D p oH KP wZ kU zu) λSG=>?_;refine HB.go (d:=kO) X G (λD=>G8 D p gJ) λIg=>?_;refine Kb.go (d:=mZ) X G (λD=>JD D Ih) λKO=>?_;refine Kg.go (d:=jy) X G (λD=>JH D p oB oA uC iY Oz Ig KO) λuL=>?_;refine R1.go (d:=kN) X G (λD=>Q6 D p) λuJ=>?_;refine Kh.go (d:=gH) X G (λD=>JI D p) λnh=>?_;refine J9.go (d:=mW) X G (λD=>JA D lJ rK) λKL=>?_;refine HD.go (d:=hZ) X G (λD=>G9 D p kU uJ KL) λqv=>?_;refine yW.go (d:=jz) X G (λD=>yk D uL qv) λzr=>?_;refine HA.go (d:=hX) X G (λD=>G7 D p uE gJ) λqu=>?_;refine yR.go (d:=jv) X G (λD=>yh D qu gJ uJ) λzq=>?_;refine R3.go (d:=ux) X G (λD=>Q7 D p zr zq nh) λSE=>?_;refine VD.go (d:=rX) X G (λD=>U3 D p oH SE) λMv=>?_;refine VG.go (d:=rY) X G (λD=>U5 D nh Mv) λMw=>?_;refine vD.go (d:=iz) X G (λD=>vj D uL qv) λvL=>?_;refine vC.go (d:=iy) X G (λD=>vi D p qu gJ uJ) λvK=>?_;refine HH.go (d:=kR) X G (λD=>Hc D p Mv oH vL vK nh) λIi=>?_;refine N7.go (d:=lH) X G (λD=>Nx D) λwY=>?_;refine N9.go (d:=pT) X G (λD=>Nz D p wY kU) λOy=>?_;refine Se.go (d:=uz) X G (λD=>Rc D p Oy) λSH=>?_;refine VC.go (d:=zc) X G (λD=>U2 D p) λWa=>?_;refine Ke.go (d:=jx) X G (λD=>JG D Ii Wa SH) λuK=>?_;refine qT.go (d:=fB) X G (λD=>qJ D p Mw) λqY=>?_;refine J7.go (d:=mU) X G (λD=>Jy D wY uK qY) λKI=>?_;refine vB.go (d:=iw) X G (λD=>vh D p) λvJ=>?_;refine J8.go (d:=mV) X G (λD=>Jz D p uM) λKJ=>?_;refine N6.go (d:=pS) X G (λD=>Nw D p kU wZ) λOx=>?_;refine VH.go (d:=zd) X G (λD=>U6 D p oH vJ KJ Ox) λWb=>?_;refine Kj.go (d:=m6) X G (λD=>JK D p) λKQ=>?_;refine HG.go (d:=cv) X G (λD=>Hb D) λdJ=>?_;refine Oc.go (d:=gn) X G (λD=>NC D p dJ) λlL=>?_;refine vF.go (d:=fe) X G (λD=>vm D p dJ) λmy=>?_;refine yY.go (d:=jC) X G (λD=>yn D p dJ my lL) λzv=>?_;refine yZ.go (d:=f9) X G (λD=>oe D p 12) λoI=>?_;refine y6.go (d:=jD) X G (λD=>yo D p oI dJ lL) λzw=>?_;refine vE.go (d:=iA) X G (λD=>vk D p dJ lL) λvM=>?_;refine Kk.go (d:=m7) X G (λD=>JL D Mw uK) λKR=>?_;exact acT D p KQ zv oI dJ lL my SG Wb zw vM KR KI
end
end My
end
open PySem PySem.W PyProof.Rows
structure PySem.W.Fast:Prop where(tw9818529333848565319 tw7125130215871421988 tw15814917455040490594 tw5150687009528437638 tw15121593565568089396 tw9760554431065446989 tw9132166756198841975 tw7744765944783390611 tw7905255558304942965 tw3968113862366996230 tw7886741607851739654 tw8908205403116533839 tw13043399596625565923 tw8245027050988783091 tw11523646824537217410 tw11234070797803135235 tw3767114456088374224 tw17358558817283659885 tw7007299617139094900 tw11576920701885228472 tw10752102287437519155 tw11413185804042282749 tw8547627906556263021 tw2164947150064271441 tw4147471461526448080 tw864794541363236530 tw16679781269429710594 tw853659723111973324 tw8799718236749188463 tw1848175442535070306 tw6996528996393492649 tw17550665362578334688 tw1094653087588458136 tw14159342423886474901 tw14616953369118909874 tw16685612831948906545 tw18440752557495459691 tw10694585203532055658 tw4401250865016126150 tw3948257434541900587 tw17380665613258409720 tw15137832300817025748 tw4568618445491923776 tw10751130105614267649 tw5360318655637049708 tw12254632580260131433 tw11568154985169049614 tw17869246958834620579 tw13912118690432124875 tw7921776276621433609 tw1497614716016621479 tw9559635749201030195 tw14224513052890721941 tw17016680489755766086 tw1957761790147557574 tw8515598741063775574 tw795399225010224944 tw15848933237177788517 tw16305784251233045963 tw11096459916337031739 tw17779476477637248666 tw8739682414111859834 tw6427774254233518598 tw4831936917835692974 tw12741210398416931619 tw3741420103876291707 tw12781701836314344036 tw16544961172161923172 tw17225802582547419862 tw7513346719360872219 tw11208430698286851935 tw8826652296961403724 tw426278558764007586 tw16230177230900125552 tw2011538154869846183 tw15750873208212261195 tw6910822065208341076 tw4820325063599021841 tw13939256748085737220 tw7418341683433625926 tw3528948494918419828 tw16749168298334672266 tw4180774095341565105 tw2233510600923231954 tw2055209782522518433 tw5452262064636581499 tw1959523214328165235 tw4351236905118690455 tw5892249197343180562 tw2607741825976760524 tw6087128206858690797 tw1246420887102830257 tw11813633708761275930 tw13166102295299831507 tw16979211563054958690 tw8638565731385862312 tw17177486130862168196 tw8205268448819626442 tw12667674642555066668 tw1647525218631361879 tw10687164870354334511 tw12783428538552407589 tw6688601699867390529 tw10001166597537559898 tw165548072881806546 tw10206348688595214010 tw4453730239595394328 tw273077677003378225 tw5604148246446970835 tw4737669253074970739 tw12728748070202410170 tw8191586877424274017 tw17063414289090509746 tw1185729480886672989 tw16403580176372944653 tw9585016223195628645 tw10117496302156625065 tw12324468374534865663 tw13100502836810435158 tw15439742865126612846 tw5215175823279627378 tw6597193064306405337 tw8505636755459396572 tw8258611505913614262 tw821528345098412112 tw10256401272891364252 tw1557044489471109179 tw15792424813669676275 tw16934260346549002632 tw734901077536735547 tw6478446072589188515 tw11066700985892115814 tw13314605378276763097 tw4759895109558563200 tw14490876438394962672 tw13466207388530126660 tw9459955914422018826 tw321679273614948268 tw12722070261227203132 tw5692027647317298704 tw2389540263512473111 tw15647896869091829228 tw4968312296979600019 tw9004621071455794820 tw4798438857888979294 tw973366697648942537 tw17893754461694215005 tw15199882605394821037 tw10331693354882515865 tw14063948251687456149 tw7907223644717002435 tw4213507838154207980 tw6717745305475102747 tw10935443864017498868 tw4515262001508138206 tw2384255181271909376 tw7864680680417070872 tw13628227104463739118 tw10863854959520240434 tw6845782443845549137 tw8506482147881299516 tw7509474489695124730 tw13941316722056601101 tw8832103104436023963 tw11706059401724536678 tw8860029186981018487 tw7952551665364842030 tw10027504497819602851 tw201567120446970207 tw16918315526186491538 tw17184338963435883265 tw1966123184057766880 tw6701597409861667758 tw15180018366551945938 tw6698433419972600742 tw13497636960817562789 tw10945248625923554292 tw17600662959018749638 tw13217169795615851186 tw13142054191667901024 tw12878984106691742224 tw15729301746915223939 tw10529069857361622876 tw7576229118875906406 tw13334567844677959193 tw12668007467661582320 tw11763048198158146706 tw17803224276637004479 tw10100222819376846428 tw1746722248217162490 tw6008305566922290639 tw4161109187832687224 tw8236075764818839227 tw13083462017844294575 tw13027983120098135819 tw8045334184923918137 tw1121412520998264919 tw13195220181999767536 tw3894770866859502769 tw15860717553239104053 tw4567530467435462141 tw2141503805101805431 tw9803992448271566869 tw16789668297290952358 tw3851211940103477211 tw4098026704075167212 tw7208396158797619108 tw12970023897352498247 tw14035172542614366653 tw15301146118265908895 tw2305921221571639867 tw17818931690236342057 tw33699378769916850 tw8010683657105024837 tw13671912130208415538 tw11567613614547930475 tw13544169510403876141 tw3602449490074397841 tw15912193009478781831 tw12475959706200013363 tw6164051559380922847 tw8450349418669057777 tw9844831494773390906 tw7169819986056950806 tw7097106724520795967 tw16920860915483169571 tw15172008264585858604 tw5883522724646234993 tw4040504220006207923 tw16071865300322069121 tw1901220731664927607 tw9445509442100360137 tw11029372805816097417 tw12332694939680292807 tw13640412089772024201 tw17435829948684785350 tw3428304365829454076 tw17266441854271361348 tw7941193157203099052 tw4492618989236082440 tw13833859891491012203 tw9702151565577573600 tw7244642196405481509 tw16825414094639074097 tw9308578671877154300 tw5216134797365344422 tw15399215904489593381 tw10648122069380295269 tw772170393203101115 tw7724504413212824403 tw14143228013540536300 tw17941701849198420809 tw10157125107976583020 tw4047844827818638448 tw2097576013684923563 tw1191328838386508170 tw9616830322264276487 tw12814155432554954104 tw17871375564245944939 tw17407393200440208763 tw9847726939335959517 tw10077605659875434751 tw7347690615585259823 tw12109117479199298882 tw10643737707105365325 tw12076179551741249063 tw9154819836936006915 tw12005513846701346161 tw14882128550512319656 tw469740196223956138 tw12602221417021854 tw8041465548002616628 tw13475762189956046512 tw546843512232689919 tw12840400380584284315 tw10267243098958771372 tw7395787281716895585 tw17615773114093520079 tw12119416320415662318 tw12148054201088638762 tw15884990812707486343 tw7426623547691813714 tw18310898045097670451 tw9420198105140319460 tw11289424788791576185 tw18033402037049564544 tw8422337949003276599 tw11833439146401300203 tw14756063157555591279 tw7449438991508845306 tw1793836141710723063 tw12453334793438854936 tw15137791078300856198 tw3354631613675489929 tw12382017387493106360:True)
def PySem.W.Fast.tw17294663479832876847:=PySem.Challenge.pw_treewithin_k70_several_together
theorem PySem.W.Fast.te17294663479832876847:PySem.Challenge.pw_treewithin_k70_several_together=PySem.W.Fast.tw17294663479832876847:=rfl
set_option maxRecDepth 100000 in
set_option maxHeartbeats 0 in
theorem PySem.Challenge.cw_treewithin_k70_several_together_holds : PySem.Challenge.rw_treewithin_k70_several_together.Holds := by
 w_on;o_law;k_head;(case hw=>w_witness2)
 k_fill
 refine FL.walkT (l:=PySem.Challenge.rw_treewithin_k70_several_together) (k:=14) rfl rfl ⟨rfl,by decide,by decide,rfl⟩ (fun w h Y=>⟨PySem.W.kIn_of Y,fun P hP=>(List.not_mem_nil hP).elim⟩) ?K ?C ?F
 case K=>
  intro w P hP;exact(List.not_mem_nil hP).elim
 case C=>
  intro w h hK P hP;exact(List.not_mem_nil hP).elim
 case F=>
  intro w mg fa h KX G hmg;refine' FL.mkAll (st:=My.top 65) (k:=14) My.law70_ok KX G hmg ?e (fun _ _ _ _ _ _=>FL.usN fun _=>rfl) (My.all_d KX G  ..)
  all_goals try first|(refine' FL.dx ?a ?l ?c ?k;(case a=>k_is);(case l=>k_is);(case c=>k_is);(case k=>k_is))|(refine' FL.tup3K ?a;(case a=>k_is))|(refine' FL.cdx2 ?a ?m2 ?l ?c ?k ?m1 ?m3 ?m4 ?c1 ?c2 ?c3 ?c4 ?na;(case a=>k_is);(case m2=>k_is);(case l=>k_is);(case c=>k_is);(case k=>k_is);(case m1=>k_is);(case m3=>k_is);(case m4=>k_is);(case c1=>k_is);(case c2=>k_is);(case c3=>k_is);(case c4=>k_is);(case na=>(intro n hn;simp only[List.mem_cons,List.not_mem_nil,or_false]at hn;rcases hn with rfl|rfl|rfl|rfl;all_goals k_is)))|k_is
#print axioms PySem.Challenge.cw_treewithin_k70_several_together_holds
