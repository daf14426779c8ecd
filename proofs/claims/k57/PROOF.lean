import PyProof.Rows.All
import Wide.All
import OpenK.AllK
import Wide.FinOn
import Lean
import PyProof.EqAt
import PyProof.EqKinds
import PyProof.TupleCall
import PyProof.NeKinds
import PyProof.FactsAll.tuple_2
import PyProof.FactsAll.str_0
import PyProof.FactsAll.str_1
import PyProof.FactsAll.str_2
import PyProof.FactsAll.str_3
import PyProof.Rows.MinMaxN
import PyProof.Rows.SumAny
import PyProof.Rows.SetFrom
import PyProof.ReprRoads
import PyProof.Rows.StrKeys3
import PyProof.CallFns
import KE.KSortTup
import KE.KDictSum
import PyProof.Rows.CallKwBuiltin
import KE.KMinBuiltin
import KE.IntBitsLaws
import KE.KDictList
import PySem.Challenge.RW_treewithin_k57_crossings_told
open PySem renaming wpAny_bind -> Aa, wpAny_pure -> Af, wpAny_setField_rec -> AL, wpAny_field -> A4, wpAny_callSpecial?_slot -> A6, Value -> A9, Addr -> Bg, wpAny_call_entry -> Bm, wpAny_holding -> Bp, wpAny_of_eq -> Br, wpAny_seqItems -> Bu, Expr -> BC, wpAny_Call_Name_kw -> BD, mem_of_lookup -> BI, wpAny_mono -> BJ, wpAny_newObj_type -> BK, Str -> BZ, wpAny_typeNameOfWhole_keyiter -> Ca, Pos -> Ck, wpAny_passesOwn -> Cq, wpAny_pyIter_enum -> Cw, wpAny_letGo -> Cy, wpAny_typeNameOf_keyiter -> CA, wpAny_attempt -> CB, wpAny_newTuple -> CH, wpAny_updateSeq -> CT, wpAny_rule -> C3, wpAny_letOwnedTupleGo_enum -> C4, wpAny_isInstance -> C9, Shared -> DA, wpAny_truthy_bool -> DB, wpAny_pyIter_list -> DC, wpAny_eqBool_str -> DW, wpAny_standAt -> DZ, wpAny_updateSeq_pair -> D4, wpAny_execs_nil -> D9, wpAny_tryCatch -> EA, wpAny_setField -> EB, wpAny_pyIter_tuple -> EC, wpAny_dictEntries -> ER, wpAny_onRaise -> EZ, wpAny_getItem_list_slice -> E1, wpAny_comprehension_free -> E2, Heap -> Fe, wpAny_specialOf -> Fv, wpAny_loadPart' -> Fw, wpAny_dictEpoch -> Fx, wpAny_fresh -> FQ, Obj -> F0
open PySem.W renaming Frag -> Ab, nsIn -> AI, mg_none_of -> AU, kia_one -> Be, kitOne -> Bz, mg_of -> BU, fnOf -> B9, KasT -> Ei, keepIn -> Er, codeIn -> Es, methodObj -> EK, kitx_list -> EL, kitx_dict -> EM, cellsFrom_some -> Fd, instObj -> Fs, tabObj -> FJ, lookIn -> FK, findIn -> FN, kitx_tuple -> F7, plainGet -> Gk, kas_sort -> Gm
open List renaming getElem?_eq_getElem -> Ad, getD_eq_getElem?_getD -> Ae, getElem?_map -> Ag, length_map -> Ai, getElem?_eq_some_iff -> Aj, length_append -> Al, size_toArray -> Am, replicate -> Ao, mem_map -> Ar, getElem?_eq_none -> Au, length_cons -> Aw, append_assoc -> Ax, range -> Az, map_cons -> AA, mem_cons -> AD, filterMap_cons -> AG, getElem?_range -> AN, lookup_cons -> AO, mem_append_right -> AQ, map_append -> AR, mem_singleton -> AW, mem_range -> AX, mem_cons_of_mem -> AY, mem_append -> AZ, map_map -> A0, getElem?_append_left -> A1, mem_of_getElem? -> Bb, getElem?_append_right -> Bc, map_congr_left -> Bk, mem_filter -> Bl, length_range -> Bq, mem_cons_self -> BF, mem_append_left -> BG, length_set -> BH, ext_getElem? -> BL, perm_append_comm -> BM, pairwise_iff_getElem -> B0, drop_eq_getElem_cons -> B1, length_replicate -> B3, length_filter_le -> B4, getElem_mem -> B8, length -> Cb, getElem?_set_ne -> Cc, eq_nil_of_length_eq_zero -> Cd, take_of_length_le -> Ci, idxOf_lt_length_of_mem -> Cj, filter_append -> Cp, forIn_cons -> Cs, length_reverse -> CD, not_mem_nil -> CJ, length_take -> CK, getElem?_replicate -> CM, getElem?_set_self -> CS, append_nil -> CU, any_cons -> CW, mem_iff_getElem? -> CZ, length_drop -> Dc, all_eq_true -> De, getElem?_eq_none_iff -> Df, replicate_succ -> Di, mergeSort_perm -> Dj, length_pos_iff -> Dk, foldl_cons -> Dn, eraseIdx_cons_succ -> Dw, take_sublist -> DG, reverse_cons -> DH, nodup_append -> DJ, replicate_append_replicate -> DN, eraseIdxIfInBounds_toArray -> DP, getElem?_reverse -> DS, pairwise_append -> D5, length_eraseIdx -> D6, nodup_cons -> Ea, find?_cons -> Eb, map_eq_nil_iff -> Ee, getElem_of_mem -> Ef, flatMap_append -> Eg, map_nil -> En, mem_filterMap -> EE, getElem?_set -> ES, flatten_cons -> ET, mem_of_mem_eraseIdx -> E3, pairwise_mergeSort -> E6, nodup_range -> E7, getElem_inj -> E8, filter_cons -> E9, drop_length -> Fb, range_succ_eq_map -> Fh, pairwise_lt_range -> Fi, map_set -> Fj, filter_eq_nil_iff -> Fm, drop_of_length_le -> Fo, drop_eq_nil_of_le -> Fp, range_succ -> Fz, of_mem_zip -> FA, take_append_drop -> FG, length_singleton -> FH, getElem?_toArray -> FI, take_succ -> FV, nodup_nil -> FW, map -> FX, reverse_append -> F2, getD_cons_succ -> F3, map_take -> F4, any_map -> Gh, range' -> Gp
open PySem.Heap renaming get?_push_of_some -> Ah, get?_push_size -> An, lt_size -> Ap, size_push -> Bt, get?_update_other -> BV, get?_update_self -> B2, SameBut -> Cu, size_update -> E4, ExtBut -> FO, get?_update_ne -> F1
open Nat renaming le_refl -> Ak, lt_of_lt_of_le -> Ay, lt_irrefl -> AB, ne_of_lt -> AE, le_trans -> AV, zero_add -> A2, add_assoc -> A8, zero_le -> Ba, le_add_right -> Bf, lt_or_ge -> Bs, div_eq_of_eq_mul_right -> BE, gcd -> BW, lt_succ_self -> B7, strongRecOn -> Ce, pow_le_pow_right -> Cz, gcd_pos_of_pos_right -> CC, add_sub_cancel_left -> CI, le_of_ble_eq_true -> CY, lt_succ_of_lt -> C0, mul_le_mul_right -> C5, mul_le_mul_left -> Dh, le_succ -> Dv, gcd_comm -> DE, sub_zero -> Ek, le_of_lt -> El, coprime_div_gcd_div_gcd -> Em, eq_or_lt_of_le -> ED, sub_self -> Ff, mul_comm -> Fg, not_lt_zero -> Fy, sub_sub -> FR, mul_le_mul -> FU, succ_mul -> Gf, le_of_eq -> Gg
open Bool renaming false_eq_true -> Aq, false_ne_true -> AM, and_eq_true -> A7, eq_iff_iff -> Dp, not_false -> DL, and_false -> DM, false_and -> FZ, true_and -> F5, not_true -> F6
open PySem.PassesOwn renaming never -> Av
open Int renaming le_of_lt -> AH, le_refl -> A5, eq_ofNat_of_zero_le -> Bd, toNat_natCast -> Bw, mul_assoc -> BO, mul_le_mul_of_nonneg_right -> CN, mul_le_mul_of_nonneg_left -> CO, neg_sub -> C6, mul_nonneg -> C7, mul_nonpos_of_nonpos_of_nonneg -> Ds, pos_of_mul_pos_left -> Dx, mul_comm -> DK, natCast_ediv -> DY, le_antisymm -> Ec, mul_lt_mul_of_pos_right -> Eo, mul_right_comm -> EG, lt_of_mul_lt_mul_right -> EH, lt_of_le_of_lt -> EI, gcd_natCast_natCast -> Fc, natCast_add -> FC, mul_add -> FY, zero_add -> Gi, one_pos -> Gq
open PySem.Value renaming ref -> AJ, none -> A3, str -> Bh, int -> CF, type -> C2, bool -> F8
open PyProof.Rows renaming callWith_type1 -> Bj
open PySem.NameKind renaming free -> Bo, cell -> CV
open PySem.F renaming slot_enumerate_next -> Bv, slot_dict_keyiterator_next -> BR, plainAttrs_list -> BS, slot_tuple_iterator_next -> Cn, args_enumerate_next_1 -> CG, entry_enumerate_next -> CP, plain_min_loop -> C8, args_tuple_add_2 -> Dl, slot_list_getattribute -> Dm, called_enumerate -> Dr, entry_tuple_add -> Du, slot_tuple_add -> Dy, type_list_pop -> DQ, slot_list_pop -> DR, args_dict_keyiterator_next_1 -> DV, entry_dict_keyiterator_next -> D1, args_list_extend_2 -> D2, slot_zip_next -> D7, args_tuple_iterator_next_1 -> D8, entry_list_extend -> Ed, entry_tuple_iterator_next -> Ej, slot_list_extend -> Ey, type_tuple_index -> EW, slot_tuple_index -> EX, plainAttrs_tuple -> EY
open Ne renaming symm -> Bx
open PySem.Obj renaming mapSeq -> BA, data_mapFields -> Dq, isFreed_of_fields -> FE
open PySem.PyData renaming hasDict -> BN, shownAll -> BQ, showableAll -> Ew, hasDictAll -> EN, depthAll -> Ft
open False renaming elim -> BX
open PySem.Calls renaming spliced_cons -> B5, spliced_nil -> Cv, callWith_builtin -> Dz, Name_function_global -> Ez, evalArgs_plain -> FP
open PySem.AutoSeq1 renaming wpAny_loadPart' -> B6, sub_list_tuple -> D3
open PySem.Str renaming ofString -> Cf
open Or renaming inl -> Cg, inr -> Co
open True renaming intro -> Cm
open Option renaming map_some -> Cr, isSome_some -> Gb
open ForInStep renaming yield -> Ct
open Std.Legacy.Range renaming forIn_eq_forIn_range' -> C1
open Array renaming getElem?_eq_getElem -> Dg, getElem?_toList -> DT, length_toList -> Eh, perm_iff_toList_perm -> EJ, getElem?_eq_none -> Fq
open PySem.SeqAt renaming EqAt -> DU
open And renaming right -> Ep
open PySem.SeqAt.RcNeAt renaming lists_lengths -> Et, lists -> F9
open PySem.SeqAt.EqAt renaming int_int -> Eu, of_refs -> Ga, same -> Gr
open PySem.Fin renaming done -> Ex
open PySem.EqBoolInt renaming of_rcne -> EO, of_rc -> Fu
open PySem.SeqAt.RcAt renaming lists_lengths -> EU, tuples -> Gd, lists -> Gn
open PySem.Flow renaming ret -> E5
open PySem.Data renaming seq -> Ge
open Except renaming error -> Gj
open Sum renaming inr -> Gs, inl -> Gu
set_option compiler.extract_closed false
set_option Elab.async false
set_option linter.all false
set_option maxRecDepth 100000
set_option maxHeartbeats 1000000
open Option renaming some→am,none→ce
open PyProof.Rows renaming seqObj→wS,IntsAre→xL,boot_str→Ch,envOfC→GM,AllBare→Pv
open PySem renaming Value→ci,Shared→cr,Addr→db,wpAny→ga,model→gl,starEach→gt,mainGlobals→im,Expr→nw,eval→o0,Scope→pc,Heap→pr,attributeBase→re,bootBuiltins→sn,swapsWith→ss,compareOp→sw,tupleKind→sB,cLine→sK,IntMulOk→tz,backTo→t0,behindInMarks→ul,cellsFrom→ut,binaryOp→u8,Stmt→v4,sliceBounds→wf,Builtin→wn,call_meets→wv,PassesOwn→ww,NameKind→wE,Program→wP,rawInt→wT,keywordEach→xz,plainId_quiet→BT,Around→Da,World→Db,assignEach→EQ,swapsWithSole→Fa,swappedStores→Fk,codeAny_builtin→FB,IsEnum→FM,slicePick→FS,typeLookup→Gc,sysModules→GE,builtinsNs→GT,backToKw→Ix,IsPair→IR,holding→KB,codeAny→KF,assign→KM,relabel→Os,pyNext→Pi,codeAny_mono→Ps,letOwnedTupleGo→PP
set_option genSizeOf false
local macro_rules | `(command|def $i:declId $s:optDeclSig $v:declVal)=>`(command|noncomputable def $i:declId $s:optDeclSig $v:declVal)
local macro_rules | `(command|abbrev $i:declId $s:optDeclSig $v:declVal)=>`(command|noncomputable abbrev $i:declId $s:optDeclSig $v:declVal)
theorem rTq9(h:0=0:=by rfl):0=0:=h
local macro_rules | `(‹$p›)=>`(autoParam $p rTq9._auto_1)
local macro_rules | `(‹_›)=>`(by assumption)
theorem dTq9(h:0=0:=by decide):0=0:=h
local macro_rules | `(~~~$p)=>`(autoParam $p dTq9._auto_1)
local macro_rules | `(∅)=>`(by lia)
local macro_rules | `(⋯)=>`(by decide)
open PySem PySem.Spec PyProof.Rows
abbrev O.{u}(α:Type u):=List α
namespace L2
end L2
namespace My
end My
namespace PL
end PL
namespace FL
end FL
open L2 My PL FL
namespace L2
abbrev Key:=Sum Int Str
def vT:Key->ci->Bool
 |.inl k,v=>Value.isInt k v
 |.inr x,v=>Value.isStrOf x v
def aff(w:Db):Key->Int
 |.inl k=>hashInt k
 |.inr x=>hashStr w x
def bK:∀{k:Key}{v:ci},vT k v=true->(∃i t,k=Gu i/\v=CF i t)\/(∃x t,k=Gs x/\v=Bh x t)
 |.inl i,v,h=>by
  obtain⟨t,e⟩:=Value.isInt_shape h;exact .inl ⟨i,t,rfl,e⟩
 |.inr x,v,h=>by
  obtain⟨t,e⟩:=Value.isStrOf_shape (v:=v) h;exact .inr ⟨x,t,rfl,e⟩
def L5(i:Int)(t:Tok):vT (.inl i) (.int i t)=true:=by simp[vT,Value.isInt]
def L4(x:Str)(t:Tok):vT (.inr x) (.str x t)=true:=by simp[vT,Value.isStrOf]
def XS(a b:Int):decide ((Gu a:Key)=Gu b)=(a==b):=by
 by_cases e:a=b
 .subst e;simp
 .rw[decide_eq_false (λq=>e (Gu.inj q))];exact(beq_eq_false_iff_ne.mpr e).symm
def XO(a b:Str):decide ((Gs a:Key)=Gs b)=decide (a=b):=by
 by_cases e:a=b
 .simp
 .rw[decide_eq_false (λq=>e (Gs.inj q)),decide_eq_false e]
def XR(a:Int)(b:Str):decide ((Gu a:Key)=Gs b)=false:=decide_eq_false (λq=>nomatch q)
def XQ(a:Str)(b:Int):decide ((Gs a:Key)=Gu b)=false:=decide_eq_false (λq=>nomatch q)
def cn(prog:wP)(w:Db):PySem.KeyKind prog w Key where
 is:=vT
 hash:=aff w
 inj:=λv a b ha hb=>by
  rcases bK ha with⟨i,t,rfl,rfl⟩|⟨x,t,rfl,rfl⟩
  .rcases bK hb with⟨j,u,rfl,e⟩|⟨y,u,rfl,e⟩
   .injection e with e1 _;rw[e1]
   .exact nomatch e
  .rcases bK hb with⟨j,u,rfl,e⟩|⟨y,u,rfl,e⟩
   .exact nomatch e
   .injection e with e1 _;rw[e1]
 byValue:=λk v h=>by
  rcases bK h with⟨i,t,rfl,rfl⟩|⟨x,t,rfl,rfl⟩<;>rfl
 pyHash:=λhv h=>by
  rcases bK hv with⟨i,t,rfl,rfl⟩|⟨x,t,rfl,rfl⟩
  .exact wpAny_pyHash_int h
  .exact wpAny_pyHash_str h
 eqBool:=λhu hv h=>by
  rcases bK hu with⟨i,t,rfl,rfl⟩|⟨x,t,rfl,rfl⟩
  .rcases bK hv with⟨j,u,rfl,rfl⟩|⟨y,u,rfl,rfl⟩
   .rw[XS]at h;exact wpAny_eqBool_int h
   .rw[XR]at h;exact DU.int_str i t y u _ _ _ _ h
  .rcases bK hv with⟨j,u,rfl,rfl⟩|⟨y,u,rfl,rfl⟩
   .rw[XQ]at h;exact DU.str_int x t j u _ _ _ _ h
   .rw[XO]at h;exact DW h
 «strs»:=λk x t v h=>by
  rcases bK h with⟨i,u,rfl,e⟩|⟨y,u,rfl,e⟩
  .exact nomatch e
  .injection e with e1 _;subst e1;cases v<;>rfl
def zF(prog:wP)(w:Db)(i:Int)(t:Tok):(cn prog w).is (.inl i) (.int i t)=true:=L5 i t
def zE(prog:wP)(w:Db)(x:Str)(t:Tok):(cn prog w).is (.inr x) (.str x t)=true:=L4 x t
end L2
variable{us:O A9}{u:A9}{κ α β:Type}{a b e:Bg}{P:PySem.Program}{w:PySem.World}{h h':Fe}{ob:F0}
namespace L2
inductive V where
 |aF|bl (b:Bool)|int (i:Int)|str (x:Str)|MZ (b:Array UInt8)|Zy (b:UInt64)|ref (a:db)|ty (n:String)
 deriving DecidableEq
def RelV:V->ci->Prop
 |.aF,u=>u=A3
 |.bl b,u=>u=F8 b
 |.int i,u=>∃t,u=CF i t
 |.str x,u=>∃t,u=Bh x t
 |.MZ b,u=>∃t,u=Value.bytes b t
 |.Zy b,u=>∃t,u=Value.float b t
 |.ref a,u=>u=AJ a
 |.ty n,u=>u=C2 n
abbrev Vals:O V->O ci->Prop:=Paired RelV
def Vals.length{xs:O V}(r:Vals xs us):xs.length=us.length:=Paired.length r
theorem Vals.get:∀{xs:O V}{us:O ci}{i:Nat}{x:V},Vals xs us->xs[i]?=am x->∃u,us[i]?=am u/\RelV x u
 |_,_,_,_,.nil,e=>by simp at e
 |_,_,0,_,.cons r _,e=>by simp at e;subst e;exact⟨_,rfl,r⟩
 |_,_,i+1,x,.cons _ t,e=>by
  obtain⟨u,h1,h2⟩:=Vals.get t (by simpa using e);exact⟨u,by simpa using h1,h2⟩
theorem Vals.set{x:V}(r:RelV x u):∀{xs:O V}{us:O ci} (i:Nat),Vals xs us->Vals (xs.set i x) (us.set i u)
 |_,_,_,.nil=>.nil
 |_,_,0,.cons _ t=>.cons r t
 |_,_,i+1,.cons q t=>.cons q (Vals.set r i t)
theorem Vals.append:∀{xs ys:O V}{us ws:O ci},Vals xs us->Vals ys ws->Vals (xs++ys) (us++ws)
 |_,_,_,_,.nil,s=>s
 |_,_,_,_,.cons r t,s=>.cons r (Vals.append t s)
theorem Vals.take:∀{xs:O V}{us:O ci} (n:Nat),Vals xs us->Vals (xs.take n) (us.take n)
 |_,_,0,_=>.nil
 |_,_,_+1,.nil=>.nil
 |_,_,n+1,.cons r t=>.cons r (Vals.take n t)
theorem Vals.drop:∀{xs:O V}{us:O ci} (n:Nat),Vals xs us->Vals (xs.drop n) (us.drop n)
 |_,_,0,r=>r
 |_,_,_+1,.nil=>.nil
 |_,_,n+1,.cons _ t=>Vals.drop n t
theorem Vals.none_of:∀{xs:O V}{us:O ci}{i:Nat},Vals xs us->xs[i]?=ce->us[i]?=ce:=λ{xs us i} r e=>by
 have h1:=r.length;have h2:=Df.mp e;exact Df.mpr ∅
def yJ:Option V->Option ci->Prop
 |some v,am u=>RelV v u
 |none,ce=>True
 |_,_=>False
def KV:O (κ×V)->O (κ×ci)->Prop:=Paired λ(p:κ×V) (q:κ×ci)=>p.1=q.1/\RelV p.2 q.2
def kV:Key->V
 |.inl i=>.int i
 |.inr x=>.str x
inductive HO where
 |lst (xs:List V)
 |tup (xs:List V)
 |dK (ay:List (Key×V))|dT (ay:List (List Key×V))
 |set (S:Int->Bool) (n:Nat)
 |ins (C dx:db) (fs:List (Str×V))
 |own (x:db)
 |xd (fs:List (Str×V))
 |met (f x:db)
 |rng (lo hi:Int)
 |cg (o:Obj) (u:HO)
 |yZ (ps:Array ci)
 |ext (φ:pr->Prop)
abbrev Hp:=db->Option HO
def upd(H:Hp)(a:db)(o:HO):Hp:=λb=>if b=a then am o else H b
def aG{H:Hp}{o:HO}:upd H a o a=am o:=by unfold upd;rw[if_pos rfl]
def ak{H:Hp}{o:HO}(h:b≠a):upd H a o b=H b:=by unfold upd;rw[if_neg h]
def Kv{H:Hp}{o u:HO}(h:H a=am o)(h':H b=am u)(d:o≠u):a≠b:=by
 intro e;subst e;rw[h]at h';exact d (Option.some.inj h')
def br{H:Hp}{o:HO}(h:H a=am o)(h':H b=ce):a≠b:=by
 intro e;subst e;rw[h]at h';cases h'
section
variable(P:wP)(w:Db)
def bh(H:Hp)(h:pr)(a:db):HO->Prop
 |.lst xs=>xs.length<=sizeLine/\∃(aq:O ci) (n:Nat),Vals xs aq/\h.get? a=am {cls:=.type "list",data:=.seq aq.toArray n}
 |.tup xs=>xs.length<=sizeLine/\∃aq:O ci,Vals xs aq/\IsTup h a aq.toArray/\∃o,h.get? a=am o/\o.dict=ce
 |.dK ay=>ay.length<=sizeLine/\(a==GE)=false/\∃vs,KV ay vs/\h.DictOf (cn P w) a vs
 |.dT ay=>ay.length<=sizeLine/\(a==GE)=false/\∃xs:O (O Key×db×ci),
   Paired (λ(p:O Key×V) (q:O Key×db×ci)=>p.1=q.1/\H q.2.1=am (.tup (p.1.map kV))/\RelV p.2 q.2.2) ay xs/\
   ∃o es ep,h.get? a=am o/\o.ExactDict/\o.data=.dict es ep/\es.toList=xs.map (entryOfKey (sB (cn P w)))/\(xs.map (·.1)).Nodup
 |.set S n=>h.SetOf (intKind P w) a S n
 |.ins C dx fs=>H dx=am (.own a)/\fs.length<=1000/\dx≠a/\h.get? a=am (Fs C dx)/\
   ∃mA,h.Ns1 dx mA/\(∀f,yJ (fs.lookup f) (mA f))/\PySem.Within mA (fs.map (·.1))
 |.own _=>∃o,h.get? a=am o
 |.xd fs=>∃mA,h.Ns1 a mA/\∀f,yJ (fs.lookup f) (mA f)
 |.rng lo hi=>∃t u v,h.get? a=am {cls:=.type "range",data:=.fields #[.int lo t,.int hi u,.int 1 v]}
 |.cg o u=>h.get? a=am o/\bh H h a u
 |.yZ ps=>h.get? a=am {cls:=.none,data:=.fields ps}
 |.met f x=>h.get? a=am (EK (.ref f) (.ref x))
 |.ext φ=>φ h/\(∃o,h.get? a=am o)/\∀h1 h2:pr,φ h1->(∀o,h1.get? a=am o->h2.get? a=am o)->φ h2
def mh(H:Hp)(h:pr):Prop:=∀a o,H a=am o->bh P w H h a o
end
section
variable{H H':Hp}{o:HO}
def bh.lt(x:bh P w H h a o):a<h.objs.size:=by
 cases o with
 |lst xs=>obtain⟨_,_,_,_,e⟩:=x;exact Ap e
 |tup xs=>obtain⟨_,_,_,p,_⟩:=x;exact p.lt
 |dK ay=>obtain⟨_,_,_,_,o,_,_,e,_⟩:=x;exact Ap e
 |dT ay=>obtain⟨_,_,_,_,o,_,_,e,_⟩:=x;exact Ap e
 |set S n=>obtain⟨o,_,_,_,e,_⟩:=x;exact Ap e
 |ins C dx fs=>obtain⟨_,_,_,e,_⟩:=x;exact Ap e
 |own y=>obtain⟨_,e⟩:=x;exact Ap e
 |xd fs=>obtain⟨_,⟨_,_,_,e,_⟩,_⟩:=x;exact Ap e
 |rng lo hi=>obtain⟨_,_,_,e⟩:=x;exact Ap e
 |cg ob u=>obtain⟨e,_⟩:=x;exact Ap e
 |yZ ps=>exact Ap (x)
 |met f y=>exact Ap (show h.get? a=am _ from x)
 |ext φ=>obtain⟨_,⟨_,e⟩,_⟩:=x;exact Ap e
theorem Paired.Xy{F G:α->β->Prop}:∀{l₁:List α}{l₂:List β},Paired F l₁ l₂->(∀a b,F a b->G a b)->Paired G l₁ l₂
 |_,_,.nil,_=>.nil
 |_,_,.cons r t,f=>.cons (f _ _ r) (Paired.Xy t f)
def bh.wJ(x:bh P w H h a o)(k:∀b u,(b=a\/H b=am (.own a))->h.get? b=am u->h'.get? b=am u)(ho:∀b,H b=am (.own a)->H' b=am (.own a))(ht:∀b xs,H b=am (.tup xs)->H' b=am (.tup xs)):bh P w H' h' a o:=by
 induction o with
 |lst xs=>obtain⟨z,aq,n,r,e⟩:=x;exact⟨z,aq,n,r,k _ _ (.inl rfl) e⟩
 |tup xs=>obtain⟨z,aq,r,⟨ob,e,c⟩,od,e2,d⟩:=x;exact⟨z,aq,r,⟨ob,k _ _ (.inl rfl) e,c⟩,od,k _ _ (.inl rfl) e2,d⟩
 |dK ay=>obtain⟨z,y,vs,r,ob,es,ep,e,c⟩:=x;exact⟨z,y,vs,r,ob,es,ep,k _ _ (.inl rfl) e,c⟩
 |dT ay=>
  obtain⟨z,y,xs,r,ob,es,ep,e,c⟩:=x;exact⟨z,y,xs,Paired.Xy r λp q z=>⟨z.1,ht _ _ z.2.1,z.2.2⟩,ob,es,ep,k _ _ (.inl rfl) e,c⟩
 |set S n=>obtain⟨ob,es,ep,t,e,c⟩:=x;exact⟨ob,es,ep,t,k _ _ (.inl rfl) e,c⟩
 |ins C dx fs=>
  obtain⟨d,z,ne,e,mA,⟨od,es,ep,e2,c⟩,r⟩:=x;exact⟨ho _ d,z,ne,k _ _ (.inl rfl) e,mA,⟨od,es,ep,k _ _ (.inr d) e2,c⟩,r⟩
 |own y=>obtain⟨ob,e⟩:=x;exact⟨ob,k _ _ (.inl rfl) e⟩
 |xd fs=>obtain⟨mA,⟨od,es,ep,e,c⟩,r⟩:=x;exact⟨mA,⟨od,es,ep,k _ _ (.inl rfl) e,c⟩,r⟩
 |rng lo hi=>obtain⟨t,u,v,e⟩:=x;exact⟨t,u,v,k _ _ (.inl rfl) e⟩
 |cg ob u ih=>obtain⟨e,q⟩:=x;exact⟨k _ _ (.inl rfl) e,ih q⟩
 |yZ ps=>
  have e:h.get? a=am {cls:=.none,data:=.fields ps}:=x;show h'.get? a=am {cls:=.none,data:=.fields ps};exact k a _ (.inl rfl) e
 |met f y=>
  have e:h.get? a=am (EK (.ref f) (.ref y)):=x;show h'.get? a=am (EK (.ref f) (.ref y));exact k a _ (.inl rfl) e
 |ext φ=>obtain⟨p,⟨o,e⟩,st⟩:=x;exact⟨st _ _ p λo q=>k _ _ (.inl rfl) q,⟨o,k _ _ (.inl rfl) e⟩,st⟩
def mh.lt(x:mh P w H h)(e:H a=am o):a<h.objs.size:=(x a o e).lt
def mh.fresh(x:mh P w H h)(e:h.objs.size<=a):H a=ce:=by
 cases q:H a with
 |none=>rfl
 |some u=>exact absurd (Ay (x.lt q) e) (AB _)
def mh.kept(x:mh P w H h)(k:∀b u,h.get? b=am u->h'.get? b=am u):mh P w H h':=λa o e=>
 (x a o e).wJ (λb u _ q=>k b u q) (λ_ q=>q) λ_ _ q=>q
def mh.laid(x:mh P w H h)(k:∀b u,h.get? b=am u->h'.get? b=am u)(hp:h.objs.size<=a)(new:bh P w (upd H a o) h' a o):mh P w (upd H a o) h':=λb u e=>by
 have hn:=x.fresh hp;by_cases hb:b=a
 .subst hb;rw[aG]at e;cases e;exact new
 .rw[ak hb]at e;exact(x b u e).wJ (λc v _ q=>k c v q) (λc q=>by rw[ak (br q hn)];exact q) λc xs q=>by rw[ak (br q hn)];exact q
end
def Rd(H:Hp)(a:db)(u:HO):Prop:=H a=am u\/∃o,H a=am (.cg o u)
def Rd.ok{H:Hp}{u:HO}(r:Rd H a u)(x:mh P w H h):bh P w H h a u:=by
 rcases r with r|⟨o,r⟩
 .exact x a u r
 .obtain⟨_,q⟩:=x a _ r;exact q
def Mut:Option HO->Prop
 |some (.lst _)=>True
 |some (.dK _)=>True
 |some (.dT _)=>True
 |some (.set _ _)=>True
 |some (.ins _ _ _)=>True
 |some (.ext _)=>True
 |_=>False
section
variable{H:Hp}{x:db}{o':HO}
def mh.write(ok:mh P w H h)(mu:Mut (H x))(he:e=x\/H e=am (.own x))(k:∀b u,b≠e->h.get? b=am u->h'.get? b=am u)(Zu:∃u,h'.get? e=am u)(new:bh P w (upd H x o') h' x o'):mh P w (upd H x o') h':=λb u q=>by
 have SQ:∀c y,H c=am (.own y)->c≠x:=λc y r z=>by subst z;rw[r]at mu;exact mu
 have aeX:∀c xs,H c=am (.tup xs)->c≠x:=λc xs r z=>by subst z;rw[r]at mu;exact mu
 by_cases hb:b=x
 .subst hb;rw[aG]at q;cases q;exact new
 .rw[ak hb]at q;by_cases Yo:b=e
  .have q':H b=am (.own x):=by
    rcases he with z|z
    .exact absurd (Yo.trans z) hb
    .rw[Yo];exact z
   rw[q]at q';cases q';obtain⟨v,hv⟩:=Zu;exact⟨v,by rw[Yo];exact hv⟩
  .refine(ok b u q).wJ (λc v hc r=>k c v ?_ r) (λc r=>by rw[ak (SQ c b r)];exact r) λc xs r=>by rw[ak (aeX c xs r)];exact r
   rcases hc with rfl|hc
   .exact Yo
   .rintro rfl;rcases he with z|z
    .exact SQ c b hc z
    .rw[hc]at z;cases z;exact hb rfl
end
structure Un(fs ex:List db)(H H':Hp)(h h':pr):Prop where
 keep:∀b o,h.get? b=am o->H b=ce->b∉fs->b∉ex->h'.get? b=am o
 slot:∀b o,h.get? b=am o->H b=ce->b∈fs->b∉ex->∃sl,h'.get? b=am {o with slots:=sl}
 free:∀b o,h.get? b=am o->H b=ce->b∉ex->H' b=ce
 there:∀b o,h.get? b=am o->b∉ex->∃o',h'.get? b=am o'
 cD:∀b xs,H b=am (.tup xs)->H' b=am (.tup xs)
 tT:∀b o u,H b=am (.cg o u)->H' b=am (.cg o u)
 uL:∀b ps,H b=am (.yZ ps)->∃more,H' b=am (.yZ (ps++more))
section
variable{fs ex:O db}{H H1:Hp}{h1:pr}{x:db}{o:HO}
def Un.any(u:Un fs ex H H1 h h1)(q:h.get? b=am ob)(n:H b=ce)(hx:b∉ex):∃sl,h1.get? b=am {ob with slots:=sl}:=by
 by_cases hb:b∈fs
 .exact u.slot b ob q n hb hx
 .exact⟨ob.slots,u.keep b ob q n hb hx⟩
def Un.kept(k:∀b u,h.get? b=am u->h'.get? b=am u):Un fs ex H H h h':=
 ⟨λb ob q _ _ _=>k b ob q,λb ob q _ _ _=>⟨ob.slots,k b ob q⟩,λ_ _ _ n _=>n,λb ob q _=>⟨ob,k b ob q⟩,λ_ _ q=>q,λ_ _ _ q=>q,λ_ ps q=>⟨#[],by rw[q];simp⟩⟩
def Un.refl:Un fs ex H H h h:=Un.kept λ_ _ q=>q
def Un.laid(k:∀b u,h.get? b=am u->h'.get? b=am u)(hp:h.objs.size<=a)(hn:H a=ce):Un fs ex H (upd H a o) h h' where
 keep:=λb u q _ _ _=>k b u q
 slot:=λb u q _ _ _=>⟨u.slots,k b u q⟩
 free:=λb u q n _=>by rw[ak (AE (Ay (Ap q) hp))];exact n
 there:=λb u q _=>⟨u,k b u q⟩
 cD:=λb xs q=>by rw[ak (br q hn)];exact q
 tT:=λb u xs q=>by rw[ak (br q hn)];exact q
 uL:=λb ps q=>⟨#[],by rw[ak (br q hn),q];simp⟩
def Un.write(mu:Mut (H x))(he:e=x\/H e=am (.own x))(k:∀b u,b≠e->h.get? b=am u->h'.get? b=am u)(Zu:∃u,h'.get? e=am u):Un fs ex H (upd H x o) h h':=by
 have hx:∀b,H b=ce->b≠x:=λb n z=>by subst z;rw[n]at mu;exact mu
 have hb:∀b,H b=ce->b≠e:=λb n z=>by
  subst z;rcases he with r|r
  .exact hx b n r
  .rw[n]at r;cases r
 have hm:∀b u,H b=am u->¬Mut (am u)->b≠x:=λb u q nm z=>by subst z;rw[q]at mu;exact nm mu
 refine⟨λb u q n _ _=>k b u (hb b n) q,λb u q n _ _=>⟨u.slots,k b u (hb b n) q⟩,λb u q n _=>by rw[ak (hx b n)];exact n,λb u q _=>?_,
  λb xs q=>by rw[ak (hm b _ q λz=>z)];exact q,λb u xs q=>by rw[ak (hm b _ q λz=>z)];exact q,λb ps q=>⟨#[],by rw[ak (hm b _ q λz=>z),q];simp⟩⟩
 by_cases Yo:b=e
 .subst Yo;exact Zu
 .exact⟨u,k b u Yo q⟩
end
def trk(h:pr)(H:Hp):O db:=(Az h.objs.size).filter λa=>(H a).isSome
def xP(h:pr)(H:Hp):pr:=PySem.W.hideAll h (trk h H)
def Mm(h:pr)(H:Hp):(xP h H).objs.size=h.objs.size:=PySem.W.hideAll_size _ _
def PF{H:Hp}{o:Obj}(e:h.get? b=am o)(n:H b=ce):(xP h H).get? b=am o:=
 PySem.W.hideAll_get _ e λhm=>by
  have q:=(Bl.mp hm).2;rw[n]at q;simp at q
def SH{H:Hp}{o:Obj}(e:(xP h H).get? b=am o):h.get? b=am o/\H b=ce:=by
 have e':=PySem.W.of_hideAll (trk h H) e;refine⟨e',?_⟩;cases q:H b with
 |none=>rfl
 |some x=>
  have z:(xP h H).get? b=ce:=PySem.W.hideAll_none (trk h H) (Bl.mpr ⟨AX.mpr (Ap e'),by simp[q]⟩);rw[z]at e;cases e
def UC(g h:pr)(L:db):O (db×Obj):=(Az h.objs.size).filterMap λa=>if a=L\/(g.get? a).isSome=true then ce else (h.get? a).map λo=>(a,o)
def rest(g h:pr)(L d:db):O (db×Obj):=(UC g h L).filter λp=>decide (p.1≠d)
end L2
variable{H H':L2.Hp}{o:F0}{U:O (Bg×F0)}{g':Array PySem.GenState}{ch:O Bg}{it:Bg}{i j:Nat}{M:PySem.Model}{A:PySem.Around}{E:A9->DA->Prop}{v:L2.V}{Q:Unit->DA->Prop}{s':DA}
namespace L2
structure Mod(K:Ab)(mg:Str->Option ci)(base:pr):Prop where
 kin:K.In base
 glob:base.Ns im mg
 blt:∃mb,base.Ns GT mb/\∀x:Str,x≠"__name__"->mb x=sn x
 nolimit:base.NoLimit
 bm:∃bm ob,mg "__builtins__"=am (.ref bm)/\bm≠GT/\base.get? bm=am ob/\ob.cls=.type "module"/\ob.dict=am GT/\ob.data=.plain
structure Cx where
 prog:wP
 w:Db
 K:Ab
 mg:Str->Option ci
 base:pr
 A:Da
 N:List Str
 s₀:cr
 H₀:Hp
 env:Env
 outer:List Env
 stack:List Env
 ex:List db
 fn:Str->Bool
 calm:Bool
 pn:List (db×Obj)
 xe:ci->cr->Prop
abbrev iQ(x:Str):Prop:=(x==("__debug__":Str))=false
abbrev JP(x:Str):Prop:=(x==("__classdict__":Str))=false
abbrev gE(X:Cx)(e:nw)(es:O nw):Prop:=gt (e::es) X.env=(false,o0 e X.env)::gt es X.env
abbrev kH(X:Cx)(p:Pos)(es:O nw):Prop:=(t0 p (gt es X.env)).any (·.1)=false
abbrev pV(X:Cx)(e:nw):Prop:=∀x,foldedSetIterable e X.env x=pure x
abbrev V6(X:Cx)(p:Pos)(l:O nw):Prop:=((t0 p (gt l X.env)).all (λx=>!x.1)&&(Ix p (xz [] X.env)).all (λx=>x.1.isSome)&&decide (l.length+([]:O Keyword).length+(if ([]:O Keyword).isEmpty then 0 else 1)<30))=true
abbrev Nr(p q:Pos):Prop:=(p.endLine==q.line)=true
abbrev Q1(X:Cx)(y:Str):Prop:=X.fn y=true\/X.env.scope.names.lookup y=am .local
def Nl(l:O Env):O db:=l.filterMap (·.frame)
abbrev Cx.fs(X:Cx):O db:=Nl X.outer
def Ho(sc:pc)(x:Str):Prop:=sc.names.lookup x=am .local\/sc.names.lookup x=am .cell\/sc.names.lookup x=am .free
def Loc(sc:pc)(x:Str):Prop:=sc.names.lookup x=am .local\/sc.names.lookup x=am .cell
def Look(env:Env)(h:pr)(m:Str->Option ci)(x:Str)(u:ci):Prop:=
 (env.kindOf x=am .local/\m x=am u)\/((env.kindOf x=am .cell\/env.kindOf x=am .free)/\∃c,env.cells.lookup x=am c/\h.IsCell c (am u))
structure Cx.Ok(X:Cx):Prop where
 mod:Mod X.K X.mg X.base
 kind:X.env.scope.kind=.function
 glob:X.env.globals=im
 blt:X.env.builtins=GT
 above:X.s₀.heap.objs.size<=X.env.locals
 inj:∀x y c,X.env.cells.lookup x=am c->X.env.cells.lookup y=am c->x=y
 has:∀x,(X.env.kindOf x=am .cell\/X.env.kindOf x=am .free)->∃c,X.env.cells.lookup x=am c
 cab:∀x c,X.fn x=true->X.env.cells.lookup x=am c->X.s₀.heap.objs.size<=c
 hd:X.calm=true->X.A.handled=ce
 frames:X.A.frames=am X.stack
 stk:X.stack=X.outer\/(X.stack=X.env::X.outer/\X.env.frame=am X.env.locals)
 exf:∀b∈X.ex,b≠X.env.locals/\∀x c,X.env.cells.lookup x=am c->c≠b
 bs:∀b o,X.base.get? b=am o->X.s₀.heap.get? b=am o/\X.H₀ b=ce
 V1:X.base.objs.size<=X.s₀.heap.objs.size
 OP:∀b o,X.base.get? b=am o->b∉X.ex
 Qd:∀b∈X.ex,b∉X.fs
 tS:X.s₀.heap.FunFrames X.base X.outer
 Zw:∀b∈X.fs,X.H₀ b=ce
structure Inv(X:Cx)(U:List (db×Obj))(σ:List (Option V))(H:Hp)(s:cr):Prop where
 ok:X.Ok
 os:s.os=X.s₀.os
 bare:Pv s.gens
 base:Un X.fs X.ex X.H₀ H X.s₀.heap s.heap
 loc:∃m,s.heap.Ns X.env.locals m/\∀(i:Nat) (x:Str) (v:V),X.N[i]?=am x->σ[i]?=am (am v)->Ho X.env.scope x->∃u,RelV v u/\Look X.env s.heap m x u
 cell:∀x c,X.env.cells.lookup x=am c->∃v,s.heap.IsCell c v
 free:H X.env.locals=ce
 jH:∀x c,X.env.cells.lookup x=am c->H c=ce
 pin:∀p∈X.pn++U,s.heap.get? p.1=am p.2/\H p.1=ce/\p.1≠X.env.locals/\p.1∉X.fs/\∀v,p.2.data≠.cell v
 bg:mh X.prog X.w H s.heap
 len:σ.length=X.N.length
section
variable{X:Cx}{σ:O (Option V)}{s:cr}
def Cx.Ok.ae0(ok:X.Ok)(e:X.base.get? b=am o):b∉X.fs:=λhb=>by
 have:=(ok.tS.mem hb).1;rw[e]at this;cases this
def Inv.bs(I:Inv X U σ H s):∀b o,X.base.get? b=am o->s.heap.get? b=am o/\H b=ce:=λb o e=>
 ⟨I.base.keep b o (I.ok.bs b o e).1 (I.ok.bs b o e).2 (I.ok.ae0 e) (I.ok.OP b o e),I.base.free b o (I.ok.bs b o e).1 (I.ok.bs b o e).2 (I.ok.OP b o e)⟩
def Inv.bk(I:Inv X U σ H s):∀b o,X.base.get? b=am o->s.heap.get? b=am o:=λb o e=>(I.bs b o e).1
def Inv.mod(I:Inv X U σ H s):Mod X.K X.mg X.base:=I.ok.mod
def Inv.vU(I:Inv X U σ H s):X.K.In s.heap:=I.ok.mod.kin.keeps I.bk
def Inv.lt(I:Inv X U σ H s):X.env.locals<s.heap.objs.size:=let ⟨_,hn,_⟩:=I.loc;hn.lt
def Inv.sz(I:Inv X U σ H s):X.s₀.heap.objs.size<=s.heap.objs.size:=AV I.ok.above (El I.lt)
def Inv.aeZ(I:Inv X U σ H s)(h:s.heap.objs.size<=a):a∉X.fs:=λhb=>by
 obtain⟨_,o,ho,_⟩:=I.ok.tS.mem hb;exact absurd (Ay (Ap ho) (AV I.sz h)) (AB _)
def Inv.YS(I:Inv X U σ H s):∀x c,X.env.cells.lookup x=am c->c≠X.env.locals:=λx c e z=>by
 obtain⟨v,o,ho,hd⟩:=I.cell x c e;obtain⟨m,⟨o',es,ep,Yj,Zv,_⟩,_⟩:=I.loc;rw[z,Yj]at ho;cases ho;rw[Zv]at hd;cases hd
def Inv.tS(I:Inv X U σ H s):s.heap.FunFrames X.base X.outer:=by
 have all:∀l,(∀b∈Nl l,b∈X.fs)->X.s₀.heap.FunFrames X.base l->s.heap.FunFrames X.base l:=by
  intro l
  induction l with
  |nil=>intro _ _;trivial
  |cons env r ih=>
   intro hs hl;obtain⟨hk,⟨L,o,hf,hn,ho,hd⟩,hr⟩:=hl;have hL:=hs L (by unfold Nl;rw[AG,hf];exact BF);obtain⟨sl,e⟩:=I.base.slot L o ho (I.ok.Zw L hL) hL λz=>I.ok.Qd L z hL;exact⟨hk,⟨L,_,hf,hn,e,hd⟩,ih (λb hb=>hs b (by unfold Nl;rw[AG,hf];exact AY _ hb)) hr⟩
 exact all X.outer (λ_ hb=>hb) I.ok.tS
def Inv.stack(I:Inv X U σ H s):s.heap.FunFrames X.base X.stack:=by
 rcases I.ok.stk with e|⟨e,hf⟩
 .rw[e];exact I.tS
 .rw[e];obtain⟨m,hn,_⟩:=I.loc;refine .cons (by rw[I.ok.kind];decide) hf hn ?_ I.tS;exact Heap.get?_none_of_le (AV I.ok.V1 I.ok.above)
def Inv.HE(I:Inv X U σ H s):∀b∈Nl X.stack,b∈X.env.locals::X.fs:=λb hb=>by
 rcases I.ok.stk with e|⟨e,hf⟩
 .rw[e]at hb;exact AY _ hb
 .rw[e]at hb;unfold Nl at hb;rw[AG,hf]at hb;exact hb
def Inv.J6(I:Inv X U σ H s):∀b∈Nl X.stack,H b=ce:=λb hb=>by
 rcases AD.mp (I.HE b hb) with e|hb
 .rw[e];exact I.free
 .obtain⟨_,o,ho,_⟩:=I.ok.tS.mem hb;exact I.base.free b o ho (I.ok.Zw b hb) λz=>I.ok.Qd b z hb
def Inv.step{t':Nat}{d':Drawn}(I:Inv X U σ H s)(Rj:∀b∈ch,(b∈X.ex\/X.s₀.heap.objs.size<=b)/\b≠X.env.locals/\(∀x c,X.env.cells.lookup x=am c->c≠b)/\∀p∈X.pn++U,p.1≠b)(keep:∀b o,b≠X.env.locals->b∉X.fs->b∉ch->s.heap.get? b=am o->H b=ce->h'.get? b=am o)(slot:∀b o,b≠X.env.locals->b∈X.fs->b∉ch->s.heap.get? b=am o->H b=ce->∃sl,h'.get? b=am {o with slots:=sl})(free:∀b o,b∉ch->s.heap.get? b=am o->H b=ce->H' b=ce)(there:∀b o,b∉ch->s.heap.get? b=am o->∃o',h'.get? b=am o')(cD:∀b xs,H b=am (.tup xs)->H' b=am (.tup xs))(tT:∀b o u,H b=am (.cg o u)->H' b=am (.cg o u))(uL:∀b ps,H b=am (.yZ ps)->∃more,H' b=am (.yZ (ps++more)))(ns:∀m,s.heap.Ns X.env.locals m->h'.Ns X.env.locals m)(bg:mh X.prog X.w H' h')(hg:Pv g'):Inv X U σ H' {s with heap:=h',gens:=g',drawn:=d',toks:=t'}:=by
 have neL:∀b o,X.s₀.heap.get? b=am o->b≠X.env.locals:=λb o e=>AE (Ay (Ap e) I.ok.above);have û:∀b o,X.s₀.heap.get? b=am o->b∉X.ex->b∉ch:=λb o e hx hb=>by
  rcases (Rj b hb).1 with z|z
  .exact hx z
  .exact absurd (Ay (Ap e) z) (AB _)
 have Ù:∀x c,X.env.cells.lookup x=am c->∀v,s.heap.IsCell c v->h'.IsCell c v:=λx c e v ⟨o,ho,hd⟩=>by
  have é:c∉ch:=λz=>(Rj c z).2.2.1 x c e rfl;by_cases hc:c∈X.fs
  .obtain⟨sl,q⟩:=slot c o (I.YS x c e) hc é ho (I.jH x c e);exact⟨_,q,hd⟩
  .exact⟨o,keep c o (I.YS x c e) hc é ho (I.jH x c e),hd⟩
 refine⟨I.ok,I.os,hg,⟨λb o e n hb hx=>?_,λb o e n hb hx=>?_,λb o e n hx=>?_,λb o e hx=>?_,λb xs e=>cD b xs (I.base.cD b xs e),λb o xs e=>tT b o xs (I.base.tT b o xs e),λb ps e=>?_⟩,?_,λx c e=>?_,?_,λx c e=>?_,λp hp=>?_,bg,I.len⟩
 .exact keep b o (neL b o e) hb (û b o e hx) (I.base.keep b o e n hb hx) (I.base.free b o e n hx)
 .obtain⟨sl,e1⟩:=I.base.slot b o e n hb hx;obtain⟨sl',e2⟩:=slot b _ (neL b o e) hb (û b o e hx) e1 (I.base.free b o e n hx);exact⟨sl',e2⟩
 .obtain⟨o',e1⟩:=I.base.there b o e hx;exact free b o' (û b o e hx) e1 (I.base.free b o e n hx)
 .obtain⟨o',e1⟩:=I.base.there b o e hx;exact there b o' (û b o e hx) e1
 .obtain⟨m1,e1⟩:=I.base.uL b ps e;obtain⟨m2,e2⟩:=uL b _ e1;exact⟨m1++m2,by rw[e2,Array.append_assoc]⟩
 .obtain⟨m,hn,hl⟩:=I.loc;refine⟨m,ns m hn,λi x v e1 e2 e3=>?_⟩;obtain⟨u,r,l⟩:=hl i x v e1 e2 e3;refine⟨u,r,?_⟩;rcases l with l|⟨k,c,e,z⟩
  .exact .inl l
  .exact .inr ⟨k,c,e,Ù x c e _ z⟩
 .obtain⟨v,z⟩:=I.cell x c e;exact⟨v,Ù x c e v z⟩
 .obtain⟨m,⟨o,_,_,ho,_⟩,_⟩:=I.loc;exact free _ o (λz=>(Rj _ z).2.1 rfl) ho I.free
 .obtain⟨v,o,ho,hd⟩:=I.cell x c e;exact free c o (λz=>(Rj c z).2.2.1 x c e rfl) ho (I.jH x c e)
 .obtain⟨e,n,ne,nf,d⟩:=I.pin p hp;have é:p.1∉ch:=λz=>(Rj p.1 z).2.2.2 p hp rfl;exact⟨keep p.1 p.2 ne nf é e n,free p.1 p.2 é e n,ne,nf,d⟩
def Inv.un{t':Nat}(I:Inv X U σ H s)(u:Un X.fs [] H H' s.heap h')(bg:mh X.prog X.w H' h'):Inv X U σ H' {s with heap:=h',toks:=t'}:=by
 obtain⟨m,⟨o,es,ep,ho,r⟩,_⟩:=id I.loc;obtain⟨sl,hL⟩:=u.any ho I.free (by simp);exact I.step (g':=s.gens) (d':=s.drawn) (ch:=[]) (λ_ z=>nomatch z) (λb o _ hb _ e n=>u.keep b o e n hb (by simp)) (λb o _ hb _ e n=>u.slot b o e n hb (by simp)) (λb o _ e n=>u.free b o e n (by simp)) (λb o _ e=>u.there b o e (by simp)) u.cD u.tT u.uL (λm' hm=>by
  obtain⟨o',Ć,ć,Yj,r'⟩:=hm;rw[ho]at Yj;cases Yj;exact⟨_,Ć,ć,hL,r'⟩) bg I.bare
def Inv.call{t':Nat}{d':Drawn}(I:Inv X U σ H s)(u:Un (Nl X.stack) ch H H' s.heap h')(bg:mh X.prog X.w H' h')(hg:Pv g')(Rj:∀b∈ch,(b∈X.ex\/X.s₀.heap.objs.size<=b)/\b≠X.env.locals/\(∀x c,X.env.cells.lookup x=am c->c≠b)/\∀p∈X.pn++U,p.1≠b):Inv X U σ H' {s with heap:=h',gens:=g',drawn:=d',toks:=t'}:=by
 obtain⟨m,⟨o,es,ep,ho,r⟩,_⟩:=id I.loc;obtain⟨sl,hL⟩:=u.any ho I.free λz=>(Rj _ z).2.1 rfl;exact I.step (ch:=ch) Rj (λb o hL hb hc e n=>u.keep b o e n (λz=>(AD.mp (I.HE b z)).elim hL hb) hc) (λb o _ _ hc e n=>u.any e n hc) (λb o hc e n=>u.free b o e n hc) (λb o hc e=>u.there b o e hc) u.cD u.tT u.uL (λm' hm=>by
  obtain⟨o',Ć,ć,Yj,r'⟩:=hm;rw[ho]at Yj;cases Yj;exact⟨_,Ć,ć,hL,r'⟩) bg hg
def Inv.turned{t':Nat}(I:Inv X U σ H s)(k:∀b o,b≠it->s.heap.get? b=am o->h'.get? b=am o)(hn:H it=ce)(hL:it≠X.env.locals)(h1:it∈X.ex\/X.s₀.heap.objs.size<=it)(h2:∀x c,X.env.cells.lookup x=am c->c≠it)(h3:∀p∈X.pn++U,p.1≠it):Inv X U σ H {s with heap:=h',toks:=t'}:=by
 have Vc:∀b u,H b=am u->b≠it:=λb u e z=>by rw[z,hn]at e;cases e
 refine I.step (g':=s.gens) (d':=s.drawn) (ch:=[it]) (λb hb=>?_) (λb o _ _ hc e _=>k b o (λz=>hc (by simp[z])) e) (λb o _ _ hc e _=>⟨o.slots,k b o (λz=>hc (by simp[z])) e⟩) (λ_ _ _ _ n=>n)
  (λb o hc e=>⟨o,k b o (λz=>hc (by simp[z])) e⟩) (λ_ _ e=>e) (λ_ _ _ e=>e) (λb ps e=>⟨#[],by rw[e];simp⟩) (λm hm=>?_) (λb u e=>?_) I.bare
 .have e:b=it:=by simpa using hb
  subst e;exact⟨h1,hL,h2,h3⟩
 .obtain⟨o,es,ep,ho,r⟩:=hm;exact⟨o,es,ep,k _ o (Bx hL) ho,r⟩
 .refine(I.bg b u e).wJ (λc v hc q=>k c v ?_ q) (λ_ q=>q) λ_ _ q=>q;rcases hc with z|z
  .rw[z];exact Vc b u e
  .exact Vc c _ z
def Inv.tok(I:Inv X U σ H s)(t:Nat):Inv X U σ H {s with toks:=t}:=I.un Un.refl I.bg
def Inv.kept{t':Nat}(I:Inv X U σ H s)(k:∀b u,s.heap.get? b=am u->h'.get? b=am u):Inv X U σ H {s with heap:=h',toks:=t'}:=I.un (Un.kept k) (I.bg.kept k)
def Inv.laid{o:HO}{t':Nat}(I:Inv X U σ H s)(k:∀b u,s.heap.get? b=am u->h'.get? b=am u)(hp:s.heap.objs.size<=a)(new:bh X.prog X.w (upd H a o) h' a o):Inv X U σ (upd H a o) {s with heap:=h',toks:=t'}:=I.un (Un.laid k hp (I.bg.fresh hp)) (I.bg.laid k hp new)
def Inv.write{x:db}{o:HO}{t':Nat}(I:Inv X U σ H s)(mu:Mut (H x))(he:e=x\/H e=am (.own x))(k:∀b u,b≠e->s.heap.get? b=am u->h'.get? b=am u)(Zu:∃u,h'.get? e=am u)(new:bh X.prog X.w (upd H x o) h' x o):Inv X U σ (upd H x o) {s with heap:=h',toks:=t'}:=I.un (Un.write mu he k Zu) (I.bg.write mu he k Zu new)
def Inv.Kj{zp:O (db×Obj)}(I:Inv X U σ H s)(h:∀p∈zp,s.heap.get? p.1=am p.2/\H p.1=ce/\p.1≠X.env.locals/\p.1∉X.fs/\∀v,p.2.data≠.cell v):Inv X zp σ H s:=
 ⟨I.ok,I.os,I.bare,I.base,I.loc,I.cell,I.free,I.jH,λp hp=>(AZ.mp hp).elim (λz=>I.pin p (BG _ z)) (h p),I.bg,I.len⟩
def zB{N:O Str}(hN:N.Nodup){x:Str}(a:N[i]?=am x)(b:N[j]?=am x):i=j:=by
 obtain⟨h1,e1⟩:=Aj.mp a;obtain⟨h2,e2⟩:=Aj.mp b;exact(E8 hN).mp (e1.trans e2.symm)
def vv{x:Str}(I:Inv X U σ H s)(hN:X.N.Nodup)(hi:X.N[i]?=am x)(hx:Loc X.env.scope x)(r:RelV v u)(h:∀s',Inv X U (σ.set i (am v)) H s'->(∃a,Cu a s.heap s'.heap/\(a=X.env.locals\/X.env.cells.lookup x=am a))->Q () s')(hf:Q1 X x:=by first|exact .inl rfl|exact .inr rfl|assumption):ga M A (storeName X.env x u) Q E s:=by
 obtain⟨m,hn,hl⟩:=id I.loc;have afV:(X.env.scope.kind==.class||(X.env.scope.kind==.module&&X.env.locals != X.env.globals))=false:=by rw[I.ok.kind];rfl
 have abD:i < σ.length:=by rw[I.len];exact(Aj.mp hi).1
 have YS:=I.YS;have Ñ:∀{a:db}{h':pr},(∃o,s.heap.get? a=am o/\H a=ce)->Cu a s.heap h'->mh X.prog X.w H h':=λ{a h'} ha hs b ob e=>by
  obtain⟨_,_,VG⟩:=ha;refine(I.bg b ob e).wJ (λc w' hc q=>(hs.2 c ?_).trans q) (λ_ q=>q) λ_ _ q=>q;rintro rfl;rcases hc with rfl|hc
  .rw[VG]at e;cases e
  .rw[VG]at hc;cases hc
 rcases hx with hk|hk
 .refine wpAny_storeName_local hk hn (λh' hn' hs=>?_) afV;obtain⟨oL,_,_,ā,_⟩:=id hn;refine h _ ⟨I.ok,I.os,I.bare,⟨λb o e n hb hx=>?_,λb o e n hb hx=>?_,I.base.free,λb o e hx=>?_,I.base.cD,I.base.tT,I.base.uL⟩,⟨_,hn',λj y v' e1 e2 e3=>?_⟩,λy c e=>?_,I.free,I.jH,λp hp=>?_,Ñ ⟨oL,ā,I.free⟩ hs,by simpa using I.len⟩ ⟨_,hs,.inl rfl⟩
  .exact(hs.2 b (AE (Ay (Ap e) I.ok.above))).trans (I.base.keep b o e n hb hx)
  .obtain⟨sl,e1⟩:=I.base.slot b o e n hb hx;exact⟨sl,(hs.2 b (AE (Ay (Ap e) I.ok.above))).trans e1⟩
  .obtain⟨o',e1⟩:=I.base.there b o e hx;exact⟨o',(hs.2 b (AE (Ay (Ap e) I.ok.above))).trans e1⟩
  .by_cases hj:j=i
   .subst hj;rw[hi]at e1;cases e1;rw[CS abD]at e2;cases e2;exact⟨u,r,.inl ⟨hk,by simp⟩⟩
   .rw[Cc (Bx hj)]at e2;obtain⟨u',r',q⟩:=hl j y v' e1 e2 e3;refine⟨u',r',?_⟩;rcases q with⟨k,e⟩|⟨k,c,e,z⟩
    .refine .inl ⟨k,?_⟩;have:y≠x:=λe=>hj (zB hN e1 (e▸hi));simp[this,e]
    .exact .inr ⟨k,c,e,z.sameBut hs (YS y c e)⟩
  .obtain⟨w',z⟩:=I.cell y c e;exact⟨w',z.sameBut hs (YS y c e)⟩
  .obtain⟨e,n,ne,nf,d⟩:=I.pin p hp;exact⟨(hs.2 p.1 ne).trans e,n,ne,nf,d⟩
 .have í:X.fn x=true:=by
   rcases hf with z|z
   .exact z
   .rw[z]at hk;cases hk
  obtain⟨c,hc⟩:=I.ok.has x (.inl hk);obtain⟨w',z⟩:=I.cell x c hc;refine wpAny_storeName_cell I.ok.kind hk hc z (λh' VM hs=>?_);obtain⟨oc,hoc,afD⟩:=id z;refine h {s with heap:=h'} ⟨I.ok,I.os,I.bare,⟨λb o e n hb hx=>?_,λb o e n hb hx=>?_,I.base.free,λb o e hx=>?_,I.base.cD,I.base.tT,I.base.uL⟩,⟨m,hn.sameBut hs (Bx (YS x c hc)),λj y v' e1 e2 e3=>?_⟩,λy c' e=>?_,I.free,I.jH,λp hp=>?_,Ñ ⟨oc,hoc,I.jH x c hc⟩ hs,by simpa using I.len⟩ ⟨c,hs,.inr hc⟩
  .exact(hs.2 b (AE (Ay (Ap e) (I.ok.cab x c í hc)))).trans (I.base.keep b o e n hb hx)
  .obtain⟨sl,e1⟩:=I.base.slot b o e n hb hx;exact⟨sl,(hs.2 b (AE (Ay (Ap e) (I.ok.cab x c í hc)))).trans e1⟩
  .obtain⟨o',e1⟩:=I.base.there b o e hx;exact⟨o',(hs.2 b (AE (Ay (Ap e) (I.ok.cab x c í hc)))).trans e1⟩
  .by_cases hj:j=i
   .subst hj;rw[hi]at e1;cases e1;rw[CS abD]at e2;cases e2;exact⟨u,r,.inr ⟨.inl hk,c,hc,VM⟩⟩
   .rw[Cc (Bx hj)]at e2;obtain⟨u',r',q⟩:=hl j y v' e1 e2 e3;refine⟨u',r',?_⟩;rcases q with q|⟨k,c',e,z'⟩
    .exact .inl q
    .refine .inr ⟨k,c',e,z'.sameBut hs ?_⟩;rintro rfl;exact hj (zB hN e1 (I.ok.inj _ _ _ e hc▸hi))
  .by_cases Yn:c'=c
   .subst Yn;exact⟨_,VM⟩
   .obtain⟨w2,z2⟩:=I.cell y c' e;exact⟨w2,z2.sameBut hs Yn⟩
  .obtain⟨e,n,ne,nf,d⟩:=I.pin p hp;refine⟨(hs.2 p.1 ?_).trans e,n,ne,nf,d⟩;intro q;rw[q,hoc]at e;have q':oc=p.2:=Option.some.inj e;exact d w' (by rw[<- q'];exact afD)
def m8{x:Str}(I:Inv X U σ H s)(hN:X.N.Nodup)(hi:X.N[i]?=am x)(hx:Loc X.env.scope x)(r:RelV v u)(h:∀s',Inv X U (σ.set i (am v)) H s'->Q () s')(hf:Q1 X x:=by first|exact .inl rfl|exact .inr rfl|assumption):ga M A (storeName X.env x u) Q E s:=
 vv I hN hi hx r (λs' I' _=>h s' I') hf
def Inv.acy(I:Inv X U σ H s)(ho:s'.os=s.os)(u:Un (Nl X.stack) ch H H' s.heap s'.heap)(bg:mh X.prog X.w H' s'.heap)(hg:Pv s'.gens)(Rj:∀b∈ch,(b∈X.ex\/X.s₀.heap.objs.size<=b)/\b≠X.env.locals/\(∀x c,X.env.cells.lookup x=am c->c≠b)/\∀p∈X.pn++U,p.1≠b):Inv X U σ H' s':=by
 obtain⟨h',g',d',t',o'⟩:=s';have e:o'=s.os:=ho;subst e;exact I.call (g':=g') (t':=t') (d':=d') u bg hg Rj
end
abbrev XK:=ci->Option db->Hp->Prop
abbrev St:=O (Option V)
abbrev VK:=V->Hp->Prop
abbrev TE:=St->Hp->VK->Prop
abbrev TT:=St->Hp->(Bool->Hp->Prop)->Prop
abbrev TA:=St->Hp->(O V->Hp->Prop)->Prop
structure Ends where
 nx:St->Hp->Prop
 rt:VK
 bk:St->Hp->Prop:=λ_ _=>False
 ct:St->Hp->Prop:=λ_ _=>False
abbrev TS:=Ends->St->Hp->Prop
def EP(X:Cx)(U:O (db×Obj))(σ:St)(Q:VK)(u:ci)(s':cr):Prop:=∃v H',Inv X U σ H' s'/\RelV v u/\Q v H'
def TP(X:Cx)(U:O (db×Obj))(σ:St)(Q:Bool->Hp->Prop)(b:Bool)(s':cr):Prop:=∃H',Inv X U σ H' s'/\Q b H'
def AP(X:Cx)(U:O (db×Obj))(σ:St)(Q:O V->Hp->Prop)(us:O ci)(s':cr):Prop:=∃vs H',Inv X U σ H' s'/\Vals vs us/\Q vs H'
def SP(X:Cx)(U:O (db×Obj))(D:Ends)(f:Flow)(s':cr):Prop:=
 match f with
 |.next=>∃σ' H',Inv X U σ' H' s'/\D.nx σ' H'
 |.brk=>∃σ' H',Inv X U σ' H' s'/\D.bk σ' H'
 |.cont=>∃σ' H',Inv X U σ' H' s'/\D.ct σ' H'
 |.ret u=>∃v σ' H',Inv X U σ' H' s'/\RelV v u/\D.rt v H'
def PE(X:Cx)(e:nw)(t:TE):Prop:=
 ∀(U:O (db×Obj)) (s:cr) (σ:St) (H:Hp) (Q:VK),Inv X U σ H s->t σ H Q->ga (gl X.prog X.w) X.A (o0 e X.env) (EP X U σ Q) X.xe s
def PT(X:Cx)(e:nw)(t:TT):Prop:=
 ∀(U:O (db×Obj)) (s:cr) (σ:St) (H:Hp) (Q:Bool->Hp->Prop),Inv X U σ H s->t σ H Q->ga (gl X.prog X.w) X.A (isTrue e X.env (o0 e X.env)) (TP X U σ Q) X.xe s
def PW(X:Cx)(e:nw)(t:TT):Prop:=
 ∀(Ä:Sem ci) (U:O (db×Obj)) (s:cr) (σ:St) (H:Hp) (Q:Bool->Hp->Prop),Inv X U σ H s->t σ H Q->ga (gl X.prog X.w) X.A (isTrue e X.env Ä) (TP X U σ Q) X.xe s
def PW.pt{X:Cx}{e:nw}{t:TT}(h:PW X e t):PT X e t:=h _
def PA(X:Cx)(es:O nw)(t:TA):Prop:=
 ∀(pos:Pos) (U:O (db×Obj)) (s:cr) (σ:St) (H:Hp) (Q:O V->Hp->Prop),Inv X U σ H s->t σ H Q->ga (gl X.prog X.w) X.A (spliced (t0 pos (gt es X.env))) (AP X U σ Q) X.xe s
def PS(X:Cx)(st:v4)(t:TS):Prop:=
 ∀(U:O (db×Obj)) (s:cr) (σ:St) (H:Hp) (D:Ends),Inv X U σ H s->t D σ H->ga (gl X.prog X.w) X.A (exec st X.env) (SP X U D) X.xe s
def oD(X:Cx)(st:O v4)(t:TS):Prop:=
 ∀(U:O (db×Obj)) (s:cr) (σ:St) (H:Hp) (D:Ends),Inv X U σ H s->t D σ H->ga (gl X.prog X.w) X.A (execs st X.env) (SP X U D) X.xe s
def bN{t:Sem α}{Q Q':α->cr->Prop}{s:cr}(h:ga M A t Q E s)(hQ:∀a s,Q a s->Q' a s):ga M A t Q' E s:=BJ h hQ λ_ _ x=>x
end L2
variable{x:BZ}{a:BC}{X:L2.Cx}{σ:L2.St}{Q:A9->DA->Prop}{ta tb:L2.TE}{R:L2.V->L2.V->L2.Hp->Prop}{pos:Ck}
namespace L2
section
def bin{b:nw}(ha:PE X a ta)(hb:PE X b tb){s:cr}(I:Inv X U σ H s)(h:ta σ H λx H1=>tb σ H1 λy H2=>R x y H2){Q:α->cr->Prop}{f:ci->ci->Sem α}(hf:∀v u s2 x y H2,Inv X U σ H2 s2->RelV x v->RelV y u->R x y H2->ga (gl X.prog X.w) X.A (f v u) Q X.xe s2):ga (gl X.prog X.w) X.A (o0 a X.env) (λv s₁=>ga (gl X.prog X.w) X.A (o0 b X.env) (λu s₂=>ga (gl X.prog X.w) X.A (f v u) Q X.xe s₂) X.xe s₁) X.xe s:=by
 refine bN (ha U s σ H _ I h) λv s1 ⟨x,H1,I1,r1,q1⟩=>?_;refine bN (hb U s1 σ H1 _ I1 q1) λu s2 ⟨y,H2,I2,r2,q2⟩=>?_;exact hf v u s2 x y H2 I2 r1 r2 q2
def Wu(i:Nat):TE:=λσ H Q=>∃v,σ[i]?=am (am v)/\Q v H
def tC(v:V):TE:=λ_ H Q=>Q v H
def fu(hN:X.N[i]?=am x)(hv:Ho X.env.scope x)(hd: ~~~(iQ x))(jO: ~~~(JP x)):PE X (.Name x pos) (Wu i):=by
 intro U s σ H Q I h;obtain⟨v,e,h⟩:=h;obtain⟨m,hn,hl⟩:=I.loc;obtain⟨u,r,l⟩:=hl i x v hN e hv;have fin:EP X U σ Q u s:=⟨v,H,I,r,h⟩;rcases l with⟨hk,hm⟩|⟨hk,c,hc,VJ⟩
 .exact wpAny_Name (wpAny_loadName_local I.ok.kind hk hn hm fin) hd
 .rcases hk with hk|hk
  .exact wpAny_Name (wpAny_loadName_cell I.ok.kind hk hc VJ fin) hd
  .exact wpAny_Name (wpAny_loadName_free I.ok.kind hk hc VJ fin jO) hd
def ba{i j pos}:PE X (.Constant (.int i) j pos) (tC (.int i)):=λ_ _ _ H _ I h=>wpAny_Constant_int ⟨.int i,H,I.tok _,⟨_,rfl⟩,h⟩
def aaJ{b j pos}:PE X (.Constant (.bool b) j pos) (tC (.bl b)):=λ_ _ _ H _ I h=>Constant_bool ⟨.bl b,H,I,rfl,h⟩
def OD{j pos}:PE X (.Constant .none j pos) (tC .aF):=λ_ _ _ H _ I h=>Constant_none ⟨.aF,H,I,rfl,h⟩
def Xb{x j pos}:PE X (.Constant (.str x) j pos) (tC (.str x)):=λ_ _ _ H _ I h=>Calls.Constant_str ⟨.str x,H,I.tok _,⟨_,rfl⟩,h⟩
def Gl(X:Cx)(x:Str):Prop:=X.env.kindOf x=am .globalImplicit
def KG{s:cr}(I:Inv X U σ H s)(hg:Gl X x)(hm:X.mg x=am u)(h:Q u s)(hd: ~~~(iQ x)):ga (gl X.prog X.w) X.A (o0 (.Name x pos) X.env) Q E s:=
 Ez I.ok.kind hg (Calls.loadGlobal_global (by rw[I.ok.glob];exact I.mod.glob.keeps I.bk) hm h) hd
def gp{s:cr}(I:Inv X U σ H s)(hg:Gl X x)(hm:X.mg x=ce)(hv:sn x=am u)(h:Q u s)(hn: ~~~(x≠"__name__"))(hd: ~~~(iQ x)):ga (gl X.prog X.w) X.A (o0 (.Name x pos) X.env) Q E s:=by
 obtain⟨mb,h1,h2⟩:=I.mod.blt;exact Ez I.ok.kind hg (Calls.loadGlobal_builtin (by rw[I.ok.glob];exact I.mod.glob.keeps I.bk) hm (by rw[I.ok.blt];exact h1.keeps I.bk) ((h2 x hn).trans hv) h) hd
def rk(hg:Gl X x)(hm:X.mg x=am u)(r:RelV v u)(hd: ~~~(iQ x)):PE X (.Name x pos) (tC v):=
 λ_ _ _ H _ I h=>KG I hg hm ⟨v,H,I,r,h⟩ hd
def Su(hg:Gl X x)(hm:X.mg x=ce)(hv:sn x=am u)(r:RelV v u)(hn: ~~~(x≠"__name__"))(hd: ~~~(iQ x)):PE X (.Name x pos) (tC v):=
 λ_ _ _ H _ I h=>gp I hg hm hv ⟨v,H,I,r,h⟩ hn hd
variable{b:nw}
variable{tA Wx:TT}{rest:O nw}
def aab(t u:TT):TT:=λσ H Q=>t σ H λc H1=>if c=true then u σ H1 Q else Q false H1
def tOr(t u:TT):TT:=λσ H Q=>t σ H λc H1=>if c=true then Q true H1 else u σ H1 Q
def aen(t:TT):TT:=λσ H Q=>t σ H λc H1=>Q (!c) H1
def Kh(ha:PT X a tA):PW X (.BoolOp .And [a] pos) tA:=by
 intro wh U s σ H Q I h;refine isTrue_and (bN (ha U s σ H Q I h) λc s1 e=>?_);cases c with
 |true=>exact isTrue_and_nil e
 |false=>exact e
def W7(ha:PT X a tA):PW X (.BoolOp .Or [a] pos) tA:=by
 intro wh U s σ H Q I h;refine isTrue_or (bN (ha U s σ H Q I h) λc s1 e=>?_);cases c with
 |false=>exact isTrue_or_nil e
 |true=>exact e
def Oj(ha:PT X a tA)(hb:PW X (.BoolOp .And (b::rest) pos) Wx):PW X (.BoolOp .And (a::b::rest) pos) (aab tA Wx):=by
 intro wh U s σ H Q I h;refine isTrue_and (bN (ha U s σ H _ I h) λc s1 ⟨H1,I1,q1⟩=>?_);cases c with
 |true=>exact hb wh U s1 σ H1 Q I1 q1
 |false=>exact⟨H1,I1,q1⟩
def aaE(ha:PT X a tA)(hb:PW X (.BoolOp .Or (b::rest) pos) Wx):PW X (.BoolOp .Or (a::b::rest) pos) (tOr tA Wx):=by
 intro wh U s σ H Q I h;refine isTrue_or (bN (ha U s σ H _ I h) λc s1 ⟨H1,I1,q1⟩=>?_);cases c with
 |true=>exact⟨H1,I1,q1⟩
 |false=>exact hb wh U s1 σ H1 Q I1 q1
def W8(ha:PT X a tA):PT X (.UnaryOp .Not a pos) (aen tA):=by
 intro U s σ H Q I h;exact isTrue_not (ha U s σ H (λc H1=>Q (!c) H1) I h)
def aaa(ta tb:TE):TE:=λσ H Q=>ta σ H λx H1=>∃c,x=.bl c/\if c=true then tb σ H1 Q else Q (.bl false) H1
def Xc{op}{t:TE}(h:PE X a t):PE X (.BoolOp op [a] pos) t:=λU s σ H Q I hw=>BoolOp_one (h U s σ H Q I hw)
def Xf(ha:PE X a ta)(hb:PE X (.BoolOp .And (b::rest) pos) tb):PE X (.BoolOp .And (a::b::rest) pos) (aaa ta tb):=by
 intro U s σ H Q I h;refine BoolOp_and (bN (ha U s σ H _ I h) λv s1 ⟨x,H1,I1,r1,q1⟩=>?_);obtain⟨c,rfl,q1⟩:=q1;cases r1;refine DB ?_;cases c with
 |true=>exact hb U s1 σ H1 Q I1 q1
 |false=>exact⟨.bl false,H1,I1,rfl,q1⟩
def tIf(t:TT)(ta tb:TE):TE:=λσ H Q=>t σ H λc H1=>if c=true then ta σ H1 Q else tb σ H1 Q
def zq{c:nw}(hc:PT X c tA)(ha:PE X a ta)(hb:PE X b tb):PE X (.IfExp c a b pos) (tIf tA ta tb):=by
 intro U s σ H Q I h;refine wpAny_IfExp (bN (hc U s σ H _ I h) λd s1 ⟨H1,I1,q1⟩=>?_);cases d with
 |true=>exact ha U s1 σ H1 Q I1 q1
 |false=>exact hb U s1 σ H1 Q I1 q1
end
end L2
variable{xs ys:O L2.V}{e tg:BC}{y:L2.V}{D:L2.Ends}{te to:L2.TE}{es:O BC}{k n:Nat}{ä px py pt:Ck}{body:O PySem.Stmt}
namespace L2
def bH(K:Ab)(H:Hp)(a:db)(xs:O V):Prop:=
 Rd H a (.lst xs)\/
  ∃(o:Obj) (aq:Array ci) (n:Nat),K.lookup a=am o/\o.cls=.type "list"/\o.dict=ce/\o.data=.seq aq n/\aq.size<=sizeLine/\Vals xs aq.toList
def dF(K:Ab)(H:Hp)(a:db)(xs:O V):Prop:=
 Rd H a (.tup xs)\/
  ∃(o:Obj) (aq:Array ci) (n:Nat),K.lookup a=am o/\o.cls=.type "tuple"/\o.data=.seq aq n/\aq.size<=sizeLine/\Vals xs aq.toList
def agp:ci->Option V
 |.none=>am .aF
 |.bool b=>am (.bl b)
 |.int i _=>am (.int i)
 |.str x _=>am (.str x)
 |.bytes b _=>am (.MZ b)
 |.float b _=>am (.Zy b)
 |.ref a=>am (.ref a)
 |.type n=>am (.ty n)
 |_=>ce
def RelV.abs{x:V}(r:RelV x u):agp u=am x:=by
 cases x with
 |aF=>cases r;rfl
 |bl _=>cases r;rfl
 |int _=>obtain⟨t,rfl⟩:=r;rfl
 |str _=>obtain⟨t,rfl⟩:=r;rfl
 |MZ _=>obtain⟨t,rfl⟩:=r;rfl
 |Zy _=>obtain⟨t,rfl⟩:=r;rfl
 |ref _=>cases r;rfl
 |ty _=>cases r;rfl
def RelV.inj{x:V}(r:RelV x u)(q:RelV y u):x=y:=Option.some.inj (r.abs.symm.trans q.abs)
theorem Vals.inj:∀{xs ys:O V}{us:O ci},Vals xs us->Vals ys us->xs=ys
 |_,_,_,.nil,.nil=>rfl
 |_,_,_,.cons r t,.cons r' t'=>by rw[r.inj r',Vals.inj t t']
section
variable{s:cr}{a:db}
def bH.of{K:Ab}(h:H a=am (.lst xs)):bH K H a xs:=.inl (.inl h)
def dF.of{K:Ab}(h:H a=am (.tup xs)):dF K H a xs:=.inl (.inl h)
theorem Inv.list(I:Inv X U σ H s)(h:bH X.K H a xs):∃aq:O ci,Vals xs aq/\PlainL s.heap a aq.toArray/\xs.length<=sizeLine:=by
 rcases h with h|⟨o,aq,n,hk,hc,hd,hs,hz,r⟩
 .obtain⟨z,aq,n,r,e⟩:=h.ok I.bg;exact⟨aq,r,⟨_,n,e,rfl,rfl,rfl⟩,z⟩
 .refine⟨aq.toList,r,⟨o,n,I.vU a o hk,hc,hd,by simpa using hs⟩,?_⟩;have e:=r.length;simp at e;lia
theorem Inv.tuple(I:Inv X U σ H s)(h:dF X.K H a xs):∃aq:O ci,Vals xs aq/\IsTup s.heap a aq.toArray/\xs.length<=sizeLine:=by
 rcases h with h|⟨o,aq,n,hk,hc,hs,hz,r⟩
 .obtain⟨z,aq,r,p,_⟩:=h.ok I.bg;exact⟨aq,r,p,z⟩
 .refine⟨aq.toList,r,⟨o,I.vU a o hk,hc,n,by simpa using hs⟩,?_⟩;have e:=r.length;simp at e;lia
def Inv.tB(I:Inv X U σ H s)(h:bH X.K H a xs)(h':bH X.K H a ys):xs=ys:=by
 obtain⟨aq,r,⟨o,n,e,_,_,d⟩,_⟩:=I.list h;obtain⟨dQ,r',⟨o',n',e',_,_,d'⟩,_⟩:=I.list h';rw[e]at e';cases e';rw[d]at d';injection d' with d1 _;have:aq=dQ:=by simpa using congrArg Array.toList d1
 subst this;exact r.inj r'
def Inv.kJ(I:Inv X U σ H s)(h:dF X.K H a xs)(h':dF X.K H a ys):xs=ys:=by
 obtain⟨aq,r,⟨o,e,_,n,d⟩,_⟩:=I.tuple h;obtain⟨dQ,r',⟨o',e',_,n',d'⟩,_⟩:=I.tuple h';rw[e]at e';cases e';rw[d]at d';injection d' with d1 _;have:aq=dQ:=by simpa using congrArg Array.toList d1
 subst this;exact r.inj r'
end
abbrev Cx.uI(X:Cx)(E:ci->cr->Prop):Cx:={X with xe:=E}
abbrev Cx.Va(X:Cx):Cx:=X.uI λ_ _=>False
def Cx.Ok.uI(ok:X.Ok)(E:ci->cr->Prop):(X.uI E).Ok:=
 ⟨ok.mod,ok.kind,ok.glob,ok.blt,ok.above,ok.inj,ok.has,ok.cab,ok.hd,ok.frames,ok.stk,ok.exf,ok.bs,ok.V1,ok.OP,ok.Qd,ok.tS,ok.Zw⟩
def Cx.Ok.jU(ok:(X.uI E).Ok):X.Ok:=
 ⟨ok.mod,ok.kind,ok.glob,ok.blt,ok.above,ok.inj,ok.has,ok.cab,ok.hd,ok.frames,ok.stk,ok.exf,ok.bs,ok.V1,ok.OP,ok.Qd,ok.tS,ok.Zw⟩
section
variable{s:cr}
def Inv.uI(I:Inv X U σ H s)(E:ci->cr->Prop):Inv (X.uI E) U σ H s:=⟨I.ok.uI E,I.os,I.bare,I.base,I.loc,I.cell,I.free,I.jH,I.pin,I.bg,I.len⟩
def Inv.jU(I:Inv (X.uI E) U σ H s):Inv X U σ H s:=⟨I.ok.jU,I.os,I.bare,I.base,I.loc,I.cell,I.free,I.jH,I.pin,I.bg,I.len⟩
def SP.jU{f:Flow}(h:SP (X.uI E) U D f s'):SP X U D f s':=by
 cases f with
 |next=>obtain⟨σ',H',I,q⟩:=h;exact⟨σ',H',I.jU,q⟩
 |brk=>obtain⟨σ',H',I,q⟩:=h;exact⟨σ',H',I.jU,q⟩
 |cont=>obtain⟨σ',H',I,q⟩:=h;exact⟨σ',H',I.jU,q⟩
 |ret u=>obtain⟨v,σ',H',I,r,q⟩:=h;exact⟨v,σ',H',I.jU,r,q⟩
def oD.Va{st:O v4}{t:TS}(h:oD X.Va st t):oD X st t:=λU s σ H D I hw=>
 BJ (h U s σ H D (I.uI _) hw) (λ_ _ q=>q.jU) λ_ _ z=>BX z
end
section
variable{st:v4}{rest:O v4}{t u:TS}
def US:TS:=λD σ H=>D.nx σ H
def Z2(t u:TS):TS:=λD σ H=>t {D with nx:=u D} σ H
def rh:oD X [] US:=λ_ _ σ H _ I h=>D9 ⟨σ,H,I,h⟩
def dI(h1:PS X st t)(h2:oD X rest u):oD X (st::rest) (Z2 t u):=by
 intro U s σ H D I h;refine wpAny_execs_cons (bN (h1 U s σ H {D with nx:=u D} I h) λf s1 q=>?_);cases f with
 |next=>
  obtain⟨σ',H',I',q⟩:=q;exact h2 U s1 σ' H' D I' q
 |ret v=>exact q
 |brk=>exact q
 |cont=>exact q
def rg(h1:PS X st t):oD X [st] t:=by
 intro U s σ H D I h;refine wpAny_execs_cons (bN (h1 U s σ H D I h) λf s1 q=>?_);cases f with
 |next=>exact D9 q
 |ret v=>exact q
 |brk=>exact q
 |cont=>exact q
def Z7:TS:=λD σ H=>D.ct σ H
def zk:PS X (.Continue pos) Z7:=λ_ _ σ H _ I h=>wpAny_Continue ⟨σ,H,I,h⟩
def Inv.quiet{s:cr}(I:Inv X U σ H s):interactive X.env=false:=by simp[interactive,I.ok.kind]
def UU(te:TE):TS:=λD σ H=>te σ H λ_ H1=>D.nx σ H1
def nu(he:PE X e te)(hs:‹ss e ce pos.line X.env=pure false›):PS X (.Expr e pos) (UU te):=by
 intro U s σ H D I h;exact wpAny_Expr_any (bN (he U s σ H _ I h) λv s1 ⟨x,H1,I1,r1,q1⟩=>⟨σ,H1,I1,q1⟩) I.quiet hs
def Z3(te:TE):TS:=λD σ H=>te σ H D.rt
def sG(he:PE X e te):PS X (.Return (am e) pos) (Z3 te):=by
 intro U s σ H D I h;exact wpAny_Return_some (bN (he U s σ H _ I h) λv s1 ⟨x,H1,I1,r1,q1⟩=>⟨x,σ,H1,I1,r1,q1⟩)
def Z5(c:TT)(t u:TS):TS:=λD σ H=>c σ H λb H1=>if b=true then t D σ H1 else u D σ H1
def Ki{c:nw}{a b:O v4}{tc:TT}(hc:PT X c tc)(ha:oD X a t)(hb:oD X b u):PS X (.If c a b pos) (Z5 tc t u):=by
 intro U s σ H D I h;refine wpAny_If (bN (hc U s σ H _ I h) λd s1 ⟨H1,I1,q1⟩=>?_);cases d with
 |true=>exact ha U s1 σ H1 D I1 q1
 |false=>exact hb U s1 σ H1 D I1 q1
def Ww:TS:=λ_ _ _=>False
end
abbrev TG:=V->St->Hp->(St->Hp->Prop)->Prop
abbrev Y0:=O V->St->Hp->(St->Hp->Prop)->Prop
def PG(X:Cx)(Ê:nw)(t:TG):Prop:=
 ∀(U:O (db×Obj)) (s:cr) (σ:St) (H:Hp) (v:V) (u:ci) (Q:St->Hp->Prop),Inv X U σ H s->RelV v u->t v σ H Q->
  ga (gl X.prog X.w) X.A (KM Ê X.env u) (λ_ s'=>∃σ' H',Inv X U σ' H' s'/\Q σ' H') X.xe s
def PGs(X:Cx)(ts:O nw)(t:Y0):Prop:=
 ∀(U:O (db×Obj)) (s:cr) (σ:St) (H:Hp) (vs:O V) (us:O ci) (Q:St->Hp->Prop),Inv X U σ H s->Vals vs us->t vs σ H Q->
  ga (gl X.prog X.w) X.A (assignInOrder ((EQ ts X.env).map (·.2)) us) (λ_ s'=>∃σ' H',Inv X U σ' H' s'/\Q σ' H') X.xe s
abbrev M8:=V->V->V->Hp->(Hp->Prop)->Prop
def M9(X:Cx)(t:M8):Prop:=
 ∀(U:O (db×Obj)) (s:cr) (σ:St) (H:Hp) (o i v:V) (ov iv u:ci) (Q:Hp->Prop),Inv X U σ H s->RelV o ov->RelV i iv->RelV v u->t o i v H Q->
  ga (gl X.prog X.w) X.A (setItem ov iv u) (λ_ s'=>∃H',Inv X U σ H' s'/\Q H') X.xe s
section
def eG(i:Nat):TG:=λv σ H Q=>Q (σ.set i (am v)) H
def Sl(hN:X.N.Nodup)(hi:X.N[i]?=am x)(hx:Loc X.env.scope x)(hf:Q1 X x:=by first|exact .inl rfl|exact .inr rfl|assumption):PG X (.Name x pos) (eG i):=by
 intro U s σ H v u Q I r h;exact wpAny_assign_Name (m8 I hN hi hx r (λs' I'=>⟨_,H,I',h⟩) hf)
def abU:Y0:=λvs σ H Q=>vs=[]/\Q σ H
def PY(t:TG)(u:Y0):Y0:=λvs σ H Q=>∃v r,vs=v::r/\t v σ H λσ' H'=>u r σ' H' Q
def dJ:PGs X [] abU:=by
 intro U s σ H vs us Q I r h;obtain⟨e,h⟩:=h;subst e;cases r;exact assignInOrder_nil ⟨σ,H,I,h⟩
def aZ{t:TG}{u:Y0}(h1:PG X e t)(h2:PGs X es u)(hs:‹(EQ (e::es) X.env).map (·.2)=KM e X.env::(EQ es X.env).map (·.2)›):PGs X (e::es) (PY t u):=by
 intro U s σ H vs us Q I r h;obtain⟨v,vr,e1,h⟩:=h;subst e1;cases r with
 |cons r rr=>
  rw[hs];exact assignInOrder_cons (bN (h1 U s σ H _ _ _ I r h) λ_ s1 ⟨σ1,H1,I1,q1⟩=>h2 U s1 σ1 H1 _ _ Q I1 rr q1)
def abR(K:Ab)(n:Nat)(t:Y0):TG:=λv σ H Q=>∃a xs,v=.ref a/\dF K H a xs/\xs.length=n/\t xs σ H Q
def gb{t:Y0}(hc:X.calm=true)(h:PGs X es t)(hn:‹(EQ es X.env).length=n›)(tL:‹(EQ es X.env).findIdx? (·.1)=ce›):PG X (.Tuple es k pos) (abR X.K n t):=by
 intro U s σ H v u Q I r hw;obtain⟨a,xs,e1,hq,hl,hw⟩:=hw;subst e1;cases r;obtain⟨aq,rv,ht,hz⟩:=I.tuple hq;exact assign_Tuple_tuple (I.ok.hd hc) ht (by simp[hn,<- hl,rv.length]) tL λh' hx=>h U _ σ H xs _ Q (I.kept λb o e=>hx b o (AE (Ap e)) e) (by simpa using rv) hw
def abT(to ti:TE)(t:M8):TG:=λv σ H Q=>to σ H λo H1=>ti σ H1 λi H2=>t o i v H2 λH3=>Q σ H3
def HP{o i:nw}{ti:TE}{t:M8}(ho:PE X o to)(hi:PE X i ti)(hs:M9 X t)(ha:∀v,KM (.Subscript o i pos) X.env v=(do
   let ov <- KB [v] (o0 o X.env)
   let iv <- KB [v,ov] (o0 i X.env)
   standAt pos
   KB [v,ov,iv] (setItem ov iv v)
   release [v,ov,iv] []):=by intro _;rfl):PG X (.Subscript o i pos) (abT to ti t):=by
 intro U s σ H v u Q I r h;exact Aa (Bp (bN (ho U s σ H _ I h) λov s1 ⟨x,H1,I1,r1,q1⟩=>Aa (Bp (bN (hi U s1 σ H1 _ I1 q1) λiv s2 ⟨y,H2,I2,r2,q2⟩=>Aa (DZ (Aa (Bp (bN (hs U s2 σ H2 x y v ov iv u _ I2 r1 r2 r q2) λ_ s3 ⟨H3,I3,q3⟩=>wpAny_release ⟨σ,H3,I3,q3⟩))))))))
def RB(te:TE)(g:TG):TS:=λD σ H=>te σ H λx H1=>g x σ H1 D.nx
def wX{g:TG}(he:PE X e te)(hg:PG X tg g)(hs:‹Fa [tg] e pos.line X.env=pure false›)(hw:‹Fk [tg] e X.env=pure ce›)(h1:‹(EQ [tg] X.env).map (·.2)=[KM tg X.env]›):PS X (.Assign [tg] e pos) (RB te g):=by
 intro U s σ H D I h;refine wpAny_Assign_stores (bN (he U s σ H _ I h) λv s1 ⟨x,H1,I1,r1,q1⟩=>?_) hs hw;rw[h1];exact bN (hg U s1 σ H1 x v _ I1 r1 q1) λ_ s2 q=>q
def mq(hN:X.N.Nodup)(hi:X.N[i]?=am x)(hx:Loc X.env.scope x)(he:PE X e te)(hs:‹ss e (am (.Name x ä)) pos.line X.env=pure false›)(hf:Q1 X x:=by first|exact .inl rfl|exact .inr rfl|assumption):PS X (.Assign [.Name x ä] e pos) (RB te (eG i)):=by
 intro U s σ H D I h;refine wpAny_Assign_Name (bN (he U s σ H _ I h) λv s1 ⟨y,H1,I1,r1,q1⟩=>?_) hs;exact m8 I1 hN hi hx r1 (λs2 I2=>⟨_,H1,I2,q1⟩) hf
def aem(i j:Nat)(ta:TA):TS:=λD σ H=>ta σ H λvs H1=>∃v w,vs=[v,w]/\D.nx ((σ.set i (am v)).set j (am w)) H1
def Oq{y:Str}{b:nw}{ta:TA}{kt k2 Rb}(hc:X.calm=true)(hN:X.N.Nodup)(hi:X.N[i]?=am x)(hj:X.N[j]?=am y)(Yk:i≠j)(hx:X.env.scope.names.lookup x=am .local)(hy:X.env.scope.names.lookup y=am .local)(ha:PA X [a,b] ta)(hw:Fk [.Tuple [.Name x px,.Name y py] kt pt] (.Tuple [a,b] k2 Rb) X.env=pure (am [x,y]))(hs:‹Fa [.Tuple [.Name x px,.Name y py] kt pt] (.Tuple [a,b] k2 Rb) pos.line X.env=pure false›):PS X (.Assign [.Tuple [.Name x px,.Name y py] kt pt] (.Tuple [a,b] k2 Rb) pos) (aem i j ta):=by
 intro U s σ H D I h;refine Aa (DZ ?_);refine Aa (Af ?_);refine Aa (Tuple_ (bN (ha _ U s σ H _ I h) λus s1 ⟨vs,H1,I1,r1,q1⟩=>?_));obtain⟨v,w,e1,q1⟩:=q1;subst e1;obtain⟨u1,u2,rfl,rv,zc⟩:∃u1 u2,us=[u1,u2]/\RelV v u1/\RelV w u2:=by
  cases r1 with
  |cons p q=>
   cases q with
   |cons p' q'=>
    cases q';exact⟨_,_,rfl,p,p'⟩
 refine BK ?_ (by show 2<=sizeLine;decide);rw[hw];refine Aa (Af ?_);refine Aa (C3 (Aa (unpackItems_tuple (items:=#[u1,u2]) (I.ok.hd hc) (IsTup.new s1.heap _) λh' vZ=>?_)));refine Aa (assignInOrder_cons (wpAny_bindName (m8 ((I1.kept λb o e=>Ah _ e).kept (t':=s1.toks) λb o e=>vZ b o (AE (Ap e)) e) hN hj (.inl hy) zc (λs2 I4=>?_) (.inr hy))));refine assignInOrder_cons (wpAny_bindName (m8 I4 hN hi (.inl hx) rv (λs3 I5=>assignInOrder_nil (Af ?_)) (.inr hx)));rw[List.set_comm _ _ (Bx Yk)]at I5;exact⟨_,H1,I5,q1⟩
end
section
def Wt(c:TT)(tb:TS):TS:=λD σ H=>∃W:Nat->St->Hp->Prop,(∃m,W m σ H)/\∀m σ H,W m σ H->
 c σ H λb H1=>if b=true then ∃N:St->Hp->Prop,(∀σ' H',N σ' H'->∃m',m'<m/\W m' σ' H')/\tb {D with nx:=N,ct:=N,bk:=D.nx} σ H1 else D.nx σ H1
def zj{c:nw}{tc:TT}{tb:TS}(hp:ww (gl X.prog X.w) X.A X.env X.xe)(hc:PT X c tc)(hb:oD X body tb):PS X (.While c body [] pos) (Wt tc tb):=by
 intro U s σ H D I h;obtain⟨W,⟨m0,w0⟩,turn⟩:=h;refine wpAny_While (codeAny_whileLoop (λn s'=>∃σ' H',Inv X U σ' H' s'/\W n σ' H') ?_ m0 ⟨σ,H,I,w0⟩);rintro n s1 ⟨σ1,H1,I1,w1⟩;refine Cq hp (bN (hc U s1 σ1 H1 _ I1 (turn n σ1 H1 w1)) λb s2 ⟨H2,I2,q2⟩=>?_);cases b with
 |true=>
  obtain⟨N,hN,q2⟩:=q2;refine Cq hp (bN (hb U s2 σ1 H2 _ I2 q2) λf s3 q3=>?_);cases f with
  |next=>
   obtain⟨σ3,H3,I3,n3⟩:=q3;obtain⟨m',hm,w3⟩:=hN σ3 H3 n3;exact⟨m',hm,σ3,H3,I3,w3⟩
  |cont=>
   obtain⟨σ3,H3,I3,n3⟩:=q3;obtain⟨m',hm,w3⟩:=hN σ3 H3 n3;exact⟨m',hm,σ3,H3,I3,w3⟩
  |brk=>exact q3
  |ret v=>exact q3
 |false=>
  exact D9 ⟨σ1,H2,I2,q2⟩
end
structure It where
 go:Nat->Hp->Prop
 Ro:Nat->Hp->V->Hp->Prop
 stop:Nat->Hp->Prop
def vn(X:Cx)(U:O (db×Obj))(H:Hp)(b:db):Prop:=
 H b=ce/\b≠X.env.locals/\b∉X.fs/\(b∈X.ex\/X.s₀.heap.objs.size<=b)/\(∀x c,X.env.cells.lookup x=am c->c≠b)/\∀p∈X.pn++U,p.1≠b
def Inv.xW{s:cr}(I:Inv X U σ H s)(hb:s.heap.objs.size<=b)(hn:H' b=ce):vn X U H' b:=by
 refine⟨hn,Nat.ne_of_gt (Ay I.lt hb),I.aeZ hb,.inr (AV I.sz hb),λx c e z=>?_,λp hp z=>?_⟩
 .obtain⟨v,q⟩:=I.cell x c e;exact absurd (Ay q.lt (by rw[z];exact hb)) (AB _)
 .exact absurd (Ay (Ap (I.pin p hp).1) (by rw[z];exact hb)) (AB _)
structure Turn(P:wP)(w:Db)(K:Ab)(tg:nw)(J:It)(fp:List db)(it:db)(tn:Nat->pr->Prop):Prop where
 mem:it∈fp
 obj:∀i h,tn i h->∀b∈fp,∃o,h.get? b=am o/\∀v,o.data≠.cell v
 keep:∀i h h',tn i h->(∀b∈fp,∀o,h.get? b=am o->h'.get? b=am o)->tn i h'
 item:∀(X:Cx),X.prog=P->X.w=w->X.K=K->X.calm=true->∀(i:Nat) (U:List (db×Obj)) (s:cr) (σ:St) (H:Hp) (E:ci->cr->Prop),Inv X U σ H s->(∀b∈fp,vn X U H b)->tn i s.heap->J.go i H->
  ga (gl P w) X.A (Pi (.ref it)) (λr s1=>∃u,r=am u/\
   ga (gl P w) X.A (PP tg (.ref it) u) (λ_ s2=>∃x H',Inv X U σ H' s2/\RelV x u/\J.Ro i H x H'/\tn (i+1) s2.heap/\∀b∈fp,H' b=ce) E s1) E s
 done:∀(X:Cx),X.prog=P->X.w=w->X.K=K->X.calm=true->∀(i:Nat) (U:List (db×Obj)) (s:cr) (σ:St) (H:Hp) (E:ci->cr->Prop),Inv X U σ H s->(∀b∈fp,vn X U H b)->tn i s.heap->J.stop i H->
  ga (gl P w) X.A (Pi (.ref it)) (λr s1=>r=ce/\Inv X U σ H s1) E s
 self:∀(A:Da) (i:Nat) (s:cr) (Q:ci->cr->Prop) (E:ci->cr->Prop),tn i s.heap->Q (.ref it) s->ga (gl P w) A (pyIter (.ref it)) Q E s
abbrev TI:=St->Hp->(It->Hp->Prop)->Prop
def PIE(X:Cx)(U:O (db×Obj))(σ:St)(tg:nw)(R:It->Hp->Prop)(ý:ci)(s2:cr):Prop:=
 ∃(it:db) (fp:O db) (tn:Nat->pr->Prop) (J:It) (H':Hp),ý=.ref it/\Inv X U σ H' s2/\Turn X.prog X.w X.K tg J fp it tn/\tn 0 s2.heap/\(∀b∈fp,vn X U H' b)/\R J H'
def PI(X:Cx)(tg iter:nw)(wi:TI):Prop:=
 ∀(U:O (db×Obj)) (s:cr) (σ:St) (H:Hp) (R:It->Hp->Prop),Inv X U σ H s->wi σ H R->
  ga (gl X.prog X.w) X.A (o0 iter X.env) (λv s1=>ga (gl X.prog X.w) X.A (pyIter v) (PIE X U σ tg R) X.xe s1) X.xe s
def zZ{s:cr}{n:String}{vs:Array ci}{Q:Unit->cr->Prop}(ho:s.heap.get? it=am o)(hc:o.cls=.type n)(hd:o.data=.fields vs)(hn:["enumerate","zip","dict_itemiterator","dict_reverseitemiterator","odict_iterator","itertools.zip_longest","itertools.pairwise"].contains n=false)(hQ:Q () s):ga M A (PP tg (.ref it) u) Q E s:=by
 unfold PP;cases tg<;>first
  |exact Af hQ
  |(cases u<;>first
    |exact Af hQ
    |(
      refine Aa (wpAny_load ho ?_);rw[hc,hd];show ga M A (if (["enumerate","zip","dict_itemiterator","dict_reverseitemiterator","odict_iterator","itertools.zip_longest","itertools.pairwise"].contains n&&vs[0]?==am (wT _))=true then _ else _) Q E s;rw[if_neg (by intro h;rw[hn,FZ]at h;cases h)];exact Af hQ))
def Itl(K:Ab)(a:db):It:=
 ⟨λi H=>∃xs x,bH K H a xs/\xs[i]?=am x,λi H x H'=>H'=H/\∀xs,bH K H a xs->xs[i]?=am x,λi H=>∃xs,bH K H a xs/\xs.length<=i⟩
def Itt(K:Ab)(a:db):It:=
 ⟨λi H=>∃xs x,dF K H a xs/\xs[i]?=am x,λi H x H'=>H'=H/\∀xs,dF K H a xs->xs[i]?=am x,λi H=>∃xs,dF K H a xs/\xs.length<=i⟩
def Itr(lo:Int)(n:Nat):It:=⟨λi _=>i<n,λi H x H'=>H'=H/\x=.int (lo+i),λi _=>n<=i⟩
theorem Lq{K:Ab}(a it:db):Turn P w K tg (Itl K a) [it] it (λi h=>h.IsListIter it a i) where
 mem:=by simp
 obj:=λi h st b hb=>by
  have e:b=it:=by simpa using hb
  subst e;obtain⟨o,e,c,d⟩:=st;exact⟨o,e,λv z=>by rw[d]at z;cases z⟩
 keep:=λi h h' st k=>st.at λo e=>k it (by simp) o e
 item:=by
  intro X hP hw hK hc i U s σ H E I hf st hg;subst hP hw hK;obtain⟨xs,x,hq,hx⟩:=hg;obtain⟨aq,rv,p,hz⟩:=I.list hq;obtain⟨u,hu,ru⟩:=rv.get hx;obtain⟨f0,f1,f2,f3,f4,f5⟩:=hf it (by simp);refine wpAny_pyNext_list_item st p.isList (by simpa using hu) λh' qZ sb=>?_;obtain⟨o,e,c,d⟩:=id qZ;exact⟨u,rfl,zZ e c d ⋯ ⟨x,H,(I.turned (λb o hb e=>(sb.2 b hb).trans e) f0 f1 f3 f4 f5),ru,⟨rfl,λys hy=>by rw[I.tB hy hq];exact hx⟩,qZ,λb hb=>(hf b hb).1⟩⟩
 done:=by
  intro X hP hw hK hc i U s σ H E I hf st hg;subst hP hw hK;obtain⟨xs,hq,hx⟩:=hg;obtain⟨aq,rv,p,hz⟩:=I.list hq;obtain⟨f0,f1,f2,f3,f4,f5⟩:=hf it (by simp);have hl:=rv.length;exact wpAny_pyNext_list_end (I.ok.hd hc) st p.isList (by simp;lia) λh' eb=>⟨rfl,I.turned (t':=s.toks) (λb o hb e=>eb b o hb e) f0 f1 f3 f4 f5⟩
 self:=λ_ _ _ _ _ st h=>wpAny_pyIter_listiter st h
theorem Hv{K:Ab}(a it:db):Turn P w K tg (Itt K a) [it] it (λi h=>h.IsTupleIter it a i) where
 mem:=by simp
 obj:=λi h st b hb=>by
  have e:b=it:=by simpa using hb
  subst e;obtain⟨o,e,c,d⟩:=st;exact⟨o,e,λv z=>by rw[d]at z;cases z⟩
 keep:=λi h h' st k=>st.at λo e=>k it (by simp) o e
 item:=by
  intro X hP hw hK hc i U s σ H E I hf st hg;subst hP hw hK;obtain⟨xs,x,hq,hx⟩:=hg;obtain⟨aq,rv,p,hz⟩:=I.tuple hq;obtain⟨u,hu,ru⟩:=rv.get hx;obtain⟨f0,f1,f2,f3,f4,f5⟩:=hf it (by simp);refine wpAny_pyNext_tuple_item st (p) (by simpa using hu) λh' qZ sb=>?_;obtain⟨o,e,c,d⟩:=id qZ;exact⟨u,rfl,zZ e c d ⋯ ⟨x,H,(I.turned (λb o hb e=>(sb.2 b hb).trans e) f0 f1 f3 f4 f5),ru,⟨rfl,λys hy=>by rw[I.kJ hy hq];exact hx⟩,qZ,λb hb=>(hf b hb).1⟩⟩
 done:=by
  intro X hP hw hK hc i U s σ H E I hf st hg;subst hP hw hK;obtain⟨xs,hq,hx⟩:=hg;obtain⟨aq,rv,p,hz⟩:=I.tuple hq;obtain⟨f0,f1,f2,f3,f4,f5⟩:=hf it (by simp);have hl:=rv.length;exact wpAny_pyNext_tuple_end (I.ok.hd hc) st (show s.heap.IsTuple a aq.toArray from p) (by simp;lia) λh' eb=>⟨rfl,I.turned (t':=s.toks) (λb o hb e=>eb b o hb e) f0 f1 f3 f4 f5⟩
 self:=λ_ _ _ _ _ st h=>wpAny_pyIter_tupleiter st h
theorem Hw{K:Ab}(it:db)(lo:Int)(n:Nat):Turn P w K tg (Itr lo n) [it] it (λi h=>IsRangeIter h it (lo+(i:Nat)*1) ((n:Int)-(i:Nat)) 1) where
 mem:=by simp
 obj:=λi h st b hb=>by
  have e:b=it:=by simpa using hb
  subst e;exact⟨_,st,λv z=>by
   have z':=z;cases z'⟩
 keep:=λi h h' st k=>k it (by simp) _ st
 item:=by
  intro X hP hw hK hc i U s σ H E I hf st hg;subst hP hw hK;obtain⟨f0,f1,f2,f3,f4,f5⟩:=hf it (by simp);refine(Walks.range (prog:=X.prog) (I.ok.hd hc) it lo 1 n).item i s _ _ hg st λv h' tk hv qZ kk=>?_;obtain⟨t,rfl⟩:=hv;refine⟨_,rfl,zZ qZ rfl rfl ⋯ ⟨.int (lo+i),H,(I.turned (λb o hb e=>kk b o (by simpa using hb) e) f0 f1 f3 f4 f5),⟨t,?_⟩,⟨rfl,rfl⟩,qZ,λb hb=>(hf b hb).1⟩⟩;rw[Int.mul_one]
 done:=by
  intro X hP hw hK hc i U s σ H E I hf st hg;obtain⟨f0,f1,f2,f3,f4,f5⟩:=hf it (by simp);exact wpAny_pyNext_range_end (I.ok.hd hc) st (by have:n<=i:=hg;lia) λh' eb=>⟨rfl,I.turned (λb o hb e=>eb b o hb e) f0 f1 f3 f4 f5⟩
 self:=λ_ _ _ _ _ st h=>wpAny_pyIter_rangeiter st h
end L2
variable{hi:Int}{p:Ck}{fp:O Bg}{iter:BC}
namespace L2
section
theorem Oa{s:cr}{R:It->Hp->Prop}{lo:Int}{t u v:Tok}{tk:Nat}(I:Inv X U σ H s)(h1:-(2 ^ 62)<=lo)(h2:lo < 2 ^ 62)(h3:-(2 ^ 62)<=hi)(h4:hi < 2 ^ 62)(q:R (Itr lo (hi-lo).toNat) H):ga (gl X.prog X.w) X.A (pyIter (.ref s.heap.objs.size)) (PIE X U σ tg R) E {s with heap:=s.heap.push {cls:=.type "range",data:=.fields #[.int lo t,.int hi u,.int 1 v]},toks:=tk}:=by
 refine wpAny_pyIter_range (IsRange.new ..) (small_one h1 h2 h3 h4) ?_;have I1:Inv X U σ H {s with heap:=s.heap.push {cls:=.type "range",data:=.fields #[.int lo t,.int hi u,.int 1 v]},toks:=tk}:=I.kept λb o e=>Ah _ e;refine⟨(s.heap.push {cls:=.type "range",data:=.fields #[.int lo t,.int hi u,.int 1 v]}).objs.size,[(s.heap.push {cls:=.type "range",data:=.fields #[.int lo t,.int hi u,.int 1 v]}).objs.size],_,_,H,rfl,
  I1.kept (t':=tk) λb o e=>Ah _ e,Hw _ lo (hi-lo).toNat,?_,λb hb=>?_,q⟩
 .have e1:lo+((0:Nat):Int)*1=lo:=by simp
  have e2:(((hi-lo).toNat:Nat):Int)-((0:Nat):Int)=Builtin.Range.rangeSize lo hi 1:=by rw[rangeSize_one];split<;>lia
  show IsRangeIter _ _ (lo+((0:Nat):Int)*1) ((((hi-lo).toNat:Nat):Int)-((0:Nat):Int)) 1;rw[e1,e2];exact An _ rfl
 .have e:b=(s.heap.push {cls:=.type "range",data:=.fields #[.int lo t,.int hi u,.int 1 v]}).objs.size:=by simpa using hb
  subst e;exact I1.xW (Ak _) (I1.bg.fresh (Ak _))
def abn(ta:TA):TI:=λσ H R=>ta σ H λvs H1=>∃j:Int,vs=[.int j]/\-(2 ^ 62)<=j/\j<2 ^ 62/\R (Itr 0 j.toNat) H1
theorem LN{ta:TA}(hg:Gl X "range")(hm:X.mg "range"=ce)(ha:PA X [a] ta)(hs:‹gt [a] X.env=[(false,o0 a X.env)]›):PI X tg (.Call (.Name "range" p) [a] [] pos) (abn ta):=by
 intro U s σ H R I h;refine Call_ (gp I hg hm boot_range (Bj (bN (ha pos U s σ H _ I h) λus s1 ⟨vs,H1,I1,r1,q1⟩=>?_) hs rfl));obtain⟨j,e,q1,q2,q⟩:=q1;subst e;cases r1 with
 |cons r rr=>
  cases rr;obtain⟨t,rfl⟩:=r;exact call_range_1 (Oa I1 ∅ ∅ q1 q2 (by simpa using q))
def aep(wi:TI)(g:TG)(tb:TS):TS:=λD σ H=>wi σ H λJ H1=>∃W:Nat->Nat->St->Hp->Prop,(∃m,W 0 m σ H1)/\∀i m σ H,W i m σ H->
 (J.stop i H/\D.nx σ H)\/(J.go i H/\∃N:St->Hp->Prop,(∀σ' H',N σ' H'->∃m',m'<m/\W (i+1) m' σ' H')/\∀x H',J.Ro i H x H'->g x σ H' λσ2 H2=>tb {D with nx:=N,ct:=N,bk:=D.nx} σ2 H2)
def oX(fp:O db)(h:pr):O (db×Obj):=fp.filterMap λb=>(h.get? b).map λo=>(b,o)
def jb(hb:b∈fp)(e:h.get? b=am o):(b,o)∈oX fp h:=EE.mpr ⟨b,hb,by rw[e];rfl⟩
def LQ{p:db×Obj}(hp:p∈oX fp h):p.1∈fp/\h.get? p.1=am p.2:=by
 obtain⟨b,hb,e⟩:=EE.mp hp;cases q:h.get? b with
 |none=>rw[q]at e;cases e
 |some o=>
  rw[q]at e;have e':=Option.some.inj e;subst e';exact⟨hb,q⟩
def Inv.pinned{s:cr}(I:Inv X U σ H s)(hf:∀b∈fp,vn X U H b)(ho:∀b∈fp,∃o,s.heap.get? b=am o/\∀v,o.data≠.cell v):Inv X (U++oX fp s.heap) σ H s:=
 I.Kj λp hp=>(AZ.mp hp).elim (λz=>I.pin p (AQ _ z)) λz=>by
  obtain⟨hb,e⟩:=LQ z;obtain⟨f0,f1,f2,_⟩:=hf p.1 hb;obtain⟨o,e',d⟩:=ho p.1 hb;rw[e]at e';cases e';exact⟨e,f0,f1,f2,d⟩
def Inv.jV{pl:O (db×Obj)}{s:cr}(I:Inv X (U++pl) σ H s):Inv X U σ H s:=I.Kj λp hp=>I.pin p (AQ _ (BG _ hp))
def Ot{wi:TI}{g:TG}{tb:TS}(hp:ww (gl X.prog X.w) X.A X.env X.xe)(hc:X.calm=true)(hi:PI X tg iter wi)(hg:PG X tg g)(hb:oD X body tb)(hs:pV X iter:=by intro _;rfl):PS X (.For tg iter body [] pos) (aep wi g tb):=by
 intro U s σ H D I h;refine wpAny_For (bN (hi U s σ H _ I h) λv s1 h1=>bN h1 λý s2 h2=>?_) hs;obtain⟨it,fp,tn,J,H2,e,I2,T,Lz,f2,W,⟨m0,w0⟩,turn⟩:=h2;subst e;have Wz:∀{H':Hp},(∀b∈fp,H' b=ce)->∀b∈fp,vn X U H' b:=λhn b hb=>⟨hn b hb,(f2 b hb).2⟩;refine codeAny_forLoop_any (λn s'=>∃i σ' H',Inv X U σ' H' s'/\tn i s'.heap/\(∀b∈fp,H' b=ce)/\W i n σ' H') ?_ m0 ⟨0,σ,H2,I2,Lz,λb hb=>(f2 b hb).1,w0⟩;rintro n s3 ⟨i,σ3,H3,I3,á,ò,w3⟩;rcases turn i n σ3 H3 w3 with⟨stop,qn⟩|⟨go,N,hN,step⟩
 .refine Cq hp (bN (T.done X rfl rfl rfl hc i U s3 σ3 H3 X.xe I3 (Wz ò) á stop) λr s4 ⟨hr,I4⟩=>?_);subst hr;exact D9 ⟨σ3,H3,I4,qn⟩
 .refine Cq hp (bN (T.item X rfl rfl rfl hc i U s3 σ3 H3 X.xe I3 (Wz ò) á go) λr s4 ⟨u,hr,h4⟩=>?_);subst hr;refine Cq hp (bN h4 λ_ s5 ⟨x,H5,I5,r5,y5,WA,Ĳ⟩=>?_);refine Cq hp (bN (hg _ s5 σ3 H5 x u _ (I5.pinned (Wz Ĳ) (T.obj _ _ WA)) r5 (step x H5 y5)) λ_ s6 ⟨σ6,H6,I6,q6⟩=>?_);refine Cq hp (bN (hb _ s6 σ6 H6 _ I6 q6) λf s7 q7=>?_);have again:∀{σ7:St}{H7:Hp},Inv X (U++oX fp s5.heap) σ7 H7 s7->N σ7 H7->∃m,m<n/\∃i σ' H',Inv X U σ' H' s7/\tn i s7.heap/\(∀b∈fp,H' b=ce)/\W i m σ' H':=λ{σ7 H7} I7 n7=>by
   obtain⟨m',hm,w7⟩:=hN σ7 H7 n7;refine⟨m',hm,i+1,σ7,H7,I7.jV,T.keep _ _ _ WA λb hb o e=>(I7.pin (b,o) (AQ _ (AQ _ (jb hb e)))).1,λb hb=>?_,w7⟩;obtain⟨o,e,d⟩:=T.obj _ _ WA b hb;exact(I7.pin (b,o) (AQ _ (AQ _ (jb hb e)))).2.1
  cases f with
  |next=>obtain⟨σ7,H7,I7,n7⟩:=q7;exact again I7 n7
  |cont=>obtain⟨σ7,H7,I7,n7⟩:=q7;exact again I7 n7
  |brk=>obtain⟨σ7,H7,I7,q7⟩:=q7;exact⟨σ7,H7,I7.jV,q7⟩
  |ret v=>obtain⟨x7,σ7,H7,I7,r7,q7⟩:=q7;exact⟨x7,σ7,H7,I7.jV,r7,q7⟩
end
end L2
variable{i:Int}{g:Int->Int->Int}{aq:O A9}
namespace L2
abbrev R2:=V->V->Hp->VK->Prop
def ip(X:Cx)(f:ci->ci->Sem ci)(r:R2):Prop:=
 ∀(U:O (db×Obj)) (s:cr) (σ:St) (H:Hp) (x y:V) (v u:ci) (Q:VK),Inv X U σ H s->RelV x v->RelV y u->r x y H Q->
  ga (gl X.prog X.w) X.A (f v u) (EP X U σ Q) X.xe s
def UnR(X:Cx)(f:ci->Sem ci)(r:V->Hp->VK->Prop):Prop:=
 ∀(U:O (db×Obj)) (s:cr) (σ:St) (H:Hp) (x:V) (v:ci) (Q:VK),Inv X U σ H s->RelV x v->r x H Q->
  ga (gl X.prog X.w) X.A (f v) (EP X U σ Q) X.xe s
def cb(X:Cx)(f:ci)(r:O V->Hp->VK->Prop):Prop:=
 ∀(U:O (db×Obj)) (s:cr) (σ:St) (H:Hp) (xs:O V) (us:O ci) (Q:VK),Inv X U σ H s->Vals xs us->r xs H Q->
  ga (gl X.prog X.w) X.A (call f us) (EP X U σ Q) X.xe s
def agr(X:Cx)(r:V->Hp->(Bool->Hp->Prop)->Prop):Prop:=
 ∀(U:O (db×Obj)) (s:cr) (σ:St) (H:Hp) (x:V) (v:ci) (Q:Bool->Hp->Prop),Inv X U σ H s->RelV x v->r x H Q->
  ga (gl X.prog X.w) X.A (truthy v) (TP X U σ Q) X.xe s
def UR(r:R2)(ta tb:TE):TE:=λσ H Q=>ta σ H λx H1=>tb σ H1 λy H2=>r x y H2 Q
def tUn(r:V->Hp->VK->Prop)(ta:TE):TE:=λσ H Q=>ta σ H λx H1=>r x H1 Q
def rI(C:Int->Int->Prop)(g:Int->Int->V):R2:=λx y H Q=>∃i j,x=.int i/\y=.int j/\C i j/\Q (g i j) H
def Sb(g:Int->Int->V):R2:=λx y H Q=>∃i j,x=.int i/\y=.int j/\Q (g i j) H
def rU(g:Int->V):V->Hp->VK->Prop:=λx H Q=>∃i,x=.int i/\Q (g i) H
section
variable{b:nw}
def YW(ha:PE X a ta)(hb:PE X b tb){s:cr}(I:Inv X U σ H s)(h:ta σ H λx H1=>tb σ H1 λy H2=>R x y H2){f:ci->ci->Sem ci}(hf:∀v u s2 x y H2,Inv X U σ H2 s2->RelV x v->RelV y u->R x y H2->ga (gl X.prog X.w) X.A (f v u) Q X.xe s2):ga (gl X.prog X.w) X.A (o0 a X.env) (λv s₁=>ga (gl X.prog X.w) X.A (o0 b X.env) (λu s₂=>ga (gl X.prog X.w) X.A (f v u) Q X.xe s₂) X.xe s₁) X.xe s:=by
 exact bN (ha U s σ H _ I h) λv s1 ⟨x,H1,I1,r1,q1⟩=>bN (hb U s1 σ H1 _ I1 q1) λu s2 ⟨y,H2,I2,r2,q2⟩=>hf v u s2 x y H2 I2 r1 r2 q2
def cV{op:Operator}{r:R2}(ho:ip X (u8 op) r)(ha:PE X a ta)(hb:PE X b tb):PE X (.BinOp a op b pos) (UR r ta tb):=by
 intro U s σ H Q I h;exact wpAny_BinOp (YW ha hb I h λv u s2 x y H2 I2 rx ry q=>ho U s2 σ H2 x y v u Q I2 rx ry q)
def aaG{op:UnaryOp}{r:V->Hp->VK->Prop}(ho:UnR X (unaryOp op) r)(ha:PE X a ta):PE X (.UnaryOp op a pos) (tUn r ta):=by
 intro U s σ H Q I h;exact UnaryOp_ (bN (ha U s σ H _ I h) λv s1 ⟨x,H1,I1,r1,q1⟩=>ho U s1 σ H1 x v Q I1 r1 q1)
def opI{f:ci->ci->Sem ci}{C:Int->Int->Prop}(rule:∀(i j:Int) (t u:Tok) (s:cr) (Q:ci->cr->Prop) (E:ci->cr->Prop),C i j->Q (.int (g i j) s.toks) {s with toks:=s.toks+1}->ga (gl X.prog X.w) X.A (f (.int i t) (.int j u)) Q E s):ip X f (rI C λi j=>.int (g i j)):=by
 intro U s σ H x y v u Q I rx ry h;obtain⟨i,j,rfl,rfl,hc,q⟩:=h;obtain⟨t,rfl⟩:=rx;obtain⟨t',rfl⟩:=ry;exact rule i j t t' s _ _ hc ⟨.int (g i j),H,I.tok _,⟨_,rfl⟩,q⟩
def aaU{f:ci->ci->Sem ci}(rule:∀(i j:Int) (t u:Tok) (s:cr) (Q:ci->cr->Prop) (E:ci->cr->Prop),Q (.int (g i j) s.toks) {s with toks:=s.toks+1}->ga (gl X.prog X.w) X.A (f (.int i t) (.int j u)) Q E s):ip X f (Sb λi j=>.int (g i j)):=by
 intro U s σ H x y v u Q I rx ry h;obtain⟨i,j,rfl,rfl,q⟩:=h;obtain⟨t,rfl⟩:=rx;obtain⟨t',rfl⟩:=ry;exact rule i j t t' s _ _ ⟨.int (g i j),H,I.tok _,⟨_,rfl⟩,q⟩
def SG{f:ci->ci->Sem ci}{g:Int->Int->Bool}(rule:∀(i j:Int) (t u:Tok) (s:cr) (Q:ci->cr->Prop) (E:ci->cr->Prop),Q (.bool (g i j)) s->ga (gl X.prog X.w) X.A (f (.int i t) (.int j u)) Q E s):ip X f (Sb λi j=>.bl (g i j)):=by
 intro U s σ H x y v u Q I rx ry h;obtain⟨i,j,rfl,rfl,q⟩:=h;obtain⟨t,rfl⟩:=rx;obtain⟨t',rfl⟩:=ry;exact rule i j t t' s _ _ ⟨.bl (g i j),H,I,rfl,q⟩
def Q5(i j:Int):Prop:=0<j/\j<1073741824
def Na(i j:Int):Prop:=0<=j/\j<=1000000/\i.natAbs<2 ^ 64
def UO(i j:Int):Prop:=(-(2 ^ 64)<i/\i<2 ^ 64)\/(-(2 ^ 64)<j/\j<2 ^ 64)
def UO.ok{j:Int}(h:UO i j):tz i j:=by
 rcases h with⟨h1,h2⟩|⟨h1,h2⟩
 .exact .of_left (intBits_le_64 h1 h2)
 .exact .of_right (intBits_le_64 h1 h2)
def Xo:ip X (u8 .Add) (Sb λi j=>.int (i+j)):=aaU λ_ _ _ _ _ _ _ q=>add_int q
def Xh:ip X (u8 .Sub) (Sb λi j=>.int (i-j)):=aaU λ_ _ _ _ _ _ _ q=>sub_int q
theorem rm:ip X (u8 .FloorDiv) (rI Q5 λi j=>.int (i / j)):=opI λi j _ _ _ _ _ hc q=>by
 have h1:(0:Int)<j:=hc.1;have h2:j<1073741824:=hc.2;exact floordiv_int ∅ (by rw[Int.fdiv_eq_ediv_of_nonneg i ∅];exact q) (.inl (PyProof.noPylong_small ∅))
theorem oZ:ip X (u8 .Mod) (rI (λ_ j=>0<j) λi j=>.int (i % j)):=opI λi j _ _ _ _ _ hc q=>by
 have h1:(0:Int)<j:=hc;exact mod_int' ∅ (by rw[Int.fmod_eq_emod_of_nonneg i ∅];exact q)
def Xj:ip X (u8 .Pow) (rI Na λi j=>.int (i ^ j.toNat)):=opI λ_ _ _ _ _ _ _ hc q=>pow_int_small hc.1 hc.2.1 hc.2.2 q
def unI{f:ci->Sem ci}{g:Int->Int}(rule:∀(i:Int) (t:Tok) (s:cr) (Q:ci->cr->Prop) (E:ci->cr->Prop),Q (.int (g i) s.toks) {s with toks:=s.toks+1}->ga (gl X.prog X.w) X.A (f (.int i t)) Q E s):UnR X f (rU λi=>.int (g i)):=by
 intro U s σ H x v Q I rx h;obtain⟨i,rfl,q⟩:=h;obtain⟨t,rfl⟩:=rx;exact rule i t s _ _ ⟨.int (g i),H,I.tok _,⟨_,rfl⟩,q⟩
def Wl:UnR X (unaryOp .USub) (rU λi=>.int (-i)):=unI λ_ _ _ _ _ q=>neg_int q
end
def aez:V->V->Bool
 |.aF,.aF=>true|.aF,.int _=>true|.int _,.aF=>true|.aF,.bl _=>true|.bl _,.aF=>true|.aF,.str _=>true|.str _,.aF=>true
 |.int _,.int _=>true|.bl _,.bl _=>true|.str _,.str _=>true|.MZ _,.MZ _=>true
 |.int _,.str _=>true|.str _,.int _=>true|.bl _,.str _=>true|.str _,.bl _=>true
 |_,_=>false
def rEq:R2:=λx y H Q=>aez x y=true/\Q (.bl (decide (x=y))) H
def Lc{j:Int}:decide (V.int i=V.int j)=(i==j):=by
 rw[Dp];simp
def YQ{i j:Bool}:decide (V.bl i=V.bl j)=(i==j):=by
 rw[Dp];simp
def Uq{i j:Str}:decide (V.str i=V.str j)=(i==j):=by
 rw[Dp];simp
def Ur{i j:Array UInt8}:decide (V.MZ i=V.MZ j)=(i.toList==j.toList):=by
 rw[Dp];cases i;cases j;simp
section
variable{b c:nw}
def cM{s:cr}{Q:VK}{k k':Bool}(I:Inv X U σ H s)(q:Q (.bl k) H)(e:k=k'):EP X U σ Q (.bool k') s:=by
 subst e;exact⟨.bl k,H,I,rfl,q⟩
def aaT:ip X (sw .Eq) rEq:=by
 intro U s σ H x y v u Q I rx ry h;obtain⟨hs,q⟩:=h;cases x with
 |aF=>
  cases rx;cases y with
  |aF=>cases ry;exact PySem.EqNone.eq_none_none (cM I q (by simp))
  |bl j=>cases ry;exact PySem.EqNone.eq_none_bool (cM I q (by simp))
  |int j=>obtain⟨t',rfl⟩:=ry;exact PySem.EqNone.eq_none_int (cM I q (by simp))
  |str j=>obtain⟨t',rfl⟩:=ry;exact PySem.EqNone.eq_none_str (cM I q (by simp))
  |_=>exact absurd (hs) AM
 |bl i=>
  cases rx;cases y with
  |aF=>cases ry;exact PySem.EqNone.eq_bool_none (cM I q (by simp))
  |bl j=>cases ry;exact eq_bool (cM I q YQ)
  |str j=>obtain⟨t',rfl⟩:=ry;exact PySem.EqMixed.eq_bool_str (cM I q (by simp))
  |_=>exact absurd (show false=true from hs) AM
 |int i=>
  obtain⟨t,rfl⟩:=rx;cases y with
  |aF=>cases ry;exact PySem.EqNone.eq_int_none (cM I q (by simp))
  |int j=>obtain⟨t',rfl⟩:=ry;exact eq_int (cM I q Lc)
  |str j=>obtain⟨t',rfl⟩:=ry;exact PySem.EqMixed.eq_int_str (cM I q (by simp))
  |_=>exact absurd (show false=true from hs) AM
 |str i=>
  obtain⟨t,rfl⟩:=rx;cases y with
  |aF=>cases ry;exact PySem.EqNone.eq_str_none (cM I q (by simp))
  |bl j=>cases ry;exact PySem.EqMixed.eq_str_bool (cM I q (by simp))
  |int j=>obtain⟨t',rfl⟩:=ry;exact PySem.EqMixed.eq_str_int (cM I q (by simp))
  |str j=>obtain⟨t',rfl⟩:=ry;exact eq_str (cM I q Uq)
  |_=>exact absurd (show false=true from hs) AM
 |MZ i=>
  obtain⟨t,rfl⟩:=rx;cases y with
  |MZ j=>obtain⟨t',rfl⟩:=ry;exact PySem.W.eq_bytes (cM I q Ur)
  |_=>exact absurd (show false=true from hs) AM
 |_=>cases y<;>exact absurd (show false=true from hs) AM
def aaP:ip X (sw .Lt) (Sb λi j=>.bl (decide (i<j))):=SG λ_ _ _ _ _ _ _ q=>lt_int q
def aaQ:ip X (sw .LtE) (Sb λi j=>.bl (decide (i<=j))):=SG λ_ _ _ _ _ _ _ q=>le_int q
def aaR:ip X (sw .Gt) (Sb λi j=>.bl (decide (j<i))):=SG λ_ _ _ _ _ _ _ q=>gt_int q
def aaS:ip X (sw .GtE) (Sb λi j=>.bl (decide (j<=i))):=SG λ_ _ _ _ _ _ _ q=>ge_int q
def Xl:ip X (sw .Is) (λx y H Q=>y=.aF/\Q (.bl (decide (x=.aF))) H):=by
 intro U s σ H x y v u Q I rx ry h;obtain⟨rfl,q⟩:=h;cases ry;refine is_none_gen (cM I q ?_);cases x<;>first
  |(cases rx;rfl)
  |(obtain⟨t,rfl⟩:=rx;rfl)
def Sx:ip X (sw .IsNot) (λx y H Q=>y=.aF/\Q (.bl (!decide (x=.aF))) H):=by
 intro U s σ H x y v u Q I rx ry h;obtain⟨rfl,q⟩:=h;cases ry;refine isnot_none_gen (cM I q ?_);cases x<;>first
  |(cases rx;rfl)
  |(obtain⟨t,rfl⟩:=rx;rfl)
def ip.or{f:ci->ci->Sem ci}{r r':R2}(h:ip X f r)(h':ip X f r'):ip X f (λx y H Q=>r x y H Q\/r' x y H Q):=by
 intro U s σ H x y v u Q I rx ry q;rcases q with q|q
 .exact h U s σ H x y v u Q I rx ry q
 .exact h' U s σ H x y v u Q I rx ry q
def gc(b:nw){op:CmpOp}(h: ~~~(op≠.In))(h2: ~~~(op≠.NotIn)):ul op b=false:=by
 have e1:(op==CmpOp.In)=false:=by cases op<;>first|rfl|exact absurd rfl h
 have e2:(op==CmpOp.NotIn)=false:=by cases op<;>first|rfl|exact absurd rfl h2
 cases b<;>simp[ul,e1,e2]
def Kk{op:CmpOp}{r:R2}(ho:ip X (sw op) r)(ha:PE X a ta)(hb:PE X b tb)(hm:ul op b=false):PE X (.Compare a [op] [b] pos) (UR r ta tb):=by
 intro U s σ H Q I h;exact wpAny_Compare1 (YW ha hb I h λv u s2 x y H2 I2 rx ry q=>ho U s2 σ H2 x y v u Q I2 rx ry q) hm
def UQ(t:TE):TT:=λσ H Q=>t σ H λx H'=>∃k,x=.bl k/\Q k H'
def gH{op:CmpOp}{r:R2}(ho:ip X (sw op) r)(ha:PE X a ta)(hb:PE X b tb)(hm:ul op b=false):PT X (.Compare a [op] [b] pos) (UQ (UR r ta tb)):=by
 intro U s σ H Q I h;refine wpAny_isTrue_Compare1 (bN (ha U s σ H _ I h) λv s1 ⟨x,H1,I1,r1,q1⟩=>bN (hb U s1 σ H1 _ I1 q1) λu s2 ⟨y,H2,I2,r2,q2⟩=>
  bN (ho U s2 σ H2 x y v u _ I2 r1 r2 q2) λc s3 ⟨z,H3,I3,r3,k,e,q3⟩=>?_) hm
 subst e;cases r3;exact DB ⟨H3,I3,q3⟩
def YZ(K:Ab)(x:V)(H:Hp)(k:Bool):Prop:=
 match x with
 |.aF=>k=false
 |.bl b=>k=b
 |.int i=>k=(i != 0)
 |.str y=>y.length<=sizeLine/\k=((y.length:Int) != 0)
 |.MZ y=>y.size<=sizeLine/\k=((y.size:Int) != 0)
 |.ref p=>(∃xs,bH K H p xs/\k=!xs.isEmpty)\/(∃xs,dF K H p xs/\k=!xs.isEmpty)\/∃ay,H p=am (.dK ay)/\k=!ay.isEmpty
 |_=>False
def IG{ay:O (κ×V)}{vs:O (κ×ci)}(r:KV ay vs):(!vs.isEmpty)=!ay.isEmpty:=by
 cases r<;>rfl
def tI(r:Vals xs aq):(!aq.toArray.isEmpty)=!xs.isEmpty:=by
 cases r<;>simp
def xv:(sizeLine:Nat)<2 ^ 63:=by rw[sizeLine_eq];decide
theorem Wm:agr X (λx H Q=>∃k,YZ X.K x H k/\Q k H):=by
 intro U s σ H x v Q I rx h;obtain⟨k,e,q⟩:=h;have hs:=sizeLine_eq;cases x with
 |aF=>
  cases rx;have e':=e;subst e';exact truthy_none ⟨H,I,q⟩
 |bl b=>
  cases rx;have e':=e;subst e';exact DB ⟨H,I,q⟩
 |int i=>
  obtain⟨t,rfl⟩:=rx;have e':=e;subst e';exact PySem.P.truthy_int ⟨H,I,q⟩
 |str y=>
  obtain⟨t,rfl⟩:=rx;obtain⟨hy,e'⟩:y.length<=sizeLine/\k=((y.length:Int) != 0):=e;subst e';exact PySem.P.truthy_str ∅ ⟨H,I.tok _,q⟩
 |MZ y=>
  obtain⟨t,rfl⟩:=rx;obtain⟨hy,e'⟩:y.size<=sizeLine/\k=((y.size:Int) != 0):=e;subst e';exact PySem.W.truthy_bytes ∅ ⟨H,I.tok _,q⟩
 |ref p=>
  cases rx;have e':=e;rcases e' with⟨xs,hx,e'⟩|⟨xs,hx,e'⟩|⟨ay,hx,e'⟩
  .subst e';obtain⟨aq,r,pl,hz⟩:=I.list hx;have Á:=r.length;exact wpAny_truthy_list pl.isList (by simp;lia) ⟨H,I.tok _,by rw[tI r];exact q⟩
  .subst e';obtain⟨aq,r,pl,hz⟩:=I.tuple hx;have Á:=r.length;exact truthy_tuple pl (by simp only[Am];lia) ⟨H,I.tok _,by rw[tI r];exact q⟩
  .subst e';obtain⟨hz,hS,vs,r,m⟩:ay.length<=sizeLine/\(p==GE)=false/\∃vs,KV ay vs/\s.heap.DictOf (cn X.prog X.w) p vs:=I.bg p _ hx;have Á:=Paired.length r;exact wpAny_truthy_dict hS m ∅ ⟨H,I.tok _,by rw[IG r];exact q⟩
 |_=>exact(e).elim
def Om(ha:PE X a ta)(he:∀Ä,isTrue a X.env Ä=(do let v <- Ä;standAt a.pos;KB [v] (truthy v))):PT X a (λσ H Q=>ta σ H λx H'=>∃k,YZ X.K x H' k/\Q k H'):=by
 intro U s σ H Q I h;exact isTrue_plain (bN (ha U s σ H _ I h) λv s1 ⟨x,H1,I1,r1,q1⟩=>Wm U s1 σ H1 x v Q I1 r1 q1) (he _)
def HV:ip X (u8 .Add) (λx y H Q=>∃i j,x=.str i/\y=.str j/\i.length+j.length<=sizeLine/\Q (.str (i++j)) H):=by
 intro U s σ H x y v u Q I rx ry h;obtain⟨i,j,rfl,rfl,hz,q⟩:=h;obtain⟨t,rfl⟩:=rx;obtain⟨t',rfl⟩:=ry;exact add_str (λt' tk=>⟨.str (i++j),H,I.tok _,⟨_,rfl⟩,q⟩) hz
def vals1{x:V}(r:Vals [x] us):∃u,us=[u]/\RelV x u:=by
 cases r with
 |cons r1 r2=>cases r2;exact⟨_,rfl,r1⟩
def vals2{x:V}(r:Vals [x,y] us):∃u w',us=[u,w']/\RelV x u/\RelV y w':=by
 cases r with
 |cons r1 r2=>
  cases r2 with
  |cons r3 r4=>cases r4;exact⟨_,_,rfl,r1,r3⟩
def MY:cb X (.type "int") (λxs H Q=>(∃i,xs=[.int i]/\Q (.int i) H)\/∃k,xs=[.bl k]/\Q (.int (if k then 1 else 0)) H):=by
 intro U s σ H xs us Q I r h;rcases h with⟨i,rfl,q⟩|⟨k,rfl,q⟩
 .obtain⟨u,rfl,t,rfl⟩:=vals1 r;exact call_int_int ⟨.int i,H,I,⟨_,rfl⟩,q⟩
 .obtain⟨u,rfl,r1⟩:=vals1 r;cases r1;exact call_int_bool ⟨.int (if k then 1 else 0),H,I.tok _,⟨_,rfl⟩,q⟩
def acF(K:Ab)(x:V)(H:Hp)(n:Nat):Prop:=
 match x with
 |.str y=>y.length<=sizeLine/\n=y.length
 |.MZ y=>y.size<=sizeLine/\n=y.size
 |.ref p=>(∃xs,bH K H p xs/\n=xs.length)\/∃xs,dF K H p xs/\n=xs.length
 |_=>False
theorem QK:cb X (.builtin "len") (λxs H Q=>∃x n,xs=[x]/\acF X.K x H n/\Q (.int n) H):=by
 intro U s σ H xs us Q I r h;obtain⟨x,n,rfl,e,q⟩:=h;obtain⟨u,rfl,rx⟩:=vals1 r;have hs:=sizeLine_eq;cases x with
 |str y=>
  obtain⟨t,rfl⟩:=rx;obtain⟨hy,e'⟩:y.length<=sizeLine/\n=y.length:=e;subst e';exact len_str ∅ ⟨.int _,H,I.tok _,⟨_,rfl⟩,q⟩
 |MZ y=>
  obtain⟨t,rfl⟩:=rx;obtain⟨hy,e'⟩:y.size<=sizeLine/\n=y.size:=e;subst e';exact PySem.W.len_bytes ∅ ⟨.int _,H,I.tok _,⟨_,rfl⟩,q⟩
 |ref p=>
  cases rx;have e':=e;rcases e' with⟨xs,hx,e'⟩|⟨xs,hx,e'⟩
  .subst e';obtain⟨aq,r',pl,hz⟩:=I.list hx;have Á:=r'.length;exact Calls.call_len_list pl.isList (by simp;lia) ⟨.int xs.length,H,I.tok _,⟨_,by simp only[Am];rw[Á]⟩,q⟩
  .subst e';obtain⟨aq,r',pl,hz⟩:=I.tuple hx;have Á:=r'.length;exact len_tuple pl (by simp only[Am];lia) ⟨.int xs.length,H,I.tok _,⟨_,by simp only[Am];rw[Á]⟩,q⟩
 |_=>exact(e).elim
end
end L2
variable{a:Bg}{mA:BZ->Option A9}
namespace L2
structure Y3(h:pr)(x dx C:db)(mA:Str->Option ci):Prop where
 obj:h.get? x=am (Fs C dx)
 ns:h.Ns1 dx mA
 ne:dx≠x
def L0{dx:db}(n:h.Ns1 dx mA):∃od,h.get? dx=am od/\∀name,FK name od=am (mA name):=by
 obtain⟨o,es,ep,ho,hd,hk,_,hm⟩:=n;refine⟨o,ho,λname=>?_⟩;have e:=hm name;unfold nsFind findBy at e;rw[<- Array.find?_toList]at e;unfold FK;rw[hd];dsimp only
 split
 .rename_i y q;rw[q]at e;exact congrArg am e
 .rename_i q;rw[q]at e;have a:es.toList.any (·.refKey)=false:=by
   rw[List.any_eq_false];intro y hy;obtain⟨z,t,afJ⟩:=hk y (Array.mem_toList_iff.mp hy);simp[DictEntry.refKey,afJ]
  have a':¬es.toList.any (·.refKey)=true:=by rw[a];exact AM
  rw[if_neg a'];exact congrArg am e
def Y3.look{x dx C:db}(I:Y3 h x dx C mA):∃od,PySem.W.InstAt h x (Fs C dx) C (am od)/\∀name,FK name od=am (mA name):=
 let ⟨od,ho,hl⟩:=L0 I.ns
 ⟨od,⟨I.obj,rfl,rfl,ho⟩,hl⟩
def yJ.some_of{o:Option ci}(r:yJ (am v) o):∃u,o=am u/\RelV v u:=by
 cases o with
 |none=>exact(r).elim
 |some u=>exact⟨u,rfl,r⟩
section
variable{C dx:db}{fs:O (Str×V)}
def Tt(bg:mh P w H h)(e:H a=am (.ins C dx fs)):∃mA,Y3 h a dx C mA/\(∀f,yJ (fs.lookup f) (mA f))/\PySem.Within mA (fs.map (·.1))/\fs.length<=1000/\H dx=am (.own a):=by
 obtain⟨d,z,ne,ob,mA,n,r,q⟩:=(bg a _ e);exact⟨mA,⟨ob,n,ne⟩,r,q,z,d⟩
end
structure Cls(K:Ab)(C:db):Prop where
 pg:Gk K C Str.empty=true
 hd:PySem.W.hasDictIn K C=true
 po:PySem.W.plainOver K C=true
 sa:FN K (.ref C) "__setattr__"=am (am (.builtin "object.__setattr__"))
def Cls.get{K:Ab}{C:db}(c:Cls K C)(f:Str):Gk K C f=true:=c.pg
def Q0(K:Ab)(C:db)(f:Str):Prop:=FN K (.ref C) f=am ce
section
variable{s:cr}{c:ci}{b:Bool}
inductive lL(K:Ab)(H:Hp):V->ci->Prop where
 |aF:lL K H .aF (.type "NoneType")
 |bl (x:Bool):lL K H (.bl x) (.type "bool")
 |int (i:Int):lL K H (.int i) (.type "int")
 |str (x:Str):lL K H (.str x) (.type "str")
 |Zy (x:UInt64):lL K H (.Zy x) (.type "float")
 |lst {a:db}{xs:List V} (e:H a=am (.lst xs)):lL K H (.ref a) (.type "list")
 |cg {a:db}{o:Obj}{xs:List V} (e:H a=am (.cg o (.lst xs))):lL K H (.ref a) (.type "list")
 |tup {a:db}{xs:List V} (e:H a=am (.tup xs)):lL K H (.ref a) (.type "tuple")
 |dK {a:db}{ay:List (Key×V)} (e:H a=am (.dK ay)):lL K H (.ref a) (.type "dict")
 |dT {a:db}{ay:List (List Key×V)} (e:H a=am (.dT ay)):lL K H (.ref a) (.type "dict")
 |ins {a C dx:db}{fs:List (Str×V)} (e:H a=am (.ins C dx fs)) (cl:Cls K C) (ha:FN K (.ref C) "__class__"=am (am (.builtin "object.__class__")))
   (hn:PySem.W.specialIn K (.builtin "object.__class__") "__get__"=am (am (.builtin "getset_descriptor.__get__"))) (htk:PySem.W.takesIn K (.builtin "object.__class__")=am true)
   (hm:PySem.W.mroIn K C (.type "object")=am true):lL K H (.ref a) (.ref C)
def Mb{x:V}{t:ci}(I:Inv X U σ H s)(rx:RelV x u)(ty:lL X.K H x t)(e:Bz X.K t c=am b)(h:∀tk,Q (.bool b) {s with toks:=tk}):ga (gl X.prog X.w) A (call (.builtin "isinstance") [u,c]) Q E s:=by
 cases ty with
 |aF=>cases (show u=A3 from rx);exact Be PySem.W.kitx_none I.vU Cm e (λz=>nomatch z) h
 |bl y=>cases (show u=F8 y from rx);exact Be PySem.W.kitx_bool I.vU Cm e (λz=>nomatch z) h
 |int i=>obtain⟨t,q⟩:=(show ∃t,u=CF i t from rx);cases q;exact Be PySem.W.kitx_int I.vU Cm e (λz=>nomatch z) h
 |str y=>obtain⟨t,q⟩:=(show ∃t,u=Bh y t from rx);cases q;exact Be PySem.W.kitx_str I.vU Cm e (λz=>nomatch z) h
 |Zy y=>obtain⟨t,q⟩:=(show ∃t,u=Value.float y t from rx);cases q;exact Be PySem.W.kitx_float I.vU Cm e (λz=>nomatch z) h
 | @lst a xs ea=>
  cases (show u=AJ a from rx);obtain⟨_,_,n,_,h1⟩:=(show bh X.prog X.w H s.heap a (.lst xs) from I.bg a _ ea);exact Be EL I.vU ⟨_,h1,rfl⟩ e (λz=>nomatch z) h
 | @cg a ob xs ea=>
  cases (show u=AJ a from rx);obtain⟨_,_,_,n,_,h1⟩:=(show bh X.prog X.w H s.heap a (.cg ob (.lst xs)) from I.bg a _ ea);exact Be EL I.vU ⟨_,h1,rfl⟩ e (λz=>nomatch z) h
 | @tup a xs ea=>
  cases (show u=AJ a from rx);obtain⟨_,_,_,p,_⟩:=(show bh X.prog X.w H s.heap a (.tup xs) from I.bg a _ ea);obtain⟨o,h1,h2,_⟩:=p;exact Be F7 I.vU ⟨o,h1,h2⟩ e (λz=>nomatch z) h
 | @dK a ay ea=>
  cases (show u=AJ a from rx);obtain⟨_,_,vs,_,p⟩:=(show bh X.prog X.w H s.heap a (.dK ay) from I.bg a _ ea);obtain⟨o,es,ep,h1,h2,_⟩:=p;exact Be EM I.vU ⟨o,h1,h2.1⟩ e (λz=>nomatch z) h
 | @dT a ay ea=>
  cases (show u=AJ a from rx);obtain⟨_,_,xs,_,o,es,ep,h1,h2,_⟩:=(show bh X.prog X.w H s.heap a (.dT ay) from I.bg a _ ea);exact Be EM I.vU ⟨o,h1,h2.1⟩ e (λz=>nomatch z) h
 | @ins a C dx fs ea cl ha hn htk hm=>
  cases (show u=AJ a from rx);obtain⟨mA,O_,_⟩:=Tt I.bg ea;obtain⟨od,J,_⟩:=O_.look;exact Be (PySem.W.kitx_own (cl.get _) cl.hd ha hn htk hm) I.vU J e (λz=>nomatch z) h
end
end L2
variable{o:BC}{v È pm fq ct oc:A9}{vs:O L2.V}{mg:BZ->Option A9}{base:Fe}{fd:PySem.FuncData}{ps:O BZ}{À:Ck}{qual:BZ}{scope:PySem.Scope}{an od:Option Bg}{Rg:Array (Option A9)}
namespace L2
structure dz(k:Nat)(A:Da):Prop where
 hd:A.handled=ce
 dp:A.depth+3*k+5<recursionLimit
 un:A.units+16*k+200<sK
 gd:A.guards=am []
theorem dz.mono(r:dz k A)(h:j<=k):dz j A:=⟨r.hd,by have:=r.dp;lia,by have:=r.un;lia,r.gd⟩
theorem dz.deeper(r:dz (k+1) A)(env:Env):dz k (A.deeper env):=
 ⟨r.hd,by have:=r.dp;show A.depth+1+3*k+5<_;lia,by have:=r.un;show A.units+3+16*k+200<_;lia,r.gd⟩
theorem dz.depth(r:dz k A):A.depth<recursionLimit:=by have:=r.dp;lia
theorem dz.Nx(r:dz k A):A.units<sK:=by have:=r.un;lia
def Wv:TA:=λ_ H Q=>Q [] H
def NL(ta:TE)(tr:TA):TA:=λσ H Q=>ta σ H λx H1=>tr σ H1 λxs H2=>Q (x::xs) H2
section
variable{t:TA}
def bq:PA X [] Wv:=λ_ _ _ _ H Q I h=>Cv ⟨[],H,I,.nil,h⟩
def aQ(ha:PE X e te)(hr:PA X es t)(hs:‹gE X e es›):PA X (e::es) (NL te t):=by
 intro pos U s σ H Q I h;rw[hs];exact B5 (bN (ha U s σ H _ I h) λu s1 ⟨x,H1,I1,r1,q1⟩=>bN (hr pos U s1 σ H1 _ I1 q1) λus s2 ⟨xs,H2,I2,r2,q2⟩=>⟨x::xs,H2,I2,.cons r1 r2,q2⟩)
end
abbrev Sp:=O V->Hp->VK->XK->Prop
abbrev UN:=O Env->Hp->cr->XK->ci->cr->Prop
structure UK(P:wP)(w:Db)(K:Ab)(mg:Str->Option ci)(base:pr)(A:Da)(outer:List Env)(s:cr)(H:Hp):Prop where
 frames:A.frames=am outer
 mod:Mod K mg base
 bs:∀b o,base.get? b=am o->s.heap.get? b=am o/\H b=ce
 V1:base.objs.size<=s.heap.objs.size
 tS:s.heap.FunFrames base outer
 Zw:∀b∈Nl outer,H b=ce
 bg:mh P w H s.heap
 bare:Pv s.gens
def CE(outer:O Env)(P:wP)(w:Db)(H:Hp)(s:cr)(Q:VK)(u:ci)(s':cr):Prop:=
 ∃v H',s'.os=s.os/\Pv s'.gens/\Un (Nl outer) [] H H' s.heap s'.heap/\mh P w H' s'.heap/\RelV v u/\Q v H'
def CR(CX:UN)(outer:O Env)(P:wP)(w:Db)(H:Hp)(s:cr)(Q:VK)(E:XK)(r:Result)(s':cr):Prop:=
 match r with
 |.ok (.ret u)=>CE outer P w H s Q u s'
 |.ok _=>False
 |.error e=>CX outer H s E e s'
structure lM(P:wP)(w:Db)(K:Ab)(mg:Str->Option ci)(base:pr)(CX:UN)(k:Nat)(f:db)(fd:FuncData)(ps:List Str)(sp:Sp):Prop where
 len:∀vs H Q E,sp vs H Q E->vs.length=ps.length
 run:∀(A:Da) (outer:List Env) (s:cr) (H:Hp) (args:Args) (us:List ci) (vs:List V) (Q:VK) (E:XK),dz k A->UK P w K mg base A outer s H->BindsTo s fd args (ps.zip us)->Vals vs us->sp vs H Q E->
  KF (gl P w) A (.call (.ref f) args) (CR CX outer P w H s Q E) s
def lM.imp{K:Ab}{CX:UN}{f:db}{sp sp':Sp}(F:lM P w K mg base CX k f fd ps sp)(h:∀vs H Q E,sp' vs H Q E->sp vs H Q E):lM P w K mg base CX k f fd ps sp':=
 ⟨λvs H Q E q=>F.len vs H Q E (h _ _ _ _ q),λA outer s H args us vs Q E hr he hb hv hs=>F.run A outer s H args us vs Q E hr he hb hv (h _ _ _ _ hs)⟩
section
variable{s:cr}
def Inv.agh(I:Inv X U σ H s):UK X.prog X.w X.K X.mg X.base X.A X.stack s H:=
 ⟨I.ok.frames,I.ok.mod,I.bs,AV I.ok.V1 I.sz,I.stack,I.J6,I.bg,I.bare⟩
def Inv.after{Q:VK}(I:Inv X U σ H s)(h:CE X.stack X.prog X.w H s Q u s'):EP X U σ Q u s':=by
 obtain⟨v,H',os,bare,un,bg,r,q⟩:=h;obtain⟨hh,g,d,t,os'⟩:=s';obtain rfl:os'=s.os:=os;exact⟨v,H',I.call (h':=hh) (g':=g) (d':=d) (t':=t) (ch:=[]) un bg bare (λb z=>absurd z (by simp)),r,q⟩
end
def Binds(K:Ab)(fd:FuncData)(ps:O Str)(ds:O ci):Prop:=
 ∀(s:cr) (us:O ci),K.In s.heap->(us++ds).length=ps.length->BindsTo s fd ⟨us,[]⟩ (ps.zip (us++ds))
def Binds.all{K:Ab}(h:∀us:O ci,us.length=ps.length->bindArgs fd ⟨us,[]⟩=pure (ps.zip us)):Binds K fd ps []:=λs us _ hl=>by
 rw[CU]at hl ⊢;exact .of_eq (h us hl)
def Passes(CX:UN)(X:Cx)(E:XK):Prop:=∀(U:O (db×Obj)) (σ:St) (H:Hp) (s:cr) (e:ci) (s':cr),Inv X U σ H s->CX X.stack H s E e s'->X.xe e s'
section
variable{CX:UN}{f:db}{sp:Sp}{Ċ:O V}{ds:O ci}{E:XK}
def WJ{s:cr}{Q:VK}(F:lM X.prog X.w X.K X.mg X.base CX k f fd ps sp)(hr:dz k X.A)(hb:Binds X.K fd ps ds)(hd:Vals Ċ ds)(hx:Passes CX X E)(I:Inv X U σ H s)(r:Vals vs us)(h:sp (vs++Ċ) H Q E):ga (gl X.prog X.w) X.A (call (.ref f) us) (EP X U σ Q) X.xe s:=by
 have r2:Vals (vs++Ċ) (us++ds):=r.append hd;have hl:(us++ds).length=ps.length:=by rw[<- r2.length];exact F.len _ _ _ _ h
 refine wpAny_call (Ps (F.run X.A X.stack s H ⟨us,[]⟩ (us++ds) (vs++Ċ) Q E hr I.agh (hb s us I.vU hl) r2 h) λr s' hq=>?_);cases r with
 |error e=>exact hx U σ H s e s' I hq
 |ok fl=>
  cases fl with
  |ret u=>exact I.after hq
  |next=>exact BX hq
  |brk=>exact BX hq
  |cont=>exact BX hq
end
structure fc(N P:List Str)(sc:pc):Prop where
 kind:sc.kind=.function
 co:sc.isCoroutine=false
 gen:sc.isGenerator=false
 nd:N.Nodup
 pre:N.take P.length=P
 par:∀x∈P,sc.names.lookup x=am .local\/sc.names.lookup x=am .cell
 Xq:∀y∈sc.names,y.2≠.free
theorem wx{kindOf:Str->Option wE}:∀{binds:O (Str×ci)}{m:Str->Option ci},(∀v,(x,v)∉binds)->bindL kindOf binds m x=m x
 |[],_,_=>rfl
 |(n,v)::r,m,h=>by
  unfold bindL;rw[wx λw hw=>h w (AY _ hw)]
  split
  .have:x≠n:=by rintro rfl;exact h v BF
   simp[this]
  .rfl
theorem wz{kindOf:Str->Option wE}:∀{binds:O (Str×ci)}{m:Str->Option ci},(∀v,(x,v)∉binds)->bindC kindOf binds m x=m x
 |[],_,_=>rfl
 |(n,v)::r,m,h=>by
  unfold bindC;rw[wz λw hw=>h w (AY _ hw)]
  split
  .rfl
  .have:x≠n:=by rintro rfl;exact h v BF
   simp[this]
theorem wy{kindOf:Str->Option wE}:∀{P:O Str}{vs:O ci}{i:Nat}{m:Str->Option ci},P.Nodup->P[i]?=am x->vs[i]?=am v->kindOf x=am .local->bindL kindOf (P.zip vs) m x=am v
 |[],_,_,_,_,h,_,_=>by simp at h
 |_::_,[],_,_,_,_,h,_=>by simp at h
 |p::P,w::vs,0,m,nd,h1,h2,hk=>by
  simp at h1 h2;subst h1;subst h2;show bindL kindOf ((p,w)::P.zip vs) m p=_;unfold bindL;rw[wx λv hv=>(Ea.mp nd).1 (FA hv).1,if_pos hk];simp
 |p::P,w::vs,i+1,m,nd,h1,h2,hk=>by
  unfold bindL;exact wy (Ea.mp nd).2 (by simpa using h1) (by simpa using h2) hk
theorem wA{kindOf:Str->Option wE}:∀{P:O Str}{vs:O ci}{i:Nat}{m:Str->Option ci},P.Nodup->P[i]?=am x->vs[i]?=am v->kindOf x≠am .local->bindC kindOf (P.zip vs) m x=am v
 |[],_,_,_,_,h,_,_=>by simp at h
 |_::_,[],_,_,_,_,h,_=>by simp at h
 |p::P,w::vs,0,m,nd,h1,h2,hk=>by
  simp at h1 h2;subst h1;subst h2;show bindC kindOf ((p,w)::P.zip vs) m p=_;unfold bindC;rw[wz λv hv=>(Ea.mp nd).1 (FA hv).1,if_neg hk];simp
 |p::P,w::vs,i+1,m,nd,h1,h2,hk=>by
  unfold bindC;exact wA (Ea.mp nd).2 (by simpa using h1) (by simpa using h2) hk
def start(N:O Str)(vs:O V):St:=vs.map am++Ao (N.length-vs.length) ce
def vf(CX:UN)(P:wP)(w:Db)(K:Ab)(mg:Str->Option ci)(base:pr)(N:O Str)(qual:Str)(scope:pc)(f:db)(cd:ci)(A:Da)(outer:O Env)(s:cr)(H:Hp)(E:XK):Cx where
 prog:=P
 w:=w
 K:=K
 mg:=mg
 base:=base
 A:=A.deeper (GM qual scope s.heap.objs.size f cd)
 N:=N
 s₀:=s
 H₀:=H
 env:=GM qual scope s.heap.objs.size f cd
 outer:=outer
 stack:=GM qual scope s.heap.objs.size f cd::outer
 ex:=[]
 calm:=true
 fn:=λ_=>true
 pn:=[]
 xe:=λe s'=>ga (gl P w) (A.deeper (GM qual scope s.heap.objs.size f cd)) (leaving (GM qual scope s.heap.objs.size f cd) e) (λ_ â=>CX outer H s E e â) (λe' â=>CX outer H s E e' â) s'
def G3{sc:pc}(h:sc.names.lookup x=am .cell):∃c,(ut n sc.names []).lookup x=am c:=by
 exact Option.isSome_iff_exists.mp (Fd sc.names n [] (.inl h))
theorem Mc{CX:UN}{K:Ab}{N:O Str}{f:db}{cd:ci}{outer:O Env}{s s1:cr}{E:XK}(S:fc N ps scope)(hd:A.handled=ce)(e0:UK P w K mg base A outer s H)(hl:vs.length=ps.length)(r:Vals vs us)(x:InCallC s s.heap.objs.size (bindL (GM qual scope s.heap.objs.size f cd).kindOf (ps.zip us) λ_=>ce) (ut (s.heap.objs.size+1) scope.names []) (bindC (GM qual scope s.heap.objs.size f cd).kindOf (ps.zip us) λ_=>ce) s1):Inv (vf CX P w K mg base N qual scope f cd A outer s H E) [] (start N vs) H s1:=by
 have dG:ps.length<=N.length:=by have:=congrArg Cb S.pre;rw[CK]at this;lia
 obtain⟨h1,tk,rfl,hk⟩:=x.done;have è:∀b:db,b∉(vf CX P w K mg base N qual scope f cd A outer s H E).ex:=λb z=>absurd (show b∈([]) from z) (by simp);refine⟨⟨e0.mod,S.kind,rfl,rfl,Ak _,λy z c h1 h2=>?_,λy hy=>?_,λy c _ h=>?_,λ_=>hd,Around.frames_deeper e0.frames,.inr ⟨rfl,rfl⟩,λb z=>absurd z (è b),e0.bs,e0.V1,λb _ _=>è b,λb z=>absurd z (è b),e0.tS,e0.Zw⟩,
  rfl,e0.bare,Un.kept hk,⟨_,x.toInCall.ns,λi y v h1 h2 h3=>?_⟩,λy c h=>⟨_,x.cell y c h⟩,e0.bg.fresh (Ak _),λy c h=>?_,λp hp=>absurd (show p∈([]) from hp) (by simp),e0.bg.kept hk,?_⟩
 .exact name_of_addr x.apart (BI h1) (BI h2)
 .rcases hy with hy|hy
  .exact G3 hy
  .exact absurd rfl (S.Xq _ (BI hy))
 .exact El (x.above y c (BI h))
 .have hi:i<vs.length:=by
   unfold start at h2;by_cases hi:i<vs.length
   .exact hi
   .rw[Bc (by simpa using hi)]at h2;rw[CM]at h2
    split at h2<;>cases h2
  have ha:vs[i]?=am v:=by
   unfold start at h2;rw[A1 (by simpa using hi),Ag]at h2;cases e:vs[i]? with
   |none=>rw[e]at h2;cases h2
   |some a=>rw[e]at h2;cases h2;rfl
  obtain⟨u,hu,rv⟩:=r.get ha;have hp:ps[i]?=am y:=by
   rw[<- S.pre,List.getElem?_take_of_lt ∅];exact h1
  have ndP:ps.Nodup:=by rw[<- S.pre];exact S.nd.sublist (DG _ _)
  refine⟨u,rv,?_⟩;rcases S.par y (Bb hp) with k|k
  .exact .inl ⟨k,wy ndP hp hu k⟩
  .obtain⟨c,e⟩:=G3 k;refine .inr ⟨.inl k,c,e,?_⟩;have q:=x.cell y c e;rw[wA ndP hp hu (by show scope.names.lookup y≠_;rw[k];decide)]at q;exact q
 .exact e0.bg.fresh (El (x.above y c (BI h)))
 .unfold start;show _=N.length;rw[Al,Ai,B3];lia
def ab1{CX:UN}{K:Ab}{f:db}{name:Str}{params:Arguments}{dV kV:ci}{N:O Str}{sp:Sp}(lk:K.lookup f=am ⟨oc,od,.func (B9 name qual params body scope dV kV È pm an fq ct),Rg⟩)(jO:Es K fq qual=true)(S:fc N ps scope)(len:∀vs H Q E,sp vs H Q E->vs.length=ps.length)(PK:∀(A:Da) (outer:O Env) (s:cr) (H:Hp) (vs:O V) (Q:VK) (E:XK),dz k (A.deeper (GM qual scope s.heap.objs.size f fq))->sp vs H Q E->
   ∃t,oD (vf CX P w K mg base N qual scope f fq A outer s H E) body t/\t {nx:=λ_ H'=>Q .aF H',rt:=Q} (start N vs) H):lM P w K mg base CX (k+1) f (B9 name qual params body scope dV kV È pm an fq ct) ps sp:=by
 refine⟨len,λA outer s H args us vs Q E hr e0 hb r Yf=>?_⟩;have hl:=len _ _ _ _ Yf;have KX:K.In s.heap:=e0.mod.kin.keeps λb o e=>(e0.bs b o e).1;have lim:s.heap.NoLimit:=e0.mod.nolimit.keeps λb o e=>(e0.bs b o e).1;have abB:∀y∈ps.zip us,scope.names.lookup y.1=am .local\/(scope.names.lookup y.1=am .cell/\((ut (s.heap.objs.size+1) scope.names []).lookup y.1).isSome=true):=λ⟨n,v⟩ hy=>by
  rcases S.par n (FA hy).1 with q|q
  .exact .inl q
  .exact .inr ⟨q,Fd _ _ _ (.inl q)⟩
 refine codeAny_call_function hr.depth (KX _ _ lk) rfl S.co S.gen rfl (PySem.W.codeRec_of KX jO) (hb _ _ _ _ ?_);refine wpAny_newFunctionEnv_cells S.kind abB λenv he s1 x=>?_;subst he;refine⟨lim.keeps x.toInCall.keep,codeAny_func ?_⟩;obtain⟨t,ht,hq⟩:=PK A outer s H vs Q E (hr.deeper _) Yf;have I:Inv (vf CX P w K mg base N qual scope f fq A outer s H E) [] (start N vs) H s1:=Mc S hr.hd e0 hl r x;refine BJ (ht [] s1 (start N vs) H _ I hq) (λfl s' hs=>?_) λe s' hs=>hs;have fin:∀{σ':St}{H':Hp}{v:V}{u:ci},Inv (vf CX P w K mg base N qual scope f fq A outer s H E) [] σ' H' s'->RelV v u->Q v H'->CE outer P w H s Q u s':=
  λ{σ' H' v u} J rv q=>⟨v,H',J.os,J.bare,J.base,J.bg,rv,q⟩
 cases fl with
 |ret u=>
  obtain⟨v,σ',H',J,rv,q⟩:=hs;exact fin J rv q
 |next=>
  obtain⟨σ',H',J,q⟩:=hs;exact fin (v:=V.aF) (u:=A3) J rfl q
 |brk=>
  obtain⟨_,_,_,q⟩:=hs;exact BX q
 |cont=>
  obtain⟨_,_,_,q⟩:=hs;exact BX q
end L2
variable{T:String}
namespace L2
section
variable{t:TA}{id:String}{r:O V->Hp->VK->Prop}
def tCB(r:O V->Hp->VK->Prop)(t:TA):TE:=λσ H Q=>t σ H λvs H1=>r vs H1 Q
def fg(hc:cb X (.builtin id) r)(hg:Gl X x)(hm:X.mg x=ce)(hv:sn x=am (.builtin id))(ha:PA X (e::es) t)(hn: ~~~(x≠"__name__"))(lH: ~~~(iQ x))(he:‹gE X e es›)(dG:‹kH X pos es›):PE X (.Call (.Name x p) (e::es) [] pos) (tCB r t):=by
 intro U s σ H Q I h;refine BD (gp I hg hm hv ?_ hn lH);exact PyProof.Rows.callWith_builtin1 (bN (ha pos U s σ H _ I h) λus s1 ⟨vs,H1,I1,r1,q1⟩=>hc U s1 σ H1 vs us Q I1 r1 q1) he dG
def kL(hc:cb X (.type T) r)(hg:Gl X x)(hm:X.mg x=ce)(hv:sn x=am (.type T))(ha:PA X (e::es) t)(hn: ~~~(x≠"__name__"))(lH: ~~~(iQ x))(he:‹gE X e es›)(dG:‹kH X pos es›):PE X (.Call (.Name x p) (e::es) [] pos) (tCB r t):=by
 intro U s σ H Q I h;refine BD (gp I hg hm hv ?_ hn lH);exact Bj (bN (ha pos U s σ H _ I h) λus s1 ⟨vs,H1,I1,r1,q1⟩=>hc U s1 σ H1 vs us Q I1 r1 q1) he dG
end
end L2
variable{prog:PySem.Program}{items:Array A9}{ns ms:O Int}
namespace HT
open PySem PyProof.Rows
def lexLt:O Int->O Int->Bool
 |[],[]=>false
 |[],_::_=>true
 |_::_,[]=>false
 |x::xs,y::ys=>if x=y then lexLt xs ys else decide (x<y)
theorem Im(x y:Int)(xs ys:O Int):lexLt (x::xs) (y::ys)=if x=y then lexLt xs ys else decide (x<y):=rfl
def Qi(A:Da)(s:cr)(a:Int)(t:Tok)(c:Int)(u:Tok):∃e,DU A s (.int a t) (.int c u) e/\(e=true↔a=c):=
 ⟨(a==c),Eu a t c u,by simp⟩
def N9(A:Da)(s:cr)(a:Int)(t:Tok)(c:Int)(u:Tok)(prog:wP)(w:Db)(E:ci->cr->Prop)(Q:ci->cr->Prop)(h:Q (.bool (decide (a<c))) s):ga (gl prog w) A (richCompare .Lt (.int a t) (.int c u)) Q E s:=
 (PyProof.Rows.lt_int h)
section
open PySem.SeqAt
open PySem.AutoSeq1 (wpAny_loadPart')
open PySem.MeetsSeq PySem.MeetsSeq2 PySem.MeetsSeq3
theorem uJ(l b:db)(items bX:Array ci)(n n2:Nat)(dd Us:Option db)(sl Q9:Array (Option ci))(ns ms:O Int)(hi:xL items.toList ns)(hj:xL bX.toList ms):Meets (wn.«tuple.__lt__» ⟨[.ref l,.ref b],[]⟩) (λ_ R s=>s.heap.get? l=am {cls:=.type "tuple",dict:=dd,data:=.seq items n,slots:=sl}/\s.heap.get? b=am {cls:=.type "tuple",dict:=Us,data:=.seq bX n2,slots:=Q9}/\
    R (.ok (.ret (.bool (lexLt ns ms)))) s):=
 .of_wp λprog w A R s h=>by
  obtain⟨hp,g,d,tk,os⟩:=s;obtain⟨hl,hb,h⟩:=h;have f2:=AutoSeq1.sub_tuple_tuple;have z1:items.size=ns.length:=by rw[<- hi.length];simp
  have z2:bX.size=ms.length:=by rw[<- hj.length];simp
  wp_walk using Fw hl,Fw hb,wpAny_forIn_list _ (λrest b s'=>b.1=ce/\s'=⟨hp,g,d,tk,os⟩/\∃(vs ws:O ci) (Rh Zg:O Int),rest=vs.zip ws/\
   xL vs Rh/\xL ws Zg/\Rh.length+bX.size=Zg.length+items.size/\R (.ok (.ret (.bool (lexLt Rh Zg)))) ⟨hp,g,d,tk,os⟩) _
  case turn=>
   rintro⟨y,x⟩ rest b s' ⟨ï,rfl,vs,ws,Rh,Zg,hz,hvi,hwi,Á,hR⟩;cases hvi with
   |nil=>rw[List.zip_nil_left]at hz;cases hz
   |cons a t afq=>
    cases hwi with
    |nil=>rw[List.zip_nil_right]at hz;cases hz
    |cons c u afp=>
     rw[List.zip_cons_cons]at hz;injection hz with hyx abv;injection hyx with hy hx;subst hy hx;rw[Im]at hR;simp at Á;obtain⟨e,he,abF⟩:=Qi A.in1 ⟨hp,g,d,tk,os⟩ a t c u;refine Aa (he prog w _ _ ?_);cases e with
     |true=>
      rw[if_pos (abF.mp rfl)]at hR
      wp_walk
      exact⟨rfl,rfl,_,_,_,_,abv,afq,afp,by lia,hR⟩
     |false=>
      rw[if_neg (λq=>absurd (abF.mpr q) AM)]at hR;have hri:=N9 A.in1 ⟨hp,g,d,tk,os⟩ a t c u prog w
      wp_walk using hri
      exact⟨_,rfl,by simpa using hR⟩
  case fin=>
   rintro⟨b1,b2⟩ s' ⟨ï,rfl,vs,ws,Rh,Zg,hz,hvi,hwi,Á,hR⟩;subst ï;have hv:lexLt Rh Zg=decide (items.size<bX.size):=by
    cases hvi with
    |nil=>
     cases hwi with
     |nil=>
      exact(decide_eq_false ∅).symm
     |cons c u hw=>
      simp at Á;exact(decide_eq_true ∅).symm
    |cons a t hv=>
     cases hwi with
     |nil=>
      simp only[List.length_nil]at Á;exact(decide_eq_false ∅).symm
     |cons c u hw=>
      cases hz
   rw[hv]at hR
   wp_walk
   exact⟨_,rfl,by simpa[Builtin.Tuple.tupleCompareSizes]using hR⟩
  case h=>
   exact⟨rfl,rfl,items.toList,bX.toList,ns,ms,rfl,hi,hj,by lia,h⟩
end
section
variable{s:cr}
def Ii{l:db}{bX:Array ci}(hl:IsTup s.heap l items)(hb:IsTup s.heap b bX)(hi:xL items.toList ns)(hj:xL bX.toList ms)(hu:A.units<sK)(h:Q (.bool (lexLt ns ms)) s):ga (gl prog w) A (sw .Lt (.ref l) (.ref b)) Q E s:=by
 obtain⟨⟨cls,dd,data,sl⟩,ho,hc,n,hd⟩:=id hl;obtain⟨⟨YU,Us,data2,Q9⟩,Mj,VL,n2,Ó⟩:=id hb;subst hc hd VL Ó;exact richCompare_meets_room (op:=.Lt) ⟨_,ho,rfl⟩ ⟨_,Mj,rfl⟩ PySem.F.slot_tuple_lt PySem.F.entry_tuple_lt (PySem.F.args_tuple_lt_2 _ _) (uJ l b items bX n n2 dd Us sl Q9 ns ms hi hj)
  ⟨ho,Mj,show F8 (lexLt ns ms)≠Value.notImplemented/\Q (.bool (lexLt ns ms)) s from⟨(λx=>nomatch x),h⟩⟩ hu
def Uw{t:db}{vs ws:O ci}(ht:IsTup s.heap t vs.toArray)(hb:IsTup s.heap b ws.toArray)(hv:vs≠[])(h1:ws=[]->Q (.ref t) s)(h2:ws≠[]->Q (.ref s.heap.objs.size) {s with heap:=s.heap.push {cls:=.type "tuple",data:=.seq (vs++ws).toArray}})(uW:vs.length+ws.length<=sizeLine):ga (gl prog w) A (u8 .Add (.ref t) (.ref b)) Q E s:=by
 obtain⟨⟨cls,dd,data,sl⟩,ho,hc,n,hd⟩:=id ht;obtain⟨⟨YU,Us,data2,Q9⟩,Mj,VL,n2,Ó⟩:=id hb;simp only at hc hd VL Ó;subst hc hd VL Ó;have e:vs.toArray++ws.toArray=(vs++ws).toArray:=by simp
 by_cases hw:ws=[]
 .exact concat_meets ⟨_,ho,rfl⟩ ⟨_,Mj,rfl⟩ noFill_tuple_add seq_tuple_add Dy Du (Dl _ _)
   (tuple_addW1 t b vs.toArray ws.toArray n n2 dd Us sl Q9 (by simpa using hv) (by simp[hw])) ⟨ho,Mj,h1 hw⟩
 .refine concat_meets ⟨_,ho,rfl⟩ ⟨_,Mj,rfl⟩ noFill_tuple_add seq_tuple_add Dy Du (Dl _ _)
   (tuple_addW2 t b vs.toArray ws.toArray n n2 dd Us sl Q9 (by simpa using hv) (by simpa using hw) (by rw[Am,Am];exact uW)) ⟨ho,Mj,?_⟩
  rw[e];exact h2 hw
def uN(n d:Nat):Option Int->Nat
 |none=>d
 |some v=>if v<0 then (v+(n:Int)).toNat else min v.toNat n
end
end HT
namespace L2
abbrev TO:=St->Hp->(Option Int->Hp->Prop)->Prop
def PO(X:Cx)(e:Option nw)(t:TO):Prop:=
 ∀(U:O (db×Obj)) (s:cr) (σ:St) (H:Hp) (Q:Option Int->Hp->Prop),Inv X U σ H s->t σ H Q->
  ga (gl X.prog X.w) X.A (evalPart e X.env) (λu s'=>∃o H',Inv X U σ H' s'/\IsPart u o/\Q o H') X.xe s
def RA:TO:=λ_ H Q=>Q ce H
def Z4(t:TE):TO:=λσ H Q=>t σ H λx H1=>∃i,x=.int i/\Q (am i) H1
def intsAre_of:∀{us:O ci},Vals (ns.map V.int) us->xL us ns:=by
 induction ns with
 |nil=>intro us r;rw[En]at r;cases r;exact .nil
 |cons n ns ih=>
  intro us r;cases r with
  |cons r1 r2=>
   obtain⟨t,e⟩:=r1;subst e;exact .cons n t (ih r2)
section
variable{lo hi:Option nw}{tl th:TO}{p2:Pos}
def Sj:PO X ce RA:=by
 intro U s σ H Q I h;exact Af ⟨ce,H,I,.none,h⟩
def Sg(h:PE X e te):PO X (am e) (Z4 te):=by
 intro U s σ H Q I hw;refine bN (h U s σ H _ I hw) λu s1 ⟨x,H1,I1,r1,q1⟩=>?_;obtain⟨i,rfl,q⟩:=q1;obtain⟨t,rfl⟩:=r1;exact⟨am i,H1,I1,.int i t,q⟩
def Y2(X:Cx)(r:V->Option Int->Option Int->Hp->VK->Prop):Prop:=
 ∀(U:O (db×Obj)) (s:cr) (σ:St) (H:Hp) (x:V) (v vl vu:ci) (lo hi:Option Int) (sl:db) (Q:VK),Inv X U σ H s->RelV x v->s.heap.IsSliceOf sl vl vu .none->IsPart vl lo->IsPart vu hi->r x lo hi H Q->
  ∃T id,Gc (.type T) "__getitem__"=pure (am (.builtin id))/\s.TypeIs v T/\ga (gl X.prog X.w) X.A (getItem v (.ref sl)) (EP X U σ Q) X.xe s
def tSl(r:V->Option Int->Option Int->Hp->VK->Prop)(te:TE)(tl th:TO):TE:=λσ H Q=>te σ H λx H1=>tl σ H1 λl H2=>th σ H2 λu H3=>r x l u H3 Q
def OC{r:V->Option Int->Option Int->Hp->VK->Prop}(hr:Y2 X r)(he:PE X e te)(hl:PO X lo tl)(hu:PO X hi th):PE X (.Subscript e (.Slice lo hi ce p2) pos) (tSl r te tl th):=by
 intro U s σ H Q I h;refine Subscript_ (bN (he U s σ H _ I h) λv s1 ⟨x,H1,I1,r1,q1⟩=>?_);refine wpAny_Slice (bN (hl U s1 σ H1 _ I1 q1) λvl s2 ⟨l,H2,I2,pl,q2⟩=>bN (hu U s2 σ H2 _ I2 q2) λvu s3 ⟨u,H3,I3,pu,q3⟩=>?_);rw[evalPart_none];refine Af ?_;have I4:Inv X U σ H3 {s3 with heap:=s3.heap.push {cls:=.type "slice",data:=.fields #[vl,vu,.none]}}:=I3.kept (t':=s3.toks) λb ob q=>Ah _ q;obtain⟨T,id,hT,ht,hg⟩:=hr U {s3 with heap:=s3.heap.push {cls:=.type "slice",data:=.fields #[vl,vu,.none]}} σ H3 x v vl vu l u s3.heap.objs.size Q I4 r1 (Heap.IsSliceOf.new ..) pl pu q3;show ga (gl X.prog X.w) X.A (subscriptTail e (.Slice lo hi ce p2) v (.ref s3.heap.objs.size)) (EP X U σ Q) X.xe {s3 with heap:=s3.heap.push {cls:=.type "slice",data:=.fields #[vl,vu,.none]}};exact tail_any (ops:=[.ref s3.heap.objs.size,v]) ht hT hg (by with_unfolding_all rfl)
def MP(xs:O V)(lo hi:Option Int):O V:=(xs.drop (HT.uN xs.length 0 lo)).take (HT.uN xs.length xs.length hi-HT.uN xs.length 0 lo)
theorem G0(xs:O V)(lo hi:Option Int):(MP xs lo hi).length<=xs.length:=by
 unfold MP;rw[CK,Dc];lia
def U5(K:Ab):R2:=λx y H Q=>∃a b xs ys,x=.ref a/\y=.ref b/\dF K H a xs/\dF K H b ys/\xs≠[]/\xs.length+ys.length<=sizeLine/\
 (ys=[]->Q (.ref a) H)/\(ys≠[]->∀p,H p=ce->Q (.ref p) (upd H p (.tup (xs++ys))))
def Vals.i8(r:Vals xs us):us=[]↔xs=[]:=by
 cases r with
 |nil=>simp
 |cons _ _=>simp
def Ko:ip X (u8 .Add) (U5 X.K):=by
 intro U s σ H x y v u Q I rx ry h;obtain⟨a,b,xs,ys,rfl,rfl,ha,hb,hx,hz,q1,q2⟩:=h;cases rx;cases ry;obtain⟨aq,r1,p1,_⟩:=I.tuple ha;obtain⟨cT,r2,p2,_⟩:=I.tuple hb;refine HT.Uw p1 p2 (λz=>hx (r1.i8.mp z)) (λz=>⟨.ref a,H,I,rfl,q1 (r2.i8.mp z)⟩) (λz=>?_) (by rw[<- r1.length,<- r2.length];exact hz);refine⟨.ref s.heap.objs.size,_,I.laid (λb ob q=>Ah _ q) (Ak _) ?_,rfl,q2 (λw=>z (r2.i8.mpr w)) _ (I.bg.fresh (Ak _))⟩;exact⟨by rw[Al];exact hz,_,r1.append r2,IsTup.new _ _,_,An _ rfl,rfl⟩
end
end L2
variable{p:Bg}{dQ:O A9}
namespace L2
def uB(n:Nat)(i:Int):Option Nat:=if 0<=i then (if i<n then am i.toNat else ce) else if -(n:Int)<=i then am (i+n).toNat else ce
def d9(xs:List α)(i:Int):Option α:=(uB xs.length i).bind λj=>xs[j]?
theorem rH(h:uB n i=am j):seqIndex? i n=am j/\j<n/\-(n:Int)<=i/\i<n:=by
 unfold uB at h;by_cases h0:0<=i
 .rw[if_pos h0]at h;by_cases h1:i<n
  .rw[if_pos h1]at h;have e:=Option.some.inj h;exact⟨by rw[seqIndex_of h0 h1,e],by lia,by lia,h1⟩
  .rw[if_neg h1]at h;cases h
 .rw[if_neg h0]at h;by_cases h1:-n<=i
  .rw[if_pos h1]at h;have e:=Option.some.inj h;exact⟨by rw[seqIndex_neg ∅ h1,e],by lia,h1,by lia⟩
  .rw[if_neg h1]at h;cases h
def yx{xs:List α}{v:α}(h:d9 xs i=am v):∃j,seqIndex? i xs.length=am j/\xs[j]?=am v/\j<xs.length/\-(xs.length:Int)<=i/\i<xs.length:=by
 unfold d9 at h;cases e:uB xs.length i with
 |none=>rw[e]at h;cases h
 |some j=>
  rw[e]at h;obtain⟨h1,h2,h3,h4⟩:=rH e;exact⟨j,h1,h,h2,h3,h4⟩
theorem fY{xs:List α}{v:α}(h:xs[j]?=am v):d9 xs (j:Int)=am v:=by
 have hj:=(Aj.mp h).1;have e:uB xs.length j=am j:=by
  unfold uB;rw[if_pos ∅,if_pos ∅];simp
 unfold d9;rw[e];exact h
def Li(b:nw):Prop:=∀o i,subscripted b false o i=operate [o,i] (getItem o i)
def Rl(X:Cx)(r:R2):Prop:=
 ∀(Æ Å:nw) (U:O (db×Obj)) (s:cr) (σ:St) (H:Hp) (x y:V) (v u:ci) (Q:VK),Inv X U σ H s->RelV x v->RelV y u->r x y H Q->
  subscripted Å false v u=operate [v,u] (getItem v u)->ga (gl X.prog X.w) X.A (subscriptTail Æ Å v u) (EP X U σ Q) X.xe s
def MtR(X:Cx)(id:String)(r:V->O V->Hp->VK->Prop):Prop:=
 ∀(U:O (db×Obj)) (s:cr) (σ:St) (H:Hp) (x:V) (xs:O V) (v:ci) (us:O ci) (Q:VK),Inv X U σ H s->RelV x v->Vals xs us->r x xs H Q->
  ga (gl X.prog X.w) X.A (call (.builtin id) (v::us)) (EP X U σ Q) X.xe s
section
variable{X:Cx}{a b:nw}{ta tb:TE}{pos:Pos}
def Rl.or{r r':R2}(h:Rl X r)(h':Rl X r'):Rl X (λx y H Q=>r x y H Q\/r' x y H Q):=by
 intro Æ Å U s σ H x y v u Q I rx ry q hs;rcases q with q|q
 .exact h Æ Å U s σ H x y v u Q I rx ry q hs
 .exact h' Æ Å U s σ H x y v u Q I rx ry q hs
def fB{r:R2}(hr:Rl X r)(ha:PE X a ta)(hb:PE X b tb)(hs:Li b):PE X (.Subscript a b pos) (UR r ta tb):=by
 intro U s σ H Q I h;exact Subscript_ (YW ha hb I h λv u s2 x y H2 I2 rx ry q=>hr a b U s2 σ H2 x y v u Q I2 rx ry q (hs _ _))
def aax(K:Ab):R2:=λx y H Q=>∃p xs i v,x=.ref p/\y=.int i/\bH K H p xs/\d9 xs i=am v/\Q v H
def aav(K:Ab):R2:=λx y H Q=>∃p xs i v,x=.ref p/\y=.int i/\dF K H p xs/\d9 xs i=am v/\Q v H
def aaw:R2:=λx y H Q=>∃z i c,x=.str z/\y=.int i/\z.length<=sizeLine/\d9 z.cps.toList i=am c/\Q (.str ⟨#[c]⟩) H
theorem Tp:Rl X (aax X.K):=by
 intro Æ Å U s σ H x y v u Q I rx ry h hs;obtain⟨p,xs,i,z,rfl,rfl,hq,he,q⟩:=h;cases rx;obtain⟨t,rfl⟩:=ry;obtain⟨aq,r,pl,hz⟩:=I.list hq;obtain⟨j,h1,h2,h3,h4,h5⟩:=yx he;obtain⟨w,ew,zc⟩:=r.get h2;have hl:=r.length;have hn:=xv;have fin:EP X U σ Q w s:=⟨z,H,I,zc,q⟩;by_cases h0:0<=i
 .have hj:i.toNat=j:=by
   rw[seqIndex_of h0 h5]at h1;exact Option.some.inj h1
  exact item_listR pl.isList h0 ∅ (by rw[hj];simpa using ew) fin hs
 .have hj:(i+aq.toArray.size).toNat=j:=by
   rw[seqIndex_neg ∅ h4]at h1;rw[Am,<- hl];exact Option.some.inj h1
  exact subscriptTail_builtinR pl.isList.typeIs slot_list_getitem.lookup
   (wpAny_getItem_list_neg pl.isList ∅ (by rw[Am]<;>lia) ∅ (by rw[hj];simpa using ew) ⟨rfl,fin⟩) hs
theorem XW:Rl X (aav X.K):=by
 intro Æ Å U s σ H x y v u Q I rx ry h hs;obtain⟨p,xs,i,z,rfl,rfl,hq,he,q⟩:=h;cases rx;obtain⟨t,rfl⟩:=ry;obtain⟨aq,r,pl,hz⟩:=I.tuple hq;obtain⟨j,h1,h2,h3,h4,h5⟩:=yx he;obtain⟨w,ew,zc⟩:=r.get h2;have hn:=xv;have fin:EP X U σ Q w s:=⟨z,H,I,zc,q⟩;exact subscriptTail_builtinR pl.typeIs slot_tuple_getitem.lookup
  (getItem_tuple pl ∅ ∅ (by rw[Am,<- r.length];exact h1) (by simpa using ew) ⟨rfl,fin⟩) hs
theorem XX:Rl X aaw:=by
 intro Æ Å U s σ H x y v u Q I rx ry h hs;obtain⟨z,i,c,rfl,rfl,hz,he,q⟩:=h;obtain⟨t,rfl⟩:=rx;obtain⟨t',rfl⟩:=ry;obtain⟨j,h1,h2,h3,h4,h5⟩:=yx he;have hl:z.cps.toList.length=z.length:=by simp[Str.length]
 rw[hl]at h1 h4 h5;have hn:=xv;exact tail_any (typeIs_str s z t) slot_str_getitem.lookup (getItem_str (by
  rw[(decide_eq_false ∅),(decide_eq_false ∅),Bool.or_false]) (by rw[h1];simpa using h2) ⟨.str ⟨#[c]⟩,H,I.tok _,⟨_,rfl⟩,q⟩) hs
def rIx(K:Ab):R2:=λx y H Q=>aax K x y H Q\/aav K x y H Q\/aaw x y H Q
def XY:Rl X (rIx X.K):=Tp.or (XW.or XX)
def Ig(aq:O ci)(n j:Nat)(u:ci):BA (·.setIfInBounds j u) {cls:=.type "list",data:=.seq aq.toArray n}={cls:=.type "list",data:=.seq (aq.set j u).toArray n}:=by
 simp[BA]
def Inv.lst{U:O (db×Obj)}{σ:St}{H:Hp}{s:cr}{p:db}{xs:O V}(I:Inv X U σ H s)(h:H p=am (.lst xs)):∃(aq:O ci) (n:Nat),Vals xs aq/\s.heap.get? p=am {cls:=.type "list",data:=.seq aq.toArray n}/\xs.length<=sizeLine:=by
 obtain⟨z,aq,n,r,e⟩:=I.bg p _ h;exact⟨aq,n,r,e,z⟩
def Inv.XA{s:cr}{n':Nat}{f:Obj->Obj}(I:Inv X U σ H s)(h:H p=am (.lst xs))(ho:s.heap.get? p=am {cls:=.type "list",data:=.seq aq.toArray n})(hf:f {cls:=.type "list",data:=.seq aq.toArray n}={cls:=.type "list",data:=.seq dQ.toArray n'})(r:Vals ys dQ)(hz:ys.length<=sizeLine)(t:Nat):Inv X U σ (upd H p (.lst ys)) {s with heap:=s.heap.update p f,toks:=t}:=by
 have e:(s.heap.update p f).get? p=am {cls:=.type "list",data:=.seq dQ.toArray n'}:=by
  rw[B2 f ho (by rw[hf]<;>rfl),hf]
 refine I.write (x:=p) (e:=p) (by rw[h];trivial) (.inl rfl) (λb u hb q=>(BV _ _ (Bx hb)).trans q) ⟨_,e⟩ ?_;exact⟨hz,dQ,n',r,e⟩
def aas:V->V->V->Hp->(Hp->Prop)->Prop:=λo i v H Q=>∃p xs k j,o=.ref p/\i=.int k/\H p=am (.lst xs)/\uB xs.length k=am j/\Q (upd H p (.lst (xs.set j v)))
theorem set_list:M9 X aas:=by
 intro U s σ H o i v ov iv u Q I ro ri rv h;obtain⟨p,xs,k,j,rfl,rfl,hp,hj,q⟩:=h;cases ro;obtain⟨t,rfl⟩:=ri;obtain⟨aq,n,r,ho,hz⟩:=I.lst hp;obtain⟨h1,h2,h3,h4⟩:=rH hj;have hl:=r.length;have hn:=xv;have I':=
  I.XA hp ho (Ig aq n j u) (r.set rv j) (by rw[BH];exact hz) s.toks
 by_cases h0:0<=k
 .have hk:k.toNat=j:=by
   rw[seqIndex_of h0 h4]at h1;exact Option.some.inj h1
  exact PySem.W.ki_setAt ho h0 ∅ (by rw[Am,<- hl];exact h4) (by rw[hk];exact⟨_,I',q⟩)
 .have hk:(k+aq.toArray.size).toNat=j:=by
   rw[seqIndex_neg ∅ h3]at h1;rw[Am,<- hl];exact Option.some.inj h1
  exact PySem.W.ki_setBack ho ∅ (by rw[Am,<- hl];exact h3) ∅ (by rw[hk];exact⟨_,I',q⟩)
theorem wM(lo hi:Option Int)(n:Nat):(wf lo hi ce n).1=((HT.uN n 0 lo:Nat):Int)/\(wf lo hi ce n).2.1=((HT.uN n n hi:Nat):Int)/\(wf lo hi ce n).2.2=1:=by
 refine⟨?_,?_,rfl⟩
 .cases lo with
  |none=>simp[wf,HT.uN]
  |some i=>
   simp only[wf,HT.uN,Option.getD_none];by_cases h:i<0
   .simp only[h,if_true]<;>lia
   .simp only[h,if_false]<;>lia
 .cases hi with
  |none=>simp[wf,HT.uN]
  |some i=>
   simp only[wf,HT.uN,Option.getD_none,if_true];by_cases h:i<0
   .simp only[h,if_true]<;>lia
   .simp only[h,if_false]<;>lia
def uM(aq:O ci)(lo hi:Option Int):FS aq.toArray lo hi ce=((aq.drop (HT.uN aq.length 0 lo)).take (HT.uN aq.length aq.length hi-HT.uN aq.length 0 lo)).toArray:=by
 obtain⟨h1,h2,h3⟩:=wM lo hi aq.toArray.size;unfold FS;rw[h1,h2,h3];simp only[sliceRange_one,pick_run]<;>rfl
def aeO(K:Ab):V->Option Int->Option Int->Hp->VK->Prop:=λx lo hi H Q=>∃a xs,x=.ref a/\bH K H a xs/\∀p,H p=ce->Q (.ref p) (upd H p (.lst (MP xs lo hi)))
theorem RN:Y2 X (aeO X.K):=by
 intro U s σ H x v vl vu lo hi sl Q I rx hs pl pu h;obtain⟨a,xs,rfl,hx,q⟩:=h;cases rx;obtain⟨aq,r,ht,hz⟩:=I.list hx;have Á:=r.length;refine⟨"list",_,slot_list_getitem.lookup,ht.isList.typeIs,?_⟩;refine E1 ht.isList hs pl pu .none (by simp) ?_ (by rw[Am] <;> lia);rw[uM,<- Á];refine⟨.ref s.heap.objs.size,_,I.laid (λb ob q=>Ah _ q) (Ak _) ?_,rfl,q _ (I.bg.fresh (Ak _))⟩;exact⟨AV (G0 xs lo hi) hz,_,0,(r.drop (HT.uN xs.length 0 lo)).take (HT.uN xs.length xs.length hi-HT.uN xs.length 0 lo),An _ rfl⟩
theorem yt:cb X (.type "list") (λxs H Q=>∃p ys,xs=[.ref p]/\(bH X.K H p ys\/dF X.K H p ys)/\∀l,H l=ce->Q (.ref l) (upd H l (.lst ys))):=by
 intro U s σ H xs us Q I r h;obtain⟨p,ys,rfl,hq,q⟩:=h;obtain⟨u,rfl,rx⟩:=vals1 r;cases rx;have fin:∀aq,Vals ys aq->ys.length<=sizeLine->∀(h':pr) c',(∀b o',s.heap.get? b=am o'->h'.get? b=am o')->
   h'.get? s.heap.objs.size=am {cls:=.type "list",dict:=ce,data:=.seq aq.toArray c',slots:=#[]}->EP X U σ Q (.ref s.heap.objs.size) {s with heap:=h'}:=λaq r' hz h' c' kp e=>
  ⟨.ref s.heap.objs.size,_,I.laid (t':=s.toks) kp (Ak _) (show bh X.prog X.w _ h' _ (.lst ys) from⟨hz,aq,c',r',e⟩),rfl,q _ (I.bg.fresh (Ak _))⟩
 rcases hq with hq|hq
 .obtain⟨aq,r',pl,hz⟩:=I.list hq;have Á:=r'.length;obtain⟨o,ho,hc,n,hd⟩:=pl.isList;exact call_list_seq p (.inl rfl) ho hc hd (λh' c' kp e=>fin aq r' hz h' c' kp e) (by simp only[Am]<;>lia)
 .obtain⟨aq,r',pl,hz⟩:=I.tuple hq;have Á:=r'.length;obtain⟨o,ho,hc,n,hd⟩:=pl;exact call_list_seq p (.inr rfl) ho hc hd (λh' c' kp e=>fin aq r' hz h' c' kp e) (by simp only[Am]<;>lia)
theorem vg:cb X (.type "tuple") (λxs H Q=>∃p ys,xs=[.ref p]/\((bH X.K H p ys/\∀l,H l=ce->Q (.ref l) (upd H l (.tup ys)))\/(dF X.K H p ys/\Q (.ref p) H))):=by
 intro U s σ H xs us Q I r h;obtain⟨p,ys,rfl,h⟩:=h;obtain⟨u,rfl,rx⟩:=vals1 r;cases rx;rcases h with⟨hq,q⟩|⟨hq,q⟩
 .obtain⟨aq,r',pl,hz⟩:=I.list hq;have Á:=r'.length;refine call_tuple_list pl.isList (λh' kp=>?_) (by simp<;>lia);have I1:=I.kept (t':=s.toks) kp;have I2:=
   I1.laid (t':=s.toks) (λb o e=>Ah _ e) (Ak _) (show bh X.prog X.w _ _ _ (.tup ys) from⟨hz,aq,r',IsTup.new _ _,_,An _ rfl,rfl⟩)
  exact⟨.ref h'.objs.size,_,I2,rfl,q _ (I1.bg.fresh (Ak _))⟩
 .obtain⟨aq,r',pl,hz⟩:=I.tuple hq;exact call_tuple_same pl ⟨.ref p,H,I,rfl,q⟩
def ZV(K:Ab)(T:String)(x:V)(H:Hp):Prop:=match x with
 |.str _=>T="str"
 |.int _=>T="int"
 |.ref p=>(T="list"/\∃xs,bH K H p xs)\/(T="tuple"/\∃o,K.lookup p=am o/\o.cls=.type "tuple"/\o.dict=ce)\/
   (T="dict"/\((∃ay,H p=am (.dK ay))\/∃ay,H p=am (.dT ay)))\/(T="set"/\∃S n,H p=am (.set S n))
 |_=>False
def Ny{s:cr}{x:V}(I:Inv X U σ H s)(r:RelV x v)(ty:ZV X.K T x H):s.TypeIs v T/\∀a,v=.ref a->∃ob,s.heap.get? a=am ob/\ob.dict=ce:=by
 cases x with
 |str z=>
  obtain⟨t,rfl⟩:=r;cases (ty);exact⟨typeIs_str s z t,λ_ e=>nomatch e⟩
 |int i=>
  obtain⟨t,rfl⟩:=r;cases (ty);exact⟨typeIs_int s i t,λ_ e=>nomatch e⟩
 |ref p=>
  cases r;rcases ty with⟨rfl,xs,hq⟩|⟨rfl,o,hk,hc,hd⟩|⟨rfl,hk⟩|⟨rfl,S,n,hk⟩
  .obtain⟨aq,_,pl,_⟩:=I.list hq;refine⟨pl.isList.typeIs,λa e=>?_⟩;cases e;obtain⟨o,n,e,c,hd,_⟩:=pl;exact⟨o,e,hd⟩
  .refine⟨⟨o,I.vU p o hk,hc⟩,λa e=>?_⟩;cases e;exact⟨o,I.vU _ o hk,hd⟩
  .have z:∃o,s.heap.get? p=am o/\o.ExactDict:=by
    rcases hk with⟨ay,hk⟩|⟨ay,hk⟩
    .obtain⟨_,_,_,_,o,_,_,e,ex,_⟩:=I.bg p _ hk;exact⟨o,e,ex⟩
    .obtain⟨_,_,_,_,o,_,_,e,ex,_⟩:=I.bg p _ hk;exact⟨o,e,ex⟩
   obtain⟨o,e,ex⟩:=z;refine⟨⟨o,e,ex.1⟩,λa e2=>?_⟩;cases e2;exact⟨o,e,ex.2.1⟩
  .obtain⟨o,_,_,_,e,ex,_⟩:=I.bg p _ hk;refine⟨⟨o,e,ex.1⟩,λa e2=>?_⟩;cases e2;exact⟨o,e,ex.2.1⟩
 |_=>exact BX ty
def Z9(K:Ab)(T:String)(r:V->O V->Hp->VK->Prop)(to:TE):TE:=λσ H Q=>to σ H λx H1=>ZV K T x H1/\r x [] H1 Q
def tBM(K:Ab)(T:String)(r:V->O V->Hp->VK->Prop)(to:TE)(t:TA):TE:=λσ H Q=>to σ H λx H1=>ZV K T x H1/\t σ H1 λxs H2=>r x xs H2 Q
variable{o e:nw}{es:O nw}{to:TE}{t:TA}{name:Str}{À bb:Pos}{T id:String}{r:V->O V->Hp->VK->Prop}
def Xe(pa:PlainAttrs T)(slot:Slot T name id)(Tz:typeOf (.builtin id)=pure (.type "method_descriptor"))(hm:MtR X id r)(ho:PE X o to)(cL:‹re o name X.env (o0 o X.env)=o0 o X.env›)(cK:‹Nr À bb›):PE X (.Call (.Attribute o name À) [] [] bb) (Z9 X.K T r to):=by
 intro U s σ H Q I h;refine wpAny_Call_method0_late cL cK (bN (ho U s σ H _ I h) λv s1 ⟨x,H1,I1,r1,ty,q1⟩=>?_);obtain⟨h1,h2⟩:=Ny I1 r1 ty;exact⟨T,id,pa,slot,Tz,h1,h2,Dz rfl (PySem.evalArgs_none (hm U s1 σ H1 x [] v [] Q I1 r1 .nil q1))⟩
def aaI(pa:PlainAttrs T)(slot:Slot T name id)(Tz:typeOf (.builtin id)=pure (.type "method_descriptor"))(hm:MtR X id r)(ho:PE X o to)(ha:PA X (e::es) t)(cL:‹re o name X.env (o0 o X.env)=o0 o X.env›)(kj:‹V6 X bb (e::es)›)(cK:‹Nr À bb›)(hs:‹gE X e es›)(cu:‹kH X bb es›):PE X (.Call (.Attribute o name À) (e::es) [] bb) (tBM X.K T r to t):=by
 intro U s σ H Q I h;refine wpAny_Call_method_late cL kj cK rfl (bN (ho U s σ H _ I h) λv s1 ⟨x,H1,I1,r1,ty,q1⟩=>?_);obtain⟨h1,h2⟩:=Ny I1 r1 ty;refine⟨T,id,pa,slot,Tz,h1,h2,?_⟩;have hA:=ha bb U s1 σ H1 _ I1 q1;rw[hs]at hA ⊢;exact Dz (by show(false||(t0 bb (gt es X.env)).any (·.1))=false;rw[cu]<;>rfl) (FP (bN hA λus s2 ⟨vs,H2,I2,r2,q2⟩=>hm U s2 σ H2 x vs v us Q I2 r1 r2 q2))
end
def Hr(X:Cx)(id:String)(r:V->O V->Hp->VK->Prop):Prop:=
 ∀(U:O (db×Obj)) (s:cr) (σ:St) (H:Hp) (x:V) (xs:O V) (v:ci) (us:O ci) (Q:VK),Inv X U σ H s->RelV x v->Vals xs us->r x xs H Q->
  ga (gl X.prog X.w) X.A (call (.builtin id) (v::us)) (EP X U σ Q) X.xe s
def Vals.one:∀{x:V}{us:O ci},Vals [x] us->∃u,us=[u]/\RelV x u
 |_,_,.cons r .nil=>⟨_,rfl,r⟩
def Vals.zero:∀{us:O ci},Vals [] us->us=[]
 |_,.nil=>rfl
def Vals.dropLast(h:Vals xs us):Vals xs.dropLast us.dropLast:=by
 induction h with
 |nil=>exact .nil
 |cons r t ih=>
  cases t with
  |nil=>exact .nil
  |cons q t'=>exact .cons r ih
theorem Vals.eraseIdx:∀{xs:O V}{us:O ci} (i:Nat),Vals xs us->Vals (xs.eraseIdx i) (us.eraseIdx i)
 |_,_,_,.nil=>.nil
 |_,_,0,.cons _ t=>t
 |_,_,i+1,.cons r t=>.cons r (Vals.eraseIdx i t)
theorem Vals.rep(h:Vals xs us):∀k:Nat,Vals (Ao k xs).flatten (Ao k us).flatten
 |0=>.nil
 |k+1=>by
  exact Vals.append h (Vals.rep h k)
theorem Jd(l:List α):l.eraseIdx (l.length-1)=l.dropLast:=by
 induction l with
 |nil=>rfl
 |cons a r ih=>
  cases r with
  |nil=>rfl
  |cons b r=>
   have e:(a::b::r).length-1=((b::r).length-1)+1:=by
    have h1:(a::b::r).length=r.length+2:=rfl;have h2:(b::r).length=r.length+1:=rfl;lia
   rw[e,Dw,ih]
   all_goals rfl
theorem vR:∀(l:List α) (i:Nat),(l.eraseIdx i).length<=l.length
 |[],_=>Ak _
 |_::_,0=>Dv _
 |_::r,i+1=>Nat.succ_le_succ (vR r i)
theorem foldl_rep(aq:O ci):∀(k:Nat) (Â:O ci),List.foldl (λx1 x2=>x1++x2) Â.toArray (Ao k aq.toArray)=(Â++(Ao k aq).flatten).toArray
 |0,Â=>by simp
 |k+1,Â=>by
  have e:Â.toArray++aq.toArray=(Â++aq).toArray:=by simp
  have e2:(Â++aq)++(Ao k aq).flatten=Â++(Ao (k+1) aq).flatten:=by
   rw[Di,ET,Ax]
  rw[<- e2,<- foldl_rep aq k (Â++aq),<- e,Di,Dn]
section
variable{s:cr}{l:db}
def Inv.Ij{f:Array ci->Array ci}{t':Nat}(I:Inv X U σ H s)(hH:H l=am (.lst xs))(e:s.heap.get? l=am {cls:=.type "list",data:=.seq aq.toArray n})(hf:f aq.toArray=dQ.toArray)(hv:Vals ys dQ)(hz:ys.length<=sizeLine):Inv X U σ (upd H l (.lst ys)) {s with heap:=s.heap.update l (BA f),toks:=t'}:=by
 have q:=PySem.IsL.update e f;rw[hf]at q;refine I.write (by rw[hH];exact trivial) (.inl rfl) (λb' u hb hu=>(BV s.heap (BA f) (Bx hb)).trans hu) ⟨_,q⟩ ?_;exact⟨hz,dQ,_,hv,q⟩
def Inv.XB{t':Nat}(I:Inv X U σ H s)(hv:Vals ys aq)(hz:ys.length<=sizeLine):Inv X U σ (upd H s.heap.objs.size (.lst ys)) {s with heap:=s.heap.push {cls:=.type "list",data:=.seq aq.toArray},toks:=t'}:=
 I.laid (λ_ _ q=>Ah _ q) (Ak _) ⟨hz,aq,0,hv,An _ rfl⟩
def Inv.fresh(I:Inv X U σ H s):H s.heap.objs.size=ce:=I.bg.fresh (Ak _)
def Inv.qC(I:Inv X U σ H s)(hH:H l=am (.lst xs)):xs.length<=sizeLine/\∃(aq:O ci) (n:Nat),Vals xs aq/\xs.length=aq.length/\s.heap.get? l=am {cls:=.type "list",data:=.seq aq.toArray n}:=by
 obtain⟨z,aq,n,r,e⟩:=I.bg l _ hH;exact⟨z,aq,n,r,r.length,e⟩
theorem nC(h:n<=sizeLine):Builtin.List.listTooLong n=false:=by
 exact decide_eq_false ∅
end
section
def Sf:V->O V->Hp->VK->Prop:=λx vs H Q=>∃l xs y,x=.ref l/\vs=[y]/\H l=am (.lst xs)/\xs.length<sizeLine/\Q .aF (upd H l (.lst (xs++[y])))
theorem LU:Hr X "list.append" Sf:=by
 intro U s σ H x vs v us Q I rx rv h;obtain⟨l,xs,y,rfl,rfl,hH,hz,q⟩:=h;cases rx;obtain⟨u,rfl,ru⟩:=rv.one;obtain⟨z,aq,n,r,hl,e⟩:=I.qC hH;refine wv F.slot_list_append ⟨_,e,rfl⟩ F.entry_list_append (F.args_list_append_2 _ _) (PySem.list_append l aq.toArray n u (by rw[Am];lia)) ⟨e,?_⟩;refine⟨.aF,_,I.Ij hH e (by simp) (r.append (.cons ru .nil)) ?_,rfl,q⟩;rw[Al,FH];lia
def Sd:V->O V->Hp->VK->Prop:=λx vs H Q=>∃l b xs zs,x=.ref l/\vs=[.ref b]/\H l=am (.lst xs)/\H b=am (.lst zs)/\xs.length+zs.length<=sizeLine/\Q .aF (upd H l (.lst (xs++zs)))
theorem Zf:Hr X "list.extend" Sd:=by
 intro U s σ H x vs v us Q I rx rv h;obtain⟨l,b,xs,zs,rfl,rfl,hH,hB,hz,q⟩:=h;cases rx;obtain⟨u,rfl,ru⟩:=rv.one;cases ru;obtain⟨z,aq,n,r,hl,e⟩:=I.qC hH;obtain⟨z2,cT,n2,r2,VD,e2⟩:=I.qC hB;have uW:aq.toArray.size+cT.toArray.size<=sizeLine:=by rw[Am,Am];lia
 have tM:¬(!aq.toArray.isEmpty&&Builtin.List.listTooLong (aq.toArray.size+cT.toArray.size))=true:=by
  rw[nC uW,DM];exact AM
 refine wv Ey ⟨_,e,rfl⟩ Ed (D2 _ _)
  (AutoSeq1.list_extend_list_list_0 l aq.toArray n b cT.toArray n2 tM (by rw[Am];lia) ∅) ⟨e,e2,?_⟩
 refine⟨.aF,_,I.Ij hH e (by simp) (r.append r2) ?_,rfl,q⟩;rw[Al];lia
def aeQ:V->O V->Hp->VK->Prop:=λx vs H Q=>∃l xs y,x=.ref l/\vs=[]/\H l=am (.lst xs)/\xs[xs.length-1]?=am y/\Q y (upd H l (.lst xs.dropLast))
theorem Xx:Hr X "list.pop" aeQ:=by
 intro U s σ H x vs v us Q I rx rv h;obtain⟨l,xs,y,rfl,rfl,hH,hy,q⟩:=h;cases rx;have hus:=rv.zero;subst hus;obtain⟨z,aq,n,r,hl,e⟩:=I.qC hH;obtain⟨u,hu,ru⟩:=r.get hy;have hy':aq.toArray[aq.toArray.size-1]?=am u:=by
  show aq.toArray[aq.length-1]?=am u;rw[<- DT,<- hl];exact hu
 refine wv F.slot_list_pop ⟨_,e,rfl⟩ F.entry_list_pop (F.args_list_pop_1 _) (MeetsSeq.list_pop_last l aq.toArray n u hy' (by rw[Am];lia)) ⟨e,?_⟩;refine⟨y,_,I.Ij hH e ?_ r.dropLast ?_,ru,q⟩
 .rw[Am,DP,Jd]
 .rw[List.length_dropLast];lia
def W0:V->O V->Hp->VK->Prop:=λx vs H Q=>∃l xs i k y,x=.ref l/\vs=[.int i]/\H l=am (.lst xs)/\-(2 ^ 63)<=i/\i<2 ^ 63/\seqIndex? i xs.length=am k/\xs[k]?=am y/\Q y (upd H l (.lst (xs.eraseIdx k)))
theorem zC:Hr X "list.pop" W0:=by
 intro U s σ H x vs v us Q I rx rv h;obtain⟨l,xs,i,k,y,rfl,rfl,hH,h1,h2,hk,hy,q⟩:=h;cases rx;obtain⟨u,rfl,ru⟩:=rv.one;obtain⟨t,rfl⟩:=ru;obtain⟨z,aq,n,r,hl,e⟩:=I.qC hH;obtain⟨w,hw,zc⟩:=r.get hy;refine wv F.slot_list_pop ⟨_,e,rfl⟩ F.entry_list_pop (F.args_list_pop_2 _ _)
  (MeetsSeq.list_pop_at l aq.toArray n i t k w (fitsIndex_both h1 h2) (by rw[Am,<- hl];exact hk) (by rw[<- DT];exact hw) (by rw[Am];lia)) ⟨e,?_⟩
 refine⟨y,_,I.Ij hH e ?_ (r.eraseIdx k) ?_,zc,q⟩
 .rw[DP]
 .have:=vR xs k;lia
def aeS:R2:=λx y H Q=>∃l b xs zs,x=.ref l/\y=.ref b/\H l=am (.lst xs)/\H b=am (.lst zs)/\xs.length+zs.length<=sizeLine/\∀p,H p=ce->Q (.ref p) (upd H p (.lst (xs++zs)))
theorem Xn:ip X (u8 .Add) aeS:=by
 intro U s σ H x y v u Q I rx ry h;obtain⟨l,b,xs,zs,rfl,rfl,hH,hB,hz,q⟩:=h;cases rx;cases ry;obtain⟨z,aq,n,r,hl,e⟩:=I.qC hH;obtain⟨z2,cT,n2,r2,VD,e2⟩:=I.qC hB;refine PySem.P.add_list e e2 ?_ (by rw[Am,Am];lia);have ea:aq.toArray++cT.toArray=(aq++cT).toArray:=by simp
 rw[ea];exact⟨.ref _,_,I.XB (r.append r2) (by rw[Al];lia),rfl,q _ I.fresh⟩
def aeP:R2:=λx y H Q=>∃l k xs,x=.ref l/\y=.int k/\H l=am (.lst xs)/\-(2 ^ 63)<=k/\k<2 ^ 63/\xs.length*k.toNat<=sizeLine/\
 ∀p,H p=ce->Q (.ref p) (upd H p (.lst (Ao k.toNat xs).flatten))
def len_rep(xs:List α)(k:Nat):(Ao k xs).flatten.length=k*xs.length:=by
 induction k with
 |zero=>simp
 |succ k ih=>rw[Di,ET,Al,ih,Gf,Nat.add_comm]
theorem Xi:ip X (u8 .Mult) aeP:=by
 intro U s σ H x y v u Q I rx ry h;obtain⟨l,k,xs,rfl,rfl,hH,h1,h2,hz,q⟩:=h;cases rx;obtain⟨t,rfl⟩:=ry;obtain⟨z,aq,n,r,hl,e⟩:=I.qC hH;have Á:aq.toArray.size*k.toNat<=sizeLine:=by rw[Am,<- hl];exact hz
 have afW:¬aq.toArray.size*k.toNat > (2 ^ 63-1) / 8:=by
  have:(sizeLine:Nat)<=(2 ^ 63-1) / 8:=by decide
  lia
 have afQ:¬(!Builtin.List.listFitsIndex k)=true:=by
  rw[fitsIndex_both h1 h2];exact AM
 have tM:¬Builtin.List.listTooLong (aq.toArray.size*k.toNat)=true:=by
  rw[nC Á];exact AM
 have TK:List.foldl (λx1 x2=>x1++x2) #[] (Ao (if aq.toArray.isEmpty=true then 0 else k.toNat) aq.toArray)=(Ao k.toNat aq).flatten.toArray:=by
  have f0:∀m:Nat,List.foldl (λx1 x2=>x1++x2) #[] (Ao m aq.toArray)=(Ao m aq).flatten.toArray:=λm=>by
   have:=foldl_rep aq m [];exact this
  rw[f0];cases aq with
  |nil=>simp
  |cons a r'=>rw[if_neg (by simp)]
 refine wpAny_binaryOp_repeat_ref (T:="list") ⋯ ⟨_,e,rfl⟩ (λs'=>typeIs_int s' k t) noFill_list_mul F.fills_int_mul F.slot_int_rmul repeat_list F.slot_int_index.lookup
  (wv F.slot_int_rmul (typeIs_int s k t) F.entry_int_rmul (F.args_int_rmul_2 _ _) (int___rmul___int_list k t l aq.toArray n)
   ⟨e,rfl,⟨_,e,rfl⟩,wv F.slot_list_mul ⟨_,e,rfl⟩ F.entry_list_mul (F.args_list_mul_2 _ _) (AutoListH.list___mul___list_int_3 l aq.toArray n k t afQ afW tM) ⟨e,?_⟩⟩)
 rw[TK];exact⟨.ref _,_,I.XB (r.rep k.toNat) (by rw[len_rep,Fg];exact hz),rfl,q _ I.fresh⟩
end
end L2
variable{xs:O (O L2.Key×Bg×A9)}{v:L2.V}{ay:O (O L2.Key×L2.V)}{env:PySem.Env}{Æ:BC}
namespace L2
section
variable{κ:Type}[DecidableEq κ]
def ir(ay:O (κ×V))(k:κ):Option V:=(ay.find? λkv=>decide (kv.1=k)).map (·.2)
def jS{p:κ×V}{r:O (κ×V)}{k:κ}(e:p.1=k):ir (p::r) k=am p.2:=by simp[ir,e]
def jT{p:κ×V}{r:O (κ×V)}{k:κ}(e:¬p.1=k):ir (p::r) k=ir r k:=by simp[ir,e]
theorem yU(k:κ):∀ay:O (κ×V),(ay.any λkv=>decide (kv.1=k))=(ir ay k).isSome
 |[]=>rfl
 |p::r=>by
  rw[CW];by_cases e:p.1=k
  .simp only[jS e,decide_eq_true e,Bool.true_or,Gb]
  .rw[jT e,decide_eq_false e,Bool.false_or];exact yU k r
def KV.val{ay:O (κ×V)}{vs:O (κ×ci)}(r:KV ay vs)(k:κ):yJ (ir ay k) (valueAt vs k):=by
 unfold KV at r
 induction r with
 |nil=>exact Cm
 | @cons p q ps qs h t ih=>
  obtain⟨h1,h2⟩:=h;by_cases e:p.1=k
  .have e':q.1=k:=h1.symm.trans e;have b:valueAt (q::qs) k=am q.2:=by simp[valueAt,Eb,e']
   rw[jS e,b];exact h2
  .have e':¬q.1=k:=λz=>e (h1.trans z);have b:valueAt (q::qs) k=valueAt qs k:=by simp[valueAt,Eb,e']
   rw[jT e,b];exact ih
end
def Vt{k:Key}(r:RelV (kV k) u):(cn P w).is k u=true:=by
 cases k with
 |inl i=>obtain⟨t,e⟩:=(r);subst e;exact zF P w i t
 |inr x=>obtain⟨t,e⟩:=(r);subst e;exact zE P w x t
theorem vW:∀{ks:O Key}{us:O ci},Vals (ks.map kV) us->ItemsAre (cn P w) ks us
 |[],_,r=>by rw[En]at r;cases r;exact .nil
 |k::ks,_,r=>by
  cases r with
  |cons h t=>exact .cons (Vt h) (vW t)
abbrev KT(H:Hp):O (O Key×V)->O (O Key×db×ci)->Prop:=Paired λp q=>p.1=q.1/\H q.2.1=am (.tup (p.1.map kV))/\RelV p.2 q.2.2
def KT.val(r:KT H ay xs)(k:O Key):yJ (ir ay k) ((atKey xs k).map (·.2)):=by
 induction r with
 |nil=>exact Cm
 | @cons p q ps qs h t ih=>
  obtain⟨h1,_,h2⟩:=h;by_cases e:p.1=k
  .have e':=h1.symm.trans e;have b:atKey (q::qs) k=am q.2:=by simp[atKey,Eb,e']
   rw[jS e,b];exact h2
  .have e':¬q.1=k:=λz=>e (h1.trans z);have b:atKey (q::qs) k=atKey qs k:=by simp[atKey,Eb,e']
   rw[jT e,b];exact ih
def KT.keeps(r:KT H ay xs)(ht:∀b ys,H b=am (.tup ys)->H' b=am (.tup ys)):KT H' ay xs:=
 Paired.Xy r λ_ _ z=>⟨z.1,ht _ _ z.2.1,z.2.2⟩
section
def U2{u:HO}(ok:mh P w H h)(e:Rd H a u):bh P w H h a u:=e.ok ok
def GY{ay:O (Key×V)}(ok:mh P w H h)(e:Rd H a (.dK ay)):ay.length<=sizeLine/\(a==GE)=false/\∃vs,KV ay vs/\h.DictOf (cn P w) a vs:=
 show bh P w H h a (.dK ay) from U2 ok e
def Ir{ks:O Key}(ok:mh P w H h)(e:H a=am (.tup (ks.map kV))):(sB (cn P w)).is h ks a:=by
 obtain⟨_,aq,r,⟨o,h1,h2,n,h3⟩,_⟩:=(show bh P w H h a (.tup (ks.map kV)) from ok a _ e);exact⟨o,aq.toArray,n,h1,h2,h3,by simpa using vW r⟩
def GV(ok:mh P w H h)(e:Rd H a (.dT ay)):ay.length<=sizeLine/\(a==GE)=false/\ ∃xs,KT H ay xs/\h.DictOfH (sB (cn P w)) a xs:=by
 obtain⟨z,y,xs,r,o,es,ep,h1,h2,h3,h4,h5⟩:=(U2 ok e);refine⟨z,y,xs,r,o,es,ep,h1,h2,h3,h4,λx hx=>?_,h5⟩;have all:∀{l:O (O Key×V)}{m:O (O Key×db×ci)},KT H l m->∀x∈m,(sB (cn P w)).is h x.1 x.2.1:=by
  intro l m q
  induction q with
  |nil=>intro x hx;exact nomatch hx
  | @cons p q ps qs hq t ih=>
   intro x hx;rcases AD.mp hx with e|hx
   .subst e;exact Ir ok (by rw[<- hq.1];exact hq.2.1)
   .exact ih x hx
 exact all r x hx
end
def UM(H:Hp)(a:db)(y:V)(r:Option V):Prop:=
 (∃ay k,Rd H a (.dK ay)/\y=kV k/\r=ir ay k)\/∃ay k b,Rd H a (.dT ay)/\y=.ref b/\H b=am (.tup (k.map kV))/\r=ir ay k
section
variable{s:cr}{o:Option V}
def Inv.big(I:Inv X U σ H s):GE<s.heap.objs.size:=by
 exact Nat.lt_trans ⋯ ((I.mod.glob.keeps I.bk).lt)
def MN(hu:A.units+1<sK)(I:Inv X U σ H s)(g:UM H a y (am v))(ry:RelV y u)(h:∀w' s',Inv X U σ H s'->RelV v w'->Q w' s'):ga (gl X.prog X.w) A (getItem (.ref a) u) Q E s:=by
 rcases g with⟨ay,k,e,ey,l⟩|⟨ay,k,b,e,ey,eb,l⟩
 .subst ey;obtain⟨z,hd,vs,rel,dd⟩:=GY I.bg e;obtain⟨w',hw,zc⟩:=yJ.some_of (v:=v) (o:=valueAt vs k) (by rw[l];exact rel.val k);exact wpAny_getItem_of (Vt ry) dd.mapOf hw (h w' _ (I.tok _) zc)
 .subst ey;cases (show u=AJ b from ry);obtain⟨z,hd,xs,rel,dd⟩:=GV I.bg e;obtain⟨w',hw,zc⟩:=yJ.some_of (v:=v) (o:=(atKey xs k).map (·.2)) (by rw[l];exact rel.val k);obtain⟨p,hp,yQ⟩:=Option.map_eq_some_iff.mp hw;refine wpAny_getItem_heap (tupleKind_room_in1 hu) (Ir I.bg eb) dd hp ?_;rw[yQ];exact h w' _ (I.tok _) zc
end
def Y4(i:nw):Prop:=∀ov iv,subscripted i false ov iv=operate [ov,iv] (getItem ov iv)
def RD{s:cr}{Å:nw}{id:String}(hl:Gc (.type T) "__getitem__"=pure (am (.builtin id)))(hs:Y4 Å)(h:ga (gl prog w) A (o0 Æ env) (λo s₁=>ga (gl prog w) A (o0 Å env) (λi s₂=>s₂.TypeIs o T/\ga (gl prog w) A (getItem o i) Q E s₂) E s₁) E s):ga (gl prog w) A (o0 (.Subscript Æ Å pos) env) Q E s:=by
 refine Subscript_ (BJ h (λo s₁ h₁=>BJ h₁ (λi s₂ h₂=>?_) λ_ _ x=>x) λ_ _ x=>x);obtain⟨hT,h₂⟩:=h₂;refine Aa ?_;refine Aa (Fv hT hl ?_);have fin:ga (gl prog w) A (subscripted Å false o i) (λr s₃=>ga (gl prog w) A (letTemporaryGo Æ o r >>= λ_=>pure r) Q E s₃) E s₂:=by
  rw[hs o i];exact wpAny_operating (BJ h₂ (λr s₃ h₃=>Aa (wpAny_letTemporaryGo (Af h₃))) λ_ _ x=>x)
 first
  |exact Af (Aa fin)
  |exact Aa (Af (Aa fin))
  |exact Aa fin
def GZ{s:cr}{o:Option V}(I:Inv X U σ H s)(g:UM H a y o):s.TypeIs (.ref a) "dict":=by
 rcases g with⟨ay,k,e,_,_⟩|⟨ay,k,b,e,_,_,_⟩
 .obtain⟨_,_,vs,_,dd⟩:=GY I.bg e;exact dd.typeIs
 .obtain⟨_,_,xs,_,dd⟩:=GV I.bg e;exact dd.typeIs
def Z6(td ty:TE):TE:=λσ H Q=>td σ H λx H1=>ty σ H1 λy H2=>∃a v,x=.ref a/\UM H2 a y (am v)/\Q v H2
section
variable{i:nw}{td ty:TE}
def Sr(hu:X.A.units+1<sK)(ho:PE X o td)(hi:PE X i ty)(hs:Y4 i):PE X (.Subscript o i pos) (Z6 td ty):=by
 intro U s σ H Q I h;refine RD PySem.F.slot_dict_getitem.lookup hs (bN (ho U s σ H _ I h) λu s1 ⟨x,H1,I1,rx,q1⟩=>bN (hi U s1 σ H1 _ I1 q1) λiv s2 ⟨y,H2,I2,ry,a,v,ex,g,q2⟩=>?_);subst ex;obtain rfl:u=AJ a:=rx;exact⟨GZ I2 g,MN hu I2 g ry λw' s3 I3 zc=>⟨v,H2,I3,zc,q2⟩⟩
end
structure M2(X:Cx)(o:nw)(m:Str)(À:Pos)(e f:nw)(bb:Pos):Prop where
 base:re o m X.env (o0 o X.env)=o0 o X.env
 few:((t0 bb (gt [e,f] X.env)).all (λx=>!x.1)&&(Ix bb (xz [] X.env)).all (λx=>x.1.isSome)
  && decide (([e,f]:List nw).length+([]:List Keyword).length+(if ([]:List Keyword).isEmpty then 0 else 1)<30))=true
 line:(À.endLine==bb.line)=true
 trees:t0 bb (gt [e,f] X.env)=[(false,o0 e X.env),(false,o0 f X.env)]
def IsD(H:Hp)(a:db):Prop:=(∃ay,Rd H a (.dK ay))\/∃ay,Rd H a (.dT ay)
end L2
variable{Ô:O BZ}{XP:(BZ->Option A9)->Fe->Prop}{YP:PySem.World->Fe->Prop}
namespace Att
open PySem PySem.W PySem.Calls PyProof.Rows
def qH{P:Params}:∀(ns:O Int) (vs:O ci),WellAll P h vs (ns.map WData.int)->xL vs ns:=by
 intro ns
 induction ns with
 |nil=>
  intro vs w;cases w;exact .nil
 |cons n ns ih=>
  intro vs w;cases w with
  |cons a b=>
   cases a;exact .cons _ _ (ih _ b)
theorem LC{l:OpenLaw}(hn:l.most=am n){P:Params}{args:O WData}{Ú:O ci}(TH:l.row.toRowW.claim.pre args=true)(Ğ:WellAll P h Ú args):∃a vs ns,Ú=[AJ a]/\args=[WData.list (ns.map WData.int)]/\h.get? a=am {cls:=.type "list",data:=.seq vs.toArray}/\xL vs ns/\ns.length<=n:=by
 have hc:l.pre.holds [] {args:=args}=true:=(pre_splitW TH).2;obtain⟨d,r,rfl,h1,h2⟩:=hasAllW_cons ((pre_splitW TH).1);obtain rfl:=hasAllW_nil h2;obtain⟨xs,rfl,h3⟩:=hasW_list h1;obtain⟨ns,rfl⟩:=items_int h3;have Á:ns.length<=n:=by
  unfold OpenLaw.pre at hc;have h4:(WTm.not (.lt (.lit (.int (n:Int))) (.len (.arg 0)))).holds [] {args:=[.list (ns.map .int)]}=true:=by
   have h4:=(holds_andW hc).1;rw[hn]at h4;exact h4
  have h5:=condW_of h4 (w_not (w_lt w_lit (w_len_list (w_arg rfl))));refine Nat.le_of_not_lt λq=>?_
  first
   |(rw[decide_eq_true q']at h5;exact absurd h5 ⋯)
   |(simp at h5;lia)
 cases Ğ with
 |cons w1 w2=>
  cases w2;cases w1 with
  |list ho Yp=>exact⟨_,_,ns,rfl,rfl,ho,qH ns _ Yp,Á⟩
def LK(l:OpenLaw)(args:O WData):l.row.toRowW.claim.post args (.bool true) args=true:=
 postW_of
  (show WShape.has [] (.bool true) .bool=true by first|rfl|decide|simp[WShape.has,WShape.arms])
  (w_eq_bool (w_res rfl) w_lit) rfl
def G5{l:OpenLaw}{q:wP}{d:DefRec}(hn:l.most=am n)(ĭ:d.params.defaults=[])(call:∀(w:Db) (s₀ s₁:cr) (mg mb:Str->Option ci) (fa:db) (o:Obj) (pm cd È:ci) (a:db) (vs:O ci) (ns:O Int),
   Ground q Ô [] XP w s₀ mg mb s₁.heap->YP w s₁.heap->
   s₁.heap.get? fa=am o->o.data=.func (docDef d.name d.params d.body d.scope pm cd È)->s₁.heap.CodeRec cd d.name->mg d.name=am (.ref fa)->
   s₁.heap.get? a=am {cls:=.type "list",data:=.seq vs.toArray}->xL vs ns->ns.length<=n->s₁.gens=#[]->
   KF (gl l.prog w) callerA (.call (.ref fa) ⟨[.ref a],[]⟩) (λr s'=>r=.ok (.ret (.bool true))/\OldK s₁.heap s'.heap/\s'.os=s₁.os/\Pv s'.gens) s₁):WalkO q Ô XP YP l.row.toRowW d [] (λf vs=>PySem.call f vs):=by
 intro w s₀ s₁ mg mb G Y fa o pm cd È dV kV ho hd jO hD hmg hg args Ú as TH aju hrd Ğ hlo;obtain rfl:dV=.none:=Dflts.none hD ĭ;obtain rfl:kV=.none:=Dflts.noKw hD;obtain⟨a,vs,ns,rfl,rfl,Yi,Õ,Á⟩:=LC hn TH Ğ;refine enter_call (Ps (call w s₀ s₁ mg mb fa o pm cd È a vs ns G Y ho (fd_plain hd) jO hmg Yi Õ Á hg) λr s' hq=>?_);obtain⟨rfl,h2,h3,h4⟩:=hq;exact⟨.inl ⟨.bool true,.bool true,[],rfl,λ_=>rfl,.bool true,LK l _,λ_=>⟨List.Pairwise.nil,λ_ hm=>(nomatch hm)⟩⟩,h2,h3,h4⟩
end Att
namespace L2
theorem oK:∀{vs:O ci}{ns:O Int},xL vs ns->Vals (ns.map V.int) vs
 |_,_,.nil=>.nil
 |_,_,.cons n t h=>.cons ⟨t,rfl⟩ (oK h)
end L2
variable{sp:L2.Sp}{B:Prop}
namespace L2
def fb(s:v4):Arguments:=match s with
 |.FunctionDef _ a _ _ _ _ _ _ _ _=>a
 |_=>{posonlyargs:=[],args:=[],vararg:=ce,kwonlyargs:=[],kw_defaults:=[],kwarg:=ce,defaults:=[]}
def cz(s:v4):O v4:=match s with
 |.FunctionDef _ _ b _ _ _ _ _ _ _=>b
 |_=>[]
def aM(s:v4):pc:=match s with
 |.FunctionDef _ _ _ _ _ _ sc _ _ _=>sc
 |_=>{kind:=.function,names:=[],isGenerator:=false,isCoroutine:=false}
abbrev Hk:UN:=λ_ _ _ _ _ _=>False
abbrev E0:XK:=λ_ _ _=>False
def aaK:Passes Hk X E0:=λ_ _ _ _ _ _ _ h=>h.elim
structure UJ(K:Ab)(x qual:Str)(st:v4)(f:db)(fd:FuncData):Prop where
 ex:∃(oc:ci) (od:Option db) (kV È pm:ci) (an:Option db) (fq ct:ci) (Rg:Array (Option ci)),
  fd=B9 x qual (fb st) (cz st) (aM st) .none kV È pm an fq ct/\K.lookup f=am ⟨oc,od,.func fd,Rg⟩/\Es K fq qual=true
 kp:Er K (.ref f)=true
section
variable{K:Ab}
def UJ.ok{st:v4}{f:db}{N:O Str}(F:UJ K x qual st f fd)(S:fc N ps (aM st))(len:∀vs H Q E,sp vs H Q E->vs.length=ps.length)(PK:∀(fq:ci) (A:Da) (outer:O Env) (s:cr) (H:Hp) (vs:O V) (Q:VK) (E:XK),dz k (A.deeper (GM qual (aM st) s.heap.objs.size f fq))->sp vs H Q E->
   ∃t,oD (vf Hk P w K mg base N qual (aM st) f fq A outer s H E).Va (cz st) t/\t {nx:=λ_ H'=>Q .aF H',rt:=Q} (start N vs) H):lM P w K mg base Hk (k+1) f fd ps sp:=by
 obtain⟨oc,od,kV,È,pm,an,fq,ct,Rg,rfl,lk,jO⟩:=F.ex;refine ab1 lk jO S len λA outer s H vs Q E hr Yf=>?_;obtain⟨t,h,q⟩:=PK fq A outer s H vs Q E hr Yf;exact⟨t,h.Va,q⟩
def UJ.binds{st:v4}{f:db}(F:UJ K x qual st f fd)(h:∀(kV È pm:ci) (an:Option db) (fq ct:ci) (us:O ci),us.length=ps.length->bindArgs (B9 x qual (fb st) (cz st) (aM st) .none kV È pm an fq ct) ⟨us,[]⟩=pure (ps.zip us)):Binds K fd ps []:=by
 obtain⟨oc,od,kV,È,pm,an,fq,ct,Rg,rfl,lk,jO⟩:=F.ex;exact .all (h kV È pm an fq ct)
def Yt{st:v4}{f:db}{kV:ci}(l:K.lookup f=am ⟨oc,od,.func (B9 x qual (fb st) (cz st) (aM st) .none kV È pm an fq ct),Rg⟩)(c:Es K fq qual=true)(k:Er K (.ref f)=true):UJ K x qual st f (B9 x qual (fb st) (cz st) (aM st) .none kV È pm an fq ct):=⟨⟨oc,od,kV,È,pm,an,fq,ct,Rg,rfl,l,c⟩,k⟩
end
def LB(h:n<=1000):n<sizeLine:=Nat.lt_of_le_of_lt h ⋯
section
def pv(i:Nat)(hN:‹X.N[i]?=am x›)(hv:Ho X.env.scope x:=by first|exact Cg rfl|exact Co (Cg rfl)|exact Co (Co rfl))(hd: ~~~(iQ x))(jO: ~~~(JP x)):PE X (.Name x pos) (Wu i):=fu hN hv hd jO
end
def xJ{A:Prop}(h:B):if false=true then A else B:=by
 exact h
def xI{A:Prop}(h:A):if true=true then A else B:=by
 exact h
def jD(H H':Hp):Prop:=∀b o,H b=am o->H' b=am o
def jD.refl(H:Hp):jD H H:=λ_ _ h=>h
end L2
variable{b:Nat}{H2:L2.Hp}{R:PySem.Result->DA->Prop}{Xs:PySem.Scope}{N':O BZ}{ix:O (Option Nat)}{cl:O (BZ×Bg)}{Ã:BC}{Ç:O BC}{m9:Ck}
namespace L2
def lsz{o:Obj}(e:h.get? b=am o):b<h.objs.size:=Ap e
def neN{a:Nat}(h:a≠b):a≠b:=h
def ltN{a:Nat}(h:a<b):a<b:=h
def VZ{c:Nat}{v:Option ci}(q:h.IsCell c v):c<h.objs.size:=q.lt
structure aV(Xs:pc)(N:List Str)(sc:pc)(N':List Str)(ix:List (Option Nat)):Prop where
 kind:sc.kind=.function
 nc:∀y∈sc.names,y.2=.cell->sc.names.lookup y.1=am .cell
 loc:∀y∈sc.names,y.2=.local->sc.names.lookup y.1=am .local
 fr:∀y∈sc.names,y.2=.free->(Xs.names.lookup y.1=am .cell\/Xs.names.lookup y.1=am .free)
 nd:N'.Nodup
 len:ix.length=N'.length
 map:((ix.zip N').all λp=>match p.1 with|none=>true|some j=>decide (N[j]?=am p.2)&&decide (sc.names.lookup p.2=am .free))=true
def aV.at{N:O Str}{sc:pc}(S:aV Xs N sc N' ix){i:Nat}(h1:ix[i]?=am (am j))(h2:N'[i]?=am x):N[j]?=am x/\sc.names.lookup x=am .free:=by
 have hm:((am j,x):Option Nat×Str)∈ix.zip N':=by
  refine Bb (i:=i) ?_;rw[List.getElem?_zip_eq_some];exact⟨h1,h2⟩
 have q:=De.mp S.map _ hm;simp at q;exact q
def ox(ix:O (Option Nat))(σ:St):St:=ix.map λo=>match o with|some j=>(σ[j]?).getD ce|none=>ce
def dZ(X:Cx)(sc:pc)(N':O Str)(cl:O (Str×db))(C:db)(s2:cr)(H2:Hp)(fp:O db):Cx where
 prog:=X.prog
 w:=X.w
 K:=X.K
 mg:=X.mg
 base:=X.base
 A:=X.A
 N:=N'
 s₀:=s2
 H₀:=H2
 env:=compEnvC sc cl C X.env
 outer:=X.stack
 stack:=X.stack
 ex:=fp
 calm:=X.calm
 fn:=λx=>sc.names.lookup x==am .cell
 pn:=[]
 xe:=λ_ _=>False
theorem mR:∀(names:O (Str×wE)) (cs:O (Str×db)),(∀y∈names,y.2=.free->∃c,env.cells.lookup y.1=am c)->
  ∃cl,(forIn names cs λ(x:Str×wE) (c:O (Str×db))=>(match x with|(name,kind)=>do
    let c <- if (kind==Bo)=true then do let a <- cellOf env name;pure ((name,a)::c) else pure c
    pure (Ct c):Sem (ForInStep (O (Str×db)))))=pure cl/\(∀x c,cl.lookup x=am c->cs.lookup x=am c\/(env.cells.lookup x=am c/\(x,Bo)∈names))/\(∀x,((x,Bo)∈names\/(∃c,cs.lookup x=am c))->∃c,cl.lookup x=am c)
 |[],cs,_=>⟨cs,rfl,λ_ _ h=>.inl h,λx h=>h.elim (λz=>nomatch z) λz=>z⟩
 |(n,k)::r,cs,h=>by
  by_cases hk:k=.free
  .subst hk;obtain⟨c,hc⟩:=h (n,.free) BF rfl;obtain⟨cl,e,h1,h2⟩:=mR r ((n,c)::cs) λy hy=>h y (AY _ hy);refine⟨cl,?_,λx d hd=>?_,λx hx=>?_⟩
   .rw[Cs,<- e];simp only[beq_self_eq_true,if_true,cellOf,hc,pure_bind]
   .rcases h1 x d hd with z|⟨z1,z2⟩
    .rw[AO]at z;by_cases hx:(x==n)=true
     .rw[hx]at z;have vZ:x=n:=eq_of_beq hx;subst vZ;cases z;exact .inr ⟨hc,BF⟩
     .have vZ:(x==n)=false:=by simpa using hx
      rw[vZ]at z;exact .inl z
    .exact .inr ⟨z1,AY _ z2⟩
   .refine h2 x ?_;rcases hx with hx|⟨d,hd⟩
    .rcases AD.mp hx with z|z
     .injection z with z1 _;subst z1;exact .inr ⟨c,by rw[AO];simp⟩
     .exact .inl z
    .by_cases hx:(x==n)=true
     .exact .inr ⟨c,by rw[AO,hx]⟩
     .have vZ:(x==n)=false:=by simpa using hx
      exact .inr ⟨d,by rw[AO,vZ];exact hd⟩
  .obtain⟨cl,e,h1,h2⟩:=mR r cs λy hy=>h y (AY _ hy);refine⟨cl,?_,λx d hd=>?_,λx hx=>?_⟩
   .have hb:(k==Bo)=false:=by simpa using hk
    rw[Cs,<- e];simp only[hb,Aq,if_false,pure_bind]
   .rcases h1 x d hd with z|⟨z1,z2⟩
    .exact .inl z
    .exact .inr ⟨z1,AY _ z2⟩
   .refine h2 x ?_;rcases hx with hx|hx
    .rcases AD.mp hx with z|z
     .injection z with _ z2;exact absurd z2.symm hk
     .exact .inl z
    .exact .inr hx
def me{sc:pc}(h:∀y∈sc.names,y.2=.free->∃c,env.cells.lookup y.1=am c):∃cl,closureFor sc env=pure cl/\(∀x c,cl.lookup x=am c->env.cells.lookup x=am c/\(x,Bo)∈sc.names)/\(∀x,(x,Bo)∈sc.names->∃c,cl.lookup x=am c):=by
 obtain⟨cl,e,h1,h2⟩:=mR sc.names [] h;refine⟨cl,?_,λx c hc=>(h1 x c hc).resolve_left (λz=>nomatch z),λx hx=>h2 x (.inl hx)⟩;unfold closureFor;have e':(forIn sc.names ([]) λx r=>(match x with|(name,kind)=>if (kind==Bo)=true then do let a <- cellOf env name;pure (Ct ((name,a)::r)) else pure (Ct r):Sem (ForInStep (O (Str×db)))))=pure cl:=by
  rw[<- e]
  first
   |rfl
   |(
     congr 1;funext x r;by_cases hk)
   |simp
 simpa using e'
theorem yq:∀(names:O (Str×wE)) (n:Nat) (Â:O (Str×db)) (x:Str) (c:db),(ut n names Â).lookup x=am c->(Â.lookup x=am c/\(x,CV)∉names)\/((x,CV)∈names/\n<=c)
 |[],_,_,_,_,e=>.inl ⟨e,λh=>nomatch h⟩
 |(y,k)::r,n,Â,x,c,e=>by
  unfold ut at e
  split at e
  .rename_i hk;have Nj:k=.cell:=eq_of_beq hk;subst Nj;rcases yq r _ _ x c e with⟨a,b⟩|⟨a,b⟩
   .rw[AO]at a;cases hx:x==y with
    |true=>
     rw[hx]at a;cases a;exact .inr ⟨by rw[eq_of_beq hx];exact BF,Ak _⟩
    |false=>
     rw[hx]at a;refine .inl ⟨a,λh=>?_⟩;rcases AD.mp h with z|z
     .cases z;simp at hx
     .exact b z
   .exact .inr ⟨AY _ a,Nat.le_of_succ_le b⟩
  .rename_i hk;rcases yq r _ _ x c e with⟨a,b⟩|⟨a,b⟩
   .refine .inl ⟨a,λh=>?_⟩;rcases AD.mp h with z|z
    .cases z;simp at hk
    .exact b z
   .exact .inr ⟨AY _ a,b⟩
theorem Jw:∀(names:O (Str×wE)) (n:Nat) (Â:O (Str×db)) (x:Str),((x,CV)∈names\/∃c,Â.lookup x=am c)->∃c,(ut n names Â).lookup x=am c
 |[],_,_,_,h=>h.elim (λz=>nomatch z) id
 |(y,k)::r,n,Â,x,h=>by
  unfold ut
  split
  .refine Jw r _ _ x ?_;cases hx:x==y with
   |true=>exact .inr ⟨n,by rw[AO,hx]⟩
   |false=>
    rcases h with h|⟨c,h⟩
    .rcases AD.mp h with z|z
     .cases z;simp at hx
     .exact .inl z
    .exact .inr ⟨c,by rw[AO,hx];exact h⟩
  .rename_i hk;refine Jw r _ _ x ?_;rcases h with h|h
   .rcases AD.mp h with z|z
    .cases z;simp at hk
    .exact .inl z
   .exact .inr h
theorem Jv:∀(names:O (Str×wE)) (n:Nat) (Â:O (Str×db)),(∀x y c,Â.lookup x=am c->Â.lookup y=am c->x=y)->(∀x c,Â.lookup x=am c->c<n)->∀x y c,(ut n names Â).lookup x=am c->(ut n names Â).lookup y=am c->x=y
 |[],_,_,h,_=>h
 |(z,k)::r,n,Â,h,hl=>by
  unfold ut
  split
  .refine Jv r _ _ (λx y c e1 e2=>?_) λx c e=>?_
   .rw[AO]at e1 e2;cases hx:x==z<;>cases hy:y==z<;>rw[hx]at e1<;>rw[hy]at e2
    .exact h x y c e1 e2
    .cases e2;exact absurd (hl _ _ e1) (AB _)
    .cases e1;exact absurd (hl _ _ e2) (AB _)
    .rw[eq_of_beq hx,eq_of_beq hy]
   .rw[AO]at e;cases hx:x==z<;>rw[hx]at e
    .exact C0 (hl _ _ e)
    .cases e;exact B7 _
  .exact Jv r _ _ h hl
theorem yr:∀(names:O (Str×wE)) (h:pr) (Â:O (Str×db)) (x:Str) (c:db),(ut h.objs.size names Â).lookup x=am c->Â.lookup x=am c\/(pushCells h names).IsCell c ce
 |[],_,_,_,_,e=>.inl e
 |(y,k)::r,h,Â,x,c,e=>by
  unfold ut at e;unfold pushCells
  split at e
  .rename_i hk;rw[if_pos hk];rw[<- Bt h {cls:=.type "cell",data:=.cell ce}]at e;rcases yr r _ _ x c e with a | a
   .rw[AO]at a;cases hx:x==y<;>rw[hx]at a
    .exact .inl a
    .cases a;exact .inr ⟨_,pushCells_keeps _ _ _ _ (by rw[Bt]at *;exact An _ rfl),rfl⟩
   .exact .inr a
  .rename_i hk;rw[if_neg hk];exact yr r h Â x c e
def rY{s:cr}{sc:pc}{globals:db}{builtins:db}{Q:Env->cr->Prop}(hQ:∀h',h'.Ns s.heap.objs.size (λ_=>ce)->(∀b o,s.heap.get? b=am o->h'.get? b=am o)->(∀x c,(ut (s.heap.objs.size+1) sc.names cl).lookup x=am c->cl.lookup x=am c\/h'.IsCell c ce)->
   Q (newEnv sc s.heap.objs.size globals (ut (s.heap.objs.size+1) sc.names cl) qual ce .none (am env) builtins) {s with heap:=h'}):ga M A (newFunctionEnv sc globals cl [] qual ce .none (am env) builtins) Q E s:=by
 simp only[newFunctionEnv,Gb,if_true];refine Aa (wpAny_alloc ?_);refine Aa (wpAny_layCells _ (λname kind cells=>by cases hkc:kind==CV <;> simp[hkc]) _ _ _ _ ?_);rw[List.forIn_nil,show({s with heap:=s.heap.push {cls:=.type "dict",data:=.dict #[]}}:cr).heap.objs.size=s.heap.objs.size+1 from Bt ..];refine Aa (Af (Af (hQ _ ((Heap.Ns.new s.heap (.type "dict")).keeps (pushCells_keeps _ _)) (λb o e=>pushCells_keeps _ _ b o (Ah _ e)) λx c e=>?_)));rw[<- Bt s.heap {cls:=.type "dict",data:=.dict #[]}]at e;exact yr _ _ _ _ _ e
theorem dP{env:Env}:∀{names:O (Str×wE)}{x:Str},(names.map λ(n,k)=>if (k==Bo&&env.scope.kind==.function&&env.kindOf n==am .cell) then (n,CV) else (n,k)).lookup x = (names.lookup x).map λk=>if (k==Bo&&env.scope.kind==.function&&env.kindOf x==am .cell) then CV else k
 |[],_=>rfl
 |(n,k)::r,x=>by
  have ih:=@dP env r x;show List.lookup x ((if (k==Bo&&env.scope.kind==.function&&env.kindOf n==am .cell)=true then (n,CV) else (n,k))::_)=_;cases hx:x==n with
  |true=>
   have e:=eq_of_beq hx;subst e;by_cases hc:(k==Bo&&env.scope.kind==.function&&env.kindOf x==am .cell)=true
   .rw[if_pos hc,AO,AO,hx];simp only[Cr,hc,if_true]
   .rw[if_neg hc,AO,AO,hx];simp only[Cr,hc];simp
  |false=>
   by_cases hc:(k==Bo&&env.scope.kind==.function&&env.kindOf n==am .cell)=true
   .rw[if_pos hc,AO,AO,hx];exact ih
   .rw[if_neg hc,AO,AO,hx];exact ih
def ZI(X:Cx)(Ç:O nw)(t:TT):Prop:=
 ∀(U:O (db×Obj)) (s:cr) (σ:St) (H:Hp) (Q:Bool->Hp->Prop),Inv X U σ H s->t σ H Q->
  ga (gl X.prog X.w) X.A (forIn Ç true λc r=>if r=true then do let ok <- isTrue c X.env (o0 c X.env);pure (Ct ok) else pure (Ct r)) (TP X U σ Q) X.xe s
def aet:TT:=λ_ H Q=>Q true H
def Sn:ZI X [] aet:=λU s σ H Q I h=>by
 exact Af ⟨H,I,h⟩
def Sm{c:nw}{t:TT}(hc:PT X c t):ZI X [c] t:=λU s σ H Q I h=>by
 rw[Cs];simp only[if_true,bind_assoc];exact Aa (bN (hc U s σ H Q I h) λb s1 q=>Af q)
def tLc(ix:O (Option Nat))(wi:TI)(g:TG)(tf:TT)(te:TE):TE:=λσ H Q=>wi σ H λJ H1=>∀D,H1 D=ce->∃W:Nat->Nat->St->O V->Hp->Prop,
 (∃m,W 0 m (ox ix σ) [] (upd H1 D (.lst [])))/\∀i m σ' ys H,W i m σ' ys H->H D=am (.lst ys)/\
  ((J.stop i H/\Q (.ref D) H)\/(J.go i H/\∀x H',J.Ro i H x H'->g x σ' H' λσ2 H2=>tf σ2 H2 λb H3=>
   if b=true then te σ2 H3 λy H4=>H4 D=am (.lst ys)/\ys.length+1<=sizeLine/\∃m',m'<m/\W (i+1) m' σ2 (ys++[y]) (upd H4 D (.lst (ys++[y]))) else ∃m',m'<m/\W (i+1) m' σ2 ys H3))
def lK{s:cr}{Ê:nw}{it Â:ci}(I:Nat->cr->Prop)(turn:∀n s,I n s->ga (gl prog w) A (Pi it) (λr s₁=>match r with
   |none=>R (.ok .next) s₁
   |some v=>ga (gl prog w) A (PP Ê it v) (λ_ UW=>ga (gl prog w) A (KM Ê env v) (λ_ s₂=>
     ga (gl prog w) A (forIn Ç true λc r=>if r=true then do let ok <- isTrue c env (o0 c env);pure (Ct ok) else pure (Ct r)) (λok s₃=>
      if ok=true then ga (gl prog w) A (o0 Ã env) (λx s₄=>
       ga (gl prog w) A (call (.builtin "list.append") [Â,x]) (λ_ s₅=>∃m,m < n/\I m s₅) (λ_ _=>False) s₄) (λ_ _=>False) s₃
      else ∃m,m<n/\I m s₃) (λ_ _=>False) s₂) (λ_ _=>False) UW) (λ_ _=>False) s₁) (λ_ _=>False) s) n(h:I n s):KF (gl prog w) A (.compLoop (.ListComp Ã [⟨Ê,iter,Ç,0⟩] scope pos) 0 it Â env) R s:=by
 refine codeAny_loop rfl I (λn s hI=>?_) n h;refine wpAny_noted ?_;refine Aa (DZ (Aa (BJ (turn n s hI) (λr s₁ h₁=>?_) λ_ _ h'=>h'.elim)));cases r with
 |none=>exact Af h₁
 |some v=>
  refine Aa (BJ h₁ (λ_ UW abo=>?_) λ_ _ h'=>h'.elim);refine Aa (BJ abo (λ_ s₂ h₂=>Aa (BJ h₂ (λok s₃ h₃=>?_) λ_ _ h'=>h'.elim)) λ_ _ h'=>h'.elim);cases ok with
  |false=>exact Af ⟨rfl,h₃⟩
  |true=>
   exact Aa (Aa (BJ h₃ (λx s₄ h₄=>Aa (BJ h₄ (λ_ s₅ h₅=>Af (Af ⟨rfl,h₅⟩)) λ_ _ h'=>h'.elim)) λ_ _ h'=>h'.elim))
section
variable{sc:pc}{wi:TI}{g:TG}{tf:TT}
structure acL(X:Cx)(U:List (db×Obj))(H:Hp)(C:db):Prop where
 hn:H C=ce
 hL:C≠X.env.locals
 ab:X.s₀.heap.objs.size<=C
 cl:∀x c,X.env.cells.lookup x=am c->c≠C
 pn:∀p∈X.pn++U,p.1≠C
theorem KI(hc:X.calm=true)(S:aV X.env.scope X.N sc N' ix)(hg:∀cl C s2 H2 fp,PG (dZ X sc N' cl C s2 H2 fp) tg g)(hf:∀cl C s2 H2 fp,ZI (dZ X sc N' cl C s2 H2 fp) Ç tf)(he:∀cl C s2 H2 fp,PE (dZ X sc N' cl C s2 H2 fp) Ã te){s2:cr}(uX:∀x c,cl.lookup x=am c->X.env.cells.lookup x=am c/\(x,Bo)∈sc.names)(Mo:∀x,(x,Bo)∈sc.names->∃c,cl.lookup x=am c){tn:Nat->pr->Prop}{J:It}{Q:VK}(I2:Inv X U σ H2 s2)(T:Turn X.prog X.w X.K tg J fp it tn)(Lz:tn 0 s2.heap)(f2:∀b∈fp,vn X U H2 b)(hW:∀D,H2 D=ce->∃W:Nat->Nat->St->O V->Hp->Prop,
   (∃m,W 0 m (ox ix σ) [] (upd H2 D (.lst [])))/\∀i m σ' ys H,W i m σ' ys H->H D=am (.lst ys)/\
    ((J.stop i H/\Q (.ref D) H)\/(J.go i H/\∀x H',J.Ro i H x H'->g x σ' H' λσ2 H2=>tf σ2 H2 λb H3=>
     if b=true then te σ2 H3 λy H4=>H4 D=am (.lst ys)/\ys.length+1<=sizeLine/\∃m',m'<m/\W (i+1) m' σ2 (ys++[y]) (upd H4 D (.lst (ys++[y]))) else ∃m',m'<m/\W (i+1) m' σ2 ys H3))){RR:ci->db->Result->cr->Prop}{E:ci->cr->Prop}(hRR:∀D C m s' H',Inv X U σ H' s'->Q (.ref D) H'->s'.heap.Ns C m->acL X U H' C->RR (.ref D) C (.ok .next) s'):ga (gl X.prog X.w) X.A (newList []) (λÂ s₃=>ga (gl X.prog X.w) X.A (newFunctionEnv sc X.env.globals cl [] X.env.qual ce .none (am X.env)) (λacx s₄=>
   KF (gl X.prog X.w) X.A (.compStart (.ListComp Ã [⟨tg,iter,Ç,0⟩] sc pos) 0 (.ref it) Â {acx with scope:=Os sc X.env}) (RR Â acx.locals) s₄) E s₃) E s2:=by
 refine BK (rY λh₁ IM xO Yn=>?_);generalize hH2:s2.heap.push {cls:=.type "list",dict:=ce,data:=.seq ([]).toArray}=G2 at IM xO Yn ⊢;have hC:G2.objs.size=s2.heap.objs.size+1:=by rw[<- hH2,Bt]
 obtain⟨D,hD⟩:∃D:Nat,s2.heap.objs.size=D:=⟨_,rfl⟩;obtain⟨C,hCC⟩:∃C:Nat,G2.objs.size=C:=⟨_,rfl⟩;simp only[hD,hCC]at IM xO Yn hC ⊢;have hDC:D≠C:=by lia
 have k1:=yq sc.names (C+1) cl;have k2:=Jw sc.names (C+1) cl;have k3:=Jv sc.names (C+1) cl;generalize ut (C+1) sc.names cl=QG at Yn k1 k2 k3 ⊢;have É:∀b o,s2.heap.get? b=am o->h₁.get? b=am o:=λb o e=>xO b o (hH2▸Ah _ e);have abM:h₁.get? D=am {cls:=.type "list",data:=.seq ([]:O ci).toArray}:=by
  refine xO D _ ?_;rw[<- hH2,<- hD];exact An _ rfl
 have hD2:H2 D=ce:=I2.bg.fresh ∅;obtain⟨W,⟨m0,w0⟩,turn⟩:=hW D hD2;have VY:∀x c,cl.lookup x=am c->∃v,s2.heap.IsCell c v:=λx c e=>I2.cell x c (uX x c e).1;have acu:∀x c,cl.lookup x=am c->c<D:=λx c e=>by
  obtain⟨v,q⟩:=VY x c e;have:=VZ q;exact ltN ∅
 have ą:∀b∈fp,b<D:=λb hb=>by
  obtain⟨o,e,_⟩:=T.obj 0 _ Lz b hb;have:=lsz e;exact ltN ∅
 have fpC:∀b∈fp,∀x c,QG.lookup x=am c->c≠b:=λb hb x c e=>by
  rcases k1 x c e with⟨z,_⟩|⟨_,z⟩
  .exact(f2 b hb).2.2.2.2.1 x c (uX x c z).1
  .have:=ltN (ą b hb);exact neN (a:=c) (b:=b) ∅
 have Yok:(dZ X sc N' QG C s2 H2 fp).Ok:=by
  refine⟨I2.ok.mod,S.kind,I2.ok.glob,I2.ok.blt,?_,?_,?_,?_,I2.ok.hd,I2.ok.frames,.inl rfl,?_,I2.bs,?_,?_,?_,I2.stack,I2.J6⟩
  .show s2.heap.objs.size<=C;lia
  .exact k3 (λx y c e1 e2=>I2.ok.inj x y c (uX x c e1).1 (uX y c e2).1) λx c e=>by
    have h1:C=D+1:=by lia
    exact h1▸C0 (C0 (acu x c e))
  .intro x hx;have vZ:(Os sc X.env).names.lookup x=am .cell\/(Os sc X.env).names.lookup x=am .free:=hx;unfold Os at vZ;rw[dP]at vZ;cases q:sc.names.lookup x with
   |none=>rw[q]at vZ;simp at vZ
   |some k=>
    have hm:=BI q;refine k2 x ?_;by_cases hk:k=.free
    .subst hk;exact .inr (Mo x hm)
    .rw[q]at vZ;have hb:(k==Bo)=false:=by simpa using hk
     simp only[Cr,hb,FZ,Aq,if_false]at vZ;rcases vZ with z|z
     .rw[Option.some.inj z]at hm;exact .inl hm
     .exact absurd (Option.some.inj z) hk
  .intro x c í e;have afP:sc.names.lookup x=am .cell:=eq_of_beq í;rcases k1 x c e with⟨_,z⟩|⟨_,z⟩
   .exact absurd (BI afP) z
   .show s2.heap.objs.size<=c;lia
  .intro b hb;refine⟨?_,λx c e z=>fpC b hb x c e z⟩;show b≠C;have:=ltN (ą b hb);exact neN ∅
  .exact AV I2.ok.V1 I2.sz
  .intro b o e hb;rcases (f2 b hb).2.2.2.1 with z|z
   .exact I2.ok.OP b o e z
   .have h1:=lsz (h:=X.base) e;have h2:=I2.ok.V1;lia
  .intro b hb z;rcases AD.mp (I2.HE b z) with q|q
   .exact(f2 b hb).2.1 q
   .exact(f2 b hb).2.2.1 q
 have un0:Un (Nl X.stack) fp H2 (upd H2 D (.lst [])) s2.heap h₁:=Un.laid É ∅ hD2;have IY:∀tk,Inv (dZ X sc N' QG C s2 H2 fp) [] (ox ix σ) (upd H2 D (.lst [])) {s2 with heap:=h₁,toks:=tk}:=λtk=>by
  refine⟨Yok,rfl,I2.bare,un0,⟨_,IM,λi x v e1 e2 e3=>?_⟩,λx c e=>?_,?_,λx c e=>?_,λp hp=>absurd (show p∈([]) from hp) (by simp),(I2.bg.laid É ∅ ⟨Ba _,[],0,.nil,abM⟩),?_⟩
  .have rN:=e1;unfold ox at e2;rw[Ag]at e2;cases q:ix[i]? with
   |none=>rw[q]at e2;cases e2
   |some o=>
    cases o with
    |none=>rw[q]at e2;cases e2
    |some j=>
     rw[q]at e2;have ĉ:(σ[j]?).getD ce=am v:=Option.some.inj e2;have e4:σ[j]?=am (am v):=by
      cases z:σ[j]? with
      |none=>rw[z]at ĉ;cases ĉ
      |some y=>rw[z]at ĉ;exact congrArg am ĉ
     obtain⟨a1,a2⟩:=S.at q rN;have abA:=BI a2;have hk:=S.fr _ abA rfl;obtain⟨m,_,hl⟩:=I2.loc;obtain⟨u,r,l⟩:=hl j x v a1 e4 (.inr hk);refine⟨u,r,.inr ⟨?_,?_⟩⟩
     .show(Os sc X.env).names.lookup x=am .cell\/(Os sc X.env).names.lookup x=am .free;unfold Os;rw[dP,a2];by_cases hb:(X.env.scope.kind==.function&&X.env.kindOf x==am .cell)=true
      .left
       simp only[Cr,beq_self_eq_true,F5,hb,if_true]
      .right
       simp only[Cr,beq_self_eq_true,F5,hb,if_false,Aq]
     .obtain⟨c,Į⟩:=Mo x abA;have hcy:QG.lookup x=am c:=by
       obtain⟨c',q'⟩:=k2 x (.inr ⟨c,Į⟩);rcases k1 x c' q' with⟨z,_⟩|⟨z,_⟩
       .rw[Į]at z;cases z;exact q'
       .rw[S.nc _ z rfl]at a2;cases a2
      refine⟨c,hcy,?_⟩;rcases l with⟨k,_⟩|⟨k,c',e',z⟩
      .have k':X.env.scope.names.lookup x=am .local:=k;rcases hk with y|y<;>rw[k']at y<;>cases y
      .rw[((uX x c Į).1)]at e';cases e';obtain⟨o,ho,hd⟩:=z;exact⟨o,É _ _ ho,hd⟩
  .rcases Yn x c e with z|z
   .obtain⟨v,o,ho,hd⟩:=VY x c z;exact⟨v,o,É _ _ ho,hd⟩
   .exact⟨_,z⟩
  .show upd H2 D (.lst []) C=ce;rw[ak (Bx hDC)];exact(I2.bg.fresh ∅)
  .rcases k1 x c e with⟨z,_⟩|⟨_,z⟩
   .have gw:=ltN (acu x c z);rw[ak (neN ∅)];exact I2.jH x c (uX x c z).1
   .rw[ak (neN (a:=c) (b:=D) ∅)];exact I2.bg.fresh ∅
  .unfold ox;rw[Ai];exact S.len
 have ĳ:∀{zp:O (db×Obj)}{H':Hp},(∀b∈fp,H' b=ce)->(∀p∈zp,p.1∉fp)->∀b∈fp,vn (dZ X sc N' QG C s2 H2 fp) zp H' b:=λhn hp b hb=>by
  refine⟨hn b hb,?_,?_,.inl hb,λx c e z=>fpC b hb x c e z,λp Zo z=>?_⟩
  .show b≠C;have:=ltN (ą b hb);exact neN ∅
  .exact Yok.Qd b hb
  .exact hp p Zo (z▸hb)
 have ê:∀s₃:cr,s₃={s2 with heap:=h₁}->
   KF (gl X.prog X.w) X.A (.compLoop (.ListComp Ã [⟨tg,iter,Ç,0⟩] sc pos) 0 (.ref it) (.ref D) (compEnvC sc QG C X.env)) (RR (.ref D) C) s₃:=by
  rintro s₃ rfl;refine lK (λn s'=>∃i σ' ys H',Inv (dZ X sc N' QG C s2 H2 fp) [] σ' H' s'/\tn i s'.heap/\(∀b∈fp,H' b=ce)/\W i n σ' ys H') ?_ m0
   ⟨0,_,[],_,IY _,T.keep _ _ _ Lz (λb _ o e=>É b o e),λb hb=>by rw[ak (AE (ą b hb))];exact(f2 b hb).1,w0⟩
  rintro n s3 ⟨i,σ3,ys,H3,I3,á,ò,w3⟩;obtain⟨hDl,w3⟩:=turn i n σ3 ys H3 w3;rcases w3 with⟨stop,qn⟩|⟨go,step⟩
  .refine bN (T.done (dZ X sc N' QG C s2 H2 fp) rfl rfl rfl hc i [] s3 σ3 H3 _ I3 (ĳ ò (by simp)) á stop) λr s4 ⟨hr,I4⟩=>?_;subst hr;obtain⟨m,hn,_⟩:=I4.loc;refine hRR D C m s4 H3 (I2.acy I4.os I4.base I4.bg I4.bare λb hb=>?_) qn hn ?_
   .obtain⟨a0,a1,a2,a3,a4,a5⟩:=f2 b hb;exact⟨a3,a1,a4,a5⟩
   .refine⟨I4.free,?_,?_,λx c e z=>?_,λp hp z=>?_⟩
    .have:=ltN I2.lt;exact neN ∅
    .have:=I2.sz;lia
    .obtain⟨v,q⟩:=I2.cell x c e;have:=VZ q;exact neN (a:=c) (b:=C) ∅ z
    .have:=lsz (I2.pin p hp).1;exact neN (b:=C) ∅ z
  .refine bN (T.item (dZ X sc N' QG C s2 H2 fp) rfl rfl rfl hc i [] s3 σ3 H3 (λ_ _=>False) I3 (ĳ ò (by simp)) á go) λr s4 ⟨u,hr,h4⟩=>?_;subst hr;refine bN h4 λ_ s5 ⟨x,H5,I5,r5,y5,WA,Ĳ⟩=>?_;refine bN (hg _ _ _ _ _ _ s5 σ3 H5 x u _ (I5.pinned (ĳ Ĳ (by simp)) (T.obj _ _ WA)) r5 (step x H5 y5)) λ_ s6 ⟨σ6,H6,I6,q6⟩=>?_;refine bN (hf _ _ _ _ _ _ s6 σ6 H6 _ I6 q6) λb s7 ⟨H7,I7,q7⟩=>?_;have Pa:∀{s8:cr}{σ8:St}{H8:Hp},Inv (dZ X sc N' QG C s2 H2 fp) ([]++oX fp s5.heap) σ8 H8 s8->tn (i+1) s8.heap/\∀b∈fp,H8 b=ce:=λ{s8 σ8 H8} I8=>by
    refine⟨T.keep _ _ _ WA λb hb o e=>(I8.pin (b,o) (AQ _ (AQ _ (jb hb e)))).1,λb hb=>?_⟩;obtain⟨o,e,d⟩:=T.obj _ _ WA b hb;exact(I8.pin (b,o) (AQ _ (AQ _ (jb hb e)))).2.1
   cases b with
   |false=>
    obtain⟨m',hm,w7⟩:=q7;obtain⟨t7,fr7⟩:=Pa I7;exact⟨m',hm,i+1,σ6,ys,H7,I7.jV,t7,fr7,w7⟩
   |true=>
    refine bN (he _ _ _ _ _ _ s7 σ6 H7 _ I7 q7) λyv s8 ⟨y,H8,I8,r8,hD8,hz8,m',hm,w8⟩=>?_;obtain⟨z,aq,k,rv,hl8,e8⟩:=I8.qC hD8;obtain⟨t8,fr8⟩:=Pa I8;refine wpAny_list_append_plain (s:=s8) ⟨_,e8⟩ λh9 hl9 hs9=>?_;obtain⟨k9,e9⟩:=hl9;have I9:Inv (dZ X sc N' QG C s2 H2 fp) ([]++oX fp s5.heap) σ6 (upd H8 D (.lst (ys++[y]))) {s8 with heap:=h9,toks:=s8.toks}:=by
     refine I8.write (x:=D) (e:=D) (by rw[hD8];exact trivial) (.inl rfl) (λb u hb hu=>(hs9.2 b hb).trans hu) ⟨_,e9⟩ ?_;refine⟨by rw[Al,FH];exact hz8,aq++[yv],k9,(Vals.append rv (.cons r8 .nil)),?_⟩;rw[e9];simp
    obtain⟨t9,fr9⟩:=Pa I9;exact⟨m',hm,i+1,σ6,_,_,I9.jV,t9,fr9,w8⟩
 exact codeAny_compStart_list (ê _ rfl) (T.self _ 0 _ _ _ (T.keep _ _ _ Lz λb _ o e=>É b o e) (ê _ rfl))
def aaH(hc:X.calm=true)(S:aV X.env.scope X.N sc N' ix)(hi:PI X tg iter wi)(hg:∀cl C s2 H2 fp,PG (dZ X sc N' cl C s2 H2 fp) tg g)(hf:∀cl C s2 H2 fp,ZI (dZ X sc N' cl C s2 H2 fp) Ç tf)(he:∀cl C s2 H2 fp,PE (dZ X sc N' cl C s2 H2 fp) Ã te)(hs:pV X iter:=by intro _;rfl):PE X (.ListComp Ã [⟨tg,iter,Ç,0⟩] sc pos) (tLc ix wi g tf te):=by
 intro U s σ H Q I h;obtain⟨cl,PJ,uX,Mo⟩:=me (λy hy hk=>I.ok.has y.1 (S.fr y hy hk));refine E2 rfl hs PJ S.kind S.loc (bN (hi U s σ H _ I h) λv s1 h1=>bN h1 λý s2 h2=>?_);obtain⟨it,fp,tn,J,H2,rfl,I2,T,Lz,f2,hW⟩:=h2;exact KI hc S hg hf he uX Mo I2 T Lz f2 hW λD C m s' H' I' q hn F=>⟨m,hn,λh' Ģ=>⟨.ref D,H',I'.turned (λb o hb e=>(Ģ.2 b hb).trans e) F.hn F.hL (.inr F.ab) F.cl F.pn,rfl,q⟩⟩
def Oo{i:Nat}(hc:X.calm=true)(hN:X.N.Nodup)(zX:X.N[i]?=am x)(hx:X.env.scope.names.lookup x=am .local)(S:aV X.env.scope X.N sc N' ix)(hi:PI X tg iter wi)(hg:∀cl C s2 H2 fp,PG (dZ X sc N' cl C s2 H2 fp) tg g)(hf:∀cl C s2 H2 fp,ZI (dZ X sc N' cl C s2 H2 fp) Ç tf)(he:∀cl C s2 H2 fp,PE (dZ X sc N' cl C s2 H2 fp) Ã te)(qJ:‹ss (.ListComp Ã [⟨tg,iter,Ç,0⟩] sc pos) (am (.Name x px)) m9.line X.env=pure true›)(hs:pV X iter:=by intro _;rfl):PS X (.Assign [.Name x px] (.ListComp Ã [⟨tg,iter,Ç,0⟩] sc pos) m9) (RB (tLc ix wi g tf te) (eG i)):=by
 intro U s σ H D0 I h;rw[exec_Assign_Name_used _ _ _ _ qJ];refine Aa (DZ (Aa ?_));show ga _ X.A (do let _ <- comprehension (.ListComp Ã [⟨tg,iter,Ç,0⟩] sc pos) sc X.env _ (newList []) false (o0 iter X.env) (am (KM (.Name x px) X.env))) _ _ s;have Ym:∀y∈sc.names,y.2=.free->∃c,X.env.cells.lookup y.1=am c:=λy hy hk=>I.ok.has y.1 (S.fr y hy hk);obtain⟨cl,PJ,uX,Mo⟩:=me Ym;refine Aa (BJ (E2 (use:=am (KM (.Name x px) X.env)) (Q:=λ_ s'=>SP X U D0 .next s') rfl hs PJ S.kind S.loc (bN (hi U s σ H _ I h) λv s1 h1=>bN h1 λý s2 h2=>?_)) (λ_ s' hq=>Af (Af hq)) λ_ _ e=>e);obtain⟨it,fp,tn,J,H2,rfl,I2,T,Lz,f2,hW⟩:=h2;refine KI (RR:=λÂ C=>compPost (gl X.prog X.w) X.A X.xe (am (KM (.Name x px) X.env)) (λ_ s'=>SP X U D0 .next s') Â C) (Q:=λx H1=>eG i x σ H1 D0.nx) hc S hg hf he uX Mo I2 T Lz f2 hW λD C m s' H' I' q hn F=>?_;show ga _ X.A (KM (.Name x px) X.env (.ref D)) _ _ _;refine wpAny_assign_Name (vv (v:=.ref D) I' hN zX (.inl hx) rfl (λâ I'' ġ=>?_) (.inr hx));obtain⟨a,ġ,ha⟩:=ġ;have haC:C≠a:=by
  rcases ha with z|z
  .rw[z];exact F.hL
  .exact Bx (F.cl _ _ z)
 refine⟨m,hn.sameBut ġ haC,λh' Ģ=>⟨_,H',?_,q⟩⟩;exact I''.turned (it:=C) (t':=â.toks) (λb o hb e=>(Ģ.2 b hb).trans e) F.hn F.hL (.inr F.ab) F.cl F.pn
end
section
variable{b:nw}
def qo:cb X (.builtin "isinstance") (λxs H Q=>∃x c t b,xs=[x,.ty c]/\lL X.K H x t/\Bz X.K t (.type c)=am b/\Q (.bl b) H):=by
 intro U s σ H xs us Q I r h;obtain⟨x,c,t,b,rfl,ty,hk,q⟩:=h;obtain⟨u,w',rfl,ru,zc⟩:=vals2 r;cases (zc);exact Mb I ru ty hk λtk=>⟨.bl b,H,I.tok _,rfl,q⟩
def LP(hu:X.A.units<sK):ip X (sw .NotEq) (λx y H Q=>∃p q xs,x=.ref p/\y=.ref q/\bH X.K H p xs/\bH X.K H q []/\Q (.bl (!xs.isEmpty)) H):=by
 intro U s σ H x y v u Q I rx ry h;obtain⟨p,q,xs,rfl,rfl,hp,hq,k⟩:=h;cases rx;cases ry;obtain⟨aq,r,pl,hz⟩:=I.list hp;obtain⟨cT,r2,å,Ĝ⟩:=I.list hq;cases r2;cases xs with
 |nil=>
  cases r;exact EO (F9 (e:=λ_=>true) pl.isList å.isList rfl hu λj h1=>absurd h1 (by simp)) ⟨.bl false,H,I,rfl,k⟩
 |cons y ys=>
  have hl:=r.length;exact EO (Et pl.isList å.isList (by simp at hl ⊢;intro z;subst z;simp at hl) hu) ⟨.bl true,H,I,rfl,k⟩
def qD(l:db)(items:Array ci)(n:Nat)(b:db)(bX:Array ci)(n2:Nat)(dd:Option db)(sl:Array (Option ci))(hs0:¬(!items.isEmpty&&Builtin.List.listTooLong (items.size+bX.size))=true)(oC:items.size<=sizeLine)(uC:items.size+bX.size<=sizeLine+1):Meets (wn.«list.extend» ⟨[.ref l,.ref b],[]⟩) (λ_ R s=>s.heap.get? l=am {cls:=.type "list",dict:=ce,data:=.seq items n,slots:=#[]}/\s.heap.get? b=am {cls:=.type "tuple",dict:=dd,data:=.seq bX n2,slots:=sl}/\R (.ok (.ret A3)) {s with heap:=s.heap.update l (BA λx=>x++bX),toks:=s.toks}):=
 .of_wp λprog w A R s h=>by
  obtain⟨hp,g,d,tk,os⟩:=s;obtain⟨hl,hb,h⟩:=h;have f5:=D3;
  wp_walk using (CT hl rfl),B6 hl,B6 hb;exact⟨_,rfl,h⟩
def Oh(K:Ab):V->O V->Hp->VK->Prop:=λx vs H Q=>∃l b xs zs,x=.ref l/\vs=[.ref b]/\H l=am (.lst xs)/\dF K H b zs/\xs.length+zs.length<=sizeLine/\Q .aF (upd H l (.lst (xs++zs)))
theorem Ib:Hr X "list.extend" (Oh X.K):=by
 intro U s σ H x vs v us Q I rx rv h;obtain⟨l,b,xs,zs,rfl,rfl,hH,hB,hz,q⟩:=h;cases rx;obtain⟨u,rfl,ru⟩:=rv.one;cases ru;obtain⟨z,aq,n,r,hl,e⟩:=I.qC hH;obtain⟨cT,r2,⟨⟨cls,dd,data,sl⟩,e2,hc,n2,hd⟩,z2⟩:=I.tuple hB;subst hc hd;have VD:=r2.length;have uW:aq.toArray.size+cT.toArray.size<=sizeLine:=by rw[Am,Am];lia
 have tM:¬(!aq.toArray.isEmpty&&Builtin.List.listTooLong (aq.toArray.size+cT.toArray.size))=true:=by
  rw[nC uW,DM];exact AM
 refine wv Ey ⟨_,e,rfl⟩ Ed (D2 _ _)
  (qD l aq.toArray n b cT.toArray n2 dd sl tM (by rw[Am];lia) ∅) ⟨e,e2,?_⟩
 refine⟨.aF,_,I.Ij hH e (by simp) (r.append r2) ?_,rfl,q⟩;rw[Al];lia
end
end L2
variable{xs:O L2.V}{b:Int}{k':Nat}{bb:Ck}
namespace L2
def kG(l:db)(H H':Hp):Prop:=∀b u,b≠l->H b=am u->H' b=am u
def iz(h:H p=ce)(o:HO):jD H (upd H p o):=λb u q=>by rw[ak (br q h)];exact q
def vA(o:HO):kG p H (upd H p o):=λb u n q=>by rw[ak n];exact q
def jM(H:Hp)(o:HO)(Q:VK):Prop:=∀p H',jD H H'->H' p=am o->H p=ce->Q (.ref p) H'
def jM.at{o:HO}{Q:VK}(h:jM H o Q)(p:db)(hp:H p=ce):Q (.ref p) (upd H p o):=h p _ (iz hp o) aG hp
def yW(H:Hp)(l:db)(o:HO)(Q:Hp->Prop):Prop:=∀H',kG l H H'->H' l=am o->Q H'
def yW.at{l:db}{o:HO}{Q:Hp->Prop}(h:yW H l o Q):Q (upd H l o):=h _ (vA o) aG
def ip.mono{f:ci->ci->Sem ci}{r r':R2}(h:ip X f r)(hr:∀x y H Q,r' x y H Q->r x y H Q):ip X f r':=λU s σ H x y v u Q I rx ry q=>h U s σ H x y v u Q I rx ry (hr _ _ _ _ q)
def cb.mono{f:ci}{r r':O V->Hp->VK->Prop}(h:cb X f r)(hr:∀xs H Q,r' xs H Q->r xs H Q):cb X f r':=λU s σ H xs us Q I rx q=>h U s σ H xs us Q I rx (hr _ _ _ q)
def Hr.mono{id:String}{r r':V->O V->Hp->VK->Prop}(h:Hr X id r)(hr:∀x xs H Q,r' x xs H Q->r x xs H Q):Hr X id r':=λU s σ H x xs v us Q I rx rv q=>h U s σ H x xs v us Q I rx rv (hr _ _ _ _ q)
def M9.mono{r r':M8}(h:M9 X r)(hr:∀o i v H Q,r' o i v H Q->r o i v H Q):M9 X r':=λU s σ H o i v ov iv u Q I ro ri rv q=>h U s σ H o i v ov iv u Q I ro ri rv (hr _ _ _ _ _ q)
def Y2.mono{r r':V->Option Int->Option Int->Hp->VK->Prop}(h:Y2 X r)(hr:∀x lo hi H Q,r' x lo hi H Q->r x lo hi H Q):Y2 X r':=λU s σ H x v vl vu lo hi sl Q I rx hs pl pu q=>h U s σ H x v vl vu lo hi sl Q I rx hs pl pu (hr _ _ _ _ _ q)
section
variable{t:TA}
def Z1(t:TA):TE:=λσ H Q=>t σ H λxs H1=>xs.length<=sizeLine/\jM H1 (.tup xs) Q
def UT(t:TA):TE:=λσ H Q=>t σ H λxs H1=>xs.length<=sizeLine/\jM H1 (.lst xs) Q
def So{x1}(h:PA X es t):PE X (.Tuple es x1 pos) (Z1 t):=by
 intro U s σ H Q I hq;refine wpAny_Tuple_spliced (bN (h pos U s σ H _ I hq) λus s1 ⟨xs,H1,I1,r,z,q⟩=>⟨by rw[<- r.length];exact z,?_⟩);have hf:=I1.bg.fresh (Ak _);refine⟨.ref s1.heap.objs.size,upd H1 s1.heap.objs.size (.tup xs),I1.laid (λb u e=>Ah _ e) (Ak _) ?_,rfl,q.at _ hf⟩;exact⟨z,us,r,⟨_,An _ rfl,rfl,_,rfl⟩,_,An _ rfl,rfl⟩
def wZ(h:PA X es t):PE X (.List es pos) (UT t):=by
 intro U s σ H Q I hq;refine wpAny_List_spliced (bN (h pos U s σ H _ I hq) λus s1 ⟨xs,H1,I1,r,z,q⟩=>⟨by rw[<- r.length];exact z,?_⟩);have hf:=I1.bg.fresh (Ak _);refine⟨.ref s1.heap.objs.size,upd H1 s1.heap.objs.size (.lst xs),I1.laid (λb u e=>Ah _ e) (Ak _) ?_,rfl,q.at _ hf⟩;exact⟨z,us,0,r,An _ rfl⟩
def Od(K:Ab):R2:=λx y H Q=>match x with
 |.int i=>∃j,y=.int j/\Q (.int (i+j)) H
 |.str i=>∃j,y=.str j/\i.length+j.length<=sizeLine/\Q (.str (i++j)) H
 |.ref a=>(∃b xs zs,y=.ref b/\H a=am (.lst xs)/\H b=am (.lst zs)/\xs.length+zs.length<=sizeLine/\jM H (.lst (xs++zs)) Q)\/U5 K x y H Q
 |_=>False
def SE:ip X (u8 .Add) (Od X.K):=by
 refine((Xo.or HV).or (Xn.or Ko)).mono λx y H Q h=>?_;cases x with
 |int i=>obtain⟨j,rfl,q⟩:=h;exact .inl (.inl ⟨i,j,rfl,rfl,q⟩)
 |str i=>obtain⟨j,rfl,hl,q⟩:=h;exact .inl (.inr ⟨i,j,rfl,rfl,hl,q⟩)
 |ref a=>
  rcases h with⟨b,xs,zs,rfl,h1,h2,hz,q⟩|h
  .exact .inr (.inl ⟨a,b,xs,zs,rfl,rfl,h1,h2,hz,λp hp=>q.at p hp⟩)
  .exact .inr (.inr h)
 |_=>exact h.elim
def kM:ip X (u8 .Mult) (rI tz λi j=>.int (i*j)):=opI λ_ _ _ _ _ _ _ hc q=>mul_int q hc
def U3(K:Ab):V->Option Int->Option Int->Hp->VK->Prop:=λx lo hi H Q=>∃a xs,x=.ref a/\bH K H a xs/\jM H (.lst (MP xs lo hi)) Q
def NX:Y2 X (U3 X.K):=RN.mono λx lo hi H Q ⟨a,xs,e,h,q⟩=>⟨a,xs,e,h,λp hp=>q.at p hp⟩
def JB:cb X (.type "list") (λxs H Q=>∃p ys,xs=[.ref p]/\(bH X.K H p ys\/dF X.K H p ys)/\jM H (.lst ys) Q):=yt.mono λxs H Q ⟨p,ys,e,h,q⟩=>⟨p,ys,e,h,λl hl=>q.at l hl⟩
def Oi:V->O V->Hp->VK->Prop:=λx vs H Q=>∃l xs y,x=.ref l/\vs=[y]/\H l=am (.lst xs)/\xs.length<sizeLine/\yW H l (.lst (xs++[y])) (Q .aF)
def Ic:Hr X "list.append" Oi:=LU.mono λx xs H Q ⟨l,ys,y,e1,e2,h,hz,q⟩=>⟨l,ys,y,e1,e2,h,hz,q.at⟩
def LH(K:Ab):V->O V->Hp->VK->Prop:=λx vs H Q=>∃l b xs zs,x=.ref l/\vs=[.ref b]/\H l=am (.lst xs)/\dF K H b zs/\xs.length+zs.length<=sizeLine/\yW H l (.lst (xs++zs)) (Q .aF)
def zD:Hr X "list.extend" (LH X.K):=Ib.mono λx xs H Q ⟨l,b,ys,zs,e1,e2,h1,h2,hz,q⟩=>⟨l,b,ys,zs,e1,e2,h1,h2,hz,q.at⟩
def aat:V->O V->Hp->VK->Prop:=λx vs H Q=>∃l xs y,x=.ref l/\vs=[]/\H l=am (.lst (xs++[y]))/\yW H l (.lst xs) (Q y)
def SV:Hr X "list.pop" aat:=Xx.mono λx xs H Q ⟨l,ys,y,e1,e2,h,q⟩=>⟨l,ys++[y],y,e1,e2,h,by simp,by rw[List.dropLast_concat];exact q.at⟩
def Oc:M8:=λo i v H Q=>∃p xs k j,o=.ref p/\i=.int k/\H p=am (.lst xs)/\uB xs.length k=am j/\yW H p (.lst (xs.set j v)) Q
def oS:M9 X Oc:=set_list.mono λo i v H Q ⟨p,xs,k,j,e1,e2,h,hj,q⟩=>⟨p,xs,k,j,e1,e2,h,hj,q.at⟩
end
section
variable(K:Ab)(hK:X.K=K){a:nw}{t:TA}{name:Str}{Zk:String}{r:V->O V->Hp->VK->Prop}
include hK
def bT:Rl X (rIx K):=hK▸XY
def kN:ip X (u8 .Add) (Od K):=hK▸SE
def NW:Y2 X (U3 K):=hK▸NX
def W3(K:Ab):O V->Hp->VK->Prop:=λxs H Q=>∃x n,xs=[x]/\acF K x H n/\Q (.int n) H
def wu:cb X (.builtin "len") (W3 K):=hK▸QK
def Oe(K:Ab):O V->Hp->VK->Prop:=λxs H Q=>∃p ys,xs=[.ref p]/\(bH K H p ys\/dF K H p ys)/\jM H (.lst ys) Q
def JA:cb X (.type "list") (Oe K):=hK▸JB
def W2(K:Ab):R2:=λx y H Q=>∃p q xs,x=.ref p/\y=.ref q/\bH K H p xs/\bH K H q []/\Q (.bl (!xs.isEmpty)) H
def my(hu:X.A.units<sK):ip X (sw .NotEq) (W2 K):=hK▸LP hu
def aek(K:Ab)(ta:TE):TT:=λσ H Q=>ta σ H λx H'=>∃k,YZ K x H' k/\Q k H'
def vF(ha:PE X a ta)(he:∀Ä,isTrue a X.env Ä=(do let v <- Ä;standAt a.pos;KB [v] (truthy v))):PT X a (aek K ta):=hK▸Om ha he
def Ss(pa:PlainAttrs T)(slot:Slot T name Zk)(Tz:typeOf (.builtin Zk)=pure (.type "method_descriptor"))(hm:MtR X Zk r)(ho:PE X o to)(cL:‹re o name X.env (o0 o X.env)=o0 o X.env›)(cK:‹Nr À bb›):PE X (.Call (.Attribute o name À) [] [] bb) (Z9 K T r to):=hK▸Xe pa slot Tz hm ho cL cK
def oY(pa:PlainAttrs T)(slot:Slot T name Zk)(Tz:typeOf (.builtin Zk)=pure (.type "method_descriptor"))(hm:MtR X Zk r)(ho:PE X o to)(ha:PA X (e::es) t)(cL:‹re o name X.env (o0 o X.env)=o0 o X.env›)(kj:‹V6 X bb (e::es)›)(cK:‹Nr À bb›)(hs:‹gE X e es›)(cu:‹kH X bb es›):PE X (.Call (.Attribute o name À) (e::es) [] bb) (tBM K T r to t):=hK▸aaI pa slot Tz hm ho ha cL kj cK hs cu
omit hK
end
structure Q4(P:wP)(w:Db)(K:Ab)(mg:Str->Option ci)(base:pr)(x:Str)(k:Nat)(ps:List Str)(sp:Sp) where
 f:db
 fd:FuncData
 ok:lM P w K mg base Hk k f fd ps sp
 bi:Binds K fd ps []
 kp:Er K (.ref f)=true
 at':mg x=am (.ref f)
section
variable{p:Pos}{t:TA}
def Z8(sp:Sp)(t:TA):TE:=λσ H Q=>t σ H λvs H1=>sp vs H1 Q E0
def HS(G:Q4 X.prog X.w X.K X.mg X.base x k ps sp)(hr:dz k' X.A)(hk:k<=k')(hg:Gl X x)(ha:PA X (e::es) t)(lH: ~~~(iQ x))(he:‹gE X e es›)(dG:‹kH X pos es›):PE X (.Call (.Name x p) (e::es) [] pos) (Z8 sp t):=by
 intro U s σ H Q I h;refine BD (KG I hg G.at' ?_ lH);refine PySem.W.callWith_K I.ok.mod.kin G.kp (bN (ha pos U s σ H _ I h) λus s1 ⟨vs,H1,I1,r,q⟩=>⟨I1.vU,?_⟩) he dG;refine WJ G.ok (hr.mono hk) G.bi .nil aaK I1 r ?_;rw[CU];exact q
end
section
variable{t u:TS}{tA Wx:TT}{g:TG}{Q:VK}{QT:Bool->Hp->Prop}{QA:O V->Hp->Prop}{QS:St->Hp->Prop}{i:Nat}{ts:TA}
def WQ(h:t {D with nx:=u D} σ H):Z2 t u D σ H:=h
def R5(h:D.nx σ H):US D σ H:=h
def WW(h:te σ H λx H1=>g x σ H1 D.nx):RB te g D σ H:=h
def R6(h:QS (σ.set i (am v)) H):eG i v σ H QS:=h
def WM(e:σ[i]?=am (am v))(h:Q v H):Wu i σ H Q:=⟨v,e,h⟩
def aeK(h:Q v H):tC v σ H Q:=h
def aam{r:R2}(h:ta σ H λx H1=>tb σ H1 λy H2=>r x y H2 Q):UR r ta tb σ H Q:=h
def aeN{C:Int->Int->Prop}{f:Int->Int->V}{a:Int}(c:C a b)(h:Q (f a b) H):rI C f (.int a) (.int b) H Q:=⟨a,b,rfl,rfl,c,h⟩
def WR(h:te σ H D.rt):Z3 te D σ H:=h
def R7(h:te σ H λ_ H1=>D.nx σ H1):UU te D σ H:=h
def WV(h:tA σ H λb H1=>if b=true then t D σ H1 else u D σ H1):Z5 tA t u D σ H:=h
def R4(h:te σ H λx H'=>∃k,x=.bl k/\QT k H'):UQ te σ H QT:=h
def WX(h:tA σ H λc H1=>if c=true then Wx σ H1 QT else QT false H1):aab tA Wx σ H QT:=h
def WS(h:QA [] H):Wv σ H QA:=h
def R8(h:ta σ H λx H1=>ts σ H1 λxs H2=>QA (x::xs) H2):NL ta ts σ H QA:=h
def WU(h:ts σ H λxs H1=>xs.length<=sizeLine/\jM H1 (.lst xs) Q):UT ts σ H Q:=h
def aaq{k:Bool}{R:Bool->Prop}(h:R k):∃c,V.bl k=.bl c/\R c:=⟨k,rfl,h⟩
def aap{K:Ab}{r:V->O V->Hp->VK->Prop}(h:te σ H λx H1=>ZV K T x H1/\ts σ H1 λxs H2=>r x xs H2 Q):tBM K T r te ts σ H Q:=h
def WO{ti:TE}{tt:M8}(h:to σ H λo H1=>ti σ H1 λi H2=>tt o i v H2 λH3=>QS σ H3):abT to ti tt v σ H QS:=h
def R9{K:Ab}{a:Int}(h:Q (.int (a+b)) H):Od K (.int a) (.int b) H Q:=⟨b,rfl,h⟩
def cW{K:Ab}{n:Int}(h1:bH K H a xs)(h2:d9 xs n=am v)(h:Q v H):rIx K (.ref a) (.int n) H Q:=.inl ⟨a,xs,n,v,rfl,rfl,h1,h2,h⟩
end
section
def Kg{k:Int}{QH:Hp->Prop}(h1:H p=am (.lst xs))(hj:uB xs.length k=am j)(h:∀H',kG p H H'->H' p=am (.lst (xs.set j v))->QH H'):Oc (.ref p) (.int k) v H QH:=⟨p,xs,k,j,rfl,rfl,h1,hj,h⟩
def WN{K:Ab}{l:db}(h:H l=am (.lst xs)):ZV K "list" (.ref l) H:=.inl ⟨rfl,_,bH.of h⟩
def Vd{j:Int}(h1:-18446744073709551616<i)(h2:i<18446744073709551616):tz i j:=UO.ok (.inl ⟨h1,h2⟩)
def mul_r{j:Int}(h1:-18446744073709551616<j)(h2:j<18446744073709551616):tz i j:=UO.ok (.inr ⟨h1,h2⟩)
end
def bW(h:n<=1000):n<=sizeLine:=El (LB h)
section
variable(K:Ab)(hK:X.K=K)
include hK
def W5(K:Ab):R2:=λx y H Q=>∃p q xs,x=.ref p/\y=.ref q/\bH K H p xs/\bH K H q []/\Q (.bl xs.isEmpty) H
def HU(hu:X.A.units<sK):ip X (sw .Eq) (W5 K):=by
 subst hK;intro U s σ H x y v u Q I rx ry h;obtain⟨p,q,xs,rfl,rfl,hp,hq,k⟩:=h;cases rx;cases ry;obtain⟨aq,r,pl,hz⟩:=I.list hp;obtain⟨cT,r2,å,Ĝ⟩:=I.list hq;cases r2;cases xs with
 |nil=>
  cases r;refine Fu (Gn (e:=λ_=>true) pl.isList å.isList rfl hu λj h1=>absurd h1 (by simp)) ?_;exact⟨.bl true,H,I,rfl,k⟩
 |cons y ys=>
  have hl:=r.length;refine Fu (EU pl.isList å.isList (by simp at hl ⊢;intro z;subst z;simp at hl) hu) ?_;exact⟨.bl false,H,I,rfl,k⟩
omit hK
end
end L2
variable{p1:Ck}
namespace L2
theorem Vals.zf:∀{xs:O V}{us:O ci},Vals xs us->Vals xs.reverse us.reverse
 |_,_,.nil=>.nil
 |_,_,.cons h t=>by rw[DH,DH];exact(Vals.zf t).append (.cons h .nil)
def XC:Gc (.type "list_reverseiterator") (Cf "__len__")=pure ce:=by kernel_rfl
def S4:Gc (.type "list_reverseiterator") (Cf "__length_hint__")=pure (am (.builtin "list_reverseiterator.__length_hint__")):=by kernel_rfl
def RH:splitId "list_reverseiterator.__length_hint__"=am ("list_reverseiterator","__length_hint__"):=by kernel_rfl
def RC:isSubtype (.type "list_reverseiterator") (.type "list_reverseiterator")=pure true:=by kernel_rfl
def PC{s:cr}{r l:db}{Q:Bool->cr->Prop}(h:s.heap.IsRevIter r l i)(q:Q false s):ga (gl prog w) A (Builtin.List.listLengthHint (AJ r)) Q E s:=by
 refine Aa (Fv h.typeIs XC ?_);refine Aa (Fv h.typeIs S4 ?_);dsimp only;rw[RH];dsimp only;exact Aa (C9 h.typeIs RC (Af q))
def uR{s:cr}{r l S:db}(hA:A.handled=ce)(h:s.heap.IsRevIter r l (items.size-1))(hl:s.heap.IsList l items)(Ml:l≠r)(į:S≠r)(hSl:S≠l)(hz:items.size<=sizeLine)(hS:s.heap.get? S=am {cls:=C2 "list",data:=Ge #[]})(q:∀(h':pr) (tk:Nat) (Â:Array ci) (c:Nat),(∀b o,b≠S->b≠r->s.heap.get? b=am o->h'.get? b=am o)->h'.get? S=am {cls:=C2 "list",data:=Ge Â c}->ItemsOf (λi v=>items[items.size-1-i]?=am v) Â items.size->R (.ok (.ret .none)) {s with heap:=h',toks:=tk}):
  ga (gl prog w) A.in1 (wn.«list.__init__» {pos:=[AJ S,AJ r]})
   (λfin s'=>match fin with|Ex f=>R (Except.ok f) s'|Fin.again c'=>c'.quiet=true/\KF (gl prog w) A c' R s') (λe s'=>R (Gj e) s') s:=by
 unfold wn.«list.__init__»;refine Aa (wpAny_listItems hS rfl ?_);refine Aa ?_;refine CT hS rfl ?_ (by simp) (by simp);refine Aa (Cy ?_);have k1:∀b o,b≠S->s.heap.get? b=am o->(s.heap.update S (BA λ_=>#[])).get? b=am o:=λb o hb e=>by rw[BV _ _ (Bx hb)];exact e
 have hS1:=B2 (BA λ_=>#[]) hS rfl;generalize s.heap.update S (BA λ_=>#[])=h1 at k1 hS1 ⊢;have Ā:h1.IsRevIter r l (items.size-1):=let ⟨o,e,p⟩:=h;⟨o,k1 _ _ (Bx į) e,p⟩;have Zr:h1.IsList l items:=let ⟨o,e,p⟩:=hl;⟨o,k1 _ _ (Bx hSl) e,p⟩;unfold Builtin.List.listExtendWith;refine Aa (wpAny_typeOf Ā.typeIs ?_);rw[if_neg (by
  have e1:Builtin.List.listSameRef (AJ S) (AJ r)=false:=by
   unfold Builtin.List.listSameRef;simpa using į
  rw[e1];decide)]
 refine Aa (wpAny_pyIter_revIter Ā ?_);refine Aa (Bp (PC Ā ?_));refine Af ⟨BT F.plain_extend_loop _,?_⟩;refine codeAny_extend_loopS (Walks.toS (Walks.listRev (A:=A.in1) hA r l Ml items)) hz S (by simp[į,hSl]) .none items.size 0 _ #[] _ (Ek _) (Ba _) ⟨Ba _,by simpa using Ā,Zr⟩ hS1 (ItemsOf.nil _) ?_;intro s' Â c mv e io;rw[mv.eq_with];exact q s'.heap s'.toks Â c (λb o n1 n2 e'=>mv.heap b o (by simp[n1,n2]) (k1 b o n1 e')) e io
def vh{s:cr}{r l:db}(hA:A.handled=ce)(h:s.heap.IsRevIter r l (items.size-1))(hl:s.heap.IsList l items)(Ml:l≠r)(hz:items.size<=sizeLine)(q:∀(h':pr) (tk:Nat) (Â:Array ci) (c:Nat),(∀b o,b≠r->s.heap.get? b=am o->h'.get? b=am o)->h'.get? s.heap.objs.size=am {cls:=C2 "list",data:=Ge Â c}->ItemsOf (λi v=>items[items.size-1-i]?=am v) Â items.size->Q (.ref s.heap.objs.size) {s with heap:=h',toks:=tk}):ga (gl prog w) A (call (C2 "list") [AJ r]) Q E s:=by
 have lr:=let ⟨_,e,_⟩:=h;Ap e;have ll:=let ⟨_,e,_⟩:=hl;Ap e;refine callType_codes F.called_list (F.typeCall_list_1 _) F.entry_list_init (code_list_new (Q₁:=λv s₁=>v=.ref s.heap.objs.size/\s₁={s with heap:=s.heap.push {cls:=C2 "list",data:=Ge #[]}}) _ ⟨rfl,rfl⟩) ?_;rintro obj s₁ ⟨rfl,rfl⟩;refine⟨⟨_,An _ rfl,rfl⟩,F.args_list_init_2 _ _,?_⟩;have kp:∀b o,s.heap.get? b=am o->(s.heap.push {cls:=C2 "list",data:=Ge #[]}).get? b=am o:=λb o e=>Ah _ e;refine uR hA (let ⟨o,e,p⟩:=h;⟨o,kp _ _ e,p⟩) (let ⟨o,e,p⟩:=hl;⟨o,kp _ _ e,p⟩) Ml (λz=>by rw[z]at lr;exact AB _ lr) (λz=>by rw[z]at ll;exact AB _ ll) hz (An _ rfl) ?_;intro h' tk Â c k e io;exact⟨rfl,q h' tk Â c (λb o n e'=>k b o (λz=>by rw[z]at e';exact AB _ (Ap e')) n (kp b o e')) e io⟩
def tLR(K:Ab)(te:TE):TE:=λσ H Q=>te σ H λx H1=>∃p ys,x=.ref p/\bH K H1 p ys/\jM H1 (.lst ys.reverse) Q
section
variable(K:Ab)(hK:X.K=K){p2 q1 q2:Pos}
include hK
theorem HQ(hc:X.calm=true)(ī:Gl X "list")(ħ:X.mg "list"=ce)(Ī:Gl X "reversed")(Zq:X.mg "reversed"=ce)(he:PE X e te)(oC:‹gt [.Call (.Name "reversed" q1) [e] [] q2] X.env=(false,o0 (.Call (.Name "reversed" q1) [e] [] q2) X.env)::gt [] X.env›)(uC:‹gE X e []›):PE X (.Call (.Name "list" p1) [.Call (.Name "reversed" q1) [e] [] q2] [] p2) (tLR K te):=by
 intro U s σ H Q I h;subst hK;refine BD (gp I ī ħ boot_list ?_ ⋯ ⋯);refine Bj ?_ oC rfl;refine B5 ?_;refine BD (gp I Ī Zq boot_reversed ?_ ⋯ ⋯);refine Bj ?_ uC rfl;rw[uC];refine B5 (bN (he U s σ H _ I h) λu s1 ⟨x,H1,I1,r1,pa,ys,ex,hS,q⟩=>Cv ?_);subst ex;cases r1;obtain⟨aq,rv,pl,hz⟩:=I1.list hS;have Á:=rv.length;have lp:=let ⟨_,e,_⟩:=pl.isList;Ap e;refine call_reversed_list pl.isList ?_;refine Cv ?_;have kp:∀b o,s1.heap.get? b=am o->(s1.heap.push (revObj pa (aq.toArray.size-1))).get? b=am o:=λb o e=>Ah _ e;refine vh (I1.ok.hd hc) ⟨_,An _ rfl,rfl,rfl⟩ (let ⟨o,e,p⟩:=pl.isList;⟨o,kp _ _ e,p⟩) (λz=>by rw[z]at lp;exact AB _ lp) (by rw[Am];lia) ?_;intro h' tk Â c k e io;have ea:Â=aq.reverse.toArray:=by
  obtain⟨z1,z2⟩:=io;apply Array.ext
  .rw[z1,Am,Am,CD]
  .intro j h1 h2;have:=z2 j Â[j] (Dg h1);rw[Am]at this;have hj:j<aq.length:=by rw[z1,Am]at h1;exact h1
   rw[FI]at this;have e3:aq.reverse[j]?=am Â[j]:=by rw[DS hj];exact this
   rw[List.getElem_toArray];exact(Option.some.inj (((Ad (by rw[CD];exact hj)).symm.trans e3))).symm
 subst ea;have uC:s1.heap.objs.size<=(s1.heap.push (revObj pa (aq.toArray.size-1))).objs.size:=by simp
 exact⟨.ref _,upd H1 _ (.lst ys.reverse),I1.laid (λb o eb=>k b o (λz=>by rw[z]at eb;exact AB _ (Ap eb)) (kp b o eb)) uC ⟨by rw[CD];exact hz,aq.reverse,c,rv.zf,e⟩,rfl,q.at _ (I1.bg.fresh uC)⟩
end
end L2
namespace My
inductive Tr where
 |leaf (x:Str)
 |node (l r:Tr)
def Tr.au:Tr->O Str
 |.leaf x=>[x]
 |.node l r=>l.au++r.au
def Tr.size:Tr->Nat
 |.leaf _=>1
 |.node l r=>l.size+r.size+1
def Tr.depth:Tr->Nat
 |.leaf _=>0
 |.node l r=>max l.depth r.depth+1
theorem Tr.gn:∀t:Tr,1<=t.au.length
 |.leaf _=>Ak _
 |.node l r=>by have:=l.gn;show 1<=(l.au++r.au).length;rw[Al];lia
theorem Tr.ue:∀t:Tr,t.depth<t.au.length
 |.leaf _=>B7 0
 |.node l r=>by
  have h1:=l.ue;have h2:=r.ue;have h4:=r.gn;show max l.depth r.depth+1<(l.au++r.au).length;rw[Al];lia
theorem Tr.size_eq:∀t:Tr,t.size+1=2*t.au.length
 |.leaf _=>rfl
 |.node l r=>by
  have h1:=l.size_eq;have h2:=r.size_eq;show l.size+r.size+1+1=2*(l.au++r.au).length;rw[Al];lia
def eF(ts:O Tr):Nat:=(ts.map Tr.size).sum
def fK(a b:O Tr):eF (a++b)=eF a+eF b:=by unfold eF;rw[AR,List.sum_append]
def oQ(t:Tr):eF [t]=t.size:=by simp[eF]
theorem Tr.size_pos:∀t:Tr,1<=t.size
 |.leaf _=>Ak _
 |.node l r=>by show 1<=l.size+r.size+1;lia
theorem vQ:∀ts:O Tr,ts.length<=eF ts
 |[]=>Ak _
 |t::r=>by have:=vQ r;have:=t.size_pos;show r.length+1<=t.size+eF r;lia
end My
variable{x:A9}{σ:L2.St}{i:Nat}
namespace L2
def gJ{s:cr}{t:db}(h:s.heap.IsTupleIter it t i)(ht:s.heap.IsTuple t items)(hx:items[i]?=am x)(q:∀h':pr,h'.IsTupleIter it t (i+1)->Cu it s.heap h'->Q x {s with heap:=h'}):ga (gl prog w) A (Builtin.SmallTypes.nextOf (.ref it)) Q E s:=by
 unfold Builtin.SmallTypes.nextOf;refine Aa (A6 h.typeIs Cn (Bm Cn h.typeIs Ej ?_ (D8 _)));obtain⟨o,ho,hc,hd⟩:=id h;obtain⟨ot,ĥ,htc,n,Ġ⟩:=id ht;show ga _ _ (field (.ref it) 0 >>= λseq=>_) _ _ s;refine Aa (A4 ho hd rfl ?_);refine Aa (A4 ho hd rfl ?_);refine Aa (Bu ĥ Ġ ?_);show ga _ _ (match items[i]? with|some x=>(do setField (.ref it) 1 (wT (i+1));ret x)|none=>_) _ _ s;rw[hx];refine Aa (EB ho hd (show 1<2 by decide) ?_);refine Af ⟨x,rfl,Af (q _ ⟨_,B2 _ ho (by rw[FE (Dq hd _)]),by rw[Obj.cls_mapFields];exact hc,by rw[Dq hd];rfl⟩ (Cu.update ..))⟩
def RE{s:cr}{Q:α->cr->Prop}(hA:A.handled=ce)(q:∀(h':pr) (e:db),(∀b o,s.heap.get? b=am o->h'.get? b=am o)->(∃o,h'.get? e=am o/\o.cls=.type "StopIteration")->E (.ref e) {s with heap:=h'}):ga (gl prog w) A (Builtin.SmallTypes.stopIteration (α:=α)) Q E s:=by
 refine Aa ?_;refine Aa (CH ?_ ⋯);refine Aa (Br rfl ?_);refine BK ?_ (sizeOk_excFields ..);unfold raiseNew;refine Aa (wpAny_handled ?_);rw[hA];refine wpAny_throw (q _ _ (λb o e=>Ah _ (Ah _ e)) ⟨_,An _ rfl,rfl⟩)
def iC{s:cr}{t:db}(hA:A.handled=ce)(h:s.heap.IsTupleIter it t i)(ht:s.heap.IsTuple t items)(hx:items[i]?=ce)(q:∀(h':pr) (e:db),FO it s.heap h'->(∃o,h'.get? e=am o/\o.cls=.type "StopIteration")->E (.ref e) {s with heap:=h'}):ga (gl prog w) A (Builtin.SmallTypes.nextOf (.ref it)) Q E s:=by
 unfold Builtin.SmallTypes.nextOf;refine Aa (A6 h.typeIs Cn (Bm Cn h.typeIs Ej ?_ (D8 _)));obtain⟨o,ho,hc,hd⟩:=id h;obtain⟨ot,ĥ,htc,n,Ġ⟩:=id ht;show ga _ _ (field (.ref it) 0 >>= λseq=>_) _ _ s;refine Aa (A4 ho hd rfl ?_);refine Aa (A4 ho hd rfl ?_);refine Aa (Bu ĥ Ġ ?_);show ga _ _ (match items[i]? with|some x=>(do setField (.ref it) 1 (wT (i+1));ret x)|none=>(do rule _;setField (.ref it) 0 .none;Builtin.SmallTypes.stopIteration)) _ _ s;rw[hx];refine Aa (C3 ?_);refine Aa (EB ho hd (show 0<2 by decide) ?_);refine RE hA λh' e k ex=>q h' e (λb o n eb=>k b o ?_) ex;rw[(Cu.update _ _ _).2 b n];exact eb
def Inv.m6{s:cr}{t':Nat}{o:HO}(I:Inv X U σ H s)(hf:∀b∈ch,vn X U H b)(k:∀b u,b∉ch->s.heap.get? b=am u->h'.get? b=am u)(hp:s.heap.objs.size<=a)(new:bh X.prog X.w (upd H a o) h' a o):Inv X U σ (upd H a o) {s with heap:=h',toks:=t'}:=by
 have hn:=I.bg.fresh hp;have Vc:∀b u,H b=am u->b∉ch:=λb u e z=>by rw[(hf b z).1]at e;cases e
 refine I.step (λb hb=>⟨(hf b hb).2.2.2.1,(hf b hb).2.1,(hf b hb).2.2.2.2.1,(hf b hb).2.2.2.2.2⟩) (λb u _ _ hc e _=>k b u hc e) (λb u _ _ hc e _=>⟨u.slots,k b u hc e⟩)
  (λb u _ e n=>by rw[ak (AE (Ay (Ap e) hp))];exact n) (λb u hc e=>⟨u,k b u hc e⟩) (λb xs e=>by rw[ak (br e hn)];exact e) (λb u xs e=>by rw[ak (br e hn)];exact e)
  (λb ps e=>⟨#[],by rw[ak (br e hn),e];simp⟩) (λm hm=>?_) (λb u e=>?_) I.bare
 .obtain⟨o',es,ep,ho,r⟩:=hm;exact⟨o',es,ep,k _ o' (λz=>(hf _ z).2.1 rfl) ho,r⟩
 .by_cases hb:b=a
  .subst hb;rw[aG]at e;cases e;exact new
  .rw[ak hb]at e;refine(I.bg b u e).wJ (λc v hc q=>k c v ?_ q) (λc q=>by rw[ak (br q hn)];exact q) λc xs q=>by rw[ak (br q hn)];exact q
   rcases hc with z|z
   .rw[z];exact Vc b u e
   .exact Vc c _ z
def Inv.qX{s:cr}{t':Nat}(I:Inv X U σ H s)(hf:∀b∈ch,vn X U H b)(k:∀b u,b∉ch->s.heap.get? b=am u->h'.get? b=am u):Inv X U σ H {s with heap:=h',toks:=t'}:=by
 have Vc:∀b u,H b=am u->b∉ch:=λb u e z=>by rw[(hf b z).1]at e;cases e
 refine I.step (λb hb=>⟨(hf b hb).2.2.2.1,(hf b hb).2.1,(hf b hb).2.2.2.2.1,(hf b hb).2.2.2.2.2⟩) (λb u _ _ hc e _=>k b u hc e) (λb u _ _ hc e _=>⟨u.slots,k b u hc e⟩)
  (λ_ _ _ _ n=>n) (λb u hc e=>⟨u,k b u hc e⟩) (λ_ _ e=>e) (λ_ _ _ e=>e) (λb ps e=>⟨#[],by rw[e];simp⟩) (λm hm=>?_) (λb u e=>?_) I.bare
 .obtain⟨o',es,ep,ho,r⟩:=hm;exact⟨o',es,ep,k _ o' (λz=>(hf _ z).2.1 rfl) ho,r⟩
 .refine(I.bg b u e).wJ (λc v hc q=>k c v ?_ q) (λ_ q=>q) λ_ _ q=>q;rcases hc with z|z
  .rw[z];exact Vc b u e
  .exact Vc c _ z
def jR(h:Vals xs us):∀{i:Nat}{x:V},xs[i]?=am x->∃u,us[i]?=am u/\RelV x u:=by
 induction h with
 |nil=>intro i x e;simp at e
 |cons r t ih=>
  intro i x e;cases i with
  |zero=>simp at e;subst e;exact⟨_,rfl,r⟩
  |succ i=>exact ih (by simpa using e)
end L2
variable{e:Bg}{É:A9}{Ì:O BC}
namespace L2
def qN{E:ci->cr->Prop}{s:cr}{t:db}(uD:e≠it)(ÿ:t≠e)(TC:t≠it)(hz:FM s.heap e it i É)(hi:s.heap.IsTupleIter it t i)(ht:s.heap.IsTuple t items)(hx:items[i]?=am x)(q:∀(h':pr) (tk:Nat),IsEnumOut h' e it (i+1:Nat) x s.heap.objs.size->h'.IsTupleIter it t (i+1)->IR h' s.heap.objs.size (.int i s.toks) x->(∀c o,c≠e->c≠it->s.heap.get? c=am o->h'.get? c=am o)->Q (.ref s.heap.objs.size) {s with heap:=h',toks:=tk}):ga (gl prog w) A (wn.«enumerate.__next__» {pos:=[.ref e]}) (λfin s'=>∃v,fin=Ex (E5 v)/\Q v s') E s:=by
 show ga _ _ (field (.ref e) 2 >>= λr=>_) _ _ s;refine Aa (A4 hz rfl rfl ?_);refine Aa (gJ hi ht hx λh1 j1 b1=>?_);have z1:=(b1.2 _ uD).trans hz;refine Aa (A4 z1 rfl rfl ?_);refine Aa (A4 z1 rfl rfl ?_);refine Aa (wpAny_mkInt ?_);refine Aa (AL z1 (show 3 < 6 by decide) λh2 z2 b2=>?_);refine Aa (AL z2 (show 4 < 6 by decide) λh3 z3 b3=>?_);refine Aa (CH ?_ (by show 2<=sizeLine;decide));have kp:∀b o,h3.get? b=am o->(h3.push {cls:=.type "tuple",data:=.seq [CF i s.toks,x].toArray}).get? b=am o:=λb o e=>Ah _ e;have HZ:(h3.push {cls:=.type "tuple",data:=.seq [CF i s.toks,x].toArray}).get? h3.objs.size=am {cls:=.type "tuple",data:=.seq #[.int i s.toks,x]}:=An _ rfl;generalize h3.push {cls:=.type "tuple",data:=.seq [CF i s.toks,x].toArray}=h4 at kp HZ ⊢;have z4:=kp _ _ z3;refine Aa ?_;refine Aa (A4 z4 rfl rfl ?_);refine Af ?_;refine Aa (C3 ?_);refine Aa (A4 z4 rfl rfl ?_);refine Aa (AL z4 (show 5 < 6 by decide) λh5 z5 b5=>?_);refine Aa ?_;refine Aa (AL z5 (show 0 < 6 by decide) λh6 z6 b6=>?_);refine AL z6 (show 1 < 6 by decide) λh7 z7 b7=>?_;refine Aa (Cy ?_);have IP:∀b,b≠e->h7.get? b=h4.get? b:=λb n=>(b7.2 b n).trans ((b6.2 b n).trans (b5.2 b n));have ne:s.heap.objs.size≠e:=λz=>by have:=Ap hz;rw[<- z]at this;exact AB _ this
 refine Af ⟨.ref h3.objs.size,rfl,?_⟩;rw[(b3.1.trans (b2.1.trans b1.1))]at z7 HZ ⊢;refine q h7 _ ?_ ?_ ?_ ?_
 .exact z7
 .obtain⟨o,eo,p⟩:=j1;refine⟨o,?_,p⟩;rw[IP _ (Bx uD)];exact kp _ _ ((b3.2 _ (Bx uD)).trans ((b2.2 _ (Bx uD)).trans eo))
 .rw[IR,IP _ ne];exact HZ
 .intro c o n1 n2 ec;rw[IP _ n1];exact kp _ _ (((λb n1 n2=>(b3.2 b n1).trans ((b2.2 b n1).trans (b1.2 b n2))) _ n1 n2).trans ec)
def ub{s:cr}{t:db}{Q:PySem.Fin->cr->Prop}(hA:A.handled=ce)(hz:FM s.heap e it i É)(hi:s.heap.IsTupleIter it t i)(ht:s.heap.IsTuple t items)(hx:items[i]?=ce)(q:∀(h':pr) (x:db),(∀c o,c≠it->s.heap.get? c=am o->h'.get? c=am o)->(∃o,h'.get? x=am o/\o.cls=.type "StopIteration")->E (.ref x) {s with heap:=h'}):ga (gl prog w) A (wn.«enumerate.__next__» {pos:=[.ref e]}) Q E s:=by
 show ga _ _ (field (.ref e) 2 >>= λr=>_) _ _ s;exact Aa (A4 hz rfl rfl (Aa (iC hA hi ht hx λh' x k ex=>q h' x (λc o n e'=>k c o n e') ex)))
def nj{s:cr}{t:db}{Q:Option ci->cr->Prop}(uD:e≠it)(ÿ:t≠e)(TC:t≠it)(hz:FM s.heap e it i É)(hi:s.heap.IsTupleIter it t i)(ht:s.heap.IsTuple t items)(hx:items[i]?=am x)(q:∀(h':pr) (tk:Nat),IsEnumOut h' e it (i+1:Nat) x s.heap.objs.size->h'.IsTupleIter it t (i+1)->IR h' s.heap.objs.size (.int i s.toks) x->(∀c o,c≠e->c≠it->s.heap.get? c=am o->h'.get? c=am o)->Q (am (.ref s.heap.objs.size)) {s with heap:=h',toks:=tk}):ga (gl prog w) A (Pi (.ref e)) Q E s:=by
 have ty:s.TypeIs (.ref e) "enumerate":=⟨_,hz,rfl⟩;refine Aa (CB (A6 ty Bv (Bm Bv ty CP ?_ (CG _))));exact qN uD ÿ TC hz hi ht hx λh' tk a b c d=>Af (q h' tk a b c d)
def oU{s:cr}{t:db}{Q:Option ci->cr->Prop}(hA:A.handled=ce)(hz:FM s.heap e it i É)(hi:s.heap.IsTupleIter it t i)(ht:s.heap.IsTuple t items)(hx:items[i]?=ce)(q:∀h':pr,(∀c o,c≠it->s.heap.get? c=am o->h'.get? c=am o)->Q ce {s with heap:=h'}):ga (gl prog w) A (Pi (.ref e)) Q E s:=by
 have ty:s.TypeIs (.ref e) "enumerate":=⟨_,hz,rfl⟩;refine Aa (CB (A6 ty Bv (Bm Bv ty CP ?_ (CG _))));refine ub hA hz hi ht hx λh' x k ex=>?_;obtain⟨o,eo,hc⟩:=ex;exact Aa (C9 ⟨o,eo,hc⟩ isSubtype_stop (Af (q h' k)))
def qA(t:db)(items:Array ci):Meets (wn.«enumerate.__new__» {pos:=[.type "enumerate",.ref t]}) (λ_ R s=>s.heap.IsTuple t items/\
  ∀h':pr,FM h' (s.heap.objs.size+1) s.heap.objs.size (0:Nat) .none->h'.IsTupleIter s.heap.objs.size t 0->(∀b o,s.heap.get? b=am o->h'.get? b=am o)->R (.ok (.ret (.ref (s.heap.objs.size+1)))) {s with heap:=h'}):=
 .of_wp λprog w A R s h=>by
  obtain⟨h1,q⟩:=h;refine Aa ?_;refine Aa (Br rfl ?_);refine Aa (Br sub_enumerate ?_);refine Af ?_;refine Aa ?_;refine Aa (wpAny_stack_any λst=>Af ?_);have fin:ga (gl prog w) A.in1 (pyIter (.ref t) >>= λit=>(Builtin.SmallTypes.newRecord (.type "enumerate") (Builtin.SmallTypes.ownedTupleFields++[it,wT 0,.none,.none]) >>= λr=>ret r)) (λfin s'=>∃v,fin=Ex (E5 v)/\R (Except.ok (E5 v)) s') (λe s'=>R (Gj e) s') s:=by
   refine Aa (EC h1 ?_);have k1:∀b o,s.heap.get? b=am o->(s.heap.push {cls:=.type "tuple_iterator",data:=.fields #[.ref t,.int 0 0]}).get? b=am o:=λb o e=>Ah _ e;have g1:(s.heap.push {cls:=.type "tuple_iterator",data:=.fields #[.ref t,.int 0 0]}).get? s.heap.objs.size=am {cls:=.type "tuple_iterator",data:=.fields #[.ref t,.int 0 0]}:=An _ rfl;have z1:(s.heap.push {cls:=.type "tuple_iterator",data:=.fields #[.ref t,.int 0 0]}).objs.size=s.heap.objs.size+1:=Bt ..;generalize s.heap.push {cls:=.type "tuple_iterator",data:=.fields #[.ref t,.int 0 0]}=yR at k1 g1 z1 ⊢;show ga _ _ (newObj (.type "enumerate") (.fields #[.none,.bool false,.ref s.heap.objs.size,wT 0,.none,.none]) >>= λr=>ret r) _ _ _;refine Aa (BK ?_ (by simp[sizeOk];decide));have g2:(yR.push {cls:=.type "enumerate",data:=.fields #[.none,.bool false,.ref s.heap.objs.size,wT 0,.none,.none]}).get? yR.objs.size=am {cls:=.type "enumerate",data:=.fields #[.none,.bool false,.ref s.heap.objs.size,wT 0,.none,.none]}:=An _ rfl;refine Af ⟨.ref yR.objs.size,rfl,?_⟩;rw[z1]at g2 ⊢;exact q _ g2 ⟨_,Ah _ g1,rfl,rfl⟩ λb o e=>Ah _ (k1 _ _ e)
  refine wpAny_ite_split (λ_=>?_) (λ_=>?_)
  .exact Aa (Br rfl fin)
  .exact Aa (Br rfl fin)
def JD{s:cr}{t:db}(h1:s.heap.IsTuple t items)(q:∀h':pr,FM h' (s.heap.objs.size+1) s.heap.objs.size (0:Nat) .none->h'.IsTupleIter s.heap.objs.size t 0->(∀b o,s.heap.get? b=am o->h'.get? b=am o)->Q (.ref (s.heap.objs.size+1)) {s with heap:=h'}):ga (gl prog w) A (call (.type "enumerate") [.ref t]) Q E s:=
 callType_new Dr ⋯ (F.typeCall_enumerate_1 _) (F.newCall_enumerate_1 _) (λo=>F.args_object_init_2 o _) F.entry_enumerate_new (qA t items) ⟨h1,λh' z i k=>⟨⟨_,z,rfl⟩,q h' z i k⟩⟩
def Ite(K:Ab)(a:db):It where
 go:=λi H=>∃xs x,dF K H a xs/\xs[i]?=am x
 Ro:=λi H v H'=>∃p x,v=.ref p/\H p=ce/\H'=upd H p (.tup [.int i,x])/\∀xs,dF K H a xs->xs[i]?=am x
 stop:=λi H=>∃xs,dF K H a xs/\xs.length<=i
theorem Lr{K:Ab}{kk:Nat}{t:db}(uD:e≠it)(ÿ:t≠e)(TC:t≠it):Turn P w K (.Tuple Ì kk pos) (Ite K t) [e,it] e (λi h=>(∃É,FM h e it (i:Nat) É)/\h.IsTupleIter it t i) where
 mem:=by simp
 obj:=λi h st b hb=>by
  simp at hb;rcases hb with rfl|rfl
  .obtain⟨⟨_,e⟩,_⟩:=st;exact⟨_,e,λv z=>by cases z⟩
  .obtain⟨_,⟨o,e,_,d⟩⟩:=st;exact⟨o,e,λv z=>by rw[d]at z;cases z⟩
 keep:=λi h h' st k=>⟨let ⟨o,e'⟩:=st.1;⟨o,k e (by simp) _ e'⟩,let ⟨o,e',p⟩:=st.2;⟨o,k it (by simp) _ e',p⟩⟩
 item:=by
  intro X hP hw hK hc i U s σ H E I hf st hg;subst hP hw hK;obtain⟨xs,x,hx,gx⟩:=hg;obtain⟨aq,rx,tx,_⟩:=I.tuple hx;obtain⟨u,gu,ru⟩:=jR rx gx;obtain⟨⟨É,hz⟩,hi⟩:=st;refine nj uD ÿ TC hz hi tx (by simpa using gu) λh' tk zo j np k=>?_;refine⟨_,rfl,?_⟩;refine C4 zo λh2 z2 b2=>?_;have le:=Ap hz;have li:=let ⟨_,e',_⟩:=hi;Ap e';have lt:∀b∈[e,it],b<s.heap.objs.size:=λb hb=>by
   simp at hb;rcases hb with rfl|rfl
   .exact le
   .exact li
  have XM:∀b o,b∉[e,it]->s.heap.get? b=am o->h2.get? b=am o:=λb o hb e'=>by
   have Px:b≠e:=λq=>hb (by simp[q]);rw[b2.2 b Px];exact k b o Px (λq=>hb (by simp[q])) e'
  refine⟨.ref s.heap.objs.size,upd H s.heap.objs.size (.tup [.int i,x]),I.m6 hf XM (Ak _) ⟨by show 2<=sizeLine;decide,[.int i s.toks,u],.cons ⟨_,rfl⟩ (.cons ru .nil),⟨_,((b2.2 _ (λz=>AB _ (by have:=le;rw[<- z]at this;exact this))).trans np),rfl,_,rfl⟩,_,((b2.2 _ (λz=>AB _ (by have:=le;rw[<- z]at this;exact this))).trans np),rfl⟩,rfl,⟨_,x,rfl,(I.bg.fresh (Ak s.heap.objs.size)),rfl,λxs' h'=>by rw[I.kJ h' hx];exact gx⟩,⟨⟨_,z2⟩,let ⟨o,e',p⟩:=j;⟨o,(b2.2 _ (Bx uD)).trans e',p⟩⟩,λb hb=>?_⟩;rw[ak (AE (lt b hb))];exact(hf b hb).1
 done:=by
  intro X hP hw hK hc i U s σ H E I hf st hg;subst hP hw hK;obtain⟨xs,hx,hl⟩:=hg;obtain⟨aq,rx,tx,_⟩:=I.tuple hx;have el:=rx.length;obtain⟨⟨É,hz⟩,hi⟩:=st;refine oU (I.ok.hd hc) hz hi tx (by simp;lia) λh' k=>⟨rfl,I.qX hf λb o hb e'=>k b o (λz=>hb (by simp[z])) e'⟩
 self:=λA i s Q E st h=>let ⟨_,e'⟩:=st.1;Cw e' h
end L2
namespace My
def Tr.post:Tr->O Tr
 |.leaf x=>[.leaf x]
 |.node l r=>l.post++r.post++[.node l r]
def Tr.jZ:∀t:Tr,t.post.length=t.size
 |.leaf _=>rfl
 |.node l r=>by show(l.post++r.post++[_]).length=l.size+r.size+1;rw[Al,Al,l.jZ,r.jZ];rfl
def iB(ts:O Tr):O Tr:=(ts.map Tr.post).flatten
def iZ(a b:O Tr):iB (a++b)=iB a++iB b:=by unfold iB;rw[AR,List.flatten_append]
def oV(t:Tr):iB [t]=t.post:=by simp[iB]
def LJ(t u:Tr):iB [t,u]=t.post++u.post:=by simp[iB]
inductive Ent where
 |word (x:Str)
 |pair (a b:Nat)
def Tr.nd:Tr->Nat->O Ent
 |.leaf x,_=>[.word x]
 |.node l r,o=>l.nd o++r.nd (o+l.size)++[.pair (o+l.size-1) (o+l.size+r.size-1)]
def Tr.bx:∀(t:Tr) (o:Nat),(t.nd o).length=t.size
 |.leaf _,_=>rfl
 |.node l r,o=>by show(l.nd o++r.nd (o+l.size)++[_]).length=l.size+r.size+1;rw[Al,Al,l.bx,r.bx];rfl
def run:O Tr->O Ent->O Nat->Option (O Ent×O Nat)
 |[],Z,ls=>am (Z,ls)
 |.leaf x::k,Z,ls=>run k (Z++[.word x]) (Z.length::ls)
 |.node _ _::k,Z,b::a::ls=>run k (Z++[.pair a b]) (Z.length::ls)
 |.node _ _::_,_,_=>ce
theorem sC:∀(t:Tr) (k:O Tr) (Z:O Ent) (ls:O Nat),run (t.post++k) Z ls=run k (Z++t.nd Z.length) ((Z.length+t.size-1)::ls)
 |.leaf x,k,Z,ls=>rfl
 |.node l r,k,Z,ls=>by
  have e1:(Tr.node l r).post++k=l.post++(r.post++(Tr.node l r::k)):=by show l.post++r.post++[_]++k=_;simp
  rw[e1,sC l,sC r];have e2:(Z++l.nd Z.length).length=Z.length+l.size:=by rw[Al,l.bx]
  rw[e2];show run k _ _=run k _ _;have e3:(Z++l.nd Z.length++r.nd (Z.length+l.size)).length=Z.length+(Tr.node l r).size-1:=by
   rw[Al,Al,l.bx,r.bx];show _=Z.length+(l.size+r.size+1)-1;lia
  rw[e3];have e4:Z++(Tr.node l r).nd Z.length=Z++l.nd Z.length++r.nd (Z.length+l.size)++[.pair (Z.length+l.size-1) (Z.length+l.size+r.size-1)]:=by
   show Z++(l.nd Z.length++r.nd (Z.length+l.size)++[_])=_;simp
  rw[e4]
def LD(t:Tr):run t.post [] []=am (t.nd 0,[t.size-1]):=by
 have:=sC t [] [] [];rw[CU]at this;rw[this];show am ([]++t.nd 0,[0+t.size-1])=_;simp
def QU(l:O V)(i:Nat):Ent->O V
 |.word _=>l
 |.pair a b=>(l.set a (.int i)).set b (.int i)
def ah:O Ent->Nat->O V->O V
 |[],_,l=>l
 |e::es,i,l=>ah es (i+1) (QU l i e)
theorem yB:∀(es:O Ent) (e:Ent) (i:Nat) (l:O V),ah (es++[e]) i l=QU (ah es i l) (i+es.length) e
 |[],e,i,l=>rfl
 |x::es,e,i,l=>by
  show ah (es++[e]) (i+1) (QU l i x)=QU (ah es (i+1) (QU l i x)) (i+(es.length+1)) e;rw[yB es e];congr 1;lia
def UD(l:O V)(i:Nat)(e:Ent):(QU l i e).length=l.length:=by cases e with
 |word=>rfl
 |pair=>show((l.set _ _).set _ _).length=_;rw[BH,BH]
theorem JG:∀(es:O Ent) (i:Nat) (l:O V),(ah es i l).length=l.length
 |[],_,_=>rfl
 |e::es,i,l=>by show(ah es (i+1) (QU l i e)).length=_;rw[JG es,UD]
end My
variable{b:BC}{p:Ck}
namespace L2
def Itd(lo:Int)(n:Nat):It:=⟨λi _=>i<n,λi H x H'=>H'=H/\x=.int (lo-i),λi _=>n<=i⟩
theorem yY{K:Ab}(it:db)(lo:Int)(n:Nat):Turn P w K tg (Itd lo n) [it] it (λi h=>IsRangeIter h it (lo+(i:Nat)*(-1)) ((n:Int)-(i:Nat)) (-1)) where
 mem:=by simp
 obj:=λi h st b hb=>by
  have e:b=it:=by simpa using hb
  subst e;exact⟨_,st,λv z=>by
   have z':=z;cases z'⟩
 keep:=λi h h' st k=>k it (by simp) _ st
 item:=by
  intro X hP hw hK hc i U s σ H E I hf st hg;subst hP hw hK;obtain⟨f0,f1,f2,f3,f4,f5⟩:=hf it (by simp);refine(Walks.range (prog:=X.prog) (I.ok.hd hc) it lo (-1) n).item i s _ _ hg st λv h' tk hv qZ kk=>?_;obtain⟨t,rfl⟩:=hv;refine⟨_,rfl,zZ qZ rfl rfl ⋯ ⟨.int (lo-i),H,(I.turned (λb o hb e=>kk b o (by simpa using hb) e) f0 f1 f3 f4 f5),⟨t,?_⟩,⟨rfl,rfl⟩,qZ,λb hb=>(hf b hb).1⟩⟩;rw[show lo+i*(-1)=lo-i by lia]
 done:=by
  intro X hP hw hK hc i U s σ H E I hf st hg;obtain⟨f0,f1,f2,f3,f4,f5⟩:=hf it (by simp);exact wpAny_pyNext_range_end (I.ok.hd hc) st (by have:n<=i:=hg;lia) λh' eb=>⟨rfl,I.turned (λb o hb e=>eb b o hb e) f0 f1 f3 f4 f5⟩
 self:=λ_ _ _ _ _ st h=>wpAny_pyIter_rangeiter st h
section
theorem LG{σ:St}{s:cr}{R:It->Hp->Prop}{lo:Int}{t u v:Tok}{tk:Nat}(I:Inv X U σ H s)(h1:-(2 ^ 62)<=lo)(h2:lo < 2 ^ 62)(h3:-(2 ^ 62)<=hi)(h4:hi < 2 ^ 62)(q:R (Itd lo (lo-hi).toNat) H):ga (gl X.prog X.w) X.A (pyIter (.ref s.heap.objs.size)) (PIE X U σ tg R) E {s with heap:=s.heap.push {cls:=.type "range",data:=.fields #[.int lo t,.int hi u,.int (-1) v]},toks:=tk}:=by
 refine wpAny_pyIter_range (IsRange.new ..) (PySem.W.small_down h1 h2 h3 h4) ?_;have I1:Inv X U σ H {s with heap:=s.heap.push {cls:=.type "range",data:=.fields #[.int lo t,.int hi u,.int (-1) v]},toks:=tk}:=I.kept λb o e=>Ah _ e;refine⟨(s.heap.push {cls:=.type "range",data:=.fields #[.int lo t,.int hi u,.int (-1) v]}).objs.size,[(s.heap.push {cls:=.type "range",data:=.fields #[.int lo t,.int hi u,.int (-1) v]}).objs.size],_,_,H,rfl,
  I1.kept λb o e=>Ah _ e,yY _ lo (lo-hi).toNat,?_,λb hb=>?_,q⟩
 .have e1:lo+((0:Nat))*(-1)=lo:=by simp
  have e2:(((lo-hi).toNat))-((0:Nat):Int)=Builtin.Range.rangeSize lo hi (-1):=by rw[PySem.W.rangeSize_down];split<;>lia
  rw[e1,e2];exact An _ rfl
 .have e:b=(s.heap.push {cls:=.type "range",data:=.fields #[.int lo t,.int hi u,.int (-1) v]}).objs.size:=by simpa using hb
  subst e;exact I1.xW (Ak _) (I1.bg.fresh (Ak _))
def abm(ta:TA):TI:=λσ H R=>ta σ H λvs H1=>∃i j:Int,vs=[.int i,.int j,.int (-1)]/\(-(2 ^ 62)<=i/\i<2 ^ 62/\-(2 ^ 62)<=j/\j<2 ^ 62)/\R (Itd i (i-j).toNat) H1
def LM{a c:nw}{ta:TA}(hg:Gl X "range")(hm:X.mg "range"=ce)(ha:PA X [a,b,c] ta)(hs:‹gt [a,b,c] X.env=[(false,o0 a X.env),(false,o0 b X.env),(false,o0 c X.env)]›)(uC:‹gt [b,c] X.env=[(false,o0 b X.env),(false,o0 c X.env)]›):PI X tg (.Call (.Name "range" p) [a,b,c] [] pos) (abm ta):=by
 intro U s σ H R I h;refine Call_ (gp I hg hm boot_range (Bj (bN (ha pos U s σ H _ I h) λus s1 ⟨vs,H1,I1,r1,q1⟩=>?_) (by show gt _ _=_;rw[hs,uC]) (by rw[uC];rfl)));obtain⟨i,j,e,⟨q1,q2,q3,q4⟩,q⟩:=q1;subst e;cases r1 with
 |cons r rr=>
  cases rr with
  |cons r' rr=>
   cases rr with
   |cons r'' rr=>
    cases rr;obtain⟨t,rfl⟩:=r;obtain⟨t',rfl⟩:=r';obtain⟨t'',rfl⟩:=r'';refine call_range_3 ⋯ (LG I1 q1 q2 q3 q4 q) (.inl ?_);unfold Builtin.divisionGoesByPylong;have e1:decide ((if ((-1)==0)=true then 0 else (-1:Int).natAbs.log2 / 30+1) > 300)=false:=by decide
    simp only[e1,FZ]
end
def acH(K:Ab)(a:db):It where
 go:=λi H=>∃xs x,bH K H a xs/\xs[i]?=am x
 Ro:=λi H v H'=>∃p x,v=.ref p/\H p=ce/\H'=upd H p (.tup [.int i,x])/\∀xs,bH K H a xs->xs[i]?=am x
 stop:=λi H=>∃xs,bH K H a xs/\xs.length<=i
theorem Hy{K:Ab}{kk:Nat}{t:db}(uD:e≠it):Turn P w K (.Tuple Ì kk pos) (acH K t) [e,it] e (λi h=>(∃É,FM h e it (i:Nat) É)/\h.IsListIter it t i) where
 mem:=by simp
 obj:=λi h st b hb=>by
  simp at hb;rcases hb with rfl|rfl
  .obtain⟨⟨_,e⟩,_⟩:=st;exact⟨_,e,λv z=>by cases z⟩
  .obtain⟨_,⟨o,e,_,d⟩⟩:=st;exact⟨o,e,λv z=>by rw[d]at z;cases z⟩
 keep:=λi h h' st k=>⟨let ⟨o,e'⟩:=st.1;⟨o,k e (by simp) _ e'⟩,let ⟨o,e',p⟩:=st.2;⟨o,k it (by simp) _ e',p⟩⟩
 item:=by
  intro X hP hw hK hc i U s σ H E I hf st hg;subst hP hw hK;obtain⟨xs,x,hx,gx⟩:=hg;obtain⟨aq,rx,tx,_⟩:=I.list hx;obtain⟨u,gu,ru⟩:=jR rx gx;obtain⟨⟨É,hz⟩,hi⟩:=st;refine wpAny_pyNext_enum_item hz hi tx.isList (by simpa using gu) uD λh' zo j np _ k=>?_;refine⟨_,rfl,?_⟩;refine C4 zo λh2 z2 b2=>?_;have le:=Ap hz;have li:=let ⟨_,e',_⟩:=hi;Ap e';have lt:∀b∈[e,it],b<s.heap.objs.size:=λb hb=>by
   simp only[AD,CJ,or_false]at hb;rcases hb with rfl|rfl
   .exact le
   .exact li
  have XM:∀b o,b∉[e,it]->s.heap.get? b=am o->h2.get? b=am o:=λb o hb e'=>by
   have Px:b≠e:=λq=>hb (by simp[q]);rw[b2.2 b Px];exact k b o Px (λq=>hb (by simp[q])) e'
  refine⟨.ref s.heap.objs.size,upd H s.heap.objs.size (.tup [.int i,x]),I.m6 hf XM (Ak _) ⟨by show 2<=sizeLine;decide,[.int i s.toks,u],.cons ⟨_,rfl⟩ (.cons ru .nil),⟨_,((b2.2 _ (λz=>AB _ (by have:=le;rw[<- z]at this;exact this))).trans np),rfl,_,rfl⟩,_,((b2.2 _ (λz=>AB _ (by have:=le;rw[<- z]at this;exact this))).trans np),rfl⟩,rfl,⟨_,x,rfl,(I.bg.fresh (Ak s.heap.objs.size)),rfl,λxs' h'=>by rw[I.tB h' hx];exact gx⟩,⟨⟨_,z2⟩,let ⟨o,e',p⟩:=j;⟨o,(b2.2 _ (Bx uD)).trans e',p⟩⟩,λb hb=>?_⟩;rw[ak (AE (lt b hb))];exact(hf b hb).1
 done:=by
  intro X hP hw hK hc i U s σ H E I hf st hg;subst hP hw hK;obtain⟨xs,hx,hl⟩:=hg;obtain⟨aq,rx,tx,_⟩:=I.list hx;have el:=rx.length;obtain⟨⟨É,hz⟩,hi⟩:=st;refine wpAny_pyNext_enum_end (I.ok.hd hc) hz hi tx.isList (by simp;lia) λh' k=>⟨rfl,I.qX hf λb o hb e'=>k b o (λz=>hb (by simp[z])) e'⟩
 self:=λA i s Q E st h=>let ⟨_,e'⟩:=st.1;Cw e' h
def aV.rel{so:pc}{N:O Str}{sc:pc}(S:aV so N sc N' ix):aV (Os so env) N sc N' ix:=by
 refine⟨S.kind,S.nc,S.loc,λy hy hk=>?_,S.nd,S.len,S.map⟩;unfold Os;rw[dP];rcases S.fr y hy hk with h|h
 .rw[h];left;rfl
 .rw[h];by_cases c:(env.scope.kind==.function&&env.kindOf y.1==am .cell)=true
  .left;simpa using c
  .right;simp at c ⊢;exact c
end L2
namespace My
def en:Tr->Nat->Nat->Ent
 |.leaf x,_,_=>.word x
 |.node l r,o,j=>if j<l.size then en l o j else if j<l.size+r.size then en r (o+l.size) (j-l.size) else .pair (o+l.size-1) (o+l.size+r.size-1)
def up:Tr->Nat->Nat->O Nat->O Nat
 |.leaf _,o,_,ab=>o::ab
 |.node l r,o,j,ab=>if j<l.size then up l o j ((o+l.size+r.size)::ab) else if j<l.size+r.size then up r (o+l.size) (j-l.size) ((o+l.size+r.size)::ab) else (o+l.size+r.size)::ab
def jP:Tr->Nat->Nat->V->V
 |.leaf _,_,_,p=>p
 |.node l r,o,j,p=>if j<l.size then jP l o j (.int (o+l.size+r.size:Nat)) else if j<l.size+r.size then jP r (o+l.size) (j-l.size) (.int (o+l.size+r.size:Nat)) else p
def be:Tr->Nat->Nat->O Nat
 |.leaf _,o,_=>[o]
 |.node l r,o,j=>if j<l.size then be l o j else if j<l.size+r.size then be r (o+l.size) (j-l.size) else be l o (l.size-1)++be r (o+l.size) (r.size-1)
theorem lO:∀(t:Tr) (o j:Nat),j<t.size->(t.nd o)[j]?=am (en t o j)
 |.leaf x,o,j,h=>by
  have:j=0:=by have:j<1:=h;lia
  subst this;rfl
 |.node l r,o,j,h=>by
  have es:(Tr.node l r).size=l.size+r.size+1:=rfl;have hn:(Tr.node l r).nd o=l.nd o++r.nd (o+l.size)++[.pair (o+l.size-1) (o+l.size+r.size-1)]:=rfl;have ln:=l.bx o;have rn:=r.bx (o+l.size);unfold en;by_cases c1:j<l.size
  .rw[if_pos c1,hn,Ax,A1 ∅];exact lO l o j c1
  .rw[if_neg c1];by_cases c2:j<l.size+r.size
   .rw[if_pos c2,hn,Ax,Bc ∅,A1 ∅,ln];exact lO r _ _ ∅
   .rw[if_neg c2,hn,Bc (by rw[Al];lia),Al,ln,rn];have:j-(l.size+r.size)=0:=by lia
    rw[this];rfl
theorem QN:∀(t:Tr) (o j:Nat),j<t.size->(∃x,en t o j=.word x/\be t o j=[o+j])\/∃a b,en t o j=.pair (o+a) (o+b)/\a<j/\b<j/\be t o j=be t o a++be t o b
 |.leaf x,o,j,h=>by
  have:j=0:=by have:j<1:=h;lia
  subst this;exact .inl ⟨x,rfl,rfl⟩
 |.node l r,o,j,h=>by
  have es:(Tr.node l r).size=l.size+r.size+1:=rfl;have lp:=l.size_pos;have rp:=r.size_pos;by_cases c1:j<l.size
  .have e1:en (.node l r) o j=en l o j:=by rw[en,if_pos c1]
   have e2:∀k,k<l.size->be (.node l r) o k=be l o k:=λk hk=>by rw[be,if_pos hk]
   rw[e1];rcases QN l o j c1 with⟨x,q1,q2⟩|⟨a,b,q1,q2,q3,q4⟩
   .exact .inl ⟨x,q1,by rw[e2 j c1];exact q2⟩
   .exact .inr ⟨a,b,q1,q2,q3,by rw[e2 j c1,e2 a ∅,e2 b ∅];exact q4⟩
  .by_cases c2:j<l.size+r.size
   .have e1:en (.node l r) o j=en r (o+l.size) (j-l.size):=by rw[en,if_neg c1,if_pos c2]
    have e2:∀k,k<r.size->be (.node l r) o (l.size+k)=be r (o+l.size) k:=λk hk=>by
     rw[be,if_neg ∅,if_pos ∅];congr 1;lia
    have ej:j=l.size+(j-l.size):=by lia
    rw[e1];rcases QN r (o+l.size) (j-l.size) ∅ with⟨x,q1,q2⟩|⟨a,b,q1,q2,q3,q4⟩
    .refine .inl ⟨x,q1,?_⟩;rw[ej,e2 _ ∅,q2];congr 1;lia
    .refine .inr ⟨l.size+a,l.size+b,?_,by lia,by lia,?_⟩
     .rw[q1,A8,A8]
     .rw[e2 a ∅,e2 b ∅,ej,e2 _ ∅,q4]
   .have ej:j=l.size+r.size:=by lia
    refine .inr ⟨l.size-1,l.size+r.size-1,?_,by lia,by lia,?_⟩
    .rw[en,if_neg c1,if_neg c2];congr 1<;>lia
    .rw[be,if_neg c1,if_neg c2,be,if_pos ∅,be,if_neg ∅,if_pos ∅];congr 2;lia
theorem si:∀(t:Tr) (o j:Nat) (p:V) (ab:O Nat),j<t.size->(j=t.size-1/\jP t o j p=p/\up t o j ab=(o+j)::ab)\/∃a,j<a/\a<t.size/\jP t o j p=.int (o+a:Nat)/\up t o j ab=(o+j)::up t o a ab
 |.leaf x,o,j,p,ab,h=>by
  have:j=0:=by have:j<1:=h;lia
  subst this;exact .inl ⟨rfl,rfl,rfl⟩
 |.node l r,o,j,p,ab,h=>by
  have es:(Tr.node l r).size=l.size+r.size+1:=rfl;have lp:=l.size_pos;have rp:=r.size_pos;have er:up (.node l r) o (l.size+r.size) ab=(o+l.size+r.size)::ab:=by rw[up,if_neg ∅,if_neg ∅]
  by_cases c1:j<l.size
  .have e1:jP (.node l r) o j p=jP l o j (.int (o+l.size+r.size:Nat)):=by rw[jP,if_pos c1]
   have e2:∀k,k<l.size->up (.node l r) o k ab=up l o k ((o+l.size+r.size)::ab):=λk hk=>by rw[up,if_pos hk]
   rw[e1,e2 j c1];rcases si l o j (.int (o+l.size+r.size:Nat)) ((o+l.size+r.size)::ab) c1 with⟨q1,q2,q3⟩|⟨a,q1,q2,q3,q4⟩
   .refine .inr ⟨l.size+r.size,by lia,by lia,by rw[q2,A8],by rw[q3,er]⟩
   .exact .inr ⟨a,q1,by lia,q3,by rw[q4,e2 a q2]⟩
  .by_cases c2:j<l.size+r.size
   .have e1:jP (.node l r) o j p=jP r (o+l.size) (j-l.size) (.int (o+l.size+r.size:Nat)):=by rw[jP,if_neg c1,if_pos c2]
    have e2:∀k,k<r.size->up (.node l r) o (l.size+k) ab=up r (o+l.size) k ((o+l.size+r.size)::ab):=λk hk=>by
     rw[up,if_neg ∅,if_pos ∅];congr 1;lia
    obtain⟨i,rfl⟩:∃i,j=l.size+i:=⟨j-l.size,by lia⟩;have ei:l.size+i-l.size=i:=by lia
    rw[e1,e2 i ∅,ei];rcases si r (o+l.size) i (.int (o+l.size+r.size:Nat)) ((o+l.size+r.size)::ab) ∅ with⟨q1,q2,q3⟩|⟨a,q1,q2,q3,q4⟩
    .refine .inr ⟨l.size+r.size,by lia,by lia,by rw[q2,A8],by rw[q3,er,A8]⟩
    .exact .inr ⟨l.size+a,by lia,by lia,by rw[q3,A8],by rw[q4,e2 a q2,A8]⟩
   .have ej:j=l.size+r.size:=by lia
    refine .inl ⟨by lia,by rw[jP,if_neg c1,if_neg c2],?_⟩;rw[ej,er,A8]
def mf:Tr->Nat->V->O V
 |.leaf _,_,p=>[p]
 |.node l r,o,p=>mf l o (.int (o+l.size+r.size:Nat))++mf r (o+l.size) (.int (o+l.size+r.size:Nat))++[p]
theorem jA:∀(t:Tr) (o:Nat) (p:V),(mf t o p).length=t.size
 |.leaf _,_,_=>rfl
 |.node l r,o,p=>by
  unfold mf;rw[Al,Al,jA l,jA r];rfl
theorem Ld(t:Tr)(o:Nat)(p q:V)(A B:O V):(A++mf t o p++B).set (A.length+t.size-1) q=A++mf t o q++B:=by
 have key:∃I,mf t o p=I++[p]/\mf t o q=I++[q]:=by
  cases t with
  |leaf _=>exact⟨[],rfl,rfl⟩
  |node l r=>exact⟨_,rfl,rfl⟩
 obtain⟨I,e1,e2⟩:=key;have h1:=jA t o p;rw[e1,Al]at h1;have fV:I.length+1=t.size:=h1;rw[e1,e2];have ei:A.length+t.size-1=(A++I).length:=by rw[Al];lia
 rw[ei,show A++(I++[p])++B=(A++I)++p::B by simp,List.set_append_right _ _ (Ak _),Ff];simp
theorem QR:∀(es fs:O Ent) (i:Nat) (l:O V),ah (es++fs) i l=ah fs (i+es.length) (ah es i l)
 |[],fs,i,l=>rfl
 |e::es,fs,i,l=>by
  show ah (es++fs) (i+1) (QU l i e)=ah fs (i+(es.length+1)) (ah es (i+1) (QU l i e));rw[QR es fs];congr 1;lia
theorem JH:∀(t:Tr) (A B:O V),ah (t.nd A.length) A.length (A++Ao t.size .aF++B)=A++mf t A.length .aF++B
 |.leaf x,A,B=>rfl
 |.node l r,A,B=>by
  have es:(Tr.node l r).size=l.size+r.size+1:=rfl;have hn:(Tr.node l r).nd A.length=l.nd A.length++r.nd (A.length+l.size)++[.pair (A.length+l.size-1) (A.length+l.size+r.size-1)]:=rfl;have ln:=l.bx A.length;have h1:=JH l A (Ao r.size .aF++([V.aF]++B));have e0:A++Ao (Tr.node l r).size V.aF++B=A++Ao l.size .aF++(Ao r.size .aF++([V.aF]++B)):=by
   rw[es,<- DN,<- DN];simp only[Ax];rfl
  rw[hn,yB,QR,e0,h1,ln];have la:(A++mf l A.length V.aF).length=A.length+l.size:=by rw[Al,jA]
  have h2:=JH r (A++mf l A.length V.aF) ([V.aF]++B);rw[la]at h2;have e1:A++mf l A.length V.aF++(Ao r.size V.aF++([V.aF]++B))=A++mf l A.length V.aF++Ao r.size V.aF++([V.aF]++B):=by simp[Ax]
  rw[e1,h2,Al,ln,(r.bx (A.length+l.size))];show((_:O V).set (A.length+l.size-1) _).set (A.length+l.size+r.size-1) _=_;have e2:A++mf l A.length V.aF++mf r (A.length+l.size) V.aF++([V.aF]++B)=A++mf l A.length V.aF++(mf r (A.length+l.size) V.aF++([V.aF]++B)):=by simp[Ax]
  rw[e2,(Ld l A.length .aF (.int (A.length+(l.size+r.size):Nat)) A (mf r (A.length+l.size) V.aF++([V.aF]++B)))];have lb:(A++mf l A.length (V.int (A.length+(l.size+r.size):Nat))).length=A.length+l.size:=by rw[Al,jA]
  have s2:=Ld r (A.length+l.size) .aF (.int (A.length+(l.size+r.size):Nat)) (A++mf l A.length (V.int (A.length+(l.size+r.size):Nat))) ([V.aF]++B);rw[lb]at s2;have e3:A++mf l A.length (V.int (A.length+(l.size+r.size):Nat))++(mf r (A.length+l.size) V.aF++([V.aF]++B))=A++mf l A.length (V.int (A.length+(l.size+r.size):Nat))++mf r (A.length+l.size) V.aF++([V.aF]++B):=by simp[Ax]
  rw[e3,s2];have e4:mf (.node l r) A.length .aF=mf l A.length (.int (A.length+l.size+r.size:Nat))++mf r (A.length+l.size) (.int (A.length+l.size+r.size:Nat))++[.aF]:=rfl;rw[e4,A8 A.length l.size r.size];simp[Ax]
theorem yz:∀(t:Tr) (o j:Nat) (p:V),j<t.size->(mf t o p)[j]?=am (jP t o j p)
 |.leaf x,o,j,p,h=>by
  have:j=0:=by have:j<1:=h;lia
  subst this;rfl
 |.node l r,o,j,p,h=>by
  have es:(Tr.node l r).size=l.size+r.size+1:=rfl;have ln:=jA l o (.int (o+l.size+r.size:Nat));have rn:=jA r (o+l.size) (.int (o+l.size+r.size:Nat));unfold mf jP;by_cases c1:j<l.size
  .rw[if_pos c1,Ax,A1 ∅];exact yz l _ _ _ c1
  .rw[if_neg c1];by_cases c2:j<l.size+r.size
   .rw[if_pos c2,Ax,Bc ∅,A1 ∅,ln];exact yz r _ _ _ ∅
   .rw[if_neg c2,Bc (by rw[Al];lia),Al,ln,rn];have:j-(l.size+r.size)=0:=by lia
    rw[this];rfl
def YX(t:Tr)(h:j<t.size):(ah (t.nd 0) 0 (Ao t.size .aF))[j]?=am (jP t 0 j .aF):=by
 have q:=JH t [] [];have e:([]:O V)++Ao t.size .aF++[]=Ao t.size .aF:=by simp
 have e2:([]:O V)++mf t ([]:O V).length .aF++[]=mf t 0 .aF:=by simp
 rw[e,e2]at q;have q':ah (t.nd 0) 0 (Ao t.size .aF)=mf t 0 .aF:=q;rw[q'];exact yz t 0 j .aF h
end My
variable{H1:L2.Hp}{ι:O Bg}
namespace PL
section
variable{K:Ab}
def JQ(K:Ab)(H:Hp)(a:db)(xs:O V):Prop:=(∃o,H a=am (.cg o (.lst xs)))\/
  ∃(o:Obj) (aq:Array ci) (n:Nat),K.lookup a=am o/\o.cls=.type "list"/\o.dict=ce/\o.data=.seq aq n/\aq.size<=sizeLine/\Vals xs aq.toList
def JQ.sq(h:JQ K H a xs):bH K H a xs:=h.elim (λh=>.inl (.inr h)) .inr
def Hi(b:db)(h:pr):Prop:=∃(ns:O Int) (aq:O ci) (n:Nat),ns.length<=sizeLine/\Vals (ns.map V.int) aq/\h.get? b=am {cls:=.type "list",data:=.seq aq.toArray n}
def c9(H:Hp)(b:db):Prop:=H b=am (.ext (Hi b))
def xk(h:∀p φ,H p=am (.ext φ)->H' p=am (.ext φ)):∀b,c9 H b->c9 H' b:=λ_ e=>h _ _ e
structure bc(K:Ab)(H H':Hp):Prop where
 t:∀p vs,H p=am (.tup vs)->H' p=am (.tup vs)
 z:∀p o u,H p=am (.cg o u)->H' p=am (.cg o u)
 x:∀b,c9 H b->c9 H' b
def bc.f{H H':Hp}(t:bc K H H')(p:db)(vs:O V)(h:JQ K H p vs):JQ K H' p vs:=h.elim (λ⟨o,h⟩=>.inl ⟨o,t.z _ _ _ h⟩) .inr
def bc.refl(H:Hp):bc K H H:=⟨λ_ _ h=>h,λ_ _ _ h=>h,λ_ h=>h⟩
def bc.trans(a:bc K H H1)(b:bc K H1 H2):bc K H H2:=⟨λp vs h=>b.t p vs (a.t p vs h),λp o w h=>b.z p o w (a.z p o w h),λp h=>b.x p (a.x p h)⟩
def _root_.L2.jD.eE(s:jD H H'):bc K H H':=⟨λp vs h=>s _ _ h,λp o u h=>s _ _ h,xk λp φ h=>s _ _ h⟩
inductive PV where
 |aF|bl (b:Bool)|int (i:Int)|str (x:Str)|tup (l:List PV)|ref (n:Nat)|ty (n:String)|cl (l:List PV)|dv (ks vs:List PV)|ob (ns:List Str) (l:List PV)|hand
def kP:Key->PV
 |.inl i=>.int i
 |.inr x=>.str x
inductive PO where
 |lst (xs:List PV)|dk (ay:List (Key×PV))|dt (ay:List (List Key×PV))|opq (φ:List V->Prop)
abbrev PH:=O PO
abbrev yS:=O (Option PV)
mutual
inductive VR(K:Ab)(ι:List db)(H:Hp):V->PV->Prop
 |aF:VR K ι H .aF .aF
 |bl (b:Bool):VR K ι H (.bl b) (.bl b)
 |int (i:Int):VR K ι H (.int i) (.int i)
 |str (x:Str):VR K ι H (.str x) (.str x)
 |ty (n:String):VR K ι H (.ty n) (.ty n)
 |tup {p:db}{vs:List V}{l:List PV} (h:H p=am (.tup vs)) (r:aB K ι H vs l):VR K ι H (.ref p) (.tup l)
 |ref {n:Nat}{a:db} (h:ι[n]?=am a):VR K ι H (.ref a) (.ref n)
 |cl {a:db}{vs:List V}{l:List PV} (h:JQ K H a vs) (r:aB K ι H vs l):VR K ι H (.ref a) (.cl l)
 |dk {a:db}{o:Obj}{ay:List (Key×V)}{ks l:List PV} (h:H a=am (.cg o (.dK ay))) (e:ks=ay.map λkv=>kP kv.1) (r:aB K ι H (ay.map (·.2)) l):VR K ι H (.ref a) (.dv ks l)
 |dt {a:db}{o:Obj}{ay:List (List Key×V)}{ks l:List PV} (h:H a=am (.cg o (.dT ay))) (e:ks=ay.map λkv=>.tup (kv.1.map kP)) (r:aB K ι H (ay.map (·.2)) l):VR K ι H (.ref a) (.dv ks l)
 |ob {a C dx:db}{o:Obj}{fs:List (Str×V)}{ns:List Str}{l:List PV} (h:H a=am (.cg o (.ins C dx fs))) (c:Cls K C) (na:∀f∈ns,Q0 K C f) (e:ns=fs.map (·.1)) (r:aB K ι H (fs.map (·.2)) l):VR K ι H (.ref a) (.ob ns l)
 |hand {a:db} (h:c9 H a):VR K ι H (.ref a) .hand
inductive aB(K:Ab)(ι:List db)(H:Hp):List V->List PV->Prop
 |nil:aB K ι H [] []
 |cons {v:V}{p:PV}{vs:List V}{ps:List PV} (r:VR K ι H v p) (t:aB K ι H vs ps):aB K ι H (v::vs) (p::ps)
end
section
variable{ι':O db}
mutual
theorem VR.mono(ht:bc K H H')(hi:∀(n:Nat) (a:db),ι[n]?=am a->ι'[n]?=am a):∀{v:V}{p:PV},VR K ι H v p->VR K ι' H' v p
 |_,_,.aF=>.aF
 |_,_,.bl b=>.bl b
 |_,_,.int i=>.int i
 |_,_,.str x=>.str x
 |_,_,.ty n=>.ty n
 |_,_,.tup h r=>.tup (ht.t _ _ h) (aB.mono ht hi r)
 |_,_,.cl h r=>.cl (ht.f _ _ h) (aB.mono ht hi r)
 |_,_,.dk h e r=>.dk (ht.z _ _ _ h) e (aB.mono ht hi r)
 |_,_,.dt h e r=>.dt (ht.z _ _ _ h) e (aB.mono ht hi r)
 |_,_,.ob h c na e r=>.ob (ht.z _ _ _ h) c na e (aB.mono ht hi r)
 |_,_,.ref h=>.ref (hi _ _ h)
 |_,_,.hand h=>.hand (ht.x _ h)
theorem aB.mono(ht:bc K H H')(hi:∀(n:Nat) (a:db),ι[n]?=am a->ι'[n]?=am a):∀{vs:O V}{ps:O PV},aB K ι H vs ps->aB K ι' H' vs ps
 |_,_,.nil=>.nil
 |_,_,.cons r t=>.cons (VR.mono ht hi r) (aB.mono ht hi t)
end
theorem aB.length:∀{vs:O V}{ps:O PV},aB K ι H vs ps->vs.length=ps.length
 |_,_,.nil=>rfl
 |_,_,.cons _ t=>by rw[Aw,Aw,aB.length t]
theorem aB.get:∀{vs:O V}{ps:O PV}{i:Nat}{p:PV},aB K ι H vs ps->ps[i]?=am p->∃v,vs[i]?=am v/\VR K ι H v p
 |_,_,_,_,.nil,e=>by simp at e
 |_,_,0,_,.cons r _,e=>by simp at e;subst e;exact⟨_,rfl,r⟩
 |_,_,i+1,p,.cons _ t,e=>by
  obtain⟨v,h1,h2⟩:=aB.get t (by simpa using e);exact⟨v,by simpa using h1,h2⟩
theorem aB.abP:∀{vs:O V}{ps:O PV}{i:Nat}{v:V},aB K ι H vs ps->vs[i]?=am v->∃p,ps[i]?=am p/\VR K ι H v p
 |_,_,_,_,.nil,e=>by simp at e
 |_,_,0,_,.cons r _,e=>by simp at e;subst e;exact⟨_,rfl,r⟩
 |_,_,i+1,p,.cons _ t,e=>by
  obtain⟨v,h1,h2⟩:=aB.abP t (by simpa using e);exact⟨v,by simpa using h1,h2⟩
theorem aB.set{p:PV}(r:VR K ι H v p):∀{vs:O V}{ps:O PV} (i:Nat),aB K ι H vs ps->aB K ι H (vs.set i v) (ps.set i p)
 |_,_,_,.nil=>.nil
 |_,_,0,.cons _ t=>.cons r t
 |_,_,i+1,.cons q t=>.cons q (aB.set r i t)
theorem aB.append:∀{xs ys:O V}{us ws:O PV},aB K ι H xs us->aB K ι H ys ws->aB K ι H (xs++ys) (us++ws)
 |_,_,_,_,.nil,s=>s
 |_,_,_,_,.cons r t,s=>.cons r (aB.append t s)
theorem aB.take:∀{xs:O V}{us:O PV} (n:Nat),aB K ι H xs us->aB K ι H (xs.take n) (us.take n)
 |_,_,0,_=>.nil
 |_,_,_+1,.nil=>.nil
 |_,_,n+1,.cons r t=>.cons r (aB.take n t)
theorem aB.drop:∀{xs:O V}{us:O PV} (n:Nat),aB K ι H xs us->aB K ι H (xs.drop n) (us.drop n)
 |_,_,0,r=>r
 |_,_,_+1,.nil=>.nil
 |_,_,n+1,.cons _ t=>aB.drop n t
theorem aB.reverse:∀{xs:O V}{us:O PV},aB K ι H xs us->aB K ι H xs.reverse us.reverse
 |_,_,.nil=>.nil
 |_,_,.cons r t=>by rw[DH,DH];exact(aB.reverse t).append (.cons r .nil)
def aB.one{p:PV}(r:VR K ι H v p):aB K ι H [v] [p]:=.cons r .nil
end
structure Go(ι ι':List db)(H H':Hp):Prop where
 ext:∃m,ι'=ι++m
 new:∀a,a∈ι'->a∉ι->H a=ce
 keep:∀a o,a∉ι->H a=am o->H' a=am o
def Go.refl(ι:O db)(H:Hp):Go ι ι H H:=⟨⟨[],by simp⟩,λa h n=>absurd h n,λ_ _ _ h=>h⟩
def OR(K:Ab)(ι:O db)(H:Hp)(a:db):PO->Prop
 |.lst xs=>∃vs,H a=am (.lst vs)/\aB K ι H vs xs
 |.dk ay=>∃vs:O (Key×V),H a=am (.dK vs)/\vs.map (·.1)=ay.map (·.1)/\aB K ι H (vs.map (·.2)) (ay.map (·.2))
 |.dt ay=>∃vs:O (O Key×V),H a=am (.dT vs)/\vs.map (·.1)=ay.map (·.1)/\aB K ι H (vs.map (·.2)) (ay.map (·.2))
 |.opq φ=>∃vs,H a=am (.lst vs)/\φ vs
structure HR(K:Ab)(ι:List db)(H:Hp)(h:PH):Prop where
 nd:ι.Nodup
 len:ι.length=h.length
 obj:∀(n:Nat) (a:db) (o:PO),ι[n]?=am a->h[n]?=am o->OR K ι H a o
end
end PL
variable{a e:BC}
namespace PL
section
variable{K:Ab}
abbrev QV:=PV->PH->Prop
structure ME where
 run:yS->PH->QV->Prop
 mono:∀{ps h}{Q Q':QV},(∀v h',Q v h'->Q' v h')->run ps h Q->run ps h Q'
structure MT where
 run:yS->PH->(Bool->PH->Prop)->Prop
 mono:∀{ps h}{Q Q':Bool->PH->Prop},(∀v h',Q v h'->Q' v h')->run ps h Q->run ps h Q'
structure MA where
 run:yS->PH->(List PV->PH->Prop)->Prop
 mono:∀{ps h}{Q Q':List PV->PH->Prop},(∀v h',Q v h'->Q' v h')->run ps h Q->run ps h Q'
structure ML where
 run:yS->PH->(List PV->PH->Prop)->Prop
 mono:∀{ps h}{Q Q':List PV->PH->Prop},(∀v h',Q v h'->Q' v h')->run ps h Q->run ps h Q'
structure Src where
 items:List PV
 ok:PH->Prop
 fz:Bool
structure MI where
 run:yS->PH->(Src->PH->Prop)->Prop
 mono:∀{ps h}{Q Q':Src->PH->Prop},(∀v h',Q v h'->Q' v h')->run ps h Q->run ps h Q'
structure PD where
 nx:yS->PH->Prop
 rt:QV
 bk:yS->PH->Prop
 ct:yS->PH->Prop
structure PD.Le(D D':PD):Prop where
 nx:∀ps h,D.nx ps h->D'.nx ps h
 rt:∀v h,D.rt v h->D'.rt v h
 bk:∀ps h,D.bk ps h->D'.bk ps h
 ct:∀ps h,D.ct ps h->D'.ct ps h
structure MS where
 run:PD->yS->PH->Prop
 mono:∀{D D' ps h},PD.Le D D'->run D ps h->run D' ps h
structure MG where
 run:PV->yS->PH->(yS->PH->Prop)->Prop
 mono:∀{v ps h}{Q Q':yS->PH->Prop},(∀ps h,Q ps h->Q' ps h)->run v ps h Q->run v ps h Q'
def pQ(K:Ab)(ι:O db)(H:Hp)(Q:VK):QV:=λp h'=>∀ι' v H',Go ι ι' H H'->HR K ι' H' h'->VR K ι' H' v p->Q v H'
def PE.imp{t t':TE}(h:PE X e t)(f:∀σ H Q,t' σ H Q->t σ H Q):PE X e t':=λU s σ H Q I q=>h U s σ H Q I (f _ _ _ q)
def PT.imp{t t':TT}(h:PT X e t)(f:∀σ H Q,t' σ H Q->t σ H Q):PT X e t':=λU s σ H Q I q=>h U s σ H Q I (f _ _ _ q)
def PW.imp{t t':TT}(h:PW X e t)(f:∀σ H Q,t' σ H Q->t σ H Q):PW X e t':=λw U s σ H Q I q=>h w U s σ H Q I (f _ _ _ q)
def PA.imp{e:O nw}{t t':TA}(h:PA X e t)(f:∀σ H Q,t' σ H Q->t σ H Q):PA X e t':=λpos U s σ H Q I q=>h pos U s σ H Q I (f _ _ _ q)
def PS.imp{e:v4}{t t':TS}(h:PS X e t)(f:∀D σ H,t' D σ H->t D σ H):PS X e t':=λU s σ H D I q=>h U s σ H D I (f _ _ _ q)
def oD.imp{e:O v4}{t t':TS}(h:oD X e t)(f:∀D σ H,t' D σ H->t D σ H):oD X e t':=λU s σ H D I q=>h U s σ H D I (f _ _ _ q)
def PG.imp{t t':TG}(h:PG X e t)(f:∀v σ H Q,t' v σ H Q->t v σ H Q):PG X e t':=λU s σ H v u Q I r q=>h U s σ H v u Q I r (f _ _ _ _ q)
def PI.imp{t t':TI}(h:PI X tg e t)(f:∀σ H Q,t' σ H Q->t σ H Q):PI X tg e t':=λU s σ H R I q=>h U s σ H R I (f _ _ _ q)
section
abbrev P2:=PV->PV->PH->QV->Prop
structure M2 where
 f:P2
 mono:∀{x y h}{Q Q':QV},(∀v h',Q v h'->Q' v h')->f x y h Q->f x y h Q'
def M2.Ok(K:Ab)(r:R2)(m:M2):Prop:=∀{ι H h u v x y Q},HR K ι H h->VR K ι H u x->VR K ι H v y->m.f x y h (pQ K ι H Q)->r u v H Q
end
end
section
variable{K:Ab}
section
def kg:∀{vs:O V}{l:O PV},aB K ι H vs l->(!l.isEmpty)=!vs.isEmpty
 |_,_,.nil=>rfl
 |_,_,.cons _ _=>rfl
structure MQ where
 run:yS->PH->(Src->PH->Prop)->Prop
 mono:∀{ps h}{Q Q':Src->PH->Prop},(∀v h',Q v h'->Q' v h')->run ps h Q->run ps h Q'
end
end
section
structure MGs where
 run:List PV->yS->PH->(yS->PH->Prop)->Prop
 mono:∀{v ps h}{Q Q':yS->PH->Prop},(∀ps h,Q ps h->Q' ps h)->run v ps h Q->run v ps h Q'
end
section
variable{K:Ab}
section
structure Lj where
 f:List PV->PH->QV->Prop
 mono:∀{l h}{Q Q':QV},(∀v h',Q v h'->Q' v h')->f l h Q->f l h Q'
def Lj.Ok(K:Ab)(r:O V->Hp->VK->Prop)(m:Lj):Prop:=∀{ι H h vs l Q},HR K ι H h->aB K ι H vs l->m.f l h (pQ K ι H Q)->r vs H Q
end
end
end PL
variable{g':Int->Int->L2.V}{g:Int->Int->PL.PV}
namespace PL
section
variable{K:Ab}
def aI(g:Int->Int->PV):M2:=⟨λx y h Q=>match x,y with|.int i,.int j=>Q (g i j) h|_,_=>False,λf q=>by
 revert q
 split
 .exact f _ _
 .exact λz=>z⟩
def YY(C:Int->Int->Prop)(g:Int->Int->PV):M2:=⟨λx y h Q=>match x,y with|.int i,.int j=>C i j/\Q (g i j) h|_,_=>False,λf q=>by
 revert q
 split
 .exact λq=>⟨q.1,f _ _ q.2⟩
 .exact λz=>z⟩
def G9(hg:∀ι H i j,VR K ι H (g' i j) (g i j)):M2.Ok K (Sb g') (aI g):=by
 intro ι H h u v x y Q hr hu hv q;unfold aI at q;dsimp only at q;revert q
 split
 .intro q;cases hu;cases hv;exact⟨_,_,rfl,rfl,q ι _ H (Go.refl _ _) hr (hg _ _ _ _)⟩
 .exact BX
def yC{C:Int->Int->Prop}(hg:∀ι H i j,VR K ι H (g' i j) (g i j)):M2.Ok K (rI C g') (YY C g):=by
 intro ι H h u v x y Q hr hu hv q;unfold YY at q;dsimp only at q;revert q
 split
 .intro q;cases hu;cases hv;exact⟨_,_,rfl,rfl,q.1,q.2 ι _ H (Go.refl _ _) hr (hg _ _ _ _)⟩
 .exact BX
def ny:=aI λi j=>.int (i-j)
def o6:=YY tz λi j=>.int (i*j)
def oDiv:=YY Q5 λi j=>.int (i / j)
def oMod:=YY (λ_ j=>0<j) λi j=>.int (i % j)
def OL:=YY Na λi j=>.int (i ^ j.toNat)
def oLt:=aI λi j=>.bl (decide (i<j))
def oLe:=aI λi j=>.bl (decide (i<=j))
def SM:=aI λi j=>.bl (decide (j<i))
def oGe:=aI λi j=>.bl (decide (j<=i))
section
def aB.i8:∀{vs:O V}{l:O PV},aB K ι H vs l->(vs=[]↔l=[])
 |_,_,.nil=>by simp
 |_,_,.cons _ _=>by simp
end
end
section
variable{K:Ab}
section
def PV.bZ:PV->Bool
 |.aF=>true
 |_=>false
def qx:M2:=⟨λx y h Q=>match y with|.aF=>Q (.bl x.bZ) h|_=>False,λf q=>by
 revert q
 split
 .exact f _ _
 .exact λz=>z⟩
def pY:M2:=⟨λx y h Q=>match y with|.aF=>Q (.bl (!x.bZ)) h|_=>False,λf q=>by
 revert q
 split
 .exact f _ _
 .exact λz=>z⟩
def vX{x:PV}(h:VR K ι H v x):decide (v=.aF)=x.bZ:=by cases h<;>simp[PV.bZ]
def SK:M2.Ok K (λx y H Q=>y=.aF/\Q (.bl (decide (x=.aF))) H) qx:=by
 intro ι H h u v x y Q hr hu hv q;cases hv with
 |aF=>exact⟨rfl,q ι _ H (Go.refl _ _) hr (by rw[vX hu];exact .bl _)⟩
 |_=>exact q.elim
def OO:M2.Ok K (λx y H Q=>y=.aF/\Q (.bl (!decide (x=.aF))) H) pY:=by
 intro ι H h u v x y Q hr hu hv q;cases hv with
 |aF=>exact⟨rfl,q ι _ H (Go.refl _ _) hr (by rw[vX hu];exact .bl _)⟩
 |_=>exact q.elim
end
end
section
variable{K:Ab}
section
def N8{v':V}{w:ci}(h:RelV v w)(h':RelV v' w):v=v':=Option.some.inj (h.abs.symm.trans h'.abs)
end
section
variable{c:nw}
def mIx(a:MQ)(b:ME):ME:=⟨λps h Q=>a.run ps h λS h1=>b.run ps h1 λy h2=>match y with
 |.int k=>S.ok h2/\match d9 S.items k with|some v=>Q v h2|none=>False
 |_=>False,λf q=>a.mono (λ_ _ q=>b.mono (λ_ _ q=>by
  revert q
  split
  .rintro⟨q0,q⟩;refine⟨q0,?_⟩;revert q
   split
   .exact f _ _
   .exact λz=>z
  .exact λz=>z) q) q⟩
def aB.d9{l:O PV}(r:aB K ι H vs l){k:Int}{p:PV}(e:L2.d9 l k=am p):∃v,L2.d9 vs k=am v/\VR K ι H v p:=by
 unfold L2.d9 at e ⊢;rw[r.length];cases z:uB l.length k with
 |none=>rw[z]at e;cases e
 |some j=>
  rw[z]at e;exact r.get e
def aiA:M2:=⟨λx y h Q=>match x,y with
 |.str z,.int k=>z.length<=sizeLine/\match L2.d9 z.cps.toList k with|some c=>Q (.str ⟨#[c]⟩) h|none=>False
 |_,_=>False,λf q=>by
  revert q
  split
  .rintro⟨q0,q⟩;refine⟨q0,?_⟩;revert q
   split
   .exact f _ _
   .exact λz=>z
  .exact λz=>z⟩
def d6:Lj:=⟨λl h Q=>match l with
 |[.str y]=>y.length<=sizeLine/\Q (.int y.length) h
 |[.tup l]=>Q (.int l.length) h
 |[.cl l]=>Q (.int l.length) h
 |[.ref n]=>match h[n]? with
  |some (.lst xs)=>Q (.int xs.length) h
  |_=>False
 |_=>False,λf q=>by
  revert q
  split
  .exact λq=>⟨q.1,f _ _ q.2⟩
  .exact f _ _
  .exact f _ _
  .split
   .exact f _ _
   .exact λz=>z
  .exact λz=>z⟩
def Uz(K:Ab):Lj.Ok K (W3 K) d6:=by
 intro ι H h vs l Q hr hv q;unfold d6 at q;dsimp only at q;revert q
 split
 .intro q;cases hv with
  |cons x t=>cases t;cases x;exact⟨_,_,rfl,⟨q.1,rfl⟩,q.2 ι _ H (Go.refl _ _) hr (.int _)⟩
 .intro q;cases hv with
  |cons x t=>
   cases t;cases x with
   |tup e r=>exact⟨_,_,rfl,.inr ⟨_,dF.of e,r.length.symm⟩,q ι _ H (Go.refl _ _) hr (.int _)⟩
 .intro q;cases hv with
  |cons x t=>
   cases t;cases x with
   |cl e r=>exact⟨_,_,rfl,.inl ⟨_,e.sq,r.length.symm⟩,q ι _ H (Go.refl _ _) hr (.int _)⟩
 .rename_i n;cases hv with
  |cons x t=>
   cases t;cases x with
   | @ref _ a e=>
   split
   .rename_i xs hn;intro q;obtain⟨ws,e1,e2⟩:=hr.obj n a _ e hn;exact⟨_,_,rfl,.inl ⟨ws,bH.of e1,e2.length.symm⟩,q ι _ H (Go.refl _ _) hr (.int _)⟩
   .exact BX
 .exact BX
inductive Kd where
 |str|tup|int|bool
def Kd.name:Kd->String
 |.str=>"str" | .tup=>"tuple" | .int=>"int" | .bool=>"bool"
def Kd.is:Kd->PV->Bool
 |.str,.str _=>true
 |.tup,.tup _=>true
 |.int,.int _=>true
 |.int,.bl _=>true
 |.bool,.bl _=>true
 |_,_=>false
def aay(K:Ab):O V->Hp->VK->Prop:=λxs H Q=>∃x c t b,xs=[x,.ty c]/\(lL K H x t\/(t=.type "tuple"/\∃a vs,x=.ref a/\dF K H a vs))/\Bz K t (.type c)=am b/\Q (.bl b) H
def MV(K:Ab)(hK:X.K=K):cb X (.builtin "isinstance") (aay K):=by
 subst hK;intro U s σ H xs us Q I r h;obtain⟨x,c,t,b,rfl,ty|⟨rfl,a,vs,rfl,hT⟩,e,q⟩:=h
 .exact qo U s σ H _ us Q I r ⟨x,c,t,b,rfl,ty,e,q⟩
 .obtain⟨u,w,rfl,r1,r2⟩:=vals2 r;cases r1;cases r2;obtain⟨aq,_,⟨o,h1,h2,_⟩,_⟩:=I.tuple hT;exact Be F7 I.vU ⟨o,h1,h2⟩ e (λz=>nomatch z) λtk=>⟨.bl b,H,I.tok _,rfl,q⟩
def rE(K:Ab):(∀k:Kd,Bz K (.type "NoneType") (.type k.name)=am false)/\(∀k:Kd,Bz K (.type "list") (.type k.name)=am false)/\(∀k:Kd,Bz K (.type "dict") (.type k.name)=am false):=
 ⟨λk=>by cases k<;>kernel_rfl,λk=>by cases k<;>kernel_rfl,λk=>by cases k<;>kernel_rfl⟩
def XN(K:Ab)(b:Bool)(k:Kd):Bz K (.type "bool") (.type k.name)=am (k.is (.bl b)):=by cases k <;> kernel_rfl
def Tf(K:Ab)(b:Int)(k:Kd):Bz K (.type "int") (.type k.name)=am (k.is (.int b)):=by cases k <;> kernel_rfl
def Te(K:Ab)(b:Str)(k:Kd):Bz K (.type "str") (.type k.name)=am (k.is (.str b)):=by cases k <;> kernel_rfl
def Td(K:Ab)(b:O PV)(k:Kd):Bz K (.type "tuple") (.type k.name)=am (k.is (.tup b)):=by cases k <;> kernel_rfl
def M4:Lj:=⟨λl h Q=>match l with|[.int i]=>Q (.int i) h|[.bl k]=>Q (.int (if k then 1 else 0)) h|_=>False,λf q=>by
 revert q
 split
 .exact f _ _
 .exact f _ _
 .exact λz=>z⟩
def UA:Lj.Ok K (λxs H Q=>(∃i,xs=[.int i]/\Q (.int i) H)\/∃k,xs=[.bl k]/\Q (.int (if k then 1 else 0)) H) M4:=by
 intro ι H h vs l Q hr hv q;unfold M4 at q;dsimp only at q;revert q
 split
 .intro q;cases hv with
  |cons x t=>cases t;cases x;exact .inl ⟨_,rfl,q ι _ H (Go.refl _ _) hr (.int _)⟩
 .intro q;cases hv with
  |cons x t=>cases t;cases x;exact .inr ⟨_,rfl,q ι _ H (Go.refl _ _) hr (.int _)⟩
 .exact BX
end
end
section
variable{K:Ab}
section
def Ob(K:Ab):O V->Hp->VK->Prop:=λxs H Q=>∃p ys,xs=[.ref p]/\((bH K H p ys/\jM H (.tup ys) Q)\/(dF K H p ys/\Q (.ref p) H))
def MU(K:Ab)(hK:X.K=K):cb X (.type "tuple") (Ob K):=by
 subst hK;exact vg.mono λxs H Q ⟨p,ys,e,h⟩=>⟨p,ys,e,h.imp (λ⟨h1,h2⟩=>⟨h1,λl hl=>h2.at l hl⟩) λz=>z⟩
structure MQL where
 run:yS->PH->(Src->PH->Prop)->Prop
 mono:∀{ps h}{Q Q':Src->PH->Prop},(∀v h',Q v h'->Q' v h')->run ps h Q->run ps h Q'
structure MO where
 run:yS->PH->(Option Int->PH->Prop)->Prop
 mono:∀{ps h}{Q Q':Option Int->PH->Prop},(∀v h',Q v h'->Q' v h')->run ps h Q->run ps h Q'
def PO.imp{e:Option nw}{t t':TO}(h:L2.PO X e t)(f:∀σ H Q,t' σ H Q->t σ H Q):L2.PO X e t':=λU s σ H Q I q=>h U s σ H Q I (f _ _ _ q)
def uh(xs:O PV)(lo hi:Option Int):O PV:=(xs.drop (HT.uN xs.length 0 lo)).take (HT.uN xs.length xs.length hi-HT.uN xs.length 0 lo)
def aB.cut{l:O PV}(r:aB K ι H vs l)(lo hi:Option Int):aB K ι H (MP vs lo hi) (uh l lo hi):=by
 unfold MP uh;rw[r.length];exact(r.drop _).take _
end
end
end PL
variable{e1:BC}{t1:L2.TE}{tp:Ck}
namespace PL
section
variable{K:Ab}
section
variable{c:nw}
def jG(lo:Int)(n:Nat):O PV:=(Az n).map λ(i:Nat)=>.int (lo+(i:Int))
def iG(lo:Int)(n:Nat):(jG lo n).length=n:=by unfold jG;simp
def pz{lo:Int}{p:PV}(h:(jG lo n)[i]?=am p):i<n/\p=.int (lo+i):=by
 unfold jG at h;rw[Ag]at h;cases z:(Az n)[i]? with
 |none=>rw[z]at h;cases h
 |some k=>
  rw[z]at h;obtain⟨h1,h2⟩:=Aj.mp z;simp at h1 h2;subst h2;exact⟨h1,(Option.some.inj h).symm⟩
def n5(lo:Int)(n:Nat):O PV:=(Az n).map λ(i:Nat)=>.int (lo-(i:Int))
def pM(lo:Int)(n:Nat):(n5 lo n).length=n:=by unfold n5;simp
def pN{lo:Int}{p:PV}(h:(n5 lo n)[i]?=am p):i<n/\p=.int (lo-i):=by
 unfold n5 at h;rw[Ag]at h;cases z:(Az n)[i]? with
 |none=>rw[z]at h;cases h
 |some k=>
  rw[z]at h;obtain⟨h1,h2⟩:=Aj.mp z;simp at h1 h2;subst h2;exact⟨h1,(Option.some.inj h).symm⟩
def RM(i:Int):Prop:=-(2 ^ 62)<=i/\i<2 ^ 62
def ada(m:MA):MI:=⟨λps h Q=>m.run ps h λl h1=>match l with|[.int j]=>RM j/\Q ⟨jG 0 j.toNat,λ_=>True,false⟩ h1|_=>False,λf q=>m.mono (λl h1 q=>by
 revert q
 split
 .exact λq=>⟨q.1,f _ _ q.2⟩
 .exact λz=>z) q⟩
def eH(k:Nat):O PV->O PV
 |[]=>[]
 |x::l=>.tup [.int (k:Int),x]::eH (k+1) l
theorem bj:∀(k:Nat) (l:O PV),(eH k l).length=l.length
 |_,[]=>rfl
 |k,x::l=>by rw[eH,Aw,Aw,bj]
theorem dD:∀{k:Nat}{l:O PV}{i:Nat}{p:PV},(eH k l)[i]?=am p->∃x,l[i]?=am x/\p=.tup [.int ((k+i:Nat):Int),x]
 |_,[],_,_,h=>by simp[eH]at h
 |k,x::l,0,p,h=>by simp[eH]at h;subst h;exact⟨x,rfl,by simp⟩
 |k,x::l,i+1,p,h=>by
  obtain⟨y,h1,h2⟩:=dD (by simpa[eH]using h);exact⟨y,by simpa using h1,by rw[h2,show k+1+i=k+(i+1) by lia]⟩
def Ya(K:Ab)(t1:TE):TI:=λσ H R=>t1 σ H λx H1=>∃a,x=.ref a/\(((∃xs,bH K H1 a xs)/\R (acH K a) H1)\/((∃xs,dF K H1 a xs)/\R (Ite K a) H1))
def Oy{X:Cx}(K:Ab)(hK:X.K=K){kk:Nat}{p2:Pos}(hg:Gl X "enumerate")(hm:X.mg "enumerate"=ce)(h1:PE X e1 t1)(oC:‹gE X e1 []›):PI X (.Tuple Ì kk tp) (.Call (.Name "enumerate" p1) [e1] [] p2) (Ya K t1):=by
 subst hK;intro U s σ H R I h;refine BD (gp I hg hm boot_enumerate ?_ ⋯ ⋯);refine Bj ?_ oC rfl;rw[oC];refine B5 (bN (h1 U s σ H _ I h) λu1 s1 ⟨x,H1,I1,r1,a,ex,hh⟩=>Cv ?_);subst ex;cases r1;have d1:s1.heap.objs.size+1≠s1.heap.objs.size:=Nat.succ_ne_self _;rcases hh with⟨⟨xs,hx⟩,q⟩|⟨⟨xs,hx⟩,q⟩
 .obtain⟨aq,rx,tx,_⟩:=I1.list hx;refine call_enumerate_list tx.isList λh' ze hi _ k=>?_;refine Cw ze ?_;refine⟨_,_,_,_,H1,rfl,I1.kept k,Hy d1,⟨⟨_,ze⟩,hi⟩,λc hc=>?_,q⟩;have Ë:s1.heap.objs.size<=c:=by
   simp at hc;rcases hc with rfl|rfl
   .exact Bf _ _
   .exact Ak _
  exact I1.xW Ë (I1.bg.fresh Ë)
 .obtain⟨aq,rx,tx,_⟩:=I1.tuple hx;have l1:=let ⟨_,e,_⟩:=tx;Ap e;refine JD tx λh' ze hi k=>?_;refine Cw ze ?_;refine⟨_,_,_,_,H1,rfl,I1.kept k,Lr d1 (AE (Ay l1 (Bf _ 1))) (AE l1),⟨⟨_,ze⟩,hi⟩,λc hc=>?_,q⟩;have Ë:s1.heap.objs.size<=c:=by
   simp at hc;rcases hc with rfl|rfl
   .exact Bf _ _
   .exact Ak _
  exact I1.xW Ë (I1.bg.fresh Ë)
def oG:O PV->O PV->O PV
 |x::l,y::m=>.tup [x,y]::oG l m
 |_,_=>[]
theorem rT:∀{l m:O PV}{i:Nat}{p:PV},(oG l m)[i]?=am p->∃x y,l[i]?=am x/\m[i]?=am y/\p=.tup [x,y]
 |[],m,i,p,h=>by simp[oG]at h
 |x::l,[],i,p,h=>by simp[oG]at h
 |x::l,y::m,0,p,h=>by simp[oG]at h;subst h;exact⟨x,y,rfl,rfl,rfl⟩
 |x::l,y::m,i+1,p,h=>by
  obtain⟨u,w,h1,h2,h3⟩:=rT (by simpa[oG]using h);exact⟨u,w,by simpa using h1,by simpa using h2,h3⟩
end
end
end PL
variable{op:PySem.CmpOp}{p3 p4:Ck}
namespace PL
section
variable{K:Ab}
section
structure JC(X:Cx)(K:Ab)(op:CmpOp)(b:nw)(m:M2):Prop where
 p:∃r,ip X (sw op) r/\M2.Ok K r m
 k:ul op b=false
def zU:JC X K .Lt b oLt:=⟨⟨_,aaP,G9 λ_ _ _ _=>.bl _⟩,gc _⟩
def abj:JC X K .LtE b oLe:=⟨⟨_,aaQ,G9 λ_ _ _ _=>.bl _⟩,gc _⟩
def vV:JC X K .Gt b SM:=⟨⟨_,aaR,G9 λ_ _ _ _=>.bl _⟩,gc _⟩
def abk:JC X K .GtE b oGe:=⟨⟨_,aaS,G9 λ_ _ _ _=>.bl _⟩,gc _⟩
def ke:JC X K .Is b qx:=⟨⟨_,Xl,SK⟩,gc _⟩
def rG:JC X K .IsNot b pY:=⟨⟨_,Sx,OO⟩,gc _⟩
end
end
end PL
namespace L2
def j6(xs:List α)(lo hi st:Option Int):List α:=(sliceRange (wf lo hi st xs.length).1 (wf lo hi st xs.length).2.1 (wf lo hi st xs.length).2.2).filterMap (xs[·]?)
def vG(r:Vals xs aq)(lo hi st:Option Int):Vals (j6 xs lo hi st) (FS aq.toArray lo hi st).toList:=by
 unfold j6 FS;rw[Am,r.length];generalize sliceRange _ _ _=l
 induction l with
 |nil=>exact .nil
 |cons k l ih=>
  rw[AG,AG];cases e:xs[k]? with
  |none=>
   have e2:=r.none_of e;have e3:aq.toArray[k]?=ce:=by simpa using e2
   rw[e3];exact ih
  |some x=>
   obtain⟨u,hu,ru⟩:=r.get e;have e3:aq.toArray[k]?=am u:=by simpa using hu
   rw[e3];exact .cons ru ih
section
variable{st:nw}{lo hi:Option nw}{tl th ts:TO}{p2:Pos}
def ael(K:Ab)(te:TE)(tl th ts:TO):TE:=λσ H Q=>te σ H λx H1=>tl σ H1 λl H2=>th σ H2 λu H3=>ts σ H3 λs H4=>∃a xs,x=.ref a/\bH K H4 a xs/\s≠am 0/\jM H4 (.lst (j6 xs l u s)) Q
theorem LO(K:Ab)(hK:X.K=K)(he:PE X e te)(hl:PO X lo tl)(hu:PO X hi th)(hs:PO X (am st) ts):PE X (.Subscript e (.Slice lo hi (am st) p2) pos) (ael K te tl th ts):=by
 subst hK;intro U s σ H Q I h;refine Subscript_ (bN (he U s σ H _ I h) λv s1 ⟨x,H1,I1,r1,q1⟩=>?_);refine wpAny_Slice (bN (hl U s1 σ H1 _ I1 q1) λvl s2 ⟨l,H2,I2,pl,q2⟩=>bN (hu U s2 σ H2 _ I2 q2) λvu s3 ⟨u,H3,I3,pu,q3⟩=>bN (hs U s3 σ H3 _ I3 q3) λvs s4 ⟨c,H4,I4,ps,a,xs,ea,hx,c0,q⟩=>?_);subst ea;cases r1;have I5:Inv X U σ H4 {s4 with heap:=s4.heap.push {cls:=.type "slice",data:=.fields #[vl,vu,vs]}}:=I4.kept λb ob q=>Ah _ q;obtain⟨aq,r,pL,hz⟩:=I5.list hx;have Á:=r.length;refine tail_any pL.isList.typeIs list_getitem_lookup ?_ (by with_unfolding_all rfl);refine E1 pL.isList (Heap.IsSliceOf.new ..) pl pu ps c0 ?_ (by simp;lia);have Ĝ:(j6 xs l u c).length<=sizeLine:=by
  have h1:=(vG r l u c).length;have h2:=slicePick_size_le aq.toArray l u c;have h3:(FS aq.toArray l u c).toList.length=(FS aq.toArray l u c).size:=by simp
  have h4:aq.toArray.size=aq.length:=by simp
  lia
 refine⟨.ref _,upd H4 _ (.lst (j6 xs l u c)),I5.laid (t':=s4.toks) (λb ob q=>Ah _ q) (Ak _) ?_,rfl,q.at _ (I5.bg.fresh (Ak _))⟩;exact⟨Ĝ,_,0,vG r l u c,by rw[show(FS aq.toArray l u c).toList.toArray=FS aq.toArray l u c by simp];exact An _ rfl⟩
end
end L2
namespace PL
section
variable{K:Ab}
section
variable{st:nw}
def aB.pick{l:O PV}(r:aB K ι H vs l)(lo hi st:Option Int):aB K ι H (j6 vs lo hi st) (j6 l lo hi st):=by
 unfold j6;rw[r.length];generalize sliceRange _ _ _=ks
 induction ks with
 |nil=>exact .nil
 |cons k ks ih=>
  rw[AG,AG];cases e:l[k]? with
  |none=>
   have e2:vs[k]?=ce:=by
    rw[Df]at e ⊢;rw[r.length];exact e
   rw[e2];exact ih
  |some x=>
   obtain⟨u,hu,ru⟩:=r.get e;rw[hu];exact .cons ru ih
end
end
section
variable{K:Ab}
section
def Qk{l:O PV}(h:aB K ι H vs l):vs.isEmpty=l.isEmpty:=by cases h<;>rfl
def aB.rep{l:O PV}(h:aB K ι H vs l):∀k:Nat,aB K ι H (Ao k vs).flatten (Ao k l).flatten
 |0=>.nil
 |k+1=>by
  exact h.append (h.rep k)
theorem nT:∀{ns:O Int}{vs:O V},aB K ι H vs (ns.map PV.int)->vs=ns.map V.int
 |[],_,h=>by cases h;rfl
 |b::bs,_,h=>by
  cases h with
  |cons x t=>cases x;rw[nT t];rfl
theorem xK(ι:O db)(H:Hp):∀ns:O Int,aB K ι H (ns.map V.int) (ns.map PV.int)
 |[]=>.nil
 |n::ns=>.cons (.int n) (xK ι H ns)
def WZ(K:Ab):O V->Hp->VK->Prop:=λxs H Q=>∃(p:db) (ns:O Int),xs=[.ref p]/\bH K H p (ns.map V.int)/\ns.length<64/\∀ms:O Int,ms.Perm ns->ms.Pairwise (·<=·)->jM H (.lst (ms.map V.int)) Q
theorem Jy(K:Ab)(hK:X.K=K):cb X (.builtin "sorted") (WZ K):=by
 subst hK;intro U s σ H xs us Q I r h;obtain⟨p,ns,rfl,hq,ñ,q⟩:=h;obtain⟨u,rfl,rx⟩:=vals1 r;cases rx;obtain⟨aq,r',pl,hz⟩:=I.list hq;have hl:=r'.length;rw[Ai]at hl hz;refine PyProof.Rows.sorted_ints pl.isList (intsAre_of r') ∅ λout ms a1 a2 a3=>?_;obtain⟨e,he⟩:=sortedAll_at s.heap aq out;refine⟨.ref (s.heap.objs.size+1),_,I.laid (λ_ _=>sortedAll_old) (Dv _) (show bh X.prog X.w _ _ _ (.lst (ms.map V.int)) from⟨?_,out.toList,e,oK a1,?_⟩),rfl,(q ms a2 a3).at _ (I.bg.fresh (Dv _))⟩
 .rw[Ai,a2.length_eq];exact hz
 .exact he
end
end
end PL
variable{xs:Array A9}{a:Bg}{o:F0}{name:BZ}
namespace L2
def mH{s:cr}{Q:Option ci->cr->Prop}(hx:s.heap.get? a=am o)(hc:o.cls=.type "list")(mG:o.data=.seq xs k)(hd:o.dict=ce)(abz:Gc (.type "list") name=pure ce)(aby:(["__module__","__name__","__qualname__","__doc__","__annotations__"]:O Str).contains name=false)(hA:A.handled=ce)(h:∀h' tk e,Heap.NewExcOf s.heap h' e "AttributeError"->Q ce {s with heap:=h',toks:=tk})(uW:name.length+100<=sizeLine:=by size_fits):ga (gl prog w) A (getAttr? (.ref a) name) Q E s:=by
 obtain⟨c,ċ,dat,sl⟩:=o;simp only at hc mG hd;subst hc mG hd;obtain⟨hp,g,d,tk,os⟩:=s;have hT:∀õ,(⟨hp,g,d,õ,os⟩:cr).TypeIs (.ref a) "list":=λ_=>⟨_,hx,rfl⟩;have f1:=sub_AttributeError;have f3:=Dm.lookup;have f4:=Dm.bind (.ref a);have f5:=am_list_getattr_none
 repeat (any_goals (first | assumption | exact hT _ | ((with_reducible show ga _ _ (call (Value.builtin "list.__getattribute__") _ _) _ _ _);refine wv Dm (hT _) am_entry_list_getattribute (F.args_list_getattribute_2 _ _) (meets_getattribute_miss_list a xs k sl name _ abz aby uW) ⟨hx,hA,λh' õ e vZ=>?_⟩) | wp_step))
 obtain⟨t',u',he⟩:=vZ.there;unfold getattributeRaised
 repeat (any_goals (first|assumption|wp_step))
 exact h _ _ _ vZ.of
end L2
variable{b d:Bg}{v:A9}
namespace L2
def gR:entryFor table "dict.update.loop"=am wn.«dict.update.loop»:=entryFor_of_fast (by kernel_rfl)
def gI:plainId "dict.update.loop"=true:=by decide +kernel
section
variable{K:Type}[DecidableEq K]{knd:KeyKind prog w K}
def yK(knd:KeyKind prog w K)(h:pr)(it d:db)(v:ci)(x:O K×db×ci):Prop:=
 ∃pa o n,v=.ref pa/\pa≠it/\pa≠d/\x.2.1≠it/\x.2.1≠d/\h.get? pa=am o/\o.cls=.type "tuple"/\o.data=.seq #[.ref x.2.1,x.2.2] n/\(sB knd).is h x.1 x.2.1
def wH{k:O K}(x:(sB knd).is h k b)(kp:∀o,h.get? b=am o->h'.get? b=am o):(sB knd).is h' k b:=by
 obtain⟨o,aq,n,h1,h2⟩:=x;exact⟨o,aq,n,kp _ h1,h2⟩
def yK.keep{x:O K×db×ci}(p:yK knd h it d v x)(kp:∀b o,b≠it->b≠d->h.get? b=am o->h'.get? b=am o):yK knd h' it d v x:=by
 obtain⟨pa,o,n,e,n1,n2,n3,n4,h1,h2,h3,h4⟩:=p;exact⟨pa,o,n,e,n1,n2,n3,n4,kp _ _ n1 n2 h1,h2,h3,wH h4 λo q=>kp _ _ n3 n4 q⟩
def yj{xs:O (O K×db×ci)}(m:h.DictOfH (sB knd) d xs)(hd:d≠it)(hx:∀x∈xs,x.2.1≠it)(kp:∀b o,b≠it->h.get? b=am o->h'.get? b=am o):h'.DictOfH (sB knd) d xs:=by
 obtain⟨o,es,ep,ho,hc,Zv,he,VE,hn⟩:=m;exact⟨o,es,ep,kp _ _ hd ho,hc,Zv,he,λx q=>wH (VE x q) λo z=>kp _ _ (hx x q) z,hn⟩
def y7{xs:O (O K×db×ci)}{k:O K}(hx:∀x∈xs,x.2.1≠it)(hb:b≠it):∀x∈storedH xs k b v,x.2.1≠it:=by
 intro x q;unfold storedH at q
 split at q
 .obtain⟨y,hy,rfl⟩:=Ar.mp q;have e:(putAt k v y).2.1=y.2.1:=by unfold putAt;split<;>rfl
  rw[e];exact hx y hy
 .rcases AZ.mp q with q|q
  .exact hx x q
  .rw[AW.mp q];exact hb
def y8{xs:O (O K×db×ci)}{k:O K}:(storedH xs k b v).length<=xs.length+1:=by
 unfold storedH
 split<;>simp
theorem yV(hA:A.handled=ce)(hu:A.units+1 < sK){l:db}(hz:items.size+items.size<=sizeLine)(Ĭ:d≠it)(hli:l≠it)(hld:l≠d):∀(k i:Nat) (ys xs:O (O K×db×ci)) (s:cr),items.size-i=k->i<=items.size->ys.length=items.size-i->xs.length<=i->s.heap.IsListIter it l i->s.heap.IsList l items->s.heap.DictOfH (sB knd) d xs->(∀x∈xs,x.2.1≠it)->(∀j x,ys[j]?=am x->∃v,items[i+j]?=am v/\yK knd s.heap it d v x)->(∀h' tk,h'.DictOfH (sB knd) d (ys.foldl (λa y=>storedH a y.1 y.2.1 y.2.2) xs)->(∀b o,b≠it->b≠d->s.heap.get? b=am o->h'.get? b=am o)->R (.ok (.ret .none)) {s with heap:=h',toks:=tk})->KF (gl prog w) A (.builtin "dict.update.loop" ⟨[.ref d,.ref it,wT i,.none],[]⟩) R s:=by
 intro k
 induction k with
 |zero=>
  intro i ys xs s hk hi hy hxl Ï hl hd hx hp q;have e0:ys=[]:=Cd ∅;subst e0;refine FB gR ?_;refine Aa (wpAny_pyNext_list_end hA Ï hl (by rw[Fq];lia) λh' ex=>?_);have kp:=ex;exact Aa (Af (Af (q h' s.toks (yj hd Ĭ hx kp) λb o n1 _ e=>kp b o n1 e)))
 |succ k ih=>
  intro i ys xs s hk hi hy hxl Ï hl hd hx hp q
  match ys,hy,hp,q with
  |[],hy,_,_=>exact absurd hy (by simp;lia)
  |y::ys,hy,hp,q=>
  obtain⟨v,hv,pa⟩:=hp 0 y rfl;refine FB gR ?_;refine Aa (wpAny_pyNext_list_item Ï hl (by simpa using hv) λh1 afL sb=>?_);have Tc:∀b o,b≠it->s.heap.get? b=am o->h1.get? b=am o:=λb o hb e=>(sb.2 b hb).trans e;have Zr:h1.IsList l items:=let ⟨o,e,p⟩:=hl;⟨o,Tc _ _ hli e,p⟩;obtain⟨p,o,n,rfl,n1,n2,n3,n4,g1,g2,g3,g4⟩:=(pa.keep λb o n1 _ e=>Tc b o n1 e);refine Aa (Bp (Aa (EA ?_)));refine Aa (wpAny_typeOf ⟨_,g1,g2⟩ ?_);refine Aa (Bu g1 g3 (Af ?_));refine Bp (wpAny_dictSet_heap (tupleKind_room_in1 hu) g4 (yj hd Ĭ hx Tc) (λh2 Ó sb2=>?_) ∅);have Ė:∀b o,b≠d->h1.get? b=am o->h2.get? b=am o:=λb o hb e=>(sb2.2 b hb).trans e;refine Af ⟨BT gI _,?_⟩;have kp:∀b o,b≠it->b≠d->s.heap.get? b=am o->h2.get? b=am o:=λb o a1 a2 e=>Ė _ _ a2 (Tc _ _ a1 e);refine ih (i+1) ys (storedH xs y.1 y.2.1 y.2.2) _ ∅ ∅ (by rw[Aw]at hy;lia) (AV y8 ∅) ?_ ?_ Ó (y7 hx n3) (λj x hj=>?_) (λh' tk dd k3=>?_)
  .obtain⟨o',e1,e2⟩:=afL;exact⟨o',Ė _ _ (Bx Ĭ) e1,e2⟩
  .obtain⟨o',e1,e2⟩:=Zr;exact⟨o',Ė _ _ hld e1,e2⟩
  .obtain⟨v',h3,h4⟩:=hp (j+1) x hj;exact⟨v',by rw[show i+1+j=i+(j+1) by lia];exact h3,h4.keep kp⟩
  .exact q h' tk dd λb o a1 a2 e=>k3 b o a1 a2 (kp b o a1 a2 e)
end
def xt:Gc (.type "list") (Cf "keys")=pure ce:=am_miss_of_fast (by decide +kernel)
section
variable{K:Type}[DecidableEq K]{knd:KeyKind prog w K}{s:cr}
theorem qR{l:db}{ys:O (O K×db×ci)}(hA:A.handled=ce)(hu:A.units+2 < sK)(ho:s.heap.get? l=am o)(hc:o.cls=.type "list")(mG:o.data=.seq items n)(hd:o.dict=ce)(hz:items.size+items.size<=sizeLine)(hy:ys.length=items.size)(hp:∀(j:Nat) (x:O K×db×ci),ys[j]?=am x->∃(pa:db) (op:Obj) (m:Nat),items[j]?=am (AJ pa)/\s.heap.get? pa=am op/\op.cls=.type "tuple"/\op.data=.seq #[AJ x.2.1,x.2.2] m/\(sB knd).is s.heap x.1 x.2.1)(q:∀h' tk,(∀b o,s.heap.get? b=am o->h'.get? b=am o)->h'.DictOfH (sB knd) s.heap.objs.size (ys.foldl (λa y=>storedH a y.1 y.2.1 y.2.2) [])->Q (.ref s.heap.objs.size) {s with heap:=h',toks:=tk}):ga (gl prog w) A (call (.type "dict") [.ref l]) Q E s:=by
 refine callType_codes (Q₁:=λobj s₁=>obj=.ref s.heap.objs.size/\s₁={s with heap:=s.heap.push {cls:=.type "dict",data:=.dict #[]}}) F.kt_called_dict (F.kt_typeCall_dict_1 _) F.entry_dict_init (kt_code_dict_new _ ⟨rfl,rfl⟩) ?_;rintro obj s₁ ⟨rfl,rfl⟩;have ü:∀b o,s.heap.get? b=am o->(s.heap.push {cls:=.type "dict",data:=.dict #[]}).get? b=am o:=λb o e=>Ah _ e;have TK:(s.heap.push {cls:=.type "dict",data:=.dict #[]}).DictOf knd s.heap.objs.size []:=Heap.DictOf.new s.heap;have ls:∀b o,s.heap.get? b=am o->b≠s.heap.objs.size:=λb o e z=>by subst z;exact AB _ (Ap e)
 refine⟨TK.typeIs,F.args_dict_init_2 _ _,?_⟩;refine Aa ?_;refine Aa (wpAny_notOrdered_dict TK.typeIs ?_);refine Af ?_;refine Aa (wpAny_typeOf ⟨_,ü _ _ ho,hc⟩ ?_);refine Aa (mH (ü _ _ ho) hc mG hd xt (by decide +kernel) hA (λh1 tk e nx=>?_) ⋯);refine Aa (C3 (Aa ?_));refine DC ⟨_,nx.keeps _ _ (ü _ _ ho),hc,n,mG⟩ ?_;have uW:=Ap (nx.keeps _ _ (An s.heap rfl));have Tc:∀b o,s.heap.get? b=am o->(h1.push {cls:=.type "list_iterator",data:=.fields #[.ref l,.int 0 0]}).get? b=am o:=λb o e=>Ah _ (nx.keeps _ _ (ü _ _ e));have ni:∀b o,s.heap.get? b=am o->b≠h1.objs.size:=λb o e z=>by
  subst z;exact AB _ (Nat.lt_trans (Ap e) uW)
 refine Af ⟨BT gI _,?_⟩;refine yV (A:=A.in1) (knd:=knd) hA (by show A.units+1+1<_;lia) (items:=items) (l:=l) hz (AE uW) (ni _ _ ho) (ls _ _ ho) items.size 0 ys [] _ (Ek _) (Ba _) (by rw[hy];rfl) (Ak _)
  ⟨_,An _ rfl,rfl,rfl⟩ ⟨_,Tc _ _ ho,hc,n,mG⟩ ?_ (λx hx=>nomatch hx) (λj x hj=>?_) (λh' õ dd kp=>?_)
 .refine yj (it:=h1.objs.size) (⟨_,#[],0,An _ rfl,⟨rfl,rfl,rfl⟩,rfl,rfl,λx hx=>absurd hx (CJ),FW⟩) (AE uW) (λx hx=>nomatch hx) λb o _ e=>Ah _ (nx.keeps _ _ e)
 .obtain⟨pa,op,m,e1,e2,e3,e4,e5⟩:=hp j x hj;have kb:∃ob,s.heap.get? x.2.1=am ob:=let ⟨ob,_,_,z,_⟩:=e5;⟨ob,z⟩;obtain⟨ob,eb⟩:=kb;exact⟨.ref pa,by rw[A2];exact e1,pa,op,m,rfl,ni _ _ e2,ls _ _ e2,ni _ _ eb,ls _ _ eb,Tc _ _ e2,e3,e4,wH e5 λo z=>Tc _ _ z⟩
 .exact⟨rfl,q h' õ (λb o e=>kp b o (ni _ _ e) (ls _ _ e) (Tc _ _ e)) dd⟩
end
structure Pz where
 pa:db
 k:List Key
 b:db
 v:V
def Pz.At(H:Hp)(z:Pz):Prop:=H z.pa=am (.tup [.ref z.b,z.v])/\H z.b=am (.tup (z.k.map kV))
def W6(K:Ab):O V->Hp->VK->Prop:=λxs H Q=>∃(p:db) (zs:O Pz),xs=[.ref p]/\bH K H p (zs.map λz=>.ref z.pa)/\(∀z∈zs,z.At H)/\(zs.map (·.k)).Nodup/\zs.length<=1000/\jM H (.dT (zs.map λz=>(z.k,z.v))) Q
theorem qj{K:Type}[DecidableEq K]:∀(ys xs:O (K×db×ci)),((xs++ys).map (·.1)).Nodup->ys.foldl (λa y=>storedH a y.1 y.2.1 y.2.2) xs=xs++ys
 |[],xs,_=>by simp
 |y::ys,xs,h=>by
  have hn:atKey xs y.1=ce:=by
   cases e:atKey xs y.1 with
   |none=>rfl
   |some p=>
    exfalso;rw[AR,AA]at h;have hm:y.1∈xs.map (·.1):=by
     by_cases hc:y.1∈xs.map (·.1)
     .exact hc
     .rw[atKey_none_of_get (λj q hj=>?_)]at e
      .cases e
      .exact hc (Ar.mpr ⟨_,Bb hj,rfl⟩)
    exact((DJ.mp h).2.2) _ hm _ BF rfl
  rw[Dn,storedH_new hn,qj ys (xs++[(y.1,y.2.1,y.2.2)]) (by simpa using h)];simp
section
theorem JE(K:Ab)(hK:X.K=K)(hc:X.calm=true)(hu:X.A.units+2 < sK):cb X (.type "dict") (W6 K):=by
 subst hK;intro U s σ H xs us Q I r h;obtain⟨p,zs,rfl,hq,hz,hn,hl,q⟩:=h;obtain⟨u,rfl,rx⟩:=vals1 r;cases rx;obtain⟨aq,rv,pl,uW⟩:=I.list hq;obtain⟨o,n,ho,VM,hd,mG⟩:=pl;have ô:∀(zs:O Pz) aq,(∀z∈zs,z.At H)->Vals (zs.map λz=>V.ref z.pa) aq->∃ys:O (O Key×db×ci),ys.map (·.1)=zs.map (·.k)/\KT H (zs.map λz=>(z.k,z.v)) ys/\
   ∀(j:Nat) x,ys[j]?=am x->∃(pa:db) (op:Obj) (m:Nat),aq[j]?=am (AJ pa)/\s.heap.get? pa=am op/\op.cls=.type "tuple"/\op.data=.seq #[AJ x.2.1,x.2.2] m/\(sB (cn X.prog X.w)).is s.heap x.1 x.2.1:=by
  intro zs
  induction zs with
  |nil=>intro aq _ _;exact⟨[],rfl,.nil,λj x h=>by simp at h⟩
  |cons z zs ih=>
   intro aq ha hv;cases hv with
   | @cons _ u _ us ru rus=>
   cases ru;obtain⟨ys,e1,e2,e3⟩:=ih us (λy hy=>ha y (AY _ hy)) rus;obtain⟨a1,a2⟩:=ha z BF;obtain⟨_,dQ,r',⟨op,h1,h2,m,h3⟩,_⟩:=(I.bg _ _ a1);obtain⟨w,rfl,zc⟩:∃w,dQ=[AJ z.b,w]/\RelV z.v w:=by
    cases r' with
    |cons q1 q2=>cases q1;cases q2 with
     |cons q3 q4=>cases q4;exact⟨_,rfl,q3⟩
   refine⟨(z.k,z.b,w)::ys,by rw[AA,AA,e1],.cons ⟨rfl,a2,zc⟩ e2,λj x hj=>?_⟩;cases j with
   |zero=>
    cases hj;exact⟨z.pa,op,m,rfl,h1,h2,h3,Ir I.bg a2⟩
   |succ j=>exact e3 j x hj
 obtain⟨ys,e1,e2,e3⟩:=ô zs aq hz rv;have Á:=rv.length;rw[Ai]at Á;have þ:ys.length=zs.length:=by have:=congrArg Cb e1;simpa using this
 have hs:1000+1000<=sizeLine:=by decide
 refine qR (knd:=cn X.prog X.w) (ys:=ys) (I.ok.hd hc) hu ho VM mG hd (by rw[Am];lia) (by rw[Am];lia) (λj x hj=>?_) (λh' tk kp dd=>?_)
 .obtain⟨pa,op,m,g1,g2⟩:=e3 j x hj;exact⟨pa,op,m,by rw[FI];exact g1,g2⟩
 .rw[qj ys [] (by rw[List.nil_append,e1];exact hn),List.nil_append]at dd;obtain⟨od,es,ep,Zn,h2,h3,h4,_,h5⟩:=dd;have fr:=I.bg.fresh (Ak s.heap.objs.size);refine⟨.ref s.heap.objs.size,_,I.laid kp (Ak _) (show bh X.prog X.w (upd H s.heap.objs.size (.dT (zs.map λz=>(z.k,z.v)))) h' _ (.dT _) from⟨?_,(beq_eq_false_iff_ne.mpr (Bx (AE I.big))),ys,?_,od,es,ep,Zn,h2,h3,h4,h5⟩),rfl,q.at _ fr⟩
  .rw[Ai];exact AV hl ⋯
  .refine e2.keeps λc xs ec=>?_;rw[ak (λz=>by subst z;rw[fr]at ec;cases ec)];exact ec
end
end L2
variable{es:Array PySem.DictEntry}{ep:Nat}
namespace L2
section
variable{s:cr}
def UH(h:pr)(d:db)(es:Array DictEntry)(ep:Nat):Prop:=∃o,h.get? d=am o/\o.ExactDict/\o.data=.dict es ep
def OS{Q:Option ci->cr->Prop}(Ï:s.heap.IsKeyIter it d i es.size ep)(hm:UH s.heap d es ep)(hi:i<es.size)(q:∀h',h'.IsKeyIter it d (i+1) es.size ep->Cu it s.heap h'->Q (am es[i].key) {s with heap:=h'}):ga (gl prog w) A (Pi (.ref it)) Q E s:=by
 have ty:=Ï.typeIs;obtain⟨o,ho,hc,hd⟩:=id Ï;obtain⟨od,Mi,-,VH⟩:=hm;have abE:(s.heap.update it (Obj.mapFields (·.setIfInBounds 1 (wT (i+1))))).IsKeyIter it d (i+1) es.size ep:=⟨_,B2 _ ho (FE (Dq hd _)),(Obj.cls_mapFields ..).trans hc,by rw[Dq hd];simp[wT]⟩;refine Aa (CB (A6 ty BR (Bm BR ty D1 ?_ (DV _))));refine Aa (Af (Aa (Aa ?_)))
 first|refine Aa (Ca ty (Af ?_))|refine Aa (CA ty (Af ?_))
 refine Aa (wpAny_fieldsOf ho hd ?_);show ga _ _ (if (AJ d==A3)=true then _ else _) _ _ s;refine Aa (Af (Aa (ER Mi VH ?_)));rw[if_neg (by simp)];refine Aa (Af (Aa (Fx Mi VH ?_)));rw[if_neg (by simp)];refine Af ?_;simp only[if_false,Bw,Dg hi];refine Aa ?_
 first|refine Aa (Ca ty (Af ?_))|refine Aa (CA ty (Af ?_))
 refine Aa (wpAny_isOneOf_keyiter ty ?_);show ga _ _ (setField (.ref it) 1 (wT ((i:Int)+1)) >>= _) _ _ s;exact Aa (EB ho hd (by simp) (Aa (Bp (Aa (wpAny_isOneOf_keyiter abE.typeIs (Af (Af ⟨_,rfl,Af (q _ abE (Cu.update ..))⟩)))))))
def T9{Q:Option ci->cr->Prop}(hh:A.handled=ce)(Ï:s.heap.IsKeyIter it d i es.size ep)(hm:UH s.heap d es ep)(hi:es.size<=i)(q:∀h',FO it s.heap h'->Q ce {s with heap:=h'}):ga (gl prog w) A (Pi (.ref it)) Q E s:=by
 have ty:=Ï.typeIs;obtain⟨o,ho,hc,hd⟩:=id Ï;obtain⟨od,Mi,-,VH⟩:=hm;refine Aa (CB (A6 ty BR (Bm BR ty D1 ?_ (DV _))));refine Aa (Af (Aa (Aa ?_)))
 first|refine Aa (Ca ty (Af ?_))|refine Aa (CA ty (Af ?_))
 refine Aa (wpAny_fieldsOf ho hd ?_);show ga _ _ (if (AJ d==A3)=true then _ else _) _ _ s;refine Aa (Af (Aa (ER Mi VH ?_)));rw[if_neg (by simp)];refine Aa (Af (Aa (Fx Mi VH ?_)));rw[if_neg (by simp)];refine Af ?_;simp only[if_false,Bw,Fq hi];refine Aa ?_
 first|refine Aa (Ca ty (Af ?_))|refine Aa (CA ty (Af ?_))
 show ga _ _ (setField (.ref it) 0 .none >>= _) _ _ s;refine Aa (EB ho hd (by simp) ?_);refine Aa ?_;refine Aa (BK (Aa (Br (by first|rfl|(simp;rfl)) (BK ?_ (by size_fits)))) (by size_fits));unfold raiseNew;refine Aa (wpAny_handled ?_);rw[show A.in1.handled=ce from hh];refine Aa (Af (wpAny_throw ?_));refine Aa (C9 ⟨_,An _ rfl,rfl⟩ isSubtype_stop ?_);exact Af (q _ (((Cu.update ..).extBut.push _).push _))
def Po(hs:(d==GE)=false)(hm:UH s.heap d es ep)(q:Q (.ref s.heap.objs.size) {s with heap:=s.heap.push {cls:=.type "dict_keyiterator",data:=.fields #[.ref d,.int 0 0,.int es.size 0,.int ep 0]}}):ga (gl prog w) A (pyIter (.ref d)) Q E s:=by
 obtain⟨od,Mi,hx,VH⟩:=hm;have ty:s.TypeIs (.ref d) "dict":=⟨_,Mi,hx.1⟩;refine wpAny_pyIter_slot ty F.slot_dict_iter (Bm F.slot_dict_iter ty F.entry_dict_iter ?_ (F.args_dict_iter_1 _));refine Aa ?_;refine Aa (wpAny_notOrdered_dict ty ?_);refine Af ?_;show ga _ _ (Builtin.Dict.showsAll d >>= _) _ _ s;unfold Builtin.Dict.showsAll;rw[if_neg (by rw[hs];exact AM)];exact Aa (Af (Aa (ER Mi VH (Aa (Fx Mi VH (Aa (BK (Af ⟨_,rfl,"dict_keyiterator",_,⟨_,An _ rfl,rfl⟩,BR.lookup,q⟩))))))))
end
end L2
variable{u:L2.HO}
namespace L2
section
variable{σ:St}{s:cr}
def Inv.freeze(I:Inv X U σ H s)(e:H a=am (.dT ay)):∃o,Inv X U σ (upd H a (.cg o (.dT ay))) s:=by
 obtain⟨z,hs,xs,r,o,es,ep,h1,h2,h3,h4,h5⟩:=(show bh X.prog X.w H s.heap a (.dT ay) from I.bg a _ e);refine⟨o,?_⟩;have q:=I.write (x:=a) (e:=a) (o:=.cg o (.dT ay)) (h':=s.heap) (t':=s.toks) (by rw[e];exact Cm) (.inl rfl) (λb u _ z=>z) ⟨o,h1⟩
  ⟨h1,z,hs,xs,KT.keeps r λb ys eb=>by rw[ak (Kv eb e (λz=>nomatch z))];exact eb,o,es,ep,h1,h2,h3,h4,h5⟩
 exact q
def Inv.Wr(I:Inv X U σ H s)(e:H a=am (.cg o u))(h0:∀o u,X.H₀ a≠am (.cg o u))(hu:bh X.prog X.w (upd H a u) s.heap a u)(bg:mh X.prog X.w (upd H a u) s.heap):Inv X U σ (upd H a u) s:=by
 have ne:∀b v,H b=v->v≠am (.cg o u)->b≠a:=λb v q n z=>by subst z;exact n (q.symm.trans e)
 refine⟨I.ok,I.os,I.bare,⟨I.base.keep,I.base.slot,λb ob q n hx=>?_,I.base.there,λb xs q=>?_,λb ob xs q=>?_,λb ps q=>?_⟩,I.loc,I.cell,?_,λx c q=>?_,λp hp=>?_,bg,I.len⟩
 .have:=I.base.free b ob q n hx;rw[ak (ne b _ this (by simp))];exact this
 .have:=I.base.cD b xs q;rw[ak (ne b _ this (by simp))];exact this
 .have:=I.base.tT b ob xs q;have hb:b≠a:=λz=>by subst z;exact h0 _ _ q
  rw[ak hb];exact this
 .obtain⟨m,this⟩:=I.base.uL b ps q;exact⟨m,by rw[ak (ne b _ this (by simp))];exact this⟩
 .rw[ak (ne _ _ I.free (by simp))];exact I.free
 .rw[ak (ne _ _ (I.jH x c q) (by simp))];exact I.jH x c q
 .obtain⟨p1,p2,p3⟩:=I.pin p hp;exact⟨p1,by rw[ak (ne _ _ p2 (by simp))];exact p2,p3⟩
def PB(ok:mh P w H h)(e:H a=am (.cg o u)):mh P w (upd H a u) h:=λb u' q=>by
 have ne:∀c v,H c=am v->v≠.cg o u->upd H a u c=am v:=λc v z n=>by
  rw[ak (λy=>by subst y;rw[e]at z;cases z;exact n rfl)];exact z
 by_cases hb:b=a
 .subst hb;rw[aG]at q;cases q;exact bh.wJ (ok b _ e).2 (λ_ _ _ z=>z) (λc z=>ne c _ z (by simp)) λc xs z=>ne c _ z (by simp)
 .rw[ak hb]at q;exact bh.wJ (ok b _ q) (λ_ _ _ z=>z) (λc z=>ne c _ z (by simp)) λc xs z=>ne c _ z (by simp)
end
def acI(a:db)(o:Obj):It:=
 ⟨λi H=>∃ay,H a=am (.cg o (.dT ay))/\i<ay.length,λi H x H'=>H'=H/\∀ay,H a=am (.cg o (.dT ay))->∃b k v,x=.ref b/\ay[i]?=am (k,v)/\H b=am (.tup (k.map kV)),λi H=>∃ay,H a=am (.cg o (.dT ay))/\ay.length<=i⟩
theorem PZ(x:bh P w H h a (.cg o (.dT ay)))(hd:o.data=.dict es ep):UH h a es ep/\es.size=ay.length/\∀(i:Nat) (hi:i<es.size),∃b k v,es[i].key=.ref b/\ay[i]?=am (k,v)/\H b=am (.tup (k.map kV)):=by
 obtain⟨e,z,hs,xs,r,o',Ć,ć,h1,h2,h3,h4,h5⟩:=x;rw[e]at h1;cases h1;rw[hd]at h3;cases h3;have hl:es.size=xs.length:=by have:=congrArg Cb h4;simpa using this
 refine⟨⟨o,e,h2,hd⟩,hl.trans (Paired.length r).symm,λi hi=>?_⟩;have hx:xs[i]?=am (xs[i]'∅):=Ad _;have pg:∀{l:O (O Key×V)}{m:O (O Key×db×ci)}{i:Nat}{q:O Key×db×ci},KT H l m->m[i]?=am q->∃v,l[i]?=am (q.1,v)/\H q.2.1=am (.tup (q.1.map kV)):=by
  intro l m i q t
  induction t generalizing i with
  |nil=>intro h;simp at h
  | @cons p q' ps qs hq t ih=>
   intro h;cases i with
   |zero=>
    cases h;obtain⟨p1,p2⟩:=p;have e1:=hq.1;subst e1;exact⟨p2,rfl,hq.2.1⟩
   |succ i=>exact ih (by simpa using h)
 obtain⟨v,g1,g2⟩:=pg r hx;refine⟨_,_,v,?_,g1,g2⟩;have:es[i]=entryOfKey (sB (cn P w)) (xs[i]'∅):=by
  have h6:es.toList[i]?=am (entryOfKey (sB (cn P w)) (xs[i]'∅)):=by rw[h4,Ag,hx];rfl
  rw[DT,Dg hi]at h6;exact Option.some.inj h6
 rw[this];rfl
theorem Ls{K:Ab}(a it:db)(o:Obj)(hd:o.data=.dict es ep):Turn P w K tg (acI a o) [it] it (λi h=>h.IsKeyIter it a i es.size ep) where
 mem:=by simp
 obj:=λi h st b hb=>by
  have e:b=it:=by simpa using hb
  subst e;obtain⟨o,e,c,d⟩:=st;exact⟨o,e,λv z=>by rw[d]at z;cases z⟩
 keep:=λi h h' st k=>st.at λo e=>k it (by simp) o e
 item:=by
  intro X hP hw hK hc i U s σ H E I hf st hg;obtain⟨ay,hq,hx⟩:=hg;obtain⟨Ĕ,hl,ky⟩:=PZ (I.bg a _ hq) hd;obtain⟨b,k,v,k1,k2,k3⟩:=ky i ∅;obtain⟨f0,f1,f2,f3,f4,f5⟩:=hf it (by simp);refine OS st Ĕ ∅ λh' qZ sb=>?_;obtain⟨oi,e,c,d⟩:=id qZ;refine⟨_,rfl,zZ e c d ⋯ ⟨.ref b,H,(I.turned (λb o hb e=>(sb.2 b hb).trans e) f0 f1 f3 f4 f5),k1,⟨rfl,λaiR Zn=>?_⟩,qZ,λb hb=>(hf b hb).1⟩⟩;rw[hq]at Zn;cases Zn;exact⟨b,k,v,rfl,k2,k3⟩
 done:=by
  intro X hP hw hK hc i U s σ H E I hf st hg;obtain⟨ay,hq,hx⟩:=hg;obtain⟨Ĕ,hl,ky⟩:=PZ (I.bg a _ hq) hd;obtain⟨f0,f1,f2,f3,f4,f5⟩:=hf it (by simp);exact T9 (I.ok.hd hc) st Ĕ ∅ λh' eb=>⟨rfl,I.turned (t':=s.toks) (λb o hb e=>eb b o hb e) f0 f1 f3 f4 f5⟩
 self:=λ_ _ _ _ _ st h=>wpAny_pyIter_keyiter st h
def Yb(tl:TE):TI:=λσ H R=>tl σ H λx H1=>∃a o ay,x=.ref a/\H1 a=am (.cg o (.dT ay))/\R (acI a o) H1
def Oz{l:nw}{tl:TE}(hl:PE X l tl):PI X tg l (Yb tl):=by
 intro U s σ H R I h;refine bN (hl U s σ H _ I h) λv s1 ⟨x,H1,I1,r1,q1⟩=>?_;obtain⟨a,o,ay,e,hq,q⟩:=q1;subst e;cases r1;obtain⟨eo,z,hs,xs,r,o',es,ep,h1,h2,h3,h4,h5⟩:=(I1.bg a _ hq);rw[eo]at h1;cases h1;refine Po hs ⟨o,eo,h2,h3⟩ ?_;refine⟨s1.heap.objs.size,[s1.heap.objs.size],_,_,H1,rfl,I1.kept λb o e=>Ah _ e,Ls a _ o h3,⟨_,An _ rfl,rfl,rfl⟩,λb hb=>?_,q⟩;have e:b=s1.heap.objs.size:=by simpa using hb
 subst e;exact I1.xW (Ak _) (I1.bg.fresh (Ak _))
end L2
variable{x:Bg}{o:L2.HO}{v:PL.PV}{ws:O (BZ×L2.V)}{fz:O (Bg×F0)}{ψ:Nat->O L2.V->Prop}{φ:Fe->Prop}
noncomputable section
namespace FL
section
variable{K:Ab}
structure W(α:Type) where
 run:(α->Prop)->Prop
 mono:∀{Q Q':α->Prop},(∀a,Q a->Q' a)->run Q->run Q'
namespace W
variable{α β γ:Type}
def ext'{a b:W α}(h:∀Q,a.run Q↔b.run Q):a=b:=by
 cases a;cases b;congr;funext Q;exact propext (h Q)
noncomputable def ret(a:α):W α:=⟨λQ=>Q a,λh q=>h _ q⟩
noncomputable def bind(w:W α)(k:α->W β):W β:=⟨λQ=>w.run λa=>(k a).run Q,λh q=>w.mono (λa q=>(k a).mono h q) q⟩
def fail:W α:=⟨λ_=>False,λ_ q=>q⟩
def d8(p:Prop)(w:W α):W α:=⟨λQ=>p/\w.run Q,λh q=>⟨q.1,w.mono h q.2⟩⟩
def any(p:α->Prop):W α:=⟨λQ=>∀a,p a->Q a,λh q a pa=>h a (q a pa)⟩
def SI:Option α->W α
 |some a=>ret a
 |none=>fail
@[simp] theorem aa(a:α)(k:α->W β):bind (ret a) k=k a:=(rfl)
@[simp] theorem bind_assoc(w:W α)(f:α->W β)(g:β->W γ):bind (bind w f) g=bind w λa=>bind (f a) g:=(rfl)
@[simp] theorem acA(w:W α):bind w ret=w:=(rfl)
@[simp] theorem ZA(k:α->W β):bind fail k=fail:=(rfl)
@[simp] theorem af(a:α)(Q:α->Prop):(ret a).run Q=Q a:=(rfl)
@[simp] theorem run_bind(w:W α)(k:α->W β)(Q:β->Prop):(bind w k).run Q=w.run λa=>(k a).run Q:=(rfl)
@[simp] theorem aak(Q:α->Prop):(fail:W α).run Q=False:=(rfl)
@[simp] theorem acT(p Q:α->Prop):(any p).run Q=∀a,p a->Q a:=(rfl)
@[simp] theorem wQ(p:Prop)(w:W α)(Q:α->Prop):(d8 p w).run Q=(p/\w.run Q):=(rfl)
@[simp] theorem acw(p:Prop)(w:W α)(k:α->W β):bind (d8 p w) k=d8 p (bind w k):=(rfl)
def ao{p:Prop}{w:W α}(h:p):d8 p w=w:=ext' λQ=>⟨λq=>q.2,λq=>⟨h,q⟩⟩
@[simp] theorem acv{w:W α}:d8 True w=w:=ao trivial
@[simp] theorem aD(a:α):SI (am a)=ret a:=(rfl)
@[simp] theorem aaY:SI (ce:Option α)=fail:=(rfl)
end W
inductive FD where
 |v (p:PV)|o (b:db) (l:List PV)
def Yx:O (Str×FD)->O db
 |[]=>[]
 |(_,.v _)::l=>Yx l
 |(_,.o b _)::l=>b::Yx l
inductive Q2(K:Ab)(H:Hp):List (Str×V)->List (Str×FD)->Prop
 |nil:Q2 K H [] []
 |v {n:Str}{u:V}{p:PV}{ws:List (Str×V)}{fd:List (Str×FD)} (r:VR K [] H u p) (t:Q2 K H ws fd):Q2 K H ((n,u)::ws) ((n,.v p)::fd)
 |o {n:Str}{b:db}{vs:List V}{l:List PV}{ws:List (Str×V)}{fd:List (Str×FD)} (e:H b=am (.lst vs)) (r:aB K [] H vs l) (t:Q2 K H ws fd):Q2 K H ((n,.ref b)::ws) ((n,.o b l)::fd)
inductive SL where
 |val (v:PV)|adr (b:db) (us:List V) (ps:List PV) (fz:List (db×Obj))|ol (q:Option db) (l:List PV)|oll (bs:List db) (ls:List (List PV))|od (ay:List (Key×PV))|ot (ay:List (List Key×PV))|cG (ψ:Nat->List V->Prop) (n m:Nat)|ob (q C:db) (fd:List (Str×FD))
abbrev aL:=O (Option SL)
def ZJ(H:Hp)(fz:O (db×Obj)):Prop:=∀p∈fz,∃u,H p.1=am (.cg p.2 u)
def ZJ.tk(h:ZJ H fz)(t:bc K H H'):ZJ H' fz:=λp hp=>let ⟨u,e⟩:=h p hp;⟨u,t.z _ _ _ e⟩
def _root_.L2.HO.nt:HO->Bool
 |.yZ _=>false
 |_=>true
def _root_.L2.HO.ow:HO->Bool
 |.lst _=>true
 |.dK _=>true
 |.dT _=>true
 |.ins _ _ _=>true
 |_=>false
def OH(h:o.ow=true):o.nt=true:=by cases o<;>first|rfl|cases h
def aaO(k:bh P w H h a o)(e:h.get? a=am ob)(ho:o.ow=true)(vs:Array ci):ob.data≠.fields vs:=by
 cases o with
 |lst xs=>obtain⟨_,_,_,_,q⟩:=k;rw[e]at q;cases q;nofun
 |dK xs=>obtain⟨_,_,_,_,o,_,_,q,_,q2,_⟩:=k;rw[e]at q;cases q;rw[q2];nofun
 |dT xs=>obtain⟨_,_,_,_,o,_,_,q,_,q2,_⟩:=k;rw[e]at q;cases q;rw[q2];nofun
 |ins C dx fs=>obtain⟨_,_,_,q,_⟩:=k;rw[e]at q;cases q;nofun
 |_=>cases ho
class bL where
 ts:List (db×Str)
def FzC(H:Hp)(c:ci)(q:Str):Prop:=∃a o u vs t,c=.ref a/\H a=am (.cg o u)/\o.data=.fields vs/\vs[1]?=am (.str q t)
variable[bL]
def TB(H:Hp):Prop:=∀p∈bL.ts,∃ps,H p.1=am (.yZ ps)/\TriplesOk ps.toList/\∀pos c,codeAmong pos ps.toList=am c->FzC H c p.2
def TB.mono(h:TB H)(h1:∀a ps,H a=am (.yZ ps)->H' a=am (.yZ ps))(h2:∀a o u vs,H a=am (.cg o u)->o.data=.fields vs->∃u,H' a=am (.cg o u)):TB H':=λp hp=>by
 obtain⟨ps,e,q,k⟩:=h p hp;refine⟨ps,h1 _ _ e,q,λpos c z=>?_⟩;obtain⟨a,o,u,vs,t,e1,e2,e3,e4⟩:=k pos c z;obtain⟨u',e5⟩:=h2 a o u vs e2 e3;exact⟨a,o,u',vs,t,e1,e5,e3,e4⟩
def TB.same(h:TB H)(s:jD H H'):TB H':=h.mono (λa _ z=>s a _ z) λa _ _ _ z _=>⟨_,s a _ z⟩
def TB.Wr(t:TB H)(k:mh P w H h)(e:H a=am (.cg ob o))(ho:o.ow=true):TB (upd H a o):=
 t.mono (λb _ z=>by rw[ak (λy=>by subst y;rw[e]at z;cases z)];exact z) λb o' u vs z d=>⟨u,by
  rw[ak (λy=>by subst y;rw[e]at z;cases z;exact aaO (k b _ e).2 (k b _ e).1 ho vs d)];exact z⟩
def TB.Ka{ob:HO}(h:TB H)(s:kG a H H')(e:H a=am ob)(n1:ob.nt=true)(n2:∀o u,ob≠.cg o u):TB H':=
 h.mono (λb _ z=>s b _ (λy=>by subst y;rw[e]at z;cases z;cases n1) z) λb _ _ _ z _=>⟨_,s b _ (λy=>by subst y;rw[e]at z;cases z;exact n2 _ _ rfl) z⟩
def SL.own:SL->Bool
 |.val _=>false
 |.adr _ _ _ _=>false
 |_=>true
def SL.Pu:SL->O db
 |.oll bs _=>bs
 |.ob _ _ fd=>Yx fd
 |_=>[]
def SL.has(s:SL)(x a:db):Prop:=a=x\/a∈s.Pu
def HM:Nat:=2 ^ 250
def Hh(H:Hp)(a:db)(ψ:Nat->O V->Prop)(n:Nat):Prop:=∃j vs,j<=n/\H a=am (.lst vs)/\ψ j vs/\∀b,V.ref b∈vs->c9 H b
def gV(K:Ab)(H:Hp)(a:db):SL->Prop
 |.val _=>False
 |.adr b us ps fz=>a=b/\aB K [] H us ps/\ZJ H fz
 |.oll bs ls=>H a=am (.lst (bs.map V.ref))/\a∉bs/\bs.Nodup/\bs.length=ls.length/\∀(j:Nat) (b:db) (l:O PV),bs[j]?=am b->ls[j]?=am l->∃ws,H b=am (.lst ws)/\aB K [] H ws l
 |.ol q l=>(∀b,q=am b->a=b)/\∃vs,H a=am (.lst vs)/\aB K [] H vs l
 |.od ay=>∃vs:O (Key×V),H a=am (.dK vs)/\vs.map (·.1)=ay.map (·.1)/\aB K [] H (vs.map (·.2)) (ay.map (·.2))
 |.ot ay=>∃vs:O (O Key×V),H a=am (.dT vs)/\vs.map (·.1)=ay.map (·.1)/\aB K [] H (vs.map (·.2)) (ay.map (·.2))
 |.cG ψ n m=>Hh H a ψ n/\n<=m/\m<=HM
 |.ob q C fd=>a=q/\Cls K C/\(∀p∈fd,Q0 K C p.1)/\a∉Yx fd/\(Yx fd).Nodup/\∃dx ws,H a=am (.ins C dx ws)/\Q2 K H ws fd
def qr(K:Ab)(H:Hp)(u:V)(s:SL):Prop:=(∃v,s=.val v/\VR K [] H u v)\/∃a,u=.ref a/\gV K H a s
def bP(σ:L2.St)(fs:aL)(a:db):Prop:=∃(i:Nat) (s:SL) (x:db),fs[i]?=am (am s)/\s.own=true/\σ[i]?=am (am (.ref x))/\s.has x a
def gF(σ:L2.St)(fs:aL)(ψ:Nat->O V->Prop)(m:Nat)(a:db):Prop:=∃i n:Nat,fs[i]?=am (am (.cG ψ n m))/\σ[i]?=am (am (.ref a))
structure Ev(fs aH:aL):Prop where
 len:fs.length=aH.length
 at':∀i:Nat,fs[i]?=aH[i]?\/∃ψ n n' m,fs[i]?=am (am (.cG ψ n m))/\aH[i]?=am (am (.cG ψ n' m))
structure aU(K:Ab)(H:Hp)(σ:L2.St)(fs:aL):Prop where
 len:σ.length=fs.length
 at':∀(i:Nat) (s:SL),fs[i]?=am (am s)->∃u,σ[i]?=am (am u)/\qr K H u s
 nd:∀(i j:Nat) (s t:SL) (x y a:db),fs[i]?=am (am s)->fs[j]?=am (am t)->s.own=true->t.own=true->σ[i]?=am (am (.ref x))->σ[j]?=am (am (.ref y))->s.has x a->t.has y a->i=j
 tb:TB H
structure cB(σ:L2.St)(fs:aL)(H:Hp)(σ':L2.St)(aH:aL)(H':Hp):Prop where
 keep:∀a o,H a=am o->¬bP σ fs a->(o.nt=true->H' a=am o)/\¬bP σ' aH a
 there:∀a,H' a=ce->H a=ce
 pk:∀a ψ m,gF σ fs ψ m a->gF σ' aH ψ m a\/(¬bP σ' aH a/\Hh H' a ψ m)
 x:∀b,c9 H b->c9 H' b
structure ck(σ:L2.St)(fs:aL)(H H':Hp)(aH:aL:=fs):Prop where
 keep:∀a o,H a=am o->(∀ψ m,¬gF σ fs ψ m a)->(nt:‹o.nt=true›)->H' a=am o
 there:∀a,H' a=ce->H a=ce
 ev:Ev fs aH
 x:∀b,c9 H b->c9 H' b
section
variable{σ σ' σ1 σ2:L2.St}{fs aH ax fs2:aL}{H H' H1 H2:Hp}
def gF.eK{m:Nat}(p:gF σ fs ψ m a):bP σ fs a:=let ⟨i,n,e1,e2⟩:=p;⟨i,_,_,e1,rfl,e2,.inl rfl⟩
def Ev.refl(fs:aL):Ev fs fs:=⟨rfl,λ_=>.inl rfl⟩
def Ev.symm(e:Ev fs aH):Ev aH fs:=⟨e.len.symm,λi=>(e.at' i).imp Eq.symm λ⟨ψ,n,n',m,a,b⟩=>⟨ψ,n',n,m,b,a⟩⟩
def Ev.trans(e:Ev fs ax)(k:Ev ax fs2):Ev fs fs2:=⟨e.len.trans k.len,λi=>by
 rcases e.at' i with h|⟨ψ,n,n',m,h1,h2⟩
 .rw[h];exact k.at' i
 .rcases k.at' i with h|⟨ψ',j,j',m',h3,h4⟩
  .exact .inr ⟨ψ,n,n',m,h1,h▸h2⟩
  .rw[h2]at h3;cases h3;exact .inr ⟨ψ,n,j',m,h1,h4⟩⟩
def Ev.get(e:Ev fs aH){t:SL}(h:aH[i]?=am (am t)):(fs[i]?=am (am t))\/∃ψ n n' m,t=.cG ψ n' m/\fs[i]?=am (am (.cG ψ n m)):=by
 rcases e.at' i with h2|⟨ψ,n,n',m,h1,h2⟩
 .exact .inl (h2.trans h)
 .rw[h]at h2;cases h2;exact .inr ⟨ψ,n,n',m,rfl,h1⟩
def Ev.same(e:Ev fs aH){t:SL}(h:fs[i]?=am (am t))(n:∀ψ j m,t≠.cG ψ j m):aH[i]?=am (am t):=(e.symm.get h).resolve_right λ⟨_,_,_,_,z,_⟩=>n _ _ _ z
def Ev.cG(e:Ev fs aH){m:Nat}(p:gF σ aH ψ m a):gF σ fs ψ m a:=by
 obtain⟨i,n,h1,h2⟩:=p;rcases e.get h1 with h|⟨_,j,_,_,h,k⟩
 .exact⟨i,n,h,h2⟩
 .cases h;exact⟨i,j,k,h2⟩
def Ev.eK(e:Ev fs aH)(p:bP σ aH a):bP σ fs a:=by
 obtain⟨i,t,x,h1,h2,h3,h4⟩:=p;rcases e.get h1 with h|⟨_,j,_,_,rfl,k⟩
 .exact⟨i,t,x,h,h2,h3,h4⟩
 .exact⟨i,_,x,k,rfl,h3,h4⟩
def ck.refl:ck σ fs H H:=⟨λ_ _ h _ _=>h,λ_ h=>h,.refl _,λ_ h=>h⟩
def ck.trans(a:ck σ fs H H1 ax)(b:ck σ ax H1 H2 fs2):ck σ fs H H2 fs2:=⟨λx o h n t=>b.keep x o (a.keep x o h n t) (λψ m p=>n ψ m (a.ev.cG p)) t,λx h=>a.there x (b.there x h),a.ev.trans b.ev,λx h=>b.x x (a.x x h)⟩
def ck.f(g:ck σ fs H H' aH):cB σ fs H σ aH H':=⟨λa o h n=>⟨λt=>g.keep a o h (λ_ _ p=>n p.eK) t,λz=>n (g.ev.eK z)⟩,g.there,λa ψ m p=>.inl (g.ev.symm.cG p),g.x⟩
def ck.tH(g:ck σ fs H H' aH)(h:H a=am o)(n:¬bP σ fs a)(t:‹o.nt=true›):H' a=am o:=g.keep a o h (λ_ _ p=>n p.eK) t
def ck.same(h:jD H H'):ck σ fs H H':=⟨λa o e _ _=>h a o e,λa e=>(by
 cases z:H a with
 |none=>rfl
 |some o=>rw[h a o z]at e;cases e),.refl _,λ_ z=>h _ _ z⟩
def Q2.ex{fd:O (Str×FD)}(h:Q2 K H ws fd){c:db}(hc:c∈Yx fd):∃vs,H c=am (.lst vs):=by
 induction h with
 |nil=>cases hc
 |v r t ih=>exact ih hc
 | @o n b vs l ws fd e r t ih=>
  rcases AD.mp (hc) with rfl|hc
  .exact⟨vs,e⟩
  .exact ih hc
def gV.ex{c:db}{s:SL}(h:gV K H a s)(ho:s.own=true)(hc:s.has a c):∃o,H c=am o/\(∀vs,o≠.tup vs)/\(∀ob u,o≠.cg ob u)/\o.ow=true:=by
 cases s with
 |val _=>exact h.elim
 |adr _ _ _ _=>cases ho
 |ol q l=>obtain⟨_,vs,e,_⟩:=h;rcases hc with rfl|hc;exact⟨_,e,by simp,by simp,rfl⟩;cases hc
 |oll bs ls=>
  obtain⟨e,_,_,hl,hb⟩:=h;rcases hc with rfl|hc
  .exact⟨_,e,by simp,by simp,rfl⟩
  .obtain⟨j,hj⟩:=List.getElem?_of_mem (hc);obtain⟨ws,e,_⟩:=hb j c _ hj (Ad (by rw[<- hl];exact((Aj.mp hj).1)));exact⟨_,e,by simp,by simp,rfl⟩
 |od l=>obtain⟨vs,e,_⟩:=h;rcases hc with rfl|hc;exact⟨_,e,by simp,by simp,rfl⟩;cases hc
 |ot l=>obtain⟨vs,e,_⟩:=h;rcases hc with rfl|hc;exact⟨_,e,by simp,by simp,rfl⟩;cases hc
 |cG ψ n m=>obtain⟨⟨_,vs,_,e,_⟩,_⟩:=h;rcases hc with rfl|hc;exact⟨_,e,by simp,by simp,rfl⟩;cases hc
 |ob q C fd=>
  obtain⟨_,_,_,_,_,dx,ws,e,r⟩:=h;rcases hc with rfl|hc
  .exact⟨_,e,by simp,by simp,rfl⟩
  .obtain⟨vs,e⟩:=r.ex hc;exact⟨_,e,by simp,by simp,rfl⟩
def aU.ownAt(s:aU K H σ fs){t:SL}(h1:fs[i]?=am (am t))(h2:t.own=true)(h3:σ[i]?=am (am (.ref a))):gV K H a t:=by
 obtain⟨u,e,r⟩:=s.at' i t h1;rw[h3]at e;cases e;rcases r with⟨v,rfl,_⟩|⟨b,e,r⟩
 .cases h2
 .cases e;exact r
def aU.eK(s:aU K H σ fs)(h:bP σ fs a):∃o,H a=am o/\(∀vs,o≠.tup vs)/\(∀ob u,o≠.cg ob u)/\o.ow=true:=by
 obtain⟨i,t,x,h1,h2,h3,h4⟩:=h;exact(s.ownAt h1 h2 h3).ex h2 h4
def aU.noOwn(s:aU K H σ fs)(h:H a=ce):¬bP σ fs a:=λz=>by
 obtain⟨o,e,_⟩:=s.eK z;rw[h]at e;cases e
def aU.Xt(s:aU K H σ fs)(h:H a=am (.tup vs)):¬bP σ fs a:=λz=>by
 obtain⟨o,e,n,_⟩:=s.eK z;rw[h]at e;cases e;exact n vs rfl
def aU.Xu(s:aU K H σ fs)(h:H a=am (.cg ob u)):¬bP σ fs a:=λz=>by
 obtain⟨o,e,_,n,_⟩:=s.eK z;rw[h]at e;cases e;exact n ob u rfl
def aU.Xr(s:aU K H σ fs)(h:H a=am (.ext φ)):¬bP σ fs a:=λz=>by
 obtain⟨o,e,_,_,n⟩:=s.eK z;rw[h]at e;cases e;cases n
def cB.refl:cB σ fs H σ fs H:=⟨λ_ _ h n=>⟨λ_=>h,n⟩,λ_ h=>h,λ_ _ _ h=>.inl h,λ_ h=>h⟩
def cB.SQ(a:cB σ fs H σ1 ax H1)(b:cB σ1 ax H1 σ2 fs2 H2)(h:H x=am o)(n:¬bP σ fs x):¬bP σ2 fs2 x:=by
 cases z:H1 x with
 |none=>rw[a.there x z]at h;cases h
 |some o1=>exact(b.keep x o1 z ((a.keep x o h n).2)).2
def cB.trans(a:cB σ fs H σ1 ax H1)(b:cB σ1 ax H1 σ2 fs2 H2):cB σ fs H σ2 fs2 H2:=
 ⟨λx o h n=>⟨λt=>let ⟨h1,n1⟩:=a.keep x o h n;(b.keep x o (h1 t) n1).1 t,a.SQ b h n⟩,λx h=>a.there x (b.there x h),λx ψ m h=>(a.pk x ψ m h).elim (b.pk x ψ m) λ⟨n,j,vs,hj,e,p,q⟩=>.inr (let ⟨h1,n1⟩:=b.keep x _ e n;⟨n1,j,vs,hj,h1 rfl,p,λc hc=>b.x c (q c hc)⟩),λc h=>b.x c (a.x c h)⟩
def cB.cD(g:cB σ fs H σ' aH H')(s:aU K H σ fs):bc K H H':=
 ⟨λa vs h=>(g.keep a _ h (s.Xt h)).1 rfl,λa o u h=>(g.keep a _ h (s.Xu h)).1 rfl,g.x⟩
def VR.tk{u:V}(t:bc K H H')(r:VR K [] H u v):VR K [] H' u v:=r.mono t λ_ _ e=>e
def aB.tk{u:O V}{v:O PV}(t:bc K H H')(r:aB K [] H u v):aB K [] H' u v:=r.mono t λ_ _ e=>e
def cB.vr(g:cB σ fs H σ' aH H')(s:aU K H σ fs){u:V}(r:VR K [] H u v):VR K [] H' u v:=VR.tk (g.cD s) r
def ck.cD(g:ck σ fs H H' aH)(s:aU K H σ fs):bc K H H':=g.f.cD s
def ck.vr(g:ck σ fs H H' aH)(s:aU K H σ fs){u:V}(r:VR K [] H u v):VR K [] H' u v:=VR.tk (g.cD s) r
def ck.JS(g:ck σ fs H H' aH)(s:aU K H σ fs){u:O V}{v:O PV}(r:aB K [] H u v):aB K [] H' u v:=aB.tk (g.cD s) r
def Q2.mono{fd:O (Str×FD)}(t:bc K H H')(h:Q2 K H ws fd)(e:∀c vs,c∈Yx fd->H c=am (.lst vs)->H' c=am (.lst vs)):Q2 K H' ws fd:=by
 induction h with
 |nil=>exact .nil
 |v r _ ih=>exact .v (VR.tk t r) (ih e)
 | @o n b vs l ws fd q r _ ih=>exact .o (e b vs (.head _) q) (aB.tk t r) (ih λc vs hc=>e c vs (.tail _ hc))
def gV.mono{s:SL}(t:bc K H H')(e:∀c o,s.own=true->s.has a c->H c=am o->o.nt=true->H' c=am o)(h:gV K H a s):gV K H' a s:=by
 cases s with
 |val _=>exact h
 |adr _ _ _ _=>exact⟨h.1,aB.tk t h.2.1,h.2.2.tk t⟩
 |ol _ l=>obtain⟨z,vs,q,r⟩:=h;exact⟨z,vs,e _ _ rfl (.inl rfl) q rfl,aB.tk t r⟩
 |oll bs ls=>
  obtain⟨z,h1,h2,h3,h4⟩:=h;refine⟨e _ _ rfl (.inl rfl) z rfl,h1,h2,h3,λj b l hb hl=>?_⟩;obtain⟨ws,q,r⟩:=h4 j b l hb hl;exact⟨ws,e _ _ rfl (.inr (Bb hb)) q rfl,aB.tk t r⟩
 |od l=>obtain⟨vs,q,k,r⟩:=h;exact⟨vs,e _ _ rfl (.inl rfl) q rfl,k,aB.tk t r⟩
 |ot l=>obtain⟨vs,q,k,r⟩:=h;exact⟨vs,e _ _ rfl (.inl rfl) q rfl,k,aB.tk t r⟩
 |cG ψ n m=>obtain⟨⟨j,vs,hj,q,k,z⟩,r⟩:=h;exact⟨⟨j,vs,hj,e _ _ rfl (.inl rfl) q rfl,k,λb hb=>t.x b (z b hb)⟩,r⟩
 |ob q C fd=>obtain⟨h0,h1,h2,h3,h4,dx,ws,q,r⟩:=h;exact⟨h0,h1,h2,h3,h4,dx,ws,e _ _ rfl (.inl rfl) q rfl,r.mono t λc vs hc q=>e c _ rfl (.inr hc) q rfl⟩
def qr.mono{u:V}{s:SL}(t:bc K H H')(e:∀x a o,u=.ref x->s.own=true->s.has x a->H a=am o->o.nt=true->H' a=am o)(h:qr K H u s):qr K H' u s:=by
 rcases h with⟨v,q,r⟩|⟨a,q,r⟩
 .exact .inl ⟨v,q,VR.tk t r⟩
 .exact .inr ⟨a,q,r.mono t (λc o z y w nt=>e a c o q z y w nt)⟩
def aU.same(s:aU K H σ fs)(h:jD H H'):aU K H' σ fs:=⟨s.len,λi t e=>let ⟨u,h1,h2⟩:=s.at' i t e;⟨u,h1,h2.mono h.eE (λ_ a o _ _ _ z _=>h a o z)⟩,s.nd,s.tb.same h⟩
def cB.same(h:jD H H')(s:aU K H σ fs):cB σ fs H σ fs H':=⟨λa o e n=>⟨λ_=>h a o e,n⟩,λa e=>(by
 cases z:H a with
 |none=>rfl
 |some o=>rw[h a o z]at e;cases e),λa ψ m p=>.inl p,λ_ z=>h _ _ z⟩
inductive cY:aL->aL->Prop
 |nil:cY [] []
 |drop {s:Option SL}{a b:aL} (h:cY a b):cY (s::a) (ce::b)
 |keep {s:Option SL}{a b:aL} (h:cY a b):cY (s::a) (s::b)
 |bump {ψ:Nat->List V->Prop}{n n' m:Nat}{a b:aL} (h:cY a b) (k:n<=n'/\n'<=m):cY (am (.cG ψ n m)::a) (am (.cG ψ n' m)::b)
def Y5(s t:SL):Prop:=s=t\/∃ψ n n' m,s=.cG ψ n m/\t=.cG ψ n' m/\n<=n'/\n'<=m
theorem cY.at{a b:aL}(h:cY a b):∀(i:Nat) (s:SL),b[i]?=am (am s)->∃t,a[i]?=am (am t)/\Y5 t s:=by
 induction h with
 |nil=>intro i s e;simp at e
 |drop h ih=>intro i s e;cases i with|zero=>simp at e|succ i=>simp at e ⊢;exact ih i s e
 |keep h ih=>intro i s e;cases i with|zero=>exact⟨s,by simpa using e,.inl rfl⟩|succ i=>simp at e ⊢;exact ih i s e
 | @bump ψ n n' m a b h k ih=>intro i s e;cases i with|zero=>(simp at e;subst e;exact⟨_,rfl,.inr ⟨ψ,n,n',m,rfl,rfl,k⟩⟩)|succ i=>simp at e ⊢;exact ih i s e
theorem cY.length{a b:aL}(h:cY a b):a.length=b.length:=by induction h<;>simp_all
theorem cY.refl:∀a:aL,cY a a
 |[]=>.nil
 |_::a=>.keep (cY.refl a)
def Y5.own{s t:SL}(h:Y5 s t):s.own=t.own:=by rcases h with rfl|⟨_,_,_,_,rfl,rfl,_⟩<;>rfl
def Y5.has{s t:SL}(h:Y5 s t)(k:t.has x a):s.has x a:=by
 rcases h with rfl|⟨_,_,_,_,rfl,rfl,_⟩
 .exact k
 .exact k
def Y5.slot{s t:SL}(h:Y5 s t){u:V}(k:qr K H u s):qr K H u t:=by
 rcases h with rfl|⟨ψ,n,n',m,rfl,rfl,h1,h2⟩
 .exact k
 .rcases k with⟨v,e,_⟩|⟨a,e,⟨j,vs,hj,q⟩,_,hm⟩
  .cases e
  .exact .inr ⟨a,e,⟨j,vs,AV hj h1,q⟩,h2,hm⟩
def aU.le(s:aU K H σ fs)(h:cY fs aH):aU K H σ aH:=⟨s.len.trans h.length,λi t e=>let ⟨_,e2,l⟩:=h.at i t e;let ⟨u,h1,h2⟩:=s.at' i _ e2;⟨u,h1,l.slot h2⟩,λi j t u x y a e1 e2 o1 o2 q1 q2 z1 z2=>let ⟨_,f1,l1⟩:=h.at i t e1;let ⟨_,f2,l2⟩:=h.at j u e2;s.nd i j _ _ x y a f1 f2 (l1.own▸o1) (l2.own▸o2) q1 q2 (l1.has z1) (l2.has z2),s.tb⟩
def bP.le(h:cY fs aH)(o:bP σ aH a):bP σ fs a:=let ⟨i,t,x,e1,e2,e3,e4⟩:=o;let ⟨t',f1,l⟩:=h.at i t e1;⟨i,t',x,f1,l.own▸e2,e3,l.has e4⟩
def aU.free(s:aU K H σ fs){m:Nat}(p:gF σ fs ψ m a):Hh H a ψ m:=by
 obtain⟨i,n,e1,e2⟩:=p;obtain⟨⟨j,vs,hj,q⟩,h1,_⟩:=s.ownAt e1 rfl e2;exact⟨j,vs,AV hj h1,q⟩
def cB.le(s:aU K H σ fs)(h:cY fs aH):cB σ fs H σ aH H:=⟨λa o e n=>⟨λ_=>e,λz=>n (z.le h)⟩,λ_ e=>e,λa ψ m p=>by
 have fr:=s.free p;obtain⟨i,n,e1,e2⟩:=p;by_cases c:bP σ aH a
 .obtain⟨j,t,x,c1,c2,c3,c4⟩:=c;obtain⟨t',f1,l⟩:=h.at j t c1;have ij:=s.nd i j _ t' a x a e1 f1 rfl (l.own▸c2) e2 c3 (.inl rfl) (l.has c4);subst ij;rw[e1]at f1;cases f1;rcases l with rfl|⟨_,_,n',_,l1,rfl,_⟩
  .exact .inl ⟨i,n,c1,e2⟩
  .cases l1;exact .inl ⟨i,n',c1,e2⟩
 .exact .inr ⟨c,fr⟩,λ_ h=>h⟩
def cm{l:O (Option α)}{x y:α}(h:(l.set i (am x))[j]?=am (am y)):(j=i/\y=x)\/(j≠i/\l[j]?=am (am y)):=by
 by_cases c:j=i
 .subst c;rw[ES]at h;simp at h;exact .inl ⟨rfl,h.2.symm⟩
 .rw[Cc (λz=>c z.symm)]at h;exact .inr ⟨c,h⟩
def aY{l:List α}{x:α}(h:i<l.length):(l.set i x)[i]?=am x:=by rw[ES];simp[h]
def aw{l:List α}{x:α}(h:j≠i):(l.set i x)[j]?=l[j]?:=Cc (λz=>h z.symm)
def aU.put(s:aU K H σ fs){u:V}{t:SL}(hr:qr K H u t)(hf:∀x a,u=.ref x->t.own=true->t.has x a->∀(j:Nat) (w:SL) (y:db),j≠i->fs[j]?=am (am w)->w.own=true->σ[j]?=am (am (.ref y))->¬w.has y a):aU K H (σ.set i (am u)) (fs.set i (am t)):=by
 refine⟨by simp[s.len],λj w e=>?_,λj k w x b1 b2 a e1 e2 o1 o2 q1 q2 z1 z2=>?_,s.tb⟩
 .rcases cm e with⟨rfl,rfl⟩|⟨n,e⟩
  .have hl:j < σ.length:=by
    have:=(Aj.mp e).1;rw[BH]at this;rw[s.len];exact this
   exact⟨u,aY hl,hr⟩
  .obtain⟨v,h1,h2⟩:=s.at' j w e;exact⟨v,by rw[aw n];exact h1,h2⟩
 .rcases cm e1 with⟨y1,y2⟩|⟨n1,f1⟩<;>rcases cm e2 with⟨y3,y4⟩|⟨n2,f2⟩
  .exact y1.trans y3.symm
  .subst y1;subst y2;rw[aw n2]at q2;have hl:j < σ.length:=by have:=(Aj.mp q1).1;simpa using this
   rw[aY hl]at q1;cases q1;exact absurd z2 (hf _ a rfl o1 z1 k x b2 n2 f2 o2 q2)
  .subst y3;subst y4;rw[aw n1]at q1;have hl:k < σ.length:=by have:=(Aj.mp q2).1;simpa using this
   rw[aY hl]at q2;cases q2;exact absurd z1 (hf _ a rfl o2 z2 j w b1 n1 f1 o1 q1)
  .rw[aw n1]at q1;rw[aw n2]at q2;exact s.nd j k w x b1 b2 a f1 f2 o1 o2 q1 q2 z1 z2
def aU.jL(s:aU K H σ fs){u:V}(hr:VR K [] H u v)(i:Nat):aU K H (σ.set i (am u)) (fs.set i (am (.val v))):=s.put (.inl ⟨v,rfl,hr⟩) λ_ _ _ z=>by cases z
def j8{u:V}{t:SL}(o:bP (σ.set i (am u)) (fs.set i (am t)) a)(hl:σ.length=fs.length):bP σ fs a\/∃x,u=.ref x/\t.own=true/\t.has x a:=by
 obtain⟨j,w,x,e1,e2,e3,e4⟩:=o;rcases cm e1 with⟨rfl,rfl⟩|⟨n,e1⟩
 .have h2:j < σ.length:=by have:=(Aj.mp e3).1;simpa using this
  rw[aY h2]at e3;cases e3;exact .inr ⟨x,rfl,e2,e4⟩
 .rw[aw n]at e3;exact .inl ⟨j,w,x,e1,e2,e3,e4⟩
def wY(s:aU K H σ fs){u:V}{t:SL}{m:Nat}(p:gF σ fs ψ m a)(hu:∀x,u=.ref x->t.own=true->t.has x a->∃n,t=.cG ψ n m):gF (σ.set i (am u)) (fs.set i (am t)) ψ m a\/¬bP (σ.set i (am u)) (fs.set i (am t)) a:=by
 obtain⟨j,n,e1,e2⟩:=p;by_cases c:j=i
 .subst c;by_cases c2:∃x,u=.ref x/\t.own=true/\t.has x a
  .obtain⟨x,c3,c4,c5⟩:=c2;obtain⟨n',rfl⟩:=hu x c3 c4 c5;rcases c5 with rfl|c5
   .exact .inl ⟨j,n',by rw[aY ((Aj.mp e1).1)],by rw[aY ((Aj.mp e2).1),c3]⟩
   .cases c5
  .refine .inr λo=>?_;obtain⟨k,w,y,q1,q2,q3,q4⟩:=o;rcases cm q1 with⟨rfl,rfl⟩|⟨n,q1⟩
   .rw[aY ((Aj.mp e2).1)]at q3;cases q3;exact c2 ⟨y,rfl,q2,q4⟩
   .rw[aw n]at q3;exact n (s.nd k j w _ y a a q1 e1 q2 rfl q3 e2 q4 (.inl rfl))
 .exact .inl ⟨j,n,by rw[aw c];exact e1,by rw[aw c];exact e2⟩
def cB.jL(s:aU K H σ fs)(u:V)(v:PV)(i:Nat):cB σ fs H (σ.set i (am u)) (fs.set i (am (.val v))) H:=
 ⟨λa o e n=>⟨λ_=>e,λz=>(j8 z s.len).elim n λ⟨_,_,z,_⟩=>by cases z⟩,λ_ e=>e,λa ψ m p=>(wY s p (λ_ _ z=>by cases z)).imp id λn=>⟨n,s.free p⟩,λ_ h=>h⟩
def aU.Ol(s:aU K H σ fs){t:SL}(hr:gV K H a t)(hn:∀c,t.has a c->¬bP σ fs c)(i:Nat):aU K H (σ.set i (am (.ref a))) (fs.set i (am t)):=s.put (.inr ⟨a,rfl,hr⟩) λx c e _ hc j w y n e1 e2 e3 z=>by
 cases e;exact hn c hc ⟨j,w,y,e1,e2,e3,z⟩
def xQ{t:SL}(hi:t.Pu=[]){c:db}(h:t.has a c):c=a:=by
 rcases h with h|h
 .exact h
 .rw[hi]at h;cases h
def aU.wW(s:aU K H σ fs){t:SL}(hr:gV K H a t)(hn:¬bP σ fs a)(i:Nat)(hi:‹t.Pu=[]›):aU K H (σ.set i (am (.ref a))) (fs.set i (am t)):=s.Ol hr (λc hc=>by rw[xQ hi hc];exact hn) i
def cB.Ol(s:aU K H1 σ ax)(g:ck σ fs H H1 ax){t:SL}(hn:∀c,t.has a c->¬bP σ ax c)(h0:∀c,t.has a c->H c=ce)(i:Nat):cB σ fs H (σ.set i (am (.ref a))) (ax.set i (am t)) H1:=by
 refine⟨λb o e n=>⟨(g.f.keep b o e n).1,λz=>(j8 z s.len).elim (g.f.keep b o e n).2 λ⟨x,z,_,y⟩=>?_⟩,g.there,λb ψ m p=>?_,g.x⟩
 .cases z;rw[h0 b y]at e;cases e
 .have p:=g.ev.symm.cG p;refine(wY s p (λx z o y=>?_)).imp id λn=>⟨n,s.free p⟩;cases z;exact absurd p.eK (hn b y)
def cB.wW(s:aU K H1 σ ax)(g:ck σ fs H H1 ax){t:SL}(hn:¬bP σ ax a)(h0:H a=ce)(i:Nat)(hi:‹t.Pu=[]›):cB σ fs H (σ.set i (am (.ref a))) (ax.set i (am t)) H1:=cB.Ol s g (λc hc=>by rw[xQ hi hc];exact hn) (λc hc=>by rw[xQ hi hc];exact h0) i
inductive oE:aL->aL->Prop
 |refl (a:aL):oE a a
 |keep {s:Option SL}{a b:aL} (h:oE a b):oE (s::a) (s::b)
 |bump {ψ:Nat->List V->Prop}{n n' m:Nat}{a b:aL} (k:n<=n'/\n'<=m) (h:oE a b):oE (am (.cG ψ n m)::a) (am (.cG ψ n' m)::b)
def oE.f{a b:aL}(h:oE a b):cY a b:=by
 induction h with
 |refl a=>exact .refl a
 |keep _ ih=>exact .keep ih
 |bump k _ ih=>exact .bump ih k
def Ev.cons{a b:aL}(e:Ev a b){s t:Option SL}(h:s=t\/∃ψ n n' m,s=am (.cG ψ n m)/\t=am (.cG ψ n' m)):Ev (s::a) (t::b):=⟨by simp[e.len],λi=>by
 cases i with
 |zero=>exact h.imp (λz=>by rw[z];rfl) λ⟨ψ,n,n',m,z,y⟩=>⟨ψ,n,n',m,by rw[z];rfl,by rw[y];rfl⟩
 |succ i=>simpa using e.at' i⟩
def oE.ev{a b:aL}(h:oE a b):Ev a b:=by
 induction h with
 |refl a=>exact .refl a
 |keep _ ih=>exact ih.cons (.inl rfl)
 | @bump ψ n n' m _ _ _ _ ih=>exact ih.cons (.inr ⟨ψ,n,n',m,rfl,rfl⟩)
def Ev.nd(ev:Ev fs aH)(s:aU K H σ fs)(i j:Nat)(t u:SL)(x y a:db)(e1:aH[i]?=am (am t))(e2:aH[j]?=am (am u))(o1:t.own=true)(o2:u.own=true)(q1:σ[i]?=am (am (.ref x)))(q2:σ[j]?=am (am (.ref y)))(z1:t.has x a)(z2:u.has y a):i=j:=by
 have f:∀{j:Nat}{t:SL}{x:db},aH[j]?=am (am t)->t.own=true->t.has x a->∃t',fs[j]?=am (am t')/\t'.own=true/\t'.has x a:=λ{j t x} e o z=>by
  rcases ev.get e with k|⟨_,_,_,_,rfl,k⟩
  .exact⟨t,k,o,z⟩
  .exact⟨_,k,rfl,z⟩
 obtain⟨t',a1,a2,a3⟩:=f e1 o1 z1;obtain⟨u',b1,b2,b3⟩:=f e2 o2 z2;exact s.nd i j t' u' x y a a1 b1 a2 b2 q1 q2 a3 b3
def ck.le{a b:aL}(g:ck σ fs H H' a)(h:oE a b):ck σ fs H H' b:=⟨λc o e n t=>g.keep c o e n t,g.there,g.ev.trans h.ev,g.x⟩
def zv(s:aU K H σ fs){t t':SL}{c:db}(e1:fs[i]?=am (am t))(o:t.own=true)(np:∀ψ n m,t≠.cG ψ n m)(e2:σ[i]?=am (am (.ref a)))(hc:t.has a c)(VM:t'.has a c)(rJ:∀b,t'.has a b->t.has a b)(o':t'.own=true)(sx:kG c H H')(ht:bc K H H'->gV K H' a t'):aU K H' σ (fs.set i (am t'))/\cB σ fs H σ (fs.set i (am t')) H':=by
 have oa:=s.ownAt e1 o e2;obtain⟨ob,q,n1,n2,n3⟩:=oa.ex o hc;have tk:bc K H H':=⟨λb vs z=>sx b _ (λy=>by subst y;rw[q]at z;cases z;exact n1 _ rfl) z,λb o u z=>sx b _ (λy=>by subst y;rw[q]at z;cases z;exact n2 _ _ rfl) z,xk λb φ z=>sx b _ (λy=>by subst y;rw[q]at z;cases z;cases n3) z⟩;have Zd:=ht tk;have hi:i<fs.length:=(Aj.mp e1).1;have Sv:∀b,bP σ (fs.set i (am t')) b->bP σ fs b:=λb z=>by
  obtain⟨j,w,x,z1,z2,z3,z4⟩:=z;rcases cm z1 with⟨rfl,rfl⟩|⟨n,z1⟩
  .rw[e2]at z3;cases z3;exact⟨j,t,a,e1,o,e2,rJ b z4⟩
  .exact⟨j,w,x,z1,z2,z3,z4⟩
 refine⟨⟨by simp[s.len],λj w e=>?_,λj k w x b1 b2 b z1 z2 o1 o2 q1 q2 y1 y2=>?_,s.tb.Ka sx q (OH n3) n2⟩,⟨λb ob e n=>⟨λ_=>sx b ob (λz=>by subst z;exact n ⟨i,t,a,e1,o,e2,hc⟩) e,λz=>n (Sv b z)⟩,λb e=>?_,λb ψ m p=>?_,tk.x⟩⟩
 .rcases cm e with⟨rfl,rfl⟩|⟨n,e⟩
  .exact⟨_,e2,.inr ⟨a,rfl,Zd⟩⟩
  .obtain⟨u,h1,h2⟩:=s.at' j w e;refine⟨u,h1,h2.mono tk (λx b ob eb ow hb z _=>sx b ob (λy=>?_) z)⟩;subst y;subst eb;exact n (s.nd j i w t x a b e e1 ow o h1 e2 hb hc)
 .have f:∀{j:Nat}{w:SL}{y:db},(fs.set i (am t'))[j]?=am (am w)->w.own=true->σ[j]?=am (am (.ref y))->w.has y b->∃w',fs[j]?=am (am w')/\w'.own=true/\w'.has y b:=λ{j w y} z ow qy hy=>by
   rcases cm z with⟨rfl,rfl⟩|⟨n,z⟩
   .rw[e2]at qy;cases qy;exact⟨t,e1,o,rJ b hy⟩
   .exact⟨w,z,ow,hy⟩
  obtain⟨w',a1,a2,a3⟩:=f z1 o1 q1 y1;obtain⟨x',c1,c2,c3⟩:=f z2 o2 q2 y2;exact s.nd j k w' x' b1 b2 b a1 c1 a2 c2 q1 q2 a3 c3
 .cases z:H b with
  |none=>rfl
  |some ob=>
   by_cases cc:b=c
   .subst cc;obtain⟨o2,y,_⟩:=Zd.ex o' VM;rw[e]at y;cases y
   .rw[sx b ob cc z]at e;cases e
 .obtain⟨j,k,p1,p2⟩:=p;have ji:j≠i:=λz=>by subst z;rw[e1]at p1;cases p1;exact np ψ k m rfl
  exact .inl ⟨j,k,by rw[aw ji];exact p1,p2⟩
def mw(s:aU K H σ fs){t t':SL}(e1:fs[i]?=am (am t))(o:t.own=true)(np:∀ψ n m,t≠.cG ψ n m)(e2:σ[i]?=am (am (.ref a)))(sx:kG a H H')(ht:bc K H H'->gV K H' a t')(hi:‹t'.Pu=t.Pu›)(o':‹t'.own=true›):aU K H' σ (fs.set i (am t'))/\cB σ fs H σ (fs.set i (am t')) H':=
 zv s e1 o np e2 (.inl rfl) (.inl rfl) (λb h=>by unfold SL.has at h ⊢;rw[hi]at h;exact h) o' sx ht
end
end
end FL
open FL.W renaming bind→bn,ret→ca,run_bind→f8,aa→lc,af→mo,ao→r9,aD→zn,ext'→Op
local macro_rules | `($a\$b)=>`(bn (ca $a) $b)
variable{x:BZ}{u:L2.V}{b:BC}{fs aH ax fs2 fs3:FL.aL}{es:O BC}{σ':L2.St}{wa wb wc:FL.W PL.PV}{wl:FL.W (O PL.PV)}
namespace FL
section
variable[bL]
variable{K:Ab}
def fE(K:Ab)(fs:aL)(w:W PV)(aH:aL:=fs):TE:=λσ H Q=>aU K H σ fs/\w.run λv=>∀u H',ck σ fs H H' aH->aU K H' σ aH->VR K [] H' u v->Q u H'
def fT(K:Ab)(fs:aL)(w:W Bool)(aH:aL:=fs):TT:=λσ H Q=>aU K H σ fs/\w.run λb=>∀H',ck σ fs H H' aH->aU K H' σ aH->Q b H'
def fO(K:Ab)(fs:aL)(w:W (Option Int))(aH:aL:=fs):TO:=λσ H Q=>aU K H σ fs/\w.run λb=>∀H',ck σ fs H H' aH->aU K H' σ aH->Q b H'
def fL(K:Ab)(fs:aL)(w:W (O PV))(aH:aL:=fs):TE:=λσ H Q=>aU K H σ fs/\w.run λl=>∀a vs H',ck σ fs H H' aH->aU K H' σ aH->H a=ce->H' a=am (.lst vs)->aB K [] H' vs l->Q (.ref a) H'
def Y1(K:Ab)(H:Hp)(u:V)(l:O PV):Prop:=∃a vs,u=.ref a/\(JQ K H a vs\/H a=am (.tup vs))/\aB K [] H vs l
def UG(K:Ab)(σ:L2.St)(fs:aL)(H:Hp)(u:V)(l:O PV):Prop:=Y1 K H u l\/∃a,u=.ref a/\((¬bP σ fs a/\∃vs,H a=am (.lst vs)/\aB K [] H vs l)\/∃(i:Nat) (q:Option db),fs[i]?=am (am (.ol q l))/\σ[i]?=am (am (.ref a)))
def fQ(K:Ab)(fs:aL)(w:W (O PV))(aH:aL:=fs):TE:=λσ H Q=>aU K H σ fs/\w.run λl=>∀u H',ck σ fs H H' aH->aU K H' σ aH->UG K σ aH H' u l->Q u H'
def fI(K:Ab)(fs:aL)(w:W (O PV))(aH:aL:=fs):TE:=λσ H Q=>aU K H σ fs/\w.run λl=>∀u H',ck σ fs H H' aH->aU K H' σ aH->Y1 K H' u l->Q u H'
inductive AK where
 |v|p (ψ:Nat->List V->Prop) (d:Nat)|f (a:db) (us:List V) (ps:List PV) (fz:List (db×Obj))
inductive fF(K:Ab)(H:Hp):List V->List AK->List PV->Prop
 |nil:fF K H [] [] []
 |v {u:V}{x:PV}{vs:List V}{ks:List AK}{l:List PV} (r:VR K [] H u x) (t:fF K H vs ks l):fF K H (u::vs) (.v::ks) (x::l)
 |f {a:db}{us vs:List V}{ps:List PV}{fz:List (db×Obj)}{ks:List AK}{l:List PV} (r:aB K [] H us ps) (z:ZJ H fz) (t:fF K H vs ks l):fF K H (.ref a::vs) (.f a us ps fz::ks) l
def fA(K:Ab)(fs:aL)(ks:O AK)(w:W (O PV))(aH:aL:=fs):TA:=λσ H Q=>aU K H σ fs/\w.run λl=>∀vs H',ck σ fs H H' aH->aU K H' σ aH->fF K H' vs ks l->Q vs H'
structure EF(X:Cx)(K:Ab)(fs:aL)(e:nw)(w:W PV)(aH:aL:=fs):Prop where p:PE X e (fE K fs w aH)
structure LF(X:Cx)(K:Ab)(fs:aL)(e:nw)(w:W (List PV))(aH:aL:=fs):Prop where p:PE X e (fL K fs w aH)
structure QF(X:Cx)(K:Ab)(fs:aL)(e:nw)(w:W (List PV))(aH:aL:=fs):Prop where p:PE X e (fQ K fs w aH)
structure IF(X:Cx)(K:Ab)(fs:aL)(e:nw)(w:W (List PV))(aH:aL:=fs):Prop where p:PE X e (fI K fs w aH)
structure TF(X:Cx)(K:Ab)(fs:aL)(e:nw)(w:W Bool)(aH:aL:=fs):Prop where p:PT X e (fT K fs w aH)
structure yI(X:Cx)(K:Ab)(fs:aL)(e:nw)(w:W Bool)(aH:aL:=fs):Prop where p:PW X e (fT K fs w aH)
structure OF(X:Cx)(K:Ab)(fs:aL)(e:Option nw)(w:W (Option Int))(aH:aL:=fs):Prop where p:L2.PO X e (fO K fs w aH)
structure AF(X:Cx)(K:Ab)(fs:aL)(es:List nw)(ks:List AK){R:Type}(B:(List PV->W R)->W R)(aH:aL:=fs):Prop where
 p:∃w:W (List PV),PA X es (fA K fs ks w aH)/\∀k,B k=bn w k
section
def Y1.tk{l:O PV}(t:bc K H H')(h:Y1 K H u l):Y1 K H' u l:=by
 obtain⟨a,vs,e,q,r⟩:=h;exact⟨a,vs,e,q.imp (t.f _ _) (t.t _ _),aB.tk t r⟩
def UG.go{l:O PV}(h:UG K σ fs H u l)(s:aU K H σ fs)(g:ck σ fs H H' aH):UG K σ aH H' u l:=by
 rcases h with h|⟨a,e,⟨n,vs,q,r⟩|q⟩
 .exact .inl (h.tk (g.cD s))
 .exact .inr ⟨a,e,.inl ⟨λz=>n (g.ev.eK z),vs,(g.tH q n),g.JS s r⟩⟩
 .obtain⟨i,q0,h1,h2⟩:=q;exact .inr ⟨a,e,.inr ⟨i,q0,g.ev.same h1 (by simp),h2⟩⟩
def UG.sq{l:O PV}(h:UG K σ fs H u l)(s:aU K H σ fs):∃a vs,u=.ref a/\(bH K H a vs\/dF K H a vs)/\aB K [] H vs l:=by
 rcases h with⟨a,vs,e,q,r⟩|⟨a,e,⟨n,vs,q,r⟩|⟨i,_,q1,q2⟩⟩
 .exact⟨a,vs,e,q.elim (λq=>.inl q.sq) λq=>.inr (dF.of q),r⟩
 .exact⟨a,vs,e,.inl (bH.of q),r⟩
 .obtain⟨_,vs,q,r⟩:=s.ownAt q1 rfl q2;exact⟨a,vs,e,.inl (bH.of q),r⟩
end
section
variable{a c o:nw}{rest:O nw}{w:W PV}
def EF.le(h:EF X K fs e w ax)(l:oE ax fs2):EF X K fs e w fs2:=⟨PE.imp h.p λσ H Q ⟨sr,q⟩=>⟨sr,w.mono (λv q u H' g s r=>q u H' (g.le l) (s.le l.f) r) q⟩⟩
def ae(i:Nat)(hs:‹fs[i]?=am (am (.val v))›)(hN:‹X.N[i]?=am x›)(hv:Ho X.env.scope x:=by first|exact Cg rfl|exact Co (Cg rfl)|exact Co (Co rfl))(hd: ~~~(iQ x))(jO: ~~~(JP x)):EF X K fs (.Name x pos) (.ret v):=
 ⟨PE.imp (fu hN hv hd jO) λσ H Q ⟨sr,q⟩=>by
  obtain⟨u,e1,r⟩:=sr.at' i _ hs;rcases r with⟨w,e,r⟩|⟨a,_,r⟩
  .cases e;exact⟨u,e1,q u H .refl sr r⟩
  .exact r.elim⟩
def ZC{v:V}{p:PV}(hv:∀H,VR K [] H v p)(h:PE X e (tC v)):EF X K fs e (.ret p):=⟨PE.imp h λσ H Q ⟨sr,q⟩=>q v H .refl sr (hv _)⟩
def aj{i j}:EF X K fs (.Constant (.int i) j pos) (.ret (.int i)):=ZC (λ_=>.int i) ba
def agj{b j}:EF X K fs (.Constant (.bool b) j pos) (.ret (.bl b)):=ZC (λ_=>.bl b) aaJ
def c7{j}:EF X K fs (.Constant .none j pos) (.ret .aF):=ZC (λ_=>.aF) OD
def gT{x j}:EF X K fs (.Constant (.str x) j pos) (.ret (.str x)):=ZC (λ_=>.str x) Xb
def yd{i:Int}{t:Tok}(hm:X.mg x=am (.int i t))(hg:Gl X x)(hd: ~~~(iQ x)):EF X K fs (.Name x pos) (.ret (.int i)):=ZC (λ_=>.int i) (rk hg hm ⟨_,rfl⟩ hd)
def yc{i:Str}{t:Tok}(hm:X.mg x=am (.str i t))(hg:Gl X x)(hd: ~~~(iQ x)):EF X K fs (.Name x pos) (.ret (.str i)):=ZC (λ_=>.str i) (rk hg hm ⟨_,rfl⟩ hd)
def of2(m:M2)(x y:PV):W PV:=⟨λQ=>m.f x y [] λz h=>h=[]/\Q z,λf q=>m.mono (λ_ _ q=>⟨q.1,f _ q.2⟩) q⟩
def hr0(H:Hp):HR K [] H []:=⟨FW,rfl,λn a o e _=>by simp at e⟩
def pq0{Q:VK}{z:PV}{h:PH}(sr:aU K H σ fs)(q:h=[]/\∀u H',ck σ fs H H'->aU K H' σ fs->VR K [] H' u z->Q u H'):pQ K [] H Q z h:=λι' v H' g r x=>by
 obtain⟨e,q⟩:=q;subst e;have:ι'=[]:=Cd r.len;subst this;have sm:jD H H':=λa o z=>g.keep a o (by simp) z;exact q v H' (ck.same sm) (sr.same sm) x
def Xp{r:R2}{m:M2}(hm:M2.Ok K r m){Q:VK}{v:V}{x y:PV}(sr:aU K H σ fs)(hu:VR K [] H u x)(hv:VR K [] H v y)(q:(of2 m x y).run λz=>∀u H',ck σ fs H H'->aU K H' σ fs->VR K [] H' u z->Q u H'):r u v H Q:=
 hm (hr0 H) hu hv (m.mono (λz h q=>pq0 sr q) q)
def Qc{r:R2}{m:M2}(hm:M2.Ok K r m):∀σ H Q,fE K fs (.bind wa λx=>.bind wb λy=>of2 m x y) fs2 σ H Q->UR r (fE K fs wa ax) (fE K ax wb fs2) σ H Q:=λσ H Q ⟨sr,q⟩=>
 ⟨sr,wa.mono (λx q1 u1 H1 g1 s1 v1=>⟨s1,wb.mono (λy q2 u2 H2 g2 s2 v2=>Xp hm s2 (g2.vr s1 v1) v2 ((of2 m x y).mono (λz q u3 H3 g3 s3 v3=>q u3 H3 ((g1.trans g2).trans g3) s3 v3) q2)) q1⟩) q⟩
def Qq{op:Operator}{r:R2}{m:M2}(ho:ip X (u8 op) r)(hm:M2.Ok K r m)(ha:EF X K fs a wa ax)(hb:EF X K ax b wb fs2):EF X K fs (.BinOp a op b pos) (.bind wa λx=>.bind wb λy=>of2 m x y) fs2:=⟨PE.imp (cV ho ha.p hb.p) (Qc hm)⟩
def jI(ha:EF X K fs a wa ax)(hb:EF X K ax b wb fs2):EF X K fs (.BinOp a .Sub b pos) (.bind wa λx=>.bind wb λy=>of2 ny x y) fs2:=Qq Xh (G9 λ_ _ _ _=>.int _) ha hb
def nY(ha:EF X K fs a wa ax)(hb:EF X K ax b wb fs2):EF X K fs (.BinOp a .Mult b pos) (.bind wa λx=>.bind wb λy=>of2 o6 x y) fs2:=Qq kM (yC λ_ _ _ _=>.int _) ha hb
def K7(ha:EF X K fs a wa ax)(hb:EF X K ax b wb fs2):EF X K fs (.BinOp a .FloorDiv b pos) (.bind wa λx=>.bind wb λy=>of2 oDiv x y) fs2:=Qq rm (yC λ_ _ _ _=>.int _) ha hb
def K6(ha:EF X K fs a wa ax)(hb:EF X K ax b wb fs2):EF X K fs (.BinOp a .Mod b pos) (.bind wa λx=>.bind wb λy=>of2 oMod x y) fs2:=Qq oZ (yC λ_ _ _ _=>.int _) ha hb
def Qp(ha:EF X K fs a wa ax)(hb:EF X K ax b wb fs2):EF X K fs (.BinOp a .Pow b pos) (.bind wa λx=>.bind wb λy=>of2 OL x y) fs2:=Qq Xj (yC λ_ _ _ _=>.int _) ha hb
def qz:PV->W PV
 |.int i=>.ret (.int (-i))
 |_=>.fail
def nX(ha:EF X K fs a wa ax):EF X K fs (.UnaryOp .USub a pos) (.bind wa qz) ax:=⟨PE.imp (aaG Wl ha.p) λσ H Q ⟨sr,q⟩=>⟨sr,wa.mono (λx q1 u1 H1 g1 s1 v1=>by
 cases v1 with
 |int i=>exact⟨_,rfl,q1 _ H1 g1 s1 (.int _)⟩
 |_=>exact q1.elim) q⟩⟩
def asB:PV->W Bool
 |.bl b=>.ret b
 |_=>.fail
def GR{m:M2}(hc:JC X K op b m)(ha:EF X K fs a wa ax)(hb:EF X K ax b wb fs2):EF X K fs (.Compare a [op] [b] pos) (.bind wa λx=>.bind wb λy=>of2 m x y) fs2:=let ⟨_,h1,h2⟩:=hc.p;⟨PE.imp (Kk h1 ha.p hb.p hc.k) (Qc h2)⟩
def ab9{w:W PV}:∀σ H Q,fT K fs (.bind w asB) ax σ H Q->(fE K fs w ax) σ H λx H'=>∃k,x=.bl k/\Q k H':=λσ H Q ⟨sr,q⟩=>⟨sr,w.mono (λx q1 u1 H1 g1 s1 v1=>by
 cases v1 with
 |bl b=>exact⟨b,rfl,q1 H1 g1 s1⟩
 |_=>exact q1.elim) q⟩
def bA{m:M2}(hc:JC X K op b m)(ha:EF X K fs a wa ax)(hb:EF X K ax b wb fs2):TF X K fs (.Compare a [op] [b] pos) (.bind wa λx=>.bind wb λy=>.bind (of2 m x y) asB) fs2:=let ⟨_,h1,h2⟩:=hc.p
 ⟨PT.imp (gH h1 ha.p hb.p hc.k) λσ H Q q=>Qc h2 σ H _ (ab9 σ H Q q)⟩
def QI(z:PV)(w:W PV):W PV:=match z with
 |.bl true=>w
 |.bl false=>.ret (.bl false)
 |_=>.fail
def UB(x:PV)(w:W PV):W PV:=match x with
 |.bl true=>w
 |.bl false=>.ret (.bl false)
 |_=>.fail
def acn(ha:EF X K fs a wa ax)(hb:EF X K ax (.BoolOp .And (b::rest) pos) wb fs2)(hl:oE ax fs2:=by exact .refl _):EF X K fs (.BoolOp .And (a::b::rest) pos) (.bind wa λx=>UB x wb) fs2:=⟨PE.imp (Xf ha.p hb.p) λσ H Q ⟨sr,q⟩=>⟨sr,wa.mono (λx q1 u1 H1 g1 s1 v1=>by
 cases v1 with
 |bl k=>
  cases k with
  |true=>exact⟨true,rfl,by rw[if_pos rfl];exact⟨s1,wb.mono (λ_ q u H' g s v=>q u H' (g1.trans g) s v) q1⟩⟩
  |false=>exact⟨false,rfl,by rw[if_neg AM];exact q1 _ H1 (g1.le hl) (s1.le hl.f) (.bl _)⟩
 |_=>exact q1.elim) q⟩⟩
def acj{op}(h:EF X K fs a wa ax):EF X K fs (.BoolOp op [a] pos) wa ax:=⟨Xc h.p⟩
variable{ta tb tc:W Bool}
def kI(h:TF X K fs a ta ax):yI X K fs (.BoolOp .And [a] pos) ta ax:=⟨Kh h.p⟩
def sj(h:TF X K fs a ta ax):yI X K fs (.BoolOp .Or [a] pos) ta ax:=⟨W7 h.p⟩
def oM(ha:TF X K fs a ta ax)(hb:yI X K ax (.BoolOp .And (b::rest) pos) tb fs2)(hl:oE ax fs2:=by exact .refl _):yI X K fs (.BoolOp .And (a::b::rest) pos) (.bind ta λk=>if k=true then tb else .ret false) fs2:=⟨PW.imp (Oj ha.p hb.p) λσ H Q ⟨sr,q⟩=>⟨sr,ta.mono (λk q1 H1 g1 s1=>by
 cases k with
 |true=>exact xI ⟨s1,tb.mono (λ_ q H' g s=>q H' (g1.trans g) s) q1⟩
 |false=>exact xJ (q1 H1 (g1.le hl) (s1.le hl.f))) q⟩⟩
def vo(ha:TF X K fs a ta ax)(hb:yI X K ax (.BoolOp .Or (b::rest) pos) tb fs2)(hl:oE ax fs2:=by exact .refl _):yI X K fs (.BoolOp .Or (a::b::rest) pos) (.bind ta λk=>if k=true then .ret true else tb) fs2:=⟨PW.imp (aaE ha.p hb.p) λσ H Q ⟨sr,q⟩=>⟨sr,ta.mono (λk q1 H1 g1 s1=>by
 cases k with
 |true=>exact xI (q1 H1 (g1.le hl) (s1.le hl.f))
 |false=>exact xJ ⟨s1,tb.mono (λ_ q H' g s=>q H' (g1.trans g) s) q1⟩) q⟩⟩
def yI.t(h:yI X K fs a ta ax):TF X K fs a ta ax:=⟨PW.pt h.p⟩
def NG(ha:TF X K fs a ta ax):TF X K fs (.UnaryOp .Not a pos) (.bind ta λk=>.ret (!k)) ax:=⟨PT.imp (W8 ha.p) λσ H Q ⟨sr,q⟩=>⟨sr,q⟩⟩
def va(hc:TF X K fs c tc ax)(ha:EF X K ax a wa fs2)(hb:EF X K ax b wb fs2):EF X K fs (.IfExp c a b pos) (.bind tc λk=>if k=true then wa else wb) fs2:=⟨PE.imp (zq hc.p ha.p hb.p) λσ H Q ⟨sr,q⟩=>⟨sr,tc.mono (λk q1 H1 g1 s1=>by
 cases k with
 |true=>exact xI ⟨s1,wa.mono (λ_ q u H' g s v=>q u H' (g1.trans g) s v) q1⟩
 |false=>exact xJ ⟨s1,wb.mono (λ_ q u H' g s v=>q u H' (g1.trans g) s v) q1⟩) q⟩⟩
def abb{la lb:W (O PV)}(hc:TF X K fs c tc ax)(ha:LF X K ax a la fs2)(hb:LF X K ax b lb fs2):LF X K fs (.IfExp c a b pos) (.bind tc λk=>if k=true then la else lb) fs2:=⟨PE.imp (zq hc.p ha.p hb.p) λσ H Q ⟨sr,q⟩=>⟨sr,tc.mono (λk q1 H1 g1 s1=>by
 cases k with
 |true=>exact xI ⟨s1,la.mono (λ_ q a vs H' g s n e v=>q a vs H' (g1.trans g) s (g1.there a n) e v) q1⟩
 |false=>exact xJ ⟨s1,lb.mono (λ_ q a vs H' g s n e v=>q a vs H' (g1.trans g) s (g1.there a n) e v) q1⟩) q⟩⟩
def iu:PV->W Bool
 |.aF=>.ret false
 |.bl b=>.ret b
 |.int i=>.ret (i != 0)
 |.str y=>.d8 (y.length<=sizeLine) (.ret ((y.length:Int) != 0))
 |.tup l=>.ret (!l.isEmpty)
 |.cl l=>.ret (!l.isEmpty)
 |_=>.fail
def iw(hK:X.K=K)(ha:EF X K fs a wa ax)(he:∀Ä,isTrue a X.env Ä=(do let v <- Ä;standAt a.pos;KB [v] (truthy v))):TF X K fs a (.bind wa iu) ax:=⟨PT.imp (vF K hK ha.p he) λσ H Q ⟨sr,q⟩=>⟨sr,wa.mono (λx q1 u1 H1 g1 s1 v1=>by
 cases v1 with
 |aF=>exact⟨false,rfl,q1 H1 g1 s1⟩
 |bl b=>exact⟨b,rfl,q1 H1 g1 s1⟩
 |int i=>exact⟨_,rfl,q1 H1 g1 s1⟩
 |str y=>exact⟨_,⟨q1.1,rfl⟩,q1.2 H1 g1 s1⟩
 |ty _=>exact q1.elim
 |dk _ _ _=>exact q1.elim
 |dt _ _ _=>exact q1.elim
 |ob _ _ _ _ _=>exact q1.elim
 |hand _=>exact q1.elim
 |ref _=>exact q1.elim
 | @tup p vs l e rs=>
  refine⟨!vs.isEmpty,.inr (.inl ⟨_,dF.of e,rfl⟩),?_⟩;rw[<- kg rs];exact q1 H1 g1 s1
 | @cl p vs l e rs=>
  refine⟨!vs.isEmpty,.inl ⟨_,e.sq,rfl⟩,?_⟩;rw[<- kg rs];exact q1 H1 g1 s1) q⟩⟩
def ZX(hK:X.K=K)(ha:QF X K fs a wl ax)(he:∀Ä,isTrue a X.env Ä=(do let v <- Ä;standAt a.pos;KB [v] (truthy v))):TF X K fs a (.bind wl λl=>.ret (!l.isEmpty)) ax:=⟨PT.imp (vF K hK ha.p he) λσ H Q ⟨sr,q⟩=>⟨sr,wl.mono (λl q1 u1 H1 g1 s1 v1=>by
 obtain⟨b,vs,rfl,h,rs⟩:=v1.sq s1;refine⟨!vs.isEmpty,?_,?_⟩
 .exact h.elim (λh=>.inl ⟨_,h,rfl⟩) λh=>.inr (.inl ⟨_,h,rfl⟩)
 .rw[<- kg rs];exact q1 H1 g1 s1) q⟩⟩
variable{R:Type}{ks:O AK}{B:(O PV->W R)->W R}
def ai:AF X K fs [] [] (R:=R) (λk=>k []):=⟨.ret [],PA.imp bq λσ H Q ⟨sr,q⟩=>q [] H .refl sr .nil,λk=>rfl⟩
def ag(ha:EF X K fs e w ax)(hr:AF X K ax es ks B fs2)(hs:‹gE X e es›):AF X K fs (e::es) (.v::ks) (λk=>.bind w λx=>B λl=>k (x::l)) fs2:=by
 obtain⟨wr,hp,hB⟩:=hr.p;refine⟨.bind w λx=>.bind wr λl=>.ret (x::l),PA.imp (aQ ha.p hp hs) λσ H Q ⟨sr,q⟩=>?_,λk=>?_⟩
 .exact⟨sr,w.mono (λx q1 u1 H1 g1 s1 v1=>⟨s1,wr.mono (λl q2 vs H2 g2 s2 v2=>q2 _ H2 (g1.trans g2) s2 (.v (g2.vr s1 v1) v2)) q1⟩) q⟩
 .have:(λx=>B λl=>k (x::l))=λx=>bn wr λl=>k (x::l):=funext λx=>hB _;rw[this];rfl
theorem fF.JS:∀{vs:O V}{n:Nat}{l:O PV},fF K H vs (Ao n .v) l->aB K [] H vs l/\l.length=n
 |_,0,_,.nil=>⟨.nil,rfl⟩
 |_,n+1,_,.v r t=>⟨.cons r (fF.JS t).1,by rw[Aw,(fF.JS t).2]⟩
def aci{x1}{B:(O PV->W PV)->W PV}(h:AF X K fs es (Ao n .v) B ax)(hn: ~~~(n<=1000)):EF X K fs (.Tuple es x1 pos) (B λl=>.ret (.tup l)) ax:=by
 obtain⟨w,hp,hB⟩:=h.p;rw[hB];refine⟨PE.imp (So hp) λσ H Q ⟨sr,q⟩=>⟨sr,w.mono (λl q1 vs H1 g1 s1 v1=>?_) q⟩⟩;obtain⟨v2,hl⟩:=v1.JS;exact⟨by rw[v2.length,hl];exact bW hn,λp H2 s2 e2 n2=>q1 _ H2 (g1.trans (ck.same s2)) (s1.same s2) (.tup e2 (aB.tk s2.eE v2))⟩
def Vn{B:(O PV->W (O PV))->W (O PV)}(h:AF X K fs es (Ao n .v) B ax)(hn: ~~~(n<=1000)):LF X K fs (.List es pos) (B λl=>.ret l) ax:=by
 obtain⟨w,hp,hB⟩:=h.p;rw[hB];refine⟨PE.imp (wZ hp) λσ H Q ⟨sr,q⟩=>⟨sr,w.mono (λl q1 vs H1 g1 s1 v1=>?_) q⟩⟩;obtain⟨v2,hl⟩:=v1.JS;exact⟨by rw[v2.length,hl];exact bW hn,λp H2 s2 e2 n2=>q1 _ _ H2 (g1.trans (ck.same s2)) (s1.same s2) (g1.there p n2) e2 (aB.tk s2.eE v2)⟩
end
end
end FL
namespace L2
def Inv.KW{σ:St}{s:cr}(I:Inv X U σ H s)(e:H a=am (.lst vs)):∃o,Inv X U σ (upd H a (.cg o (.lst vs))) s:=by
 obtain⟨z,aq,n,r,h1⟩:=(I.bg a _ e);exact⟨_,I.write (by rw[e];exact Cm) (.inl rfl) (λb u _ z=>z) ⟨_,h1⟩ ⟨h1,z,aq,n,r,h1⟩⟩
def Inv.KY{σ:St}{s:cr}{ay:O (Key×V)}(I:Inv X U σ H s)(e:H a=am (.dK ay)):∃o,Inv X U σ (upd H a (.cg o (.dK ay))) s:=by
 obtain⟨z,hs,vs,r,o,es,ep,h1,h2⟩:=(I.bg a _ e);exact⟨o,I.write (by rw[e];exact Cm) (.inl rfl) (λb u _ z=>z) ⟨o,h1⟩ ⟨h1,z,hs,vs,r,o,es,ep,h1,h2⟩⟩
end L2
variable{t:FL.SL}{ks:O FL.AK}{B:(O PL.PV->FL.W PL.PV)->FL.W PL.PV}{q0:Option Bg}
namespace FL
section
variable[bL]
variable{K:Ab}
section
def qY(o':HO)(e:H a=am (.lst vs)):bc K H (upd H a o'):=⟨λb ws q=>by rw[ak (Kv q e (by intro z;cases z))];exact q,λb o u q=>by rw[ak (Kv q e (by intro z;cases z))];exact q,xk λb φ q=>by rw[ak (Kv q e (by intro z;cases z))];exact q⟩
def dvK(ay:O (Key×PV)):PV:=.dv (ay.map λkv=>kP kv.1) (ay.map (·.2))
def Qy(ay:O (O Key×PV)):PV:=.dv (ay.map λkv=>.tup (kv.1.map kP)) (ay.map (·.2))
def aaN(h:o.ow=true):∀φ,o≠.ext φ:=λφ e=>by subst e;cases h
def f7{oh:HO}(o':HO)(e:H a=am oh)(n1:∀vs,oh≠.tup vs)(n2:∀o u,oh≠.cg o u)(n3:∀φ,oh≠.ext φ:=by first|(intro φ z;cases z;done)|exact aaN (by assumption)):bc K H (upd H a o'):=⟨λb ws q=>by rw[ak (λz=>by subst z;rw[e]at q;cases q;exact n1 _ rfl)];exact q,λb o u q=>by rw[ak (λz=>by subst z;rw[e]at q;cases q;exact n2 _ _ rfl)];exact q,xk λb φ q=>by rw[ak (λz=>by subst z;rw[e]at q;cases q;exact n3 _ rfl)];exact q⟩
def Vp{vs:O (O Key×V)}{ay:O (O Key×PV)}(h:vs.map (·.1)=ay.map (·.1)):(ay.map λkv=>PV.tup (kv.1.map kP))=vs.map λkv=>PV.tup (kv.1.map kP):=by
 have:=congrArg (FX λk:O Key=>PV.tup (k.map kP)) h;rw[A0,A0]at this;exact this.symm
def Vq{vs:O (Key×V)}{ay:O (Key×PV)}(h:vs.map (·.1)=ay.map (·.1)):(ay.map λkv=>kP kv.1)=vs.map λkv=>kP kv.1:=by
 have:=congrArg (FX kP) h;rw[A0,A0]at this;exact this.symm
def SL.bw:SL->Bool
 |.ol _ _=>true
 |.od _=>true
 |.ot _=>true
 |_=>false
def SL.bv:SL->PV
 |.ol _ l=>.cl l
 |.od ay=>dvK ay
 |.ot ay=>Qy ay
 |_=>.aF
def SL.QL(h:t.bw=true):t.own=true:=by cases t<;>first|rfl|cases h
def abX{s:cr}(I:Inv X U σ' H s)(oa:gV K H a t)(hb:t.bw=true):∃ob o,H a=am o/\(∀vs,o≠.tup vs)/\(∀ob u,o≠.cg ob u)/\Inv X U σ' (upd H a (.cg ob o)) s/\VR K [] (upd H a (.cg ob o)) (.ref a) t.bv:=by
 cases t with
 |ol q l=>
  obtain⟨_,vs,e,r⟩:=oa;obtain⟨ob,I2⟩:=I.KW e;exact⟨ob,_,e,by simp,by simp,I2,.cl (.inl ⟨ob,aG⟩) (aB.tk (f7 _ e (by simp) (by simp)) r)⟩
 |od l=>
  obtain⟨vs,e,k,r⟩:=oa;obtain⟨ob,I2⟩:=I.KY e;exact⟨ob,_,e,by simp,by simp,I2,.dk aG (Vq k) (aB.tk (f7 _ e (by simp) (by simp)) r)⟩
 |ot l=>
  obtain⟨vs,e,k,r⟩:=oa;obtain⟨ob,I2⟩:=I.freeze e;exact⟨ob,_,e,by simp,by simp,I2,.dt aG (Vp k) (aB.tk (f7 _ e (by simp) (by simp)) r)⟩
 |_=>cases hb
def aU.abW{u:HO}(sr:aU K H σ fs)(hs:fs[i]?=am (am t))(ho:t.own=true)(e1:σ[i]?=am (am (.ref a)))(h1:H a=am o)(n1:∀vs,o≠.tup vs)(n2:∀ob u,o≠.cg ob u)(vr:VR K [] (upd H a u) (.ref a) v):aU K (upd H a u) σ (fs.set i (am (.val v))):=by
 have ow:o.ow=true:=by
  obtain⟨o',z1,_,_,z2⟩:=(sr.ownAt hs ho e1).ex ho (.inl rfl);rw[h1]at z1;cases z1;exact z2
 have nt:o.nt=true:=OH ow;refine⟨by simp[sr.len],λj t' z=>?_,λj k t' u b1 b2 b z1 z2 o1 o2=>?_,sr.tb.Ka (λb o n z=>by rw[ak n];exact z) h1 nt n2⟩
 .rcases cm z with⟨rfl,rfl⟩|⟨n,z⟩
  .exact⟨_,e1,.inl ⟨_,rfl,vr⟩⟩
  .obtain⟨u,k1,k2⟩:=sr.at' j t' z;exact⟨u,k1,k2.mono (f7 _ h1 n1 n2) (λx b o eb ow hb zz _=>by
    subst eb;rw[ak (λy=>by subst y;exact n (sr.nd j i t' _ x b b z hs ow ho k1 e1 hb (.inl rfl)))];exact zz)⟩
 .rcases cm z1 with⟨rfl,rfl⟩|⟨n1,z1⟩
  .cases o1
  .rcases cm z2 with⟨rfl,rfl⟩|⟨n2,z2⟩
   .cases o2
   .exact sr.nd j k t' u b1 b2 b z1 z2 o1 o2
def aU.side(s:aU K H σ fs)(n:¬bP σ fs a)(e:H a=am (.lst vs))(o':HO):aU K (upd H a o') σ fs:=⟨s.len,λi t q=>by
 obtain⟨u,h1,h2⟩:=s.at' i t q;exact⟨u,h1,h2.mono (qY o' e) (λx b o eb ow hb z _=>by subst eb;rw[ak (λy:b=a=>n ⟨i,t,x,q,ow,h1,y▸hb⟩)];exact z)⟩,s.nd,s.tb.Ka (λb o n z=>by rw[ak n];exact z) e rfl (by simp)⟩
def ck.side(g:ck σ fs H H1 aH)(h0:H a=ce)(e0:∀φ,H1 a≠am (.ext φ))(o':HO):ck σ fs H (upd H1 a o') aH:=⟨λb o e n t=>by rw[ak (br e h0)];exact g.keep b o e n t,λb e=>by
 by_cases c:b=a
 .subst c;exact h0
 .rw[ak c]at e;exact g.there b e,g.ev,λb z=>by
 have z:=g.x b z;unfold c9 at z ⊢;rw[ak (λy=>by subst y;exact e0 _ z)];exact z⟩
end
section
variable{a:nw}{w:W PV}
def iJ(h:LF X K fs e wl ax):EF X K fs e (.bind wl λl=>.ret (.cl l)) ax:=⟨λU s σ H Q I ⟨sr,q⟩=>by
 refine bN (h.p U s σ H (λu H1=>∃a vs l,u=.ref a/\ck σ fs H H1 ax/\aU K H1 σ ax/\H a=ce/\H1 a=am (.lst vs)/\aB K [] H1 vs l/\∀u H',ck σ fs H H' ax->aU K H' σ ax->VR K [] H' u (.cl l)->Q u H') I ⟨sr,wl.mono (λl q1 a vs H1 g1 s1 n e v=>⟨a,vs,l,rfl,g1,s1,n,e,v,q1⟩) q⟩) λu s1 ⟨v,H1,I1,r1,a,vs,l,e,g1,WE,n,ea,vr,q1⟩=>?_;subst e;obtain⟨ob,I2⟩:=I1.KW ea;exact⟨.ref a,_,I2,r1,q1 _ _ (g1.side n (λφ=>by rw[ea];simp) _) (WE.side (λz=>sr.noOwn n (g1.ev.eK z)) ea _) (.cl (.inl ⟨ob,aG⟩) (aB.tk (qY _ ea) vr))⟩⟩
def aA:PV->W (O PV)
 |.tup l=>.ret l
 |.cl l=>.ret l
 |_=>.fail
def cf(h:EF X K fs e w ax):IF X K fs e (.bind w aA) ax:=⟨PE.imp h.p λσ H Q ⟨sr,q⟩=>⟨sr,w.mono (λx q1 u1 H1 g1 s1 v1=>by
 cases v1 with
 |tup e r=>exact q1 _ H1 g1 s1 ⟨_,_,rfl,.inr e,r⟩
 |cl e r=>exact q1 _ H1 g1 s1 ⟨_,_,rfl,.inl e,r⟩
 |_=>exact q1.elim) q⟩⟩
def tK(h:LF X K fs e wl ax):IF X K fs e wl ax:=cf (iJ h)
theorem IF.q(h:IF X K fs e wl ax):QF X K fs e wl ax:=⟨PE.imp h.p λσ H Q ⟨sr,q⟩=>⟨sr,wl.mono (λl q1 u1 H1 g1 s1 v1=>q1 u1 H1 g1 s1 (.inl v1)) q⟩⟩
def az(h:EF X K fs e w ax):QF X K fs e (.bind w aA) ax:=(cf h).q
def sF(h:LF X K fs e wl ax):QF X K fs e wl ax:=⟨PE.imp h.p λσ H Q ⟨sr,q⟩=>⟨sr,wl.mono (λl q1 a vs H1 g1 s1 n e v=>q1 _ H1 g1 s1 (.inr ⟨a,rfl,.inl ⟨λz=>sr.noOwn n (g1.ev.eK z),vs,e,v⟩⟩)) q⟩⟩
def dH(i:Nat){l:O PV}(hs:‹fs[i]?=am (am (.ol q0 l))›)(hN:‹X.N[i]?=am x›)(hv:Ho X.env.scope x:=by first|exact Cg rfl|exact Co (Cg rfl)|exact Co (Co rfl))(hd: ~~~(iQ x))(jO: ~~~(JP x)):QF X K fs (.Name x pos) (.ret l):=
 ⟨PE.imp (fu hN hv hd jO) λσ H Q ⟨sr,q⟩=>by
  obtain⟨u,e1,r⟩:=sr.at' i _ hs;rcases r with⟨w,e,r⟩|⟨a,e,r⟩
  .cases e
  .subst e;exact⟨_,e1,q _ H .refl sr (.inr ⟨a,rfl,.inr ⟨i,q0,hs,e1⟩⟩)⟩⟩
def XZ(l:O PV):PV->W PV
 |.int i=>.SI (d9 l i)
 |_=>.fail
def aP(hK:X.K=K)(ha:QF X K fs a wl ax)(hb:EF X K ax b wb fs2)(hs:Li b:=by exact λ_ _=>rfl):EF X K fs (.Subscript a b pos) (.bind wl λl=>.bind wb λy=>XZ l y) fs2:=⟨PE.imp (fB (bT K hK) ha.p hb.p hs) λσ H Q ⟨sr,q⟩=>⟨sr,wl.mono (λl q1 u1 H1 g1 s1 v1=>⟨s1,wb.mono (λy q2 u2 H2 g2 s2 v2=>by
 cases v2 with
 |int i=>
  have q2:(W.SI (d9 l i)).run _:=q2;cases z:d9 l i with
  |none=>rw[z]at q2;exact q2.elim
  |some x=>
   rw[z]at q2;obtain⟨ad,vs,rfl,h,rs⟩:=(v1.go s1 g2).sq s2;obtain⟨v,e1,e2⟩:=aB.d9 rs z;have q3:=q2 v H2 (g1.trans g2) s2 e2;exact h.elim (λh=>.inl ⟨ad,vs,i,v,rfl,rfl,h,e1,q3⟩) λh=>.inr (.inl ⟨ad,vs,i,v,rfl,rfl,h,e1,q3⟩)
 |_=>exact q2.elim) q1⟩) q⟩⟩
def Kt(m:Lj)(l:O PV):W PV:=⟨λQ=>m.f l [] λz h=>h=[]/\Q z,λf q=>m.mono (λ_ _ q=>⟨q.1,f _ q.2⟩) q⟩
section
variable{id:String}{r:O V->Hp->VK->Prop}
def OK{m:Lj}(hm:Lj.Ok K r m){Q:VK}{us:O V}{l:O PV}(sr:aU K H σ fs)(hu:aB K [] H us l)(q:(Kt m l).run λz=>∀u H',ck σ fs H H'->aU K H' σ fs->VR K [] H' u z->Q u H'):r us H Q:=hm (hr0 H) hu (m.mono (λz h q=>pq0 sr q) q)
def Uh{m:Lj}(hc:cb X (.builtin id) r)(hB:Lj.Ok K r m)(hg:Gl X x)(hm:X.mg x=ce)(hv:sn x=am (.builtin id))(ha:AF X K fs (e::es) (Ao n .v) B ax)(hn: ~~~(x≠"__name__"))(lH: ~~~(iQ x))(he:‹gE X e es›)(dG:‹kH X pos es›):EF X K fs (.Call (.Name x p) (e::es) [] pos) (B (Kt m)) ax:=by
 obtain⟨w,hp,ı⟩:=ha.p;rw[ı];exact⟨PE.imp (fg hc hg hm hv hp hn lH he dG) λσ H Q ⟨sr,q⟩=>⟨sr,w.mono (λl q1 vs H1 g1 s1 v1=>OK hB s1 v1.JS.1 ((Kt m l).mono (λz q u H' g s v=>q u H' (g1.trans g) s v) q1)) q⟩⟩
def Qw{m:Lj}(hc:cb X (.type id) r)(hB:Lj.Ok K r m)(hg:Gl X x)(hm:X.mg x=ce)(hv:sn x=am (.type id))(ha:AF X K fs (e::es) (Ao n .v) B ax)(hn: ~~~(x≠"__name__"))(lH: ~~~(iQ x))(he:‹gE X e es›)(dG:‹kH X pos es›):EF X K fs (.Call (.Name x p) (e::es) [] pos) (B (Kt m)) ax:=by
 obtain⟨w,hp,ı⟩:=ha.p;rw[ı];exact⟨PE.imp (kL hc hg hm hv hp hn lH he dG) λσ H Q ⟨sr,q⟩=>⟨sr,w.mono (λl q1 vs H1 g1 s1 v1=>OK hB s1 v1.JS.1 ((Kt m l).mono (λz q u H' g s v=>q u H' (g1.trans g) s v) q1)) q⟩⟩
def CQ(K:Ab)(r:O V->Hp->VK->Prop)(m:O PV->W PV):Prop:=∀{fs:aL}{σ:L2.St}{H:Hp}{Q:VK}{u:V}{l:O PV},aU K H σ fs->UG K σ fs H u l->((m l).run λz=>∀u H',ck σ fs H H'->aU K H' σ fs->VR K [] H' u z->Q u H')->r [u] H Q
def CL(K:Ab)(r:O V->Hp->VK->Prop)(m:O PV->W (O PV)):Prop:=∀{fs:aL}{σ:L2.St}{H:Hp}{Q:VK}{u:V}{l:O PV},aU K H σ fs->UG K σ fs H u l->((m l).run λz=>∀a vs H',ck σ fs H H'->aU K H' σ fs->H a=ce->H' a=am (.lst vs)->aB K [] H' vs z->Q (.ref a) H')->r [u] H Q
def Qx{m:O PV->W PV}(hc:cb X (.builtin id) r)(hB:CQ K r m)(hg:Gl X x)(hm:X.mg x=ce)(hv:sn x=am (.builtin id))(ha:QF X K fs e wl ax)(hn: ~~~(x≠"__name__"))(lH: ~~~(iQ x))(he:‹gE X e []›)(dG:‹kH X pos []›):EF X K fs (.Call (.Name x p) [e] [] pos) (.bind wl m) ax:=⟨PE.imp (fg hc hg hm hv (aQ ha.p bq he) hn lH he dG) λσ H Q ⟨sr,q⟩=>⟨sr,wl.mono (λl q1 u H1 g1 s1 v1=>hB s1 v1 ((m l).mono (λz q u H' g s v=>q u H' (g1.trans g) s v) q1)) q⟩⟩
def Mz{m:O PV->W PV}(hc:cb X (.type id) r)(hB:CQ K r m)(hg:Gl X x)(hm:X.mg x=ce)(hv:sn x=am (.type id))(ha:QF X K fs e wl ax)(hn: ~~~(x≠"__name__"))(lH: ~~~(iQ x))(he:‹gE X e []›)(dG:‹kH X pos []›):EF X K fs (.Call (.Name x p) [e] [] pos) (.bind wl m) ax:=⟨PE.imp (kL hc hg hm hv (aQ ha.p bq he) hn lH he dG) λσ H Q ⟨sr,q⟩=>⟨sr,wl.mono (λl q1 u H1 g1 s1 v1=>hB s1 v1 ((m l).mono (λz q u H' g s v=>q u H' (g1.trans g) s v) q1)) q⟩⟩
def ade{m:O PV->W (O PV)}(hc:cb X (.builtin id) r)(hB:CL K r m)(hg:Gl X x)(hm:X.mg x=ce)(hv:sn x=am (.builtin id))(ha:QF X K fs e wl ax)(hn: ~~~(x≠"__name__"))(lH: ~~~(iQ x))(he:‹gE X e []›)(dG:‹kH X pos []›):LF X K fs (.Call (.Name x p) [e] [] pos) (.bind wl m) ax:=⟨PE.imp (fg hc hg hm hv (aQ ha.p bq he) hn lH he dG) λσ H Q ⟨sr,q⟩=>⟨sr,wl.mono (λl q1 u H1 g1 s1 v1=>hB s1 v1 ((m l).mono (λz q a vs H' g s n e v=>q a vs H' (g1.trans g) s (g1.there a n) e v) q1)) q⟩⟩
def O8{m:O PV->W (O PV)}(hc:cb X (.type id) r)(hB:CL K r m)(hg:Gl X x)(hm:X.mg x=ce)(hv:sn x=am (.type id))(ha:QF X K fs e wl ax)(hn: ~~~(x≠"__name__"))(lH: ~~~(iQ x))(he:‹gE X e []›)(dG:‹kH X pos []›):LF X K fs (.Call (.Name x p) [e] [] pos) (.bind wl m) ax:=⟨PE.imp (kL hc hg hm hv (aQ ha.p bq he) hn lH he dG) λσ H Q ⟨sr,q⟩=>⟨sr,wl.mono (λl q1 u H1 g1 s1 v1=>hB s1 v1 ((m l).mono (λz q a vs H' g s n e v=>q a vs H' (g1.trans g) s (g1.there a n) e v) q1)) q⟩⟩
end
def xw(l:O PV):W PV:=.ret (.int l.length)
def S5(K:Ab):CQ K (W3 K) xw:=λ{fs σ H Q u l} s v q=>by
 obtain⟨a,vs,rfl,h,rs⟩:=v.sq s;refine⟨_,vs.length,rfl,?_,?_⟩
 .exact h.elim (λh=>.inl ⟨_,h,rfl⟩) λh=>.inr ⟨_,h,rfl⟩
 .rw[rs.length];exact q _ H .refl s (.int _)
def lq(l:O PV):W PV:=.ret (.tup l)
def Rz(K:Ab):CQ K (Ob K) lq:=λ{fs σ H Q u l} s v q=>by
 have fresh:∀{a:db}{vs:O V},bH K H a vs->aB K [] H vs l->Ob K [.ref a] H Q:=λ{a vs} h rs=>⟨a,vs,rfl,.inl ⟨h,λp H2 s2 e2 n2=>q _ H2 (ck.same s2) (s.same s2) (.tup e2 (aB.tk s2.eE rs))⟩⟩;rcases v with⟨a,vs,rfl,h|h,rs⟩|⟨a,rfl,⟨n,vs,h,rs⟩|⟨i,_,q1,q2⟩⟩
 .exact fresh h.sq rs
 .exact⟨a,vs,rfl,.inr ⟨dF.of h,q _ H .refl s (.tup h rs)⟩⟩
 .exact fresh (bH.of h) rs
 .obtain⟨_,vs,h,rs⟩:=s.ownAt q1 rfl q2;exact fresh (bH.of h) rs
end
end
end FL
variable{R:Type}{y:BZ}{d:Nat}
namespace FL
section
variable[bL]
variable{K:Ab}
def uz(vs:O V)(ks:O AK)(ψ:Nat->O V->Prop)(d:Nat)(a:db):Prop:=∃i:Nat,ks[i]?=am (.p ψ d)/\vs[i]?=am (.ref a)
structure V7(n:Nat)(vs:List V)(ks:List AK)(H H':Hp):Prop where
 keep:∀a o,H a=am o->(∀ψ d,¬uz vs ks ψ d a)->(nt:‹o.nt=true›)->H' a=am o
 tb:TB H'
 there:∀a,H' a=ce->H a=ce
 W9:∀a ψ d,uz vs ks ψ d a->Hh H' a ψ (n+d)
 x:∀b,c9 H b->c9 H' b
inductive iR(K:Ab)(H:Hp)(n:Nat):List V->List AK->List PV->Prop
 |nil:iR K H n [] [] []
 |v {u:V}{x:PV}{vs:List V}{ks:List AK}{l:List PV} (r:VR K [] H u x) (t:iR K H n vs ks l):iR K H n (u::vs) (.v::ks) (x::l)
 |p {a:db}{ψ:Nat->List V->Prop}{d:Nat}{vs:List V}{ks:List AK}{l:List PV} (e:Hh H a ψ n) (r:n+d<=HM) (t:iR K H n vs ks l):iR K H n (.ref a::vs) (.p ψ d::ks) l
 |f {a:db}{us vs:List V}{ps:List PV}{fz:List (db×Obj)}{ks:List AK}{l:List PV} (r:aB K [] H us ps) (z:ZJ H fz) (t:iR K H n vs ks l):iR K H n (.ref a::vs) (.f a us ps fz::ks) l
def NR(K:Ab)(ks:O AK)(m:O PV->W PV):Sp:=λvs H Q _=>TB H/\∃n l,iR K H n vs ks l/\(m l).run λv=>∀u H',V7 n vs ks H H'->VR K [] H' u v->Q u H'
def zb(K:Ab)(ks:O AK)(m:O PV->W (O PV)):Sp:=λvs H Q _=>TB H/\∃n l,iR K H n vs ks l/\(m l).run λz=>∀a ws H',V7 n vs ks H H'->H a=ce->H' a=am (.lst ws)->aB K [] H' ws z->Q (.ref a) H'
def Hs(R:Type):Nat->Type
 |0=>W R
 |n+1=>PV->Hs R n
def wG:(n:Nat)->Hs R n->O PV->W R
 |0,m,[]=>m
 |n+1,m,x::l=>wG n (m x) l
 |0,_,_::_=>.fail
 |_+1,_,[]=>.fail
section
variable{l:O PV}
def fF.nop(h:fF K H vs ks l):¬uz vs ks ψ d a:=by
 rintro⟨i,e1,e2⟩
 induction h generalizing i with
 |nil=>simp at e1
 |v r t ih=>cases i with|zero=>simp at e1|succ i=>exact ih i (by simpa using e1) (by simpa using e2)
 |f r z t ih=>cases i with|zero=>simp at e1|succ i=>exact ih i (by simpa using e1) (by simpa using e2)
def fF.c(h:fF K H vs ks l):iR K H n vs ks l:=by
 induction h with
 |nil=>exact .nil
 |v r t ih=>exact .v r ih
 |f r z t ih=>exact .f r z ih
def V7.caller(g:V7 n vs ks H H')(h:fF K H vs ks l)(s:aU K H σ fs):aU K H' σ fs/\ck σ fs H H':=by
 have gf:ck σ fs H H':=⟨λa o e _ t=>g.keep a o e (λ_ _=>h.nop) t,g.there,.refl _,g.x⟩;refine⟨⟨s.len,λi t e=>?_,s.nd,g.tb⟩,gf⟩;obtain⟨u,h1,h2⟩:=s.at' i t e;exact⟨u,h1,h2.mono (gf.cD s) λx a o _ _ _ z nt=>g.keep a o z (λ_ _=>h.nop) nt⟩
def V7.Ux{m:Nat}(g:V7 n (.ref a::vs) (.p ψ d::ks) H H')(h:fF K H vs ks l)(s:aU K H σ fs)(e1:fs[i]?=am (am (.cG ψ n m)))(e2:σ[i]?=am (am (.ref a)))(hd:n+d<=m):aU K H' σ (fs.set i (am (.cG ψ (n+d) m)))/\ck σ fs H H' (fs.set i (am (.cG ψ (n+d) m))):=by
 have pa:∀{b ψ' d'},uz (.ref a::vs) (.p ψ d::ks) ψ' d' b->b=a:=λ{b ψ' d'} ⟨j,z1,z2⟩=>by
  cases j with
  |zero=>simp at z2;exact z2.symm
  |succ j=>exact(h.nop ⟨j,by simpa using z1,by simpa using z2⟩).elim
 have hi:i<fs.length:=(Aj.mp e1).1;have ev:Ev fs (fs.set i (am (.cG ψ (n+d) m))):=⟨by simp,λj=>by
  by_cases c:j=i
  .subst c;exact .inr ⟨ψ,n,n+d,m,e1,aY hi⟩
  .exact .inl (aw c).symm⟩
 have gf:ck σ fs H H' (fs.set i (am (.cG ψ (n+d) m))):=⟨λb o e q t=>g.keep b o e (λψ' d' p=>q ψ m ⟨i,n,e1,by rw[pa p];exact e2⟩) t,g.there,ev,g.x⟩;have tk:=gf.cD s;obtain⟨_,_,hm⟩:=s.ownAt e1 rfl e2;refine⟨⟨by simp[s.len],λj t e=>?_,ev.nd s,g.tb⟩,gf⟩
 .rcases cm e with⟨rfl,rfl⟩|⟨c,e⟩
  .exact⟨_,e2,.inr ⟨a,rfl,g.W9 a ψ d ⟨0,rfl,rfl⟩,hd,hm⟩⟩
  .obtain⟨u,h1,h2⟩:=s.at' j t e;refine⟨u,h1,h2.mono tk λx b o eb ow hb z nt=>g.keep b o z (λψ' d' p=>?_) nt⟩;subst eb;exact c (s.nd j i t _ x a b e e1 ow rfl h1 e2 hb (.inl (pa p)))
end
section
variable{n0 mx:Nat}
def YK{m:O PV->W PV}(G:Q4 X.prog X.w X.K X.mg X.base x k ps (NR K ks m))(hr:dz k' X.A)(hk:k<=k')(hg:Gl X x)(ha:AF X K fs (e::es) ks B ax)(lH: ~~~(iQ x))(he:‹gE X e es›)(dG:‹kH X pos es›):EF X K fs (.Call (.Name x p) (e::es) [] pos) (B m) ax:=by
 obtain⟨w,hp,hB⟩:=ha.p;rw[hB];exact⟨PE.imp (HS G hr hk hg hp lH he dG) λσ H Q ⟨sr,q⟩=>⟨sr,w.mono (λl q1 vs H1 g1 s1 v1=>⟨s1.tb,0,l,v1.c,(m l).mono (λz q2 u H2 g2 r2=>let ⟨s2,g3⟩:=g2.caller v1 s1;q2 u H2 (g1.trans g3) s2 r2) q1⟩) q⟩⟩
def XI{m:O PV->W (O PV)}{B:(O PV->W (O PV))->W (O PV)}(G:Q4 X.prog X.w X.K X.mg X.base x k ps (zb K ks m))(hr:dz k' X.A)(hk:k<=k')(hg:Gl X x)(ha:AF X K fs (e::es) ks B ax)(lH: ~~~(iQ x))(he:‹gE X e es›)(dG:‹kH X pos es›):LF X K fs (.Call (.Name x p) (e::es) [] pos) (B m) ax:=by
 obtain⟨w,hp,hB⟩:=ha.p;rw[hB];exact⟨PE.imp (HS G hr hk hg hp lH he dG) λσ H Q ⟨sr,q⟩=>⟨sr,w.mono (λl q1 vs H1 g1 s1 v1=>⟨s1.tb,0,l,v1.c,(m l).mono (λz q2 a ws H2 g2 n2 e2 r2=>let ⟨s2,g3⟩:=g2.caller v1 s1;q2 a ws H2 (g1.trans g3) s2 (g1.there a n2) e2 r2) q1⟩) q⟩⟩
def YB{m:Nat}(s:aU K H σ fs)(e:Ev fs ax)(h:ax[i]?=am (am (.cG ψ n m))):∃a,σ[i]?=am (am (.ref a))/\ax[i]?=am (am (.cG ψ n m)):=by
 rcases e.get h with z|⟨_,j,_,_,z,y⟩
 .obtain⟨u,e1,r⟩:=s.at' i _ z;rcases r with⟨v,e,_⟩|⟨a,rfl,_⟩
  .cases e
  .exact⟨a,e1,h⟩
 .cases z;obtain⟨u,e1,r⟩:=s.at' i _ y;rcases r with⟨v,e,_⟩|⟨a,rfl,_⟩
  .cases e
  .exact⟨a,e1,h⟩
def Ug(i:Nat){m:O PV->W PV}(G:Q4 X.prog X.w X.K X.mg X.base x k ps (NR K (.p ψ d::ks) m))(hr:dz k' X.A)(hk:k<=k')(hg:Gl X x)(hs:fs[i]?=am (am (.cG ψ n0 mx)))(ha:AF X K fs es ks B ax)(oC:ax[i]?=am (am (.cG ψ n mx)))(hd:n+d<=mx)(lH: ~~~(iQ x))(hN:‹X.N[i]?=am y›)(hv:Ho X.env.scope y:=by first|exact Cg rfl|exact Co (Cg rfl)|exact Co (Co rfl))(ĝ: ~~~(iQ y))(jO: ~~~(JP y))(he:‹gt (.Name y py::es) X.env=(false,o0 (.Name y py) X.env)::gt es X.env›)(dG:‹kH X pos es›):EF X K fs (.Call (.Name x p) (.Name y py::es) [] pos) (B m) (ax.set i (am (.cG ψ (n+d) mx))):=by
 obtain⟨w,hp,hB⟩:=ha.p;rw[hB];refine⟨PE.imp (HS G hr hk hg (aQ (fu hN hv ĝ jO) hp he) lH he dG) λσ H Q ⟨sr,q⟩=>?_⟩;obtain⟨a,e1,_⟩:=YB sr (.refl _) hs;refine⟨_,e1,sr,w.mono (λl q1 vs H1 g1 s1 v1=>?_) q⟩;obtain⟨pt,h1,h2⟩:=s1.ownAt oC rfl e1;exact⟨s1.tb,n,l,.p pt (AV hd h2) v1.c,(m l).mono (λz q2 u H2 g2 r2=>let ⟨s2,g3⟩:=g2.Ux v1 s1 oC e1 hd;q2 u H2 (g1.trans g3) s2 r2) q1⟩
end
end
end FL
variable{p':Ck}
namespace FL
section
variable[bL]
variable{K:Ab}
inductive End where
 |nx (fs:aL)|nc (fs:aL)|ct (fs:aL)|rt (v:PV)|rl (l:List PV)|bk (fs:aL)|ro (v:PV) (a:db) (l:List PV)
def yL(σ:L2.St)(fs:aL)(H:Hp)(a:db):Prop:=H a=ce\/∃(i:Nat) (s:SL) (x:db),fs[i]?=am (am s)/\s.own=true/\(∀ψ n m,s≠.cG ψ n m)/\σ[i]?=am (am (.ref x))/\s.has x a
def bQ(K:Ab)(x:Bool)(σ:L2.St)(fs:aL)(H:Hp)(D:Ends):End->Prop
 |.nx aH=>x=false->∀σ' H',cB σ fs H σ' aH H'->aU K H' σ' aH->D.nx σ' H'
 |.nc aH=>∀σ' H',cB σ fs H σ' aH H'->aU K H' σ' aH->(x=false->D.nx σ' H')/\D.ct σ' H'
 |.ct aH=>∀σ' H',cB σ fs H σ' aH H'->aU K H' σ' aH->D.ct σ' H'
 |.bk aH=>∀σ' H',cB σ fs H σ' aH H'->aU K H' σ' aH->D.bk σ' H'
 |.rt v=>∀u σ' aH H',cB σ fs H σ' aH H'->aU K H' σ' aH->VR K [] H' u v->D.rt u H'
 |.ro v a l=>∀u σ' aH H',cB σ fs H σ' aH H'->aU K H' σ' aH->(∃i:Nat,aH[i]?=am (am (.ol (am a) l)))->VR K [] H' u v->D.rt u H'
 |.rl l=>∀a ws σ' aH H',cB σ fs H σ' aH H'->aU K H' σ' aH->yL σ fs H a->H' a=am (.lst ws)->aB K [] H' ws l->D.rt (.ref a) H'
def fS(K:Ab)(x:Bool)(fs:aL){T:Type}(w:W T)(out:T->End):TS:=λD σ H=>aU K H σ fs/\w.run λt=>bQ K x σ fs H D (out t)
structure SF(X:Cx)(K:Ab)(x:Bool)(fs:aL)(Q8:List v4){T:Type}(w:W T)(out:T->End):Prop where p:oD X Q8 (fS K x fs w out)
section
variable{σ1:L2.St}{x:Bool}
def yL.go(g:cB σ fs H σ1 ax H1)(s:aU K H σ fs)(s1:aU K H1 σ1 ax)(h:yL σ1 ax H1 a):yL σ fs H a:=by
 rcases h with h|⟨i,t,x,e1,e2,np,e3,e4⟩
 .exact .inl (g.there a h)
 .cases z:H a with
  |none=>exact .inl z
  |some o=>
   by_cases c:bP σ fs a
   .obtain⟨j,t',y,c1,c2,c3,c4⟩:=c;by_cases d:∃ψ n m,t'=.cG ψ n m
    .obtain⟨ψ,n,m,rfl⟩:=d;rcases c4 with rfl|c4
     .rcases g.pk a ψ m ⟨j,n,c1,c3⟩ with⟨k,_,k1,k2⟩|⟨n,_⟩
      .have:=s1.nd i k t _ x a a e1 k1 e2 rfl e3 k2 e4 (.inl rfl);subst this;rw[e1]at k1;cases k1;exact absurd rfl (np _ _ _)
      .exact absurd ⟨i,t,x,e1,e2,e3,e4⟩ n
     .cases c4
    .exact .inr ⟨j,t',y,c1,c2,λψ n m e=>d ⟨ψ,n,m,e⟩,c3,c4⟩
   .exact absurd ⟨i,t,x,e1,e2,e3,e4⟩ (g.keep a o z c).2
def bQ.go(g:cB σ fs H σ1 ax H1)(s:aU K H σ fs)(s1:aU K H1 σ1 ax){E:End}(h:bQ K x σ fs H D E):bQ K x σ1 ax H1 D E:=by
 cases E with
 |nx aH=>exact λhx σ' H' g' s'=>h hx σ' H' (g.trans g') s'
 |nc aH=>exact λσ' H' g' s'=>h σ' H' (g.trans g') s'
 |bk aH=>exact λσ' H' g' s'=>h σ' H' (g.trans g') s'
 |ct aH=>exact λσ' H' g' s'=>h σ' H' (g.trans g') s'
 |rt v=>exact λu σ' aH H' g' s' r=>h u σ' aH H' (g.trans g') s' r
 |ro v a l=>exact λu σ' aH H' g' s' o r=>h u σ' aH H' (g.trans g') s' o r
 |rl l=>exact λa ws σ' aH H' g' s' f e r=>h a ws σ' aH H' (g.trans g') s' (f.go g s s1) e r
def bQ.exit{D':Ends}(h1:D'.rt=D.rt)(h2:D'.ct=D.ct)(h3:D'.bk=D.bk){E:End}(h:bQ K x σ fs H D E):bQ K true σ fs H D' E:=by
 cases E with
 |nx aH=>exact λhx=>nomatch hx
 |nc aH=>exact λσ' H' g' s'=>⟨λhx=>(nomatch hx),h2▸(h σ' H' g' s').2⟩
 |bk aH=>exact λσ' H' g' s'=>h3▸h σ' H' g' s'
 |ct aH=>exact λσ' H' g' s'=>h2▸h σ' H' g' s'
 |rt v=>exact λu σ' aH H' g' s' r=>h1▸h u σ' aH H' g' s' r
 |ro v a l=>exact λu σ' aH H' g' s' o r=>h1▸h u σ' aH H' g' s' o r
 |rl l=>exact λa ws σ' aH H' g' s' f e r=>h1▸h a ws σ' aH H' g' s' f e r
end
section
variable{X:Cx}{a b c e o:nw}{pos p:Pos}{fs aH ax:aL}{st:v4}{Q8 rest sa sb:O v4}{T T1:Type}{w wk:W T}{out:T->End}{we:W PV}{wl:W (O PV)}{x:Bool}
def End.zV:End->Prop
 |.rt _=>True
 |.rl _=>True
 |.ro _ _ _=>True
 |_=>False
def bQ.aeV{D':Ends}{y:Bool}{E:End}(ho:E.zV)(e:D'.rt=D.rt)(h:bQ K x σ fs H D E):bQ K y σ fs H D' E:=by
 cases E with
 |rt v=>exact λu σ' aH H' g s r=>e▸h u σ' aH H' g s r
 |rl v=>exact λa ws σ' aH H' g s f ea r=>e▸h a ws σ' aH H' g s f ea r
 |ro v a l=>exact λu σ' aH H' g s o r=>e▸h u σ' aH H' g s o r
 |_=>exact ho.elim
def yX(X:Cx)(K:Ab)(x:Bool)(rest:O v4){T:Type}(out:T->End):TS:=λD σ H=>∃aH w',SF X K x aH rest w' out/\fS K x aH w' out D σ H
def R0:oD X rest (yX X K x rest out):=λU s σ H D I ⟨aH,w',h,q⟩=>h.p U s σ H D I q
def OT:oD X rest Ww:=λ_ _ _ _ _ _ h=>h.elim
def SF.step{t:TS}(h:PS X st t)(hq:∀D σ H,fS K x fs w out D σ H->t {D with nx:=yX X K x rest out D} σ H):SF X K x fs (st::rest) w out:=⟨oD.imp (dI h R0) λD σ H q=>hq D σ H q⟩
def SF.last{t:TS}(h:PS X st t)(hq:∀D σ H,fS K x fs w out D σ H->t {D with nx:=λ_ _=>False} σ H):SF X K x fs (st::rest) w out:=⟨oD.imp (dI h OT) λD σ H q=>hq D σ H q⟩
def SF.nil{t:T}(h:out t=.nx aH)(hl:cY fs aH):SF X K false fs [] (.ret t) out:=⟨oD.imp rh λD σ H ⟨sr,q⟩=>by
 have q:bQ K false σ fs H D (out t):=q;rw[h]at q;exact q rfl σ H (cB.le sr hl) (sr.le hl)⟩
def SF.cO{t:T}(h:out t=.nc aH)(hl:cY fs aH):SF X K false fs [] (.ret t) out:=⟨oD.imp rh λD σ H ⟨sr,q⟩=>by
 have q:bQ K false σ fs H D (out t):=q;rw[h]at q;exact(q σ H (cB.le sr hl) (sr.le hl)).1 rfl⟩
def SF.cont{t:T}(h:out t=.nc aH\/out t=.ct aH)(hl:cY fs aH):SF X K x fs (.Continue pos::rest) (.ret t) out:=SF.last zk λD σ H ⟨sr,q⟩=>by
 have q:bQ K x σ fs H D (out t):=q;rcases h with h|h
 .rw[h]at q;exact(q σ H (cB.le sr hl) (sr.le hl)).2
 .rw[h]at q;exact q σ H (cB.le sr hl) (sr.le hl)
def SF.ret{k:PV->T}(he:EF X K fs e we ax)(h:∀v,out (k v)=.rt v):SF X K x fs (.Return (am e) pos::rest) (.bind we λv=>.ret (k v)) out:=SF.last (sG he.p) λD σ H ⟨sr,q⟩=>⟨sr,we.mono (λv q1 u H1 g1 s1 v1=>by
 have q1:bQ K x σ fs H D (out (k v)):=q1;rw[h]at q1;exact q1 u σ ax H1 g1.f s1 v1) q⟩
def SF.dm{out:PV->End}(he:EF X K fs e we ax)(h:∀v,out v=.rt v):SF X K x fs (.Return (am e) pos::rest) we out:=SF.ret (k:=λv=>v) he h
def SF.aeC{k:O PV->T}(he:LF X K fs e wl ax)(h:∀l,out (k l)=.rl l):SF X K x fs (.Return (am e) pos::rest) (.bind wl λl=>.ret (k l)) out:=SF.last (sG he.p) λD σ H ⟨sr,q⟩=>⟨sr,wl.mono (λl q1 a ws H1 g1 s1 n e v1=>by
 have q1:bQ K x σ fs H D (out (k l)):=q1;rw[h]at q1;exact q1 a ws σ ax H1 g1.f s1 (.inl n) e v1) q⟩
def SF.jY{out:O PV->End}(he:LF X K fs e wl ax)(h:∀v,out v=.rl v):SF X K x fs (.Return (am e) pos::rest) wl out:=SF.aeC he h
def SF.RZ(i:Nat){l:O PV}{t:T}(hs:fs[i]?=am (am (.ol q0 l)))(h:out t=.rl l)(hN:‹X.N[i]?=am y›)(hv:Ho X.env.scope y:=by first|exact Cg rfl|exact Co (Cg rfl)|exact Co (Co rfl))(hd: ~~~(iQ y))(jO: ~~~(JP y)):SF X K x fs (.Return (am (.Name y p)) pos::rest) (.ret t) out:=SF.last (sG (fu hN hv hd jO)) λD σ H ⟨sr,q⟩=>by
 have q:bQ K x σ fs H D (out t):=q;rw[h]at q;obtain⟨u,e1,r⟩:=sr.at' i _ hs;rcases r with⟨v,e,_⟩|⟨a,e,r⟩
 .cases e
 .subst e;obtain⟨_,ws,q1,q2⟩:=r;exact⟨_,e1,q a ws σ fs H .refl sr (.inr ⟨i,_,_,hs,rfl,by simp,e1,.inl rfl⟩) q1 q2⟩
def SF.expr{k:PV->W T}(he:EF X K fs e we ax)(hr:∀v,SF X K x ax rest (k v) out)(hs:‹ss e ce pos.line X.env=pure false›):SF X K x fs (.Expr e pos::rest) (.bind we k) out:=SF.step (nu he.p hs) λD σ H ⟨sr,q⟩=>
 ⟨sr,we.mono (λv q1 u H1 g1 s1 v1=>⟨ax,k v,hr v,s1,(k v).mono (λt q2=>q2.go g1.f sr s1) q1⟩) q⟩
def SF.set{k:PV->W T}(hN:X.N.Nodup)(hi:X.N[i]?=am y)(hx:Loc X.env.scope y)(he:EF X K fs e we ax)(hr:∀v,SF X K x (ax.set i (am (.val v))) rest (k v) out)(hs:‹ss e (am (.Name y p')) pos.line X.env=pure false›)(hf:Q1 X y:=by first|exact .inl rfl|exact .inr rfl|assumption):SF X K x fs (.Assign [.Name y p'] e pos::rest) (.bind we k) out:=SF.step (mq hN hi hx he.p hs hf) λD σ H ⟨sr,q⟩=>
 ⟨sr,we.mono (λv q1 u H1 g1 s1 v1=>⟨_,k v,hr v,s1.jL v1 i,(k v).mono (λt q2=>q2.go (g1.f.trans (cB.jL s1 u v i)) sr (s1.jL v1 i)) q1⟩) q⟩
def SF.aey{k:O PV->W T}(hN:X.N.Nodup)(hi:X.N[i]?=am y)(hx:Loc X.env.scope y)(he:LF X K fs e wl ax)(hr:∀l,SF X K x (ax.set i (am (.ol ce l))) rest (k l) out)(hs:‹ss e (am (.Name y p')) pos.line X.env=pure false›)(hf:Q1 X y:=by first|exact .inl rfl|exact .inr rfl|assumption):SF X K x fs (.Assign [.Name y p'] e pos::rest) (.bind wl k) out:=SF.step (mq hN hi hx he.p hs hf) λD σ H ⟨sr,q⟩=>by
 refine⟨sr,wl.mono (λl q1 a ws H1 g1 s1 n e v1=>?_) q⟩;have no:¬bP σ ax a:=λz=>sr.noOwn n (g1.ev.eK z);have s2:=s1.wW (t:=.ol ce l) ⟨by simp,ws,e,v1⟩ no i;exact⟨_,k l,hr l,s2,(k l).mono (λt q2=>q2.go (cB.wW s1 g1 no n i) sr s2) q1⟩
def SF.cg(i:Nat){t:SL}(hs:fs[i]?=am (am t))(hr:SF X K x (fs.set i (am (.val t.bv))) Q8 w out)(hb:‹t.bw=true›):SF X K x fs Q8 w out:=⟨λU s σ H D I ⟨sr,q⟩=>by
 obtain⟨u,e1,r⟩:=sr.at' i _ hs;have ho:=SL.QL hb;rcases r with⟨v,e,_⟩|⟨a,e,oa⟩
 .subst e;cases hb
 .subst e;obtain⟨ob,o,h1,n1,n2,I2,vr⟩:=abX I oa hb;have ow:∀b,bP σ (fs.set i (am (.val t.bv))) b->bP σ fs b:=λb z=>by
   obtain⟨j,t,x,z1,z2,z3,z4⟩:=z;rcases cm z1 with⟨rfl,rfl⟩|⟨n,z1⟩
   .cases z2
   .exact⟨j,t,x,z1,z2,z3,z4⟩
  have s2:=sr.abW hs ho e1 h1 n1 n2 vr;have g2:cB σ fs H σ (fs.set i (am (.val t.bv))) (upd H a (.cg ob o)):=by
   refine⟨λb o z n=>⟨?_,λy=>n (ow b y)⟩,λb z=>?_,λb ψ m z=>?_,λb z=>?_⟩
   .intro _;rw[ak (λy=>by subst y;exact n ⟨i,_,_,hs,ho,e1,.inl rfl⟩)];exact z
   .by_cases c:b=a
    .subst c;rw[aG]at z;cases z
    .rw[ak c]at z;exact z
   .obtain⟨j,k,z1,z2⟩:=z;have:j≠i:=λy=>by subst y;rw[hs]at z1;cases z1;cases hb
    exact .inl ⟨j,k,by rw[aw this];exact z1,z2⟩
   .have z':H b=_:=z;show upd H a _ b=_;rw[ak (λy=>by subst y;exact sr.Xr z' ⟨i,_,_,hs,ho,e1,.inl rfl⟩)];exact z'
  exact hr.p U s σ _ D I2 ⟨s2,w.mono (λt q3=>q3.go g2 sr s2) q⟩⟩
variable{tc:W Bool}
def SF.Vx(hc:TF X K fs c tc ax)(ha:SF X K x ax sa w out)(hb:SF X K x ax sb wk out):SF X K x fs [.If c sa sb pos] (.bind tc λb=>if b=true then w else wk) out:=⟨oD.imp (rg (Ki hc.p ha.p hb.p)) λD σ H ⟨sr,q⟩=>⟨sr,tc.mono (λk q1 H1 g1 s1=>by
 cases k with
 |true=>exact xI ⟨s1,w.mono (λt q2=>q2.go g1.f sr s1) q1⟩
 |false=>exact xJ ⟨s1,wk.mono (λt q2=>q2.go g1.f sr s1) q1⟩) q⟩⟩
def SF.Zj(hc:TF X K fs c tc ax)(ha:SF X K true ax sa w out)(hb:SF X K x ax rest wk out):SF X K x fs (.If c sa [] pos::rest) (.bind tc λb=>if b=true then w else wk) out:=SF.step (Ki hc.p ha.p rh) λD σ H ⟨sr,q⟩=>⟨sr,tc.mono (λk q1 H1 g1 s1=>by
 cases k with
 |true=>exact xI ⟨s1,w.mono (λt q2=>bQ.exit (D:=D) (D':={D with nx:=yX X K x rest out D}) rfl rfl rfl (q2.go g1.f sr s1)) q1⟩
 |false=>exact xJ ⟨ax,wk,hb,s1,wk.mono (λt q2=>q2.go g1.f sr s1) q1⟩) q⟩
def Y8(X:Cx)(K:Ab)(x:Bool)(rest:O v4){T:Type}(w:W T)(out:T->End):End->Prop
 |.nx aH=>SF X K x aH rest w out
 |.nc aH=>False
 |.bk aH=>∃t,w=.ret t/\out t=.bk aH
 |.ct aH=>∃t,w=.ret t/\(out t=.ct aH\/out t=.nc aH)
 |.rt v=>∃t,w=.ret t/\out t=.rt v
 |.rl l=>∃t,w=.ret t/\out t=.rl l
 |.ro v a l=>∃t,w=.ret t/\out t=.ro v a l
def Y8.r{E:End}(sr:aU K H σ fs)(h:Y8 X K x rest w out E)(q:w.run λt=>bQ K x σ fs H D (out t)):bQ K false σ fs H {D with nx:=yX X K x rest out D} E:=by
 cases E with
 |nx aH=>exact λ_ σ' H' g' s'=>⟨aH,w,h,s',w.mono (λt q2=>q2.go g' sr s') q⟩
 |nc aH=>exact h.elim
 |bk aH=>
  obtain⟨t,rfl,h⟩:=h;have q:bQ K x σ fs H D (out t):=q;rw[h]at q;exact q
 |ct aH=>
  obtain⟨t,rfl,h⟩:=h;have q:bQ K x σ fs H D (out t):=q;rcases h with h|h
  .rw[h]at q;exact q
  .rw[h]at q;exact λσ' H' g s=>(q σ' H' g s).2
 |rt v=>
  obtain⟨t,rfl,h⟩:=h;have q:bQ K x σ fs H D (out t):=q;rw[h]at q;exact q
 |rl v=>
  obtain⟨t,rfl,h⟩:=h;have q:bQ K x σ fs H D (out t):=q;rw[h]at q;exact q
 |ro v a l=>
  obtain⟨t,rfl,h⟩:=h;have q:bQ K x σ fs H D (out t):=q;rw[h]at q;exact q
variable{w1 w2:W T1}{out1:T1->End}{k:T1->W T}
def SF.ifS(hc:TF X K fs c tc ax)(ha:SF X K false ax sa w1 out1)(hb:SF X K false ax sb w2 out1)(hr:∀t,Y8 X K x rest (k t) out (out1 t)):SF X K x fs (.If c sa sb pos::rest) (.bind tc λb=>.bind (if b=true then w1 else w2) k) out:=SF.step (Ki hc.p ha.p hb.p) λD σ H ⟨sr,q⟩=>⟨sr,tc.mono (λb q1 H1 g1 s1=>by
 have fin:∀t,(k t).run (λt=>bQ K x σ fs H D (out t))->bQ K false σ fs H {D with nx:=yX X K x rest out D} (out1 t):=λt q=>(hr t).r sr q;cases b with
 |true=>exact xI ⟨s1,w1.mono (λt q2=>(fin t q2).go g1.f sr s1) q1⟩
 |false=>exact xJ ⟨s1,w2.mono (λt q2=>(fin t q2).go g1.f sr s1) q1⟩) q⟩
end
end
end FL
variable{is:O Nat}
namespace FL
section
variable[bL]
variable{K:Ab}
def JF(K:Ab)(H:Hp)(J:It)(l:O PV):Prop:=l.length<=sizeLine/\∀H',bc K H H'->(∀(i:Nat) (p:PV),l[i]?=am p->J.go i H'/\∀x H2,J.Ro i H' x H2->jD H' H2/\VR K [] H2 x p)/\J.stop l.length H'
def JF.tk{J:It}{l:O PV}(t:bc K H H')(h:JF K H J l):JF K H' J l:=⟨h.1,λH2 t2=>h.2 H2 (bc.trans t t2)⟩
def fIt(K:Ab)(fs:aL)(w:W (O PV))(aH:aL:=fs):TI:=λσ H R=>aU K H σ fs/\w.run λl=>∀J H',ck σ fs H H' aH->aU K H' σ aH->JF K H' J l->R J H'
structure mW(X:Cx)(K:Ab)(fs:aL)(tg e:nw)(w:W (List PV))(aH:aL:=fs):Prop where p:PI X tg e (fIt K fs w aH)
section
variable{a c:nw}{p2:Pos}
def UI{ad:db}{l:O PV}(h:JQ K H ad vs)(r:aB K [] H vs l)(hz:l.length<=sizeLine):JF K H (Itl K ad) l:=⟨hz,λH' t=>by
 have e1:=(t.f _ _ h).sq;have e2:=aB.tk t r;refine⟨λi p hp=>?_,vs,e1,by rw[e2.length];exact Ak _⟩;obtain⟨v,h3,h4⟩:=e2.get hp;refine⟨⟨vs,v,e1,h3⟩,λx H3 y=>?_⟩;obtain⟨rfl,y⟩:=y;have:=y vs e1;rw[h3]at this;cases this;exact⟨jD.refl _,h4⟩⟩
def Y6{ad:db}{l:O PV}(h:H ad=am (.tup vs))(r:aB K [] H vs l)(hz:l.length<=sizeLine):JF K H (Itt K ad) l:=⟨hz,λH' t=>by
 have e1:=dF.of (K:=K) (t.t _ _ h);have e2:=aB.tk t r;refine⟨λi p hp=>?_,vs,e1,by rw[e2.length];exact Ak _⟩;obtain⟨v,h3,h4⟩:=e2.get hp;refine⟨⟨vs,v,e1,h3⟩,λx H3 y=>?_⟩;obtain⟨rfl,y⟩:=y;have:=y vs e1;rw[h3]at this;cases this;exact⟨jD.refl _,h4⟩⟩
def bG(hK:X.K=K)(h:IF X K fs e wl ax):mW X K fs tg e wl ax:=⟨by
 subst hK;intro U s σ H R I ⟨sr,q⟩;refine bN (h.p U s σ H (λu H1=>∃l,Y1 X.K H1 u l/\∀J,JF X.K H1 J l->R J H1) I ⟨sr,wl.mono (λl q1 u H1 g1 s1 v1=>⟨l,v1,λJ j=>q1 J H1 g1 s1 j⟩) q⟩) λv s1 ⟨x,H1,I1,r1,l,⟨ad,vs,e,hh,rs⟩,q1⟩=>?_;subst e;cases r1;rcases hh with hh|hh
 .obtain⟨aq,rv,pl,hz⟩:=I1.list hh.sq;refine DC pl.isList ?_;refine⟨s1.heap.objs.size,[s1.heap.objs.size],_,_,H1,rfl,I1.kept λb o e=>Ah _ e,Lq ad _,⟨_,An _ rfl,rfl,rfl⟩,λb hb=>?_,q1 _ (UI hh rs (by rw[<- rs.length];exact hz))⟩;have e:b=s1.heap.objs.size:=by simpa using hb
  subst e;exact I1.xW (Ak _) (I1.bg.fresh (Ak _))
 .obtain⟨aq,rv,pl,hz⟩:=I1.tuple (dF.of hh);refine EC (pl) ?_;refine⟨s1.heap.objs.size,[s1.heap.objs.size],_,_,H1,rfl,I1.kept (t':=s1.toks) λb o e=>Ah _ e,Hv ad _,⟨_,An _ rfl,rfl,rfl⟩,λb hb=>?_,q1 _ (Y6 hh rs (by rw[<- rs.length];exact hz))⟩;have e:b=s1.heap.objs.size:=by simpa using hb
  subst e;exact I1.xW (Ak _) (I1.bg.fresh (Ak _))⟩
def okN(i j:Int):Prop:=-(2 ^ 62)<=i/\i<2 ^ 62/\-(2 ^ 62)<=j/\j<2 ^ 62/\(j-i).toNat<=sizeLine
def iA:PV->W (O PV)
 |.int j=>.d8 (okN 0 j) (.ret (jG 0 j.toNat))
 |_=>.fail
def Ke:PV->PV->PV->W (O PV)
 |.int i,.int j,.int k=>.d8 (k = -1/\okN j i) (.ret (n5 i (i-j).toNat))
 |_,_,_=>.fail
def Y7(lo:Int)(n:Nat)(hz:n<=sizeLine):JF K H (Itr lo n) (jG lo n):=⟨by rw[iG];exact hz,λH' t=>⟨λi p hp=>by
  obtain⟨h1,rfl⟩:=pz hp;refine⟨h1,λx H2 y=>?_⟩;obtain⟨rfl,rfl⟩:=y;exact⟨jD.refl _,.int _⟩,by rw[iG];exact Ak _⟩⟩
theorem dR(hg:Gl X "range")(hm:X.mg "range"=ce)(ha:EF X K fs a wa ax)(hs:‹gt [a] X.env=[(false,o0 a X.env)]›):mW X K fs tg (.Call (.Name "range" p) [a] [] pos) (.bind wa iA) ax:=
 ⟨PI.imp (LN hg hm (aQ ha.p bq hs) hs) λσ H R ⟨sr,q⟩=>⟨sr,wa.mono (λx q1 u1 H1 g1 s1 v1=>by
  cases v1 with
  |int j=>exact⟨_,rfl,q1.1.2.2.1,q1.1.2.2.2.1,q1.2 _ H1 g1 s1 (Y7 _ _ (by have:=q1.1.2.2.2.2;lia))⟩
  |_=>exact q1.elim) q⟩⟩
def KO(hg:Gl X "range")(hm:X.mg "range"=ce)(ha:EF X K fs a wa ax)(hb:EF X K ax b wb fs2)(hc:EF X K fs2 c wc fs3)(hs:‹gt [a,b,c] X.env=[(false,o0 a X.env),(false,o0 b X.env),(false,o0 c X.env)]›)(uC:‹gt [b,c] X.env=[(false,o0 b X.env),(false,o0 c X.env)]›)(hs3:‹gt [c] X.env=[(false,o0 c X.env)]›):mW X K fs tg (.Call (.Name "range" p) [a,b,c] [] pos) (.bind wa λx=>.bind wb λy=>.bind wc λz=>Ke x y z) fs3:=
 ⟨PI.imp (LM hg hm (aQ ha.p (aQ hb.p (aQ hc.p bq hs3) (by show gt _ _=_;rw[uC,hs3])) (by show gt _ _=_;rw[hs,uC])) hs uC) λσ H R ⟨sr,q⟩=>⟨sr,wa.mono (λx q1 u1 H1 g1 s1 v1=>⟨s1,wb.mono (λy q2 u2 H2 g2 s2 v2=>⟨s2,wc.mono (λz q3 u3 H3 g3 s3 v3=>by
  cases v1 with
  |int i=>
   cases v2 with
   |int j=>
    cases v3 with
    |int k=>
     obtain⟨⟨rfl,k1,k2,k3,k4,k5⟩,q3⟩:=q3;refine⟨_,_,rfl,⟨k3,k4,k1,k2⟩,q3 _ H3 ((g1.trans g2).trans g3) s3 ⟨by rw[pM];exact k5,λH' t=>⟨λi p hp=>?_,?_⟩⟩⟩
     .obtain⟨h1,rfl⟩:=pN hp;refine⟨h1,λx H2 y=>?_⟩;obtain⟨rfl,rfl⟩:=y;exact⟨jD.refl _,.int _⟩
     .exact Gg (pM _ _).symm
    |_=>exact q3.elim
   |_=>exact q3.elim
  |_=>exact q3.elim) q2⟩) q1⟩) q⟩⟩
def nS(hK:X.K=K){kk:Nat}(hg:Gl X "enumerate")(hm:X.mg "enumerate"=ce)(h:IF X K fs e wl ax)(oC:‹gE X e []›):mW X K fs (.Tuple Ì kk tp) (.Call (.Name "enumerate" p1) [e] [] p2) (.bind wl λl=>.d8 (l.length<=sizeLine) (.ret (eH 0 l))) ax:=
 ⟨PI.imp (Oy K hK hg hm h.p oC) λσ H R ⟨sr,q⟩=>⟨sr,wl.mono (λl q1 u1 H1 g1 s1 v1=>by
  obtain⟨ad,vs,rfl,hh,rs⟩:=v1;have yl:∀{H':Hp}{i:Nat}{x v:V}{y:PV}{pp:db},H' pp=ce->VR K [] H' v y->jD H' (upd H' pp (.tup [.int i,v]))/\VR K [] (upd H' pp (.tup [.int (i:Int),v])) (.ref pp) (.tup [.int ((0+i:Nat)),y]):=λ{H' i x v y pp} hn h4=>
   have sm:=iz hn (.tup [.int (i:Int),v])
   ⟨sm,.tup aG (.cons (by rw[A2];exact .int _) (.cons (VR.tk sm.eE h4) .nil))⟩
  refine⟨ad,rfl,?_⟩;rcases hh with hh|hh
  .refine .inl ⟨⟨vs,hh.sq⟩,q1.2 _ H1 g1 s1 ⟨by rw[bj];exact q1.1,λH' t=>⟨λi p hp=>?_,vs,(t.f _ _ hh).sq,by rw[rs.length,bj];exact Ak _⟩⟩⟩;obtain⟨y,hy,rfl⟩:=dD hp;obtain⟨v,h3,h4⟩:=(aB.tk t rs).get hy;refine⟨⟨vs,v,(t.f _ _ hh).sq,h3⟩,λx H3 z=>?_⟩;obtain⟨pp,x0,rfl,hn,rfl,hz⟩:=z;have:=hz vs (t.f _ _ hh).sq;rw[h3]at this;cases this;exact yl (x:=.aF) hn h4
  .refine .inr ⟨⟨vs,dF.of hh⟩,q1.2 _ H1 g1 s1 ⟨by rw[bj];exact q1.1,λH' t=>⟨λi p hp=>?_,vs,dF.of (t.t _ _ hh),by rw[rs.length,bj];exact Ak _⟩⟩⟩;obtain⟨y,hy,rfl⟩:=dD hp;obtain⟨v,h3,h4⟩:=(aB.tk t rs).get hy;refine⟨⟨vs,v,dF.of (t.t _ _ hh),h3⟩,λx H3 z=>?_⟩;obtain⟨pp,x0,rfl,hn,rfl,hz⟩:=z;have:=hz vs (dF.of (t.t _ _ hh));rw[h3]at this;cases this;exact yl (x:=.aF) hn h4) q⟩⟩
end
def wO:O Nat->O V->L2.St->L2.St
 |i::is,u::us,σ=>wO is us (σ.set i (am u))
 |_,_,σ=>σ
def fG(K:Ab)(fs:aL)(is:O Nat){T:Type}(wt:PV->W T)(fs2:T->aL):TG:=λv σ H Q=>∃p,aU K H σ fs/\VR K [] H v p/\(wt p).run λt=>∀us,cB σ fs H (wO is us σ) (fs2 t) H->aU K H (wO is us σ) (fs2 t)->Q (wO is us σ) H
structure GF(X:Cx)(K:Ab)(fs:aL)(tg:nw)(is:List Nat){T:Type}(wt:PV->W T)(fs2:T->aL):Prop where p:PG X tg (fG K fs is wt fs2)
def yN:PV->W (PV×PV)
 |.tup [a,b]=>.ret (a,b)
 |_=>.fail
section
def TV(h:PG X tg (eG i)):GF X K fs tg [i] .ret (λp=>fs.set i (am (.val p))):=⟨PG.imp h λv σ H Q ⟨p,sr,r,q⟩=>q [v] (cB.jL sr v p i) (sr.jL r i)⟩
def PX(hK:X.K=K)(h:PG X tg (abR X.K 2 (PY (eG i) (PY (eG j) abU)))):GF X K fs tg [i,j] yN (λt=>(fs.set i (am (.val t.1))).set j (am (.val t.2))):=⟨PG.imp h λv σ H Q ⟨p,sr,r,q⟩=>by
 unfold yN at q
 split at q
 .cases r with
  |tup e rs=>
   cases rs with
   |cons ra t=>
   cases t with
   |cons rb t=>
   cases t;have s1:=sr.jL ra i;exact⟨_,_,rfl,dF.of e,rfl,_,_,rfl,_,_,rfl,rfl,q [_,_] ((cB.jL sr _ _ i).trans (cB.jL s1 _ _ j)) (s1.jL rb j)⟩
 .exact q.elim⟩
end
section
variable{S T:Type}
def cC:O PV->S->(PV->S->W S)->W S
 |[],s,_=>.ret s
 |x::r,s,f=>.bind (f x s) λs'=>cC r s' f
inductive Lp(S T:Type) where
 |go (s:S)|out (t:T)
def ko:O PV->S->(PV->S->W (Lp S T))->W (Lp S T)
 |[],s,_=>.ret (.go s)
 |x::r,s,f=>.bind (f x s) λo=>match o with
  |.go s'=>ko r s' f
  |.out t=>.ret (.out t)
def KU(k:S->W T)(inj:R->T):Lp S R->W T
 |.go s=>k s
 |.out r=>.ret (inj r)
@[simp] theorem af4(k:S->W T)(inj:R->T)(s:S):KU k inj (.go s)=k s:=(rfl)
@[simp] theorem adw(k:S->W T)(inj:R->T)(r:R):KU k inj (.out r)=.ret (inj r):=(rfl)
def lpE(hd:S->aL)(out:R->End):Lp S R->End
 |.go s=>.nc (hd s)
 |.out r=>out r
def gW(c:S->W Bool)(b:S->W S):Nat->S->W S
 |0,_=>.fail
 |n+1,s=>.bind (c s) λk=>if k=true then .bind (b s) (gW c b n) else .ret s
def oH(c:S->W Bool)(b:S->W S)(s:S):W S:=⟨λQ=>∃n,(gW c b n s).run Q,λh ⟨n,q⟩=>⟨n,(gW c b n s).mono h q⟩⟩
end
section
variable{c:nw}{rest:O v4}{S T T2:Type}{hd:S->aL}{s0:S}{wt:PV->W T2}{fs2:S->T2->aL}{k:S->W T}{out:T->End}{x:Bool}{R:Type}{inj:R->T}
theorem SF.abZ{hd:Nat->S->aL}{hE:S->aL}{fs2:Nat->S->T2->aL}{f:PV->S->W S}{wb:T2->S->W S}(hp:ww (gl X.prog X.w) X.A X.env X.xe)(hc:X.calm=true)(hi:mW X K fs tg iter wl ax)(hl:cY ax (hd 0 s0))(hg:∀i s,GF X K (hd i s) tg is wt (fs2 i s))(hf:∀p s,f p s=.bind (wt p) λt=>wb t s)(hb:∀i s t,i<sizeLine->SF X K false (fs2 i s t) body (wb t s) λs'=>.nc (hd (i+1) s'))(hx:∀i s,i<=sizeLine->cY (hd i s) (hE s))(hr:∀s,SF X K x (hE s) rest (k s) out)(hs:pV X iter:=by intro _;rfl):SF X K x fs (.For tg iter body [] pos::rest) (.bind wl λl=>.bind (cC l s0 f) k) out:=by
 refine SF.step (Ot (g:=λv σ H Q=>∃i s,fG K (hd i s) is wt (fs2 i s) v σ H Q) (tb:=λD σ H=>∃i s t,i<sizeLine/\fS K false (fs2 i s t) (wb t s) (λs'=>.nc (hd (i+1) s')) D σ H) hp hc hi.p (λU s σ H v u Q I r ⟨i1,s1,q⟩=>(hg i1 s1).p U s σ H v u Q I r q) (λU s σ H D I ⟨i1,s1,t1,h1,q⟩=>(hb i1 s1 t1 h1).p U s σ H D I q) hs) λD σ H ⟨sr,q⟩=>?_;refine⟨sr,wl.mono (λl q1 J H1 g1 s1 jf=>?_) q⟩;have hz:=jf.1;refine⟨λi m σ' H'=>∃s,aU K H' σ' (hd i s)/\cB σ fs H σ' (hd i s) H'/\JF K H' J l/\m=l.length-i/\i<=l.length/\(cC (l.drop i) s f).run λs'=>(k s').run λt=>bQ K x σ fs H D (out t),⟨l.length,s0,s1.le hl,g1.f.trans (cB.le s1 hl),jf,by simp,Ba _,by simpa using q1⟩,?_⟩;rintro i m σ2 H2 ⟨s,s2,g2,Tn,rfl,hi,q2⟩;obtain⟨j1,j2⟩:=Tn.2 H2 (bc.refl H2);by_cases gw:i<l.length
 .obtain⟨go,yl⟩:=j1 i _ (Ad gw);rw[(B1 gw)]at q2;refine .inr ⟨go,λσ3 H3=>∃s',aU K H3 σ3 (hd (i+1) s')/\cB σ fs H σ3 (hd (i+1) s') H3/\JF K H3 J l/\(cC (l.drop (i+1)) s' f).run λs'=>(k s').run λt=>bQ K x σ fs H D (out t),λσ3 H3 ⟨s',a1,a2,a3,a4⟩=>⟨l.length-(i+1),by lia,s',a1,a2,a3,rfl,gw,a4⟩,λv H3 y=>?_⟩;obtain⟨sm,vx⟩:=yl v H3 y;have q2:(f l[i] s).run λs'=>(cC (l.drop (i+1)) s' f).run λs'=>(k s').run λt=>bQ K x σ fs H D (out t):=q2;rw[hf]at q2;have s3:=s2.same sm;refine⟨i,s,_,s3,vx,(wt l[i]).mono (λt q4 us g4 s4=>?_) q2⟩;refine⟨i,s,t,by lia,s4,(wb t s).mono (λs' q5 σ5 H5 g5 s5=>?_) q4⟩;have fin:∃s',aU K H5 σ5 (hd (i+1) s')/\cB σ fs H σ5 (hd (i+1) s') H5/\JF K H5 J l/\(cC (l.drop (i+1)) s' f).run λs'=>(k s').run λt=>bQ K x σ fs H D (out t):=⟨s',s5,((g2.trans (cB.same sm s2)).trans g4).trans g5,Tn.tk (bc.trans sm.eE (bc.trans (g4.cD s3) (g5.cD s4))),q5⟩;exact⟨λ_=>fin,fin⟩
 .have e:i=l.length:=by lia
  subst e;rw[Fb]at q2;have le:=hx l.length s hz;exact .inl ⟨j2,hE s,k s,hr s,s2.le le,(k s).mono (λt q3=>q3.go (g2.trans (cB.le s2 le)) sr (s2.le le)) q2⟩
def SF.for{f:PV->S->W S}{wb:T2->S->W S}(hp:ww (gl X.prog X.w) X.A X.env X.xe)(hc:X.calm=true)(hi:mW X K fs tg iter wl ax)(hl:cY ax (hd s0))(hg:∀s,GF X K (hd s) tg is wt (fs2 s))(hf:∀p s,f p s=.bind (wt p) λt=>wb t s)(hb:∀s t,SF X K false (fs2 s t) body (wb t s) λs'=>.nc (hd s'))(hr:∀s,SF X K x (hd s) rest (k s) out)(hs:pV X iter:=by intro _;rfl):SF X K x fs (.For tg iter body [] pos::rest) (.bind wl λl=>.bind (cC l s0 f) k) out:=SF.abZ (hd:=λ_=>hd) (fs2:=λ_=>fs2) hp hc hi hl (λ_=>hg) hf (λ_ s t _=>hb s t) (λ_ s _=>.refl _) hr hs
theorem SF.VO{hd:Nat->S->aL}{hE:S->aL}{fs2:Nat->S->T2->aL}{f:PV->S->W (Lp S R)}{wb:T2->S->W (Lp S R)}(hp:ww (gl X.prog X.w) X.A X.env X.xe)(hc:X.calm=true)(hi:mW X K fs tg iter wl ax)(hl:cY ax (hd 0 s0))(hg:∀i s,GF X K (hd i s) tg is wt (fs2 i s))(hf:∀p s,f p s=.bind (wt p) λt=>wb t s)(ho:∀t,(out (inj t)).zV)(hb:∀i s t,i<sizeLine->SF X K false (fs2 i s t) body (wb t s) (lpE (hd (i+1)) λr=>out (inj r)))(hx:∀i s,i<=sizeLine->cY (hd i s) (hE s))(hr:∀s,SF X K x (hE s) rest (k s) out)(hs:pV X iter:=by intro _;rfl):SF X K x fs (.For tg iter body [] pos::rest) (.bind wl λl=>.bind (FL.ko l s0 f) (KU k inj)) out:=by
 refine SF.step (Ot (g:=λv σ H Q=>∃i s,fG K (hd i s) is wt (fs2 i s) v σ H Q) (tb:=λD σ H=>∃i s t,i<sizeLine/\fS K false (fs2 i s t) (wb t s) (lpE (hd (i+1)) λr=>out (inj r)) D σ H) hp hc hi.p (λU s σ H v u Q I r ⟨i1,s1,q⟩=>(hg i1 s1).p U s σ H v u Q I r q) (λU s σ H D I ⟨i1,s1,t1,h1,q⟩=>(hb i1 s1 t1 h1).p U s σ H D I q) hs) λD σ H ⟨sr,q⟩=>?_;refine⟨sr,wl.mono (λl q1 J H1 g1 s1 jf=>?_) q⟩;have hz:=jf.1;have lo:∀D' y t,D'.rt=D.rt->bQ K x σ fs H D (out (inj t))->bQ K y σ fs H D' (out (inj t)):=λD' y t e h=>bQ.aeV (ho t) e h;refine⟨λi m σ' H'=>∃s,aU K H' σ' (hd i s)/\cB σ fs H σ' (hd i s) H'/\JF K H' J l/\m=l.length-i/\i<=l.length/\(FL.ko (l.drop i) s f).run λo=>(KU k inj o).run λt=>bQ K x σ fs H D (out t),⟨l.length,s0,s1.le hl,g1.f.trans (cB.le s1 hl),jf,by simp,Ba _,by simpa using q1⟩,?_⟩;rintro i m σ2 H2 ⟨s,s2,g2,Tn,rfl,hi,q2⟩;obtain⟨j1,j2⟩:=Tn.2 H2 (bc.refl H2);by_cases gw:i<l.length
 .obtain⟨go,yl⟩:=j1 i _ (Ad gw);rw[(B1 gw)]at q2;refine .inr ⟨go,λσ3 H3=>∃s',aU K H3 σ3 (hd (i+1) s')/\cB σ fs H σ3 (hd (i+1) s') H3/\JF K H3 J l/\(FL.ko (l.drop (i+1)) s' f).run λo=>(KU k inj o).run λt=>bQ K x σ fs H D (out t),λσ3 H3 ⟨s',a1,a2,a3,a4⟩=>⟨l.length-(i+1),by lia,s',a1,a2,a3,rfl,gw,a4⟩,λv H3 y=>?_⟩;obtain⟨sm,vx⟩:=yl v H3 y;have q2:(f l[i] s).run λo=>(match o with|.go s'=>FL.ko (l.drop (i+1)) s' f|.out t=>ca (.out t)).run λo=>(KU k inj o).run λt=>bQ K x σ fs H D (out t):=q2;rw[hf]at q2;have s3:=s2.same sm;have g3:=g2.trans (cB.same sm s2);refine⟨i,s,_,s3,vx,(wt l[i]).mono (λt q4 us g4 s4=>?_) q2⟩;refine⟨i,s,t,by lia,s4,(wb t s).mono (λo q5=>?_) q4⟩;cases o with
  |out t5=>
   refine bQ.go (g3.trans g4) sr s4 (lo _ false t5 ?_ q5);rfl
  |go s'=>
   intro σ5 H5 g5 s5;have fin:∃s',aU K H5 σ5 (hd (i+1) s')/\cB σ fs H σ5 (hd (i+1) s') H5/\JF K H5 J l/\(FL.ko (l.drop (i+1)) s' f).run λo=>(KU k inj o).run λt=>bQ K x σ fs H D (out t):=⟨s',s5,(g3.trans g4).trans g5,Tn.tk (bc.trans sm.eE (bc.trans (g4.cD s3) (g5.cD s4))),q5⟩;exact⟨λ_=>fin,fin⟩
 .have e:i=l.length:=by lia
  subst e;rw[Fb]at q2;have le:=hx l.length s hz;exact .inl ⟨j2,hE s,k s,hr s,s2.le le,(k s).mono (λt q3=>q3.go (g2.trans (cB.le s2 le)) sr (s2.le le)) q2⟩
def SF.ko{f:PV->S->W (Lp S R)}{wb:T2->S->W (Lp S R)}(hp:ww (gl X.prog X.w) X.A X.env X.xe)(hc:X.calm=true)(hi:mW X K fs tg iter wl ax)(hl:cY ax (hd s0))(hg:∀s,GF X K (hd s) tg is wt (fs2 s))(hf:∀p s,f p s=.bind (wt p) λt=>wb t s)(ho:∀t,(out (inj t)).zV)(hb:∀s t,SF X K false (fs2 s t) body (wb t s) (lpE hd λr=>out (inj r)))(hr:∀s,SF X K x (hd s) rest (k s) out)(hs:pV X iter:=by intro _;rfl):SF X K x fs (.For tg iter body [] pos::rest) (.bind wl λl=>.bind (FL.ko l s0 f) (KU k inj)) out:=SF.VO (hd:=λ_=>hd) (fs2:=λ_=>fs2) hp hc hi hl (λ_=>hg) hf ho (λ_ s t _=>hb s t) (λ_ s _=>.refl _) hr hs
def jQ(N:Nat)(c:S->W Bool)(b:S->W S)(s:S):W S:=⟨λQ=>∃n,n<=N/\(gW c b n s).run Q,λh ⟨n,l,q⟩=>⟨n,l,(gW c b n s).mono h q⟩⟩
theorem SF.jQ{N:Nat}{hd:Nat->S->aL}{hE:S->aL}{cw:S->W Bool}{b:S->W S}(hp:ww (gl X.prog X.w) X.A X.env X.xe)(hl:cY fs (hd 0 s0))(hc:∀i s,TF X K (hd i s) c (cw s))(hb:∀i s,i<N->SF X K false (hd i s) body (b s) λs'=>.nc (hd (i+1) s'))(hx:∀i s,i<=N->cY (hd i s) (hE s))(hr:∀s,SF X K x (hE s) rest (k s) out):SF X K x fs (.While c body [] pos::rest) (.bind (FL.jQ N cw b s0) k) out:=by
 refine SF.step (zj (tc:=λσ H Q=>∃i s,fT K (hd i s) (cw s) (hd i s) σ H Q) (tb:=λD σ H=>∃i s,i<N/\fS K false (hd i s) (b s) (λs'=>.nc (hd (i+1) s')) D σ H) hp (λU s σ H Q I ⟨i1,s1,q⟩=>(hc i1 s1).p U s σ H Q I q) (λU s σ H D I ⟨i1,s1,h1,q⟩=>(hb i1 s1 h1).p U s σ H D I q)) λD σ H ⟨sr,n,hn,q⟩=>?_;refine⟨λm σ' H'=>∃i s,i+m<=N/\aU K H' σ' (hd i s)/\cB σ fs H σ' (hd i s) H'/\(gW cw b m s).run λs'=>(k s').run λt=>bQ K x σ fs H D (out t),⟨n,0,s0,by lia,sr.le hl,cB.le sr hl,q⟩,?_⟩;rintro m σ1 H1 ⟨i,s,him,s1,g1,q1⟩;cases m with
 |zero=>exact q1.elim
 |succ m=>
  refine⟨i,s,s1,(cw s).mono (λkk q2 H2 g2 s2=>?_) q1⟩;cases kk with
  |false=>
   have le:=hx i s ∅;exact xJ ⟨hE s,k s,hr s,s2.le le,(k s).mono (λt q3=>q3.go ((g1.trans g2.f).trans (cB.le s2 le)) sr (s2.le le)) q2⟩
  |true=>
   refine xI ?_;refine⟨λσ3 H3=>∃s,aU K H3 σ3 (hd (i+1) s)/\cB σ fs H σ3 (hd (i+1) s) H3/\(gW cw b m s).run λs'=>(k s').run λt=>bQ K x σ fs H D (out t),λσ3 H3 ⟨s,a⟩=>⟨m,B7 m,i+1,s,by lia,a⟩,i,s,by lia,s2,(b s).mono (λs' q5 σ5 H5 g5 s5=>?_) q2⟩;have fin:∃s,aU K H5 σ5 (hd (i+1) s)/\cB σ fs H σ5 (hd (i+1) s) H5/\(gW cw b m s).run λs'=>(k s').run λt=>bQ K x σ fs H D (out t):=⟨s',s5,(g1.trans g2.f).trans g5,q5⟩;exact⟨λ_=>fin,fin⟩
def SF.JR{cw:S->W Bool}{b:S->W S}(hp:ww (gl X.prog X.w) X.A X.env X.xe)(hl:cY fs (hd s0))(hc:∀s,TF X K (hd s) c (cw s))(hb:∀s,SF X K false (hd s) body (b s) λs'=>.nc (hd s'))(hr:∀s,SF X K x (hd s) rest (k s) out):SF X K x fs (.While c body [] pos::rest) (.bind (oH cw b s0) k) out:=⟨λU s σ H D I ⟨sr,n,q⟩=>(SF.jQ (N:=n) (hd:=λ_=>hd) hp hl (λ_=>hc) (λ_ s _=>hb s) (λ_ s _=>.refl _) hr).p U s σ H D I ⟨sr,n,Ak n,q⟩⟩
end
end
end FL
variable{f:PL.PV->FL.W (Option PL.PV)}{qi Nk:FL.aL}{hd:Nat->FL.aL}
namespace FL
section
variable[bL]
variable{K:Ab}
def mX:O PV->(PV->W (Option PV))->W (O PV)
 |[],_=>.ret []
 |x::r,f=>.bind (f x) λo=>.bind (mX r f) λl=>.ret (o.toList++l)
def bz:O PV->(PV->W PV)->W (O PV)
 |[],_=>.ret []
 |x::r,f=>.bind (f x) λy=>.bind (bz r f) λl=>.ret (y::l)
theorem xj(f:PV->W PV):∀l,bz l f=mX l λp=>.bind (f p) λv=>.ret (am v)
 |[]=>rfl
 |x::r=>by
  show bn (f x) (λy=>bn (bz r f) λl=>ca (y::l))=bn (f x) λy=>bn (mX r _) λl=>ca (y::l);rw[xj f r]
def aW(ix:O (Option Nat))(fs:aL):aL:=ix.map λo=>match o with|some j=>(fs[j]?).getD ce|none=>ce
section
def oy{s:SL}(h:(aW ix fs)[i]?=am (am s)):∃j,ix[i]?=am (am j)/\fs[j]?=am (am s):=by
 unfold aW at h;rw[Ag]at h;cases q:ix[i]? with
 |none=>rw[q]at h;cases h
 |some o=>
  rw[q]at h;cases o with
  |none=>cases h
  |some j=>
   refine⟨j,rfl,?_⟩;have h:(fs[j]?).getD ce=am s:=Option.some.inj h;cases z:fs[j]? with
   |none=>rw[z]at h;cases h
   |some y=>rw[z]at h;exact congrArg am h
def lj(h:ix[i]?=am (am j))(e:σ[j]?=am (am u)):(ox ix σ)[i]?=am (am u):=by
 unfold ox;rw[Ag,h];show am ((σ[j]?).getD ce)=_;rw[e];rfl
def aU.dZ(s:aU K H σ fs)(inj:∀i i' j:Nat,ix[i]?=am (am j)->ix[i']?=am (am j)->i=i'):aU K H (ox ix σ) (aW ix fs):=by
 refine⟨by unfold ox aW;simp,λi t e=>?_,λi i' t u x y a e1 e2 o1 o2 q1 q2 z1 z2=>?_,s.tb⟩
 .obtain⟨j,h1,h2⟩:=oy e;obtain⟨u,h3,h4⟩:=s.at' j t h2;exact⟨u,lj h1 h3,h4⟩
 .obtain⟨j,h1,h2⟩:=oy e1;obtain⟨j',fV,uE⟩:=oy e2;obtain⟨u1,h3,_⟩:=s.at' j t h2;obtain⟨u2,PN,_⟩:=s.at' j' u uE;rw[lj h1 h3]at q1;rw[lj fV PN]at q2;cases q1;cases q2;have:=s.nd j j' t u x y a h2 uE o1 o2 h3 PN z1 z2;subst this;exact inj i i' j h1 fV
structure V5(ix:List (Option Nat))(σ:L2.St)(fs:aL)(σ':L2.St)(aH:aL):Prop where
 own:∀(i:Nat) (t:SL),aH[i]?=am (am t)->t.own=true->∃j,ix[i]?=am (am j)/\fs[j]?=am (am t)/\σ'[i]?=σ[j]?
def Cap(ix:O (Option Nat))(σ σ':L2.St):Prop:=∀(i j:Nat) (u:V),ix[i]?=am (am j)->σ[j]?=am (am u)->σ'[i]?=am (am u)
def Cap.Pu(c:Cap ix σ σ')(s:aU K H σ fs):V5 ix σ fs σ' (aW ix fs):=⟨λi t e _=>by
 obtain⟨j,h1,h2⟩:=oy e;obtain⟨u,h3,_⟩:=s.at' j t h2;exact⟨j,h1,h2,by rw[c i j u h1 h3,h3]⟩⟩
def V5.eK(h:V5 ix σ fs σ' aH)(o:bP σ' aH a):bP σ fs a:=by
 obtain⟨i,t,x,e1,e2,e3,e4⟩:=o;obtain⟨j,h1,h2,h3⟩:=h.own i t e1 e2;exact⟨j,t,x,h2,e2,h3▸e3,e4⟩
def V5.cG(h:V5 ix σ fs σ' aH){m:Nat}(o:gF σ' aH ψ m a):gF σ fs ψ m a:=by
 obtain⟨i,n,e1,e3⟩:=o;obtain⟨j,h1,h2,h3⟩:=h.own i _ e1 rfl;exact⟨j,n,h2,h3▸e3⟩
def V5.out{TY fsC:aL}(h:V5 ix σ fs σ' aH)(cp:Cap ix σ σ')(s:aU K H1 σ fs)(g:ck σ' aH H1 H2 fsC)(s2:aU K H2 σ' (aW ix TY))(ev:Ev fs TY)(hc:∀j:Nat,fs[j]?=TY[j]?\/∃i':Nat,ix[i']?=am (am j)):aU K H2 σ TY/\ck σ fs H1 H2 TY:=by
 have gf:ck σ fs H1 H2 TY:=⟨λa o e n t=>g.keep a o e (λψ m z=>n ψ m (h.cG z)) t,g.there,ev,g.x⟩;have dZ:∀{i j:Nat}{t:SL},ix[i]?=am (am j)->TY[j]?=am (am t)->(aW ix TY)[i]?=am (am t):=λ{i j t} e1 e2=>by
  unfold aW;rw[Ag,e1];show am ((TY[j]?).getD ce)=_;rw[e2];rfl
 have tk:=gf.cD s;refine⟨⟨s.len.trans ev.len,λj t e=>?_,ev.nd s,s2.tb⟩,gf⟩
 .rcases hc j with e0|⟨i,hi⟩
  .rw[<- e0]at e;obtain⟨u,h1,h2⟩:=s.at' j t e;refine⟨u,h1,?_⟩;rcases h2 with⟨v,q,r⟩|⟨a,q,r⟩
   .exact .inl ⟨v,q,VR.tk tk r⟩
   .subst q;refine .inr ⟨a,rfl,?_⟩;by_cases c:∃b,t.own=true/\t.has a b/\bP σ' aH b
    .obtain⟨b,ow,hb,i,t',x,c1,c2,c3,c4⟩:=c;obtain⟨j',k1,k2,k3⟩:=h.own i t' c1 c2;have jj:=s.nd j j' t t' a x b e k2 ow c2 h1 (k3▸c3) hb c4;subst jj;rw[e]at k2;cases k2;exact s2.ownAt (dZ k1 (e0▸e)) c2 (k3.trans h1)
    .exact r.mono tk (λb o ow hb z nt=>g.tH z (λy=>c ⟨b,ow,hb,y⟩) nt)
  .obtain⟨u',h3,h4⟩:=s2.at' i t (dZ hi e);have he:∃t',fs[j]?=am (am t'):=by
    rcases ev.get e with z|⟨_,_,_,_,_,z⟩
    .exact⟨_,z⟩
    .exact⟨_,z⟩
   obtain⟨t',he⟩:=he;obtain⟨u,h1,_⟩:=s.at' j t' he;have:=cp i j u hi h1;rw[h3]at this;cases this;exact⟨_,h1,h4⟩
theorem mn:∀{is:O Nat}{us:O V}{σ:L2.St}{i:Nat},i∉is->(wO is us σ)[i]?=σ[i]?
 |[],us,σ,i,_=>by cases us<;>rfl
 |j::is,[],σ,i,_=>rfl
 |j::is,u::us,σ,i,h=>by
  rw[wO,mn (λz=>h (AY _ z))];exact aw (λz=>h (by rw[z];exact BF))
end
section
variable{sc:pc}{T2:Type}{wt:PV->W T2}{fs2:T2->aL}{tf:T2->W Bool}{te:T2->W PV}
structure FF(X:Cx)(K:Ab)(fs:aL)(Ç:List nw)(w:W Bool):Prop where p:ZI X Ç (fT K fs w)
def xY:FF X K fs [] (.ret true):=⟨λU s σ H Q I ⟨sr,q⟩=>Sn U s σ H Q I (q H .refl sr)⟩
def P6{c:nw}{w:W Bool}(h:TF X K fs c w):FF X K fs [c] w:=⟨Sm h.p⟩
def pU(is:O Nat)(qi:aL)(fs2:T2->aL):Prop:=∀t,(fs2 t).length=qi.length/\∀(i:Nat) (s:SL),(fs2 t)[i]?=am (am s)->(i∈is/\s.own=false)\/(i∉is/\qi[i]?=am (am s))
theorem VV{fs2 fs3:Nat->T2->aL}(S:aV X.env.scope X.N sc N' ix)(h0:oE ax (hd 0))(hx:∀i,i<=sizeLine->oE (hd i) Nk)(hv:∀i,i<sizeLine->Ev (hd i) (hd (i+1)))(VI:∀i j:Nat,(hd i)[j]?=(hd (i+1))[j]?\/∃i':Nat,ix[i']?=am (am j))(hf:∀p,f p=.bind (wt p) λt=>.bind (tf t) λk=>if k=true then .bind (te t) λv=>.ret (am v) else .ret ce)(hl:∀i,pU is (aW ix (hd i)) (fs2 i))(Yh:∀i t,i<sizeLine->cY (fs2 i t) (aW ix (hd (i+1))))(Yg:∀i t,i<sizeLine->cY (fs3 i t) (aW ix (hd (i+1))))(rJ:∀j∈is,ix[j]?=am ce):∀σ H Q,fL K fs (.bind wl λl=>mX l f) Nk σ H Q->tLc ix (fIt K fs wl ax) (λv σ H Q=>∃i,fG K (aW ix (hd i)) is wt (fs2 i) v σ H Q) (λσ H Q=>∃i t,fT K (fs2 i t) (tf t) (fs2 i t) σ H Q) (λσ H Q=>∃i t,i<sizeLine/\fE K (fs2 i t) (te t) (fs3 i t) σ H Q) σ H Q:=by
 rintro σ H Q ⟨sr,q⟩;refine⟨sr,wl.mono (λl q1 J H1 g1 s1 jf D hD=>?_) q⟩;have hz:=jf.1;have inj:∀i i' j:Nat,ix[i]?=am (am j)->ix[i']?=am (am j)->i=i':=λi i' j h1 h2=>by
  have hi:i<N'.length:=by rw[<- S.len];exact(Aj.mp h1).1
  have zX:i'<N'.length:=by rw[<- S.len];exact(Aj.mp h2).1
  have e2:=(S.at h2 (Ad zX)).1;rw[((S.at h1 (Ad hi)).1)]at e2;exact(E8 S.nd).mp (Option.some.inj e2)
 have g1:=g1.le h0;have s1:=s1.le h0.f;have nD:∀i,Ev (hd 0) (hd i)->¬bP σ (hd i) D:=λi e z=>s1.noOwn hD (e.eK z);refine⟨λi m σ' ys H'=>∃Â,Ev (hd 0) (hd i)/\aU K H' σ (hd i)/\ck σ fs H H' (hd i)/\aU K H' σ' (aW ix (hd i))/\Cap ix σ σ'/\JF K H' J l/\H' D=am (.lst ys)/\aB K [] H' ys Â/\Â.length<=i/\m=l.length-i/\i<=l.length/\
  (mX (l.drop i) f).run λr=>∀a vs H',ck σ fs H H' Nk->aU K H' σ Nk->H a=ce->H' a=am (.lst vs)->aB K [] H' vs (Â++r)->Q (.ref a) H',⟨l.length,[],?_⟩,?_⟩
 .have sm:=iz hD (.lst []);exact⟨.refl _,s1.same sm,g1.trans (ck.same sm),(s1.same sm).dZ inj,λi j u h1 h3=>lj h1 h3,jf.tk sm.eE,aG,.nil,Ba _,by simp,Ba _,by simpa using q1⟩
 rintro i m σ2 ys H2 ⟨Â,ev0,sO,gO,s2,cp,Tn,hy,vy,abM,rfl,hi,q2⟩;refine⟨hy,?_⟩;obtain⟨j1,j2⟩:=Tn.2 H2 (bc.refl H2);have Pu:=cp.Pu sO;by_cases gw:i<l.length
 .have VE:i<sizeLine:=by lia
  have Ĵ:=ev0.trans (hv i VE);obtain⟨go,yl⟩:=j1 i _ (Ad gw);rw[(B1 gw)]at q2;refine .inr ⟨go,λv H3 y=>?_⟩;obtain⟨sm,vx⟩:=yl v H3 y;have q2:(f l[i]).run λo=>(mX (l.drop (i+1)) f).run λr=>∀a vs H',ck σ fs H H' Nk->aU K H' σ Nk->H a=ce->H' a=am (.lst vs)->aB K [] H' vs (Â++(o.toList++r))->Q (.ref a) H':=q2;rw[hf]at q2;refine⟨_,_,(s2.same sm),vx,(wt l[i]).mono (λt q4 us g4 s4=>?_) q2⟩;have ó:Cap ix σ (wO is us σ2):=λi' j u h1 h3=>by
   rw[mn λz=>by have:=rJ i' z;rw[h1]at this;cases this];exact cp i' j u h1 h3
  have X3:V5 ix σ (hd i) (wO is us σ2) (fs2 i t):=⟨λj u e o=>by
   rcases (hl i t).2 j u e with⟨_,z⟩|⟨n,z⟩
   .rw[z]at o;cases o
   .obtain⟨j',k1,k2,k3⟩:=Pu.own j u z o;exact⟨j',k1,k2,by rw[mn n];exact k3⟩⟩
  refine⟨i,t,s4,(tf t).mono (λkk q5 H5 g5 s5=>?_) q4⟩;have nD4:¬bP (wO is us σ2) (fs2 i t) D:=λz=>nD i ev0 (X3.eK z);have hy5:=g5.tH (sm _ _ hy) nD4;have vy5:=aB.tk (g5.cD s4) (aB.tk sm.eE vy);have jf5:=(Tn.tk sm.eE).tk (g5.cD s4);have x5:∀φ,H2 D≠am (.ext φ):=λφ=>by rw[hy];simp
  cases kk with
  |false=>
   have s5':=s5.le (Yh i t VE);obtain⟨sO5,gO5⟩:=X3.out ó (sO.same sm) g5 s5' (hv i VE) (VI i);exact xJ ⟨l.length-(i+1),by lia,Â,Ĵ,sO5,(gO.trans (ck.same sm)).trans gO5,s5',ó,jf5,hy5,vy5,by lia,rfl,gw,q5⟩
  |true=>
   refine xI ⟨i,t,VE,s5,(te t).mono (λv6 q6 u6 H6 g6 s6 v6'=>?_) q5⟩;have s6':=s6.le (Yg i t VE);obtain⟨sO6,af5⟩:=X3.out ó (sO.same sm) (g5.trans g6) s6' (hv i VE) (VI i);have gO6:=(gO.trans (ck.same sm)).trans af5;have Zl:=g6.tH hy5 nD4;have vy6:=aB.tk (g6.cD s5) vy5;have x6:∀φ,H6 D≠am (.ext φ):=λφ=>by rw[Zl];simp
   have nDi:=nD (i+1) Ĵ;refine⟨Zl,by rw[vy6.length];have:=Tn.1;lia,l.length-(i+1),by lia,Â++[v6],Ĵ,sO6.side nDi Zl _,gO6.side (g1.there D hD) x6 _,s6'.side (λz=>nDi ((ó.Pu sO6).eK z)) Zl _,ó,(jf5.tk (g6.cD s5)).tk (qY _ Zl),aG,aB.tk (qY (.lst (ys++[u6])) Zl) (vy6.append (.cons v6' .nil)),by rw[Al];simp;lia,rfl,gw,?_⟩;refine(mX (l.drop (i+1)) f).mono (λr q7 a vs H7 g7 s7 n e v7=>q7 a vs H7 g7 s7 n e ?_) q6;simpa using v7
 .have e:i=l.length:=by lia
  subst e;rw[Fb]at q2;have le:=hx l.length hz;exact .inl ⟨j2,q2 D ys H2 (gO.le le) (sO.le le.f) (g1.there D hD) hy (by simpa using vy)⟩
end
end
end FL
namespace L2
def qE(l:db)(items:Array ci)(n:Nat)(b:db)(bX:Array ci)(n2:Nat)(sl:Array (Option ci))(hc0:¬(!items.isEmpty&&Builtin.List.listTooLong (items.size+bX.size))=true)(hc1:items.size<=sizeLine)(uC:items.size+bX.size<=sizeLine+1):Meets (wn.«list.extend» ⟨[.ref l,.ref b],[]⟩) (λ_ R s=>s.heap.get? l=am {cls:=.type "list",dict:=ce,data:=.seq items n,slots:=#[]}/\s.heap.get? b=am {cls:=.type "list",dict:=ce,data:=.seq bX n2,slots:=sl}/\R (.ok (.ret A3)) {s with heap:=s.heap.update l (BA λx=>x++bX),toks:=s.toks}):=
 .of_wp λprog w A R s h=>by
  obtain⟨hp,g,d,tk,os⟩:=s;obtain⟨hl,hb,h⟩:=h;have f5:=D3;
  wp_walk using (CT hl rfl),B6 hl,B6 hb;exact⟨_,rfl,h⟩
def aaB(K:Ab):V->O V->Hp->VK->Prop:=λx vs H Q=>∃l b xs zs,x=.ref l/\vs=[.ref b]/\H l=am (.lst xs)/\(bH K H b zs\/dF K H b zs)/\xs.length+zs.length<=sizeLine/\yW H l (.lst (xs++zs)) (Q .aF)
theorem SY(K:Ab)(hK:X.K=K):Hr X "list.extend" (aaB K):=by
 subst hK;intro U s σ H x vs v us Q I rx rv h;obtain⟨l,b,xs,zs,rfl,rfl,hH,hB|hB,hz,q⟩:=h
 .cases rx;obtain⟨u,rfl,ru⟩:=rv.one;cases ru;obtain⟨z,aq,n,r,hl,e⟩:=I.qC hH;obtain⟨cT,r2,⟨⟨cls,dd,data,sl⟩,n2,e2,hc,hd,mG⟩,z2⟩:=I.list hB;subst hc hd mG;have VD:=r2.length;have uW:aq.toArray.size+cT.toArray.size<=sizeLine:=by rw[Am,Am];lia
  have tM:¬(!aq.toArray.isEmpty&&Builtin.List.listTooLong (aq.toArray.size+cT.toArray.size))=true:=by
   rw[nC uW,DM];exact AM
  refine wv Ey ⟨_,e,rfl⟩ Ed (D2 _ _)
   (qE l aq.toArray n b cT.toArray n2 sl tM (by rw[Am];lia) ∅) ⟨e,e2,?_⟩
  refine⟨.aF,_,I.Ij hH e (by simp) (r.append r2) ?_,rfl,q.at⟩;rw[Al];lia
 .exact zD U s σ H _ _ v us Q I rx rv ⟨l,b,xs,zs,rfl,rfl,hH,hB,hz,q⟩
end L2
variable{z:BZ}{we:FL.W PL.PV}
namespace FL
section
variable[bL]
variable{K:Ab}
section
variable{sc:pc}{T2:Type}{wt:PV->W T2}{fs2:T2->aL}{tf:T2->W Bool}{te:T2->W PV}
def Vo{fs2 fs3:Nat->T2->aL}(hc:X.calm=true)(S:aV X.env.scope X.N sc N' ix)(hi:mW X K fs tg iter wl ax)(hg:∀cl C s2 H2 fp i,GF (dZ X sc N' cl C s2 H2 fp) K (aW ix (hd i)) tg is wt (fs2 i))(Mn:∀cl C s2 H2 fp i t,FF (dZ X sc N' cl C s2 H2 fp) K (fs2 i t) Ç (tf t))(he:∀cl C s2 H2 fp i t,i<sizeLine->EF (dZ X sc N' cl C s2 H2 fp) K (fs2 i t) Ã (te t) (fs3 i t))(hf:∀p,f p=.bind (wt p) λt=>.bind (tf t) λk=>if k=true then .bind (te t) λv=>.ret (am v) else .ret ce)(hl:∀i,pU is (aW ix (hd i)) (fs2 i))(rJ:∀j∈is,ix[j]?=am ce)(h0:oE ax (hd 0))(hx:∀i,i<=sizeLine->oE (hd i) Nk)(hv:∀i,i<sizeLine->Ev (hd i) (hd (i+1)))(VI:∀i j:Nat,(hd i)[j]?=(hd (i+1))[j]?\/∃i':Nat,ix[i']?=am (am j))(Yh:∀i t,i<sizeLine->cY (fs2 i t) (aW ix (hd (i+1))))(Yg:∀i t,i<sizeLine->cY (fs3 i t) (aW ix (hd (i+1))))(hs:pV X iter:=by intro _;rfl):LF X K fs (.ListComp Ã [⟨tg,iter,Ç,0⟩] sc pos) (.bind wl λl=>mX l f) Nk:=
 ⟨PE.imp (aaH hc S hi.p (λcl C s2 H2 fp U s σ H v u Q I r ⟨i,q⟩=>(hg cl C s2 H2 fp i).p U s σ H v u Q I r q) (λcl C s2 H2 fp U s σ H Q I ⟨i,t,q⟩=>(Mn cl C s2 H2 fp i t).p U s σ H Q I q) (λcl C s2 H2 fp U s σ H Q I ⟨i,t,h,q⟩=>(he cl C s2 H2 fp i t h).p U s σ H Q I q) hs) (VV S h0 hx hv VI hf hl Yh Yg rJ)⟩
def XH(hc:X.calm=true)(S:aV X.env.scope X.N sc N' ix)(hi:mW X K fs tg iter wl ax)(hg:∀cl C s2 H2 fp,GF (dZ X sc N' cl C s2 H2 fp) K (aW ix ax) tg is wt fs2)(Mn:∀cl C s2 H2 fp t,FF (dZ X sc N' cl C s2 H2 fp) K (fs2 t) Ç (tf t))(he:∀cl C s2 H2 fp t,EF (dZ X sc N' cl C s2 H2 fp) K (fs2 t) Ã (te t))(hf:∀p,f p=.bind (wt p) λt=>.bind (tf t) λk=>if k=true then .bind (te t) λv=>.ret (am v) else .ret ce)(hl:pU is (aW ix ax) fs2/\∀t,cY (fs2 t) (aW ix ax))(rJ:∀j∈is,ix[j]?=am ce)(hs:pV X iter:=by intro _;rfl):LF X K fs (.ListComp Ã [⟨tg,iter,Ç,0⟩] sc pos) (.bind wl λl=>mX l f) ax:=Vo (hd:=λ_=>ax) (fs2:=λ_=>fs2) (fs3:=λ_=>fs2) hc S hi (λcl C s2 H2 fp _=>hg cl C s2 H2 fp) (λcl C s2 H2 fp _=>Mn cl C s2 H2 fp) (λcl C s2 H2 fp _ t _=>he cl C s2 H2 fp t) hf (λ_=>hl.1) rJ (.refl _) (λ_ _=>.refl _) (λ_ _=>.refl _) (λ_ _=>.inl rfl) (λ_ t _=>hl.2 t) (λ_ t _=>hl.2 t) hs
def xi{f:PV->W PV}(hf:∀p,f p=.bind (wt p) te):(λl=>bz l f)=λl=>mX l λp=>.bind (wt p) λt=>.bind (.ret true) λk=>if k=true then .bind (te t) λv=>.ret (am v) else .ret ce:=funext λl=>by
 rw[xj];congr 1;funext p;rw[hf];rfl
def XG{fs2 fs3:Nat->T2->aL}{f:PV->W PV}(hc:X.calm=true)(S:aV X.env.scope X.N sc N' ix)(hi:mW X K fs tg iter wl ax)(hg:∀cl C s2 H2 fp i,GF (dZ X sc N' cl C s2 H2 fp) K (aW ix (hd i)) tg is wt (fs2 i))(he:∀cl C s2 H2 fp i t,i<sizeLine->EF (dZ X sc N' cl C s2 H2 fp) K (fs2 i t) Ã (te t) (fs3 i t))(hf:∀p,f p=.bind (wt p) te)(hl:∀i,pU is (aW ix (hd i)) (fs2 i))(rJ:∀j∈is,ix[j]?=am ce)(h0:oE ax (hd 0))(hx:∀i,i<=sizeLine->oE (hd i) Nk)(hv:∀i,i<sizeLine->Ev (hd i) (hd (i+1)))(VI:∀i j:Nat,(hd i)[j]?=(hd (i+1))[j]?\/∃i':Nat,ix[i']?=am (am j))(Yh:∀i t,i<sizeLine->cY (fs2 i t) (aW ix (hd (i+1))))(Yg:∀i t,i<sizeLine->cY (fs3 i t) (aW ix (hd (i+1))))(hs:pV X iter:=by intro _;rfl):LF X K fs (.ListComp Ã [⟨tg,iter,[],0⟩] sc pos) (.bind wl λl=>bz l f) Nk:=by
 rw[xi hf];exact Vo hc S hi hg (λ_ _ _ _ _ _ _=>xY) he (λp=>rfl) hl rJ h0 hx hv VI Yh Yg hs
def Vm{f:PV->W PV}(hc:X.calm=true)(S:aV X.env.scope X.N sc N' ix)(hi:mW X K fs tg iter wl ax)(hg:∀cl C s2 H2 fp,GF (dZ X sc N' cl C s2 H2 fp) K (aW ix ax) tg is wt fs2)(he:∀cl C s2 H2 fp t,EF (dZ X sc N' cl C s2 H2 fp) K (fs2 t) Ã (te t))(hf:∀p,f p=.bind (wt p) te)(hl:pU is (aW ix ax) fs2/\∀t,cY (fs2 t) (aW ix ax))(rJ:∀j∈is,ix[j]?=am ce)(hs:pV X iter:=by intro _;rfl):LF X K fs (.ListComp Ã [⟨tg,iter,[],0⟩] sc pos) (.bind wl λl=>bz l f) ax:=by
 rw[xi hf];exact XH hc S hi hg (λ_ _ _ _ _ _=>xY) he (λp=>rfl) hl rJ hs
def fAs(K:Ab)(fs:aL)(i:Nat)(w:W (O PV))(aH:aL:=fs):TS:=λD σ H=>aU K H σ fs/\w.run λl=>∀a vs H',ck σ fs H H' aH->aU K H' σ aH->H a=ce->H' a=am (.lst vs)->aB K [] H' vs l->D.nx (σ.set i (am (.ref a))) H'
structure AS(X:Cx)(K:Ab)(fs:aL)(st:v4)(i:Nat)(w:W (List PV))(aH:aL:=fs):Prop where p:PS X st (fAs K fs i w aH)
variable{rest:O v4}{T:Type}{out:T->End}{x:Bool}{k:O PV->W T}
def SF.as{st:v4}(h:AS X K fs st i wl ax)(hr:∀l,SF X K x (ax.set i (am (.ol ce l))) rest (k l) out):SF X K x fs (st::rest) (.bind wl k) out:=SF.step h.p λD σ H ⟨sr,q⟩=>⟨sr,wl.mono (λl q1 a ws H1 g1 s1 n e v1=>by
 have no:¬bP σ ax a:=λz=>sr.noOwn n (g1.ev.eK z);have s2:=s1.wW (t:=.ol ce l) ⟨by simp,ws,e,v1⟩ no i;exact⟨_,k l,hr l,s2,(k l).mono (λt q2=>q2.go (cB.wW s1 g1 no n i) sr s2) q1⟩) q⟩
def QP{fs2 fs3:Nat->T2->aL}(hc:X.calm=true)(hN:X.N.Nodup)(zX:X.N[i]?=am y)(vZ:X.env.scope.names.lookup y=am .local)(S:aV X.env.scope X.N sc N' ix)(hi:mW X K fs tg iter wl ax)(hg:∀cl C s2 H2 fp i,GF (dZ X sc N' cl C s2 H2 fp) K (aW ix (hd i)) tg is wt (fs2 i))(Mn:∀cl C s2 H2 fp i t,FF (dZ X sc N' cl C s2 H2 fp) K (fs2 i t) Ç (tf t))(he:∀cl C s2 H2 fp i t,i<sizeLine->EF (dZ X sc N' cl C s2 H2 fp) K (fs2 i t) Ã (te t) (fs3 i t))(hf:∀p,f p=.bind (wt p) λt=>.bind (tf t) λk=>if k=true then .bind (te t) λv=>.ret (am v) else .ret ce)(hl:∀i,pU is (aW ix (hd i)) (fs2 i))(rJ:∀j∈is,ix[j]?=am ce)(h0:oE ax (hd 0))(hx:∀i,i<=sizeLine->oE (hd i) Nk)(hv:∀i,i<sizeLine->Ev (hd i) (hd (i+1)))(VI:∀i j:Nat,(hd i)[j]?=(hd (i+1))[j]?\/∃i':Nat,ix[i']?=am (am j))(Yh:∀i t,i<sizeLine->cY (fs2 i t) (aW ix (hd (i+1))))(Yg:∀i t,i<sizeLine->cY (fs3 i t) (aW ix (hd (i+1))))(qJ:‹ss (.ListComp Ã [⟨tg,iter,Ç,0⟩] sc pos) (am (.Name y px)) m9.line X.env=pure true›)(hs:pV X iter:=by intro _;rfl):AS X K fs (.Assign [.Name y px] (.ListComp Ã [⟨tg,iter,Ç,0⟩] sc pos) m9) i (.bind wl λl=>mX l f) Nk:=
 ⟨PS.imp (Oo hc hN zX vZ S hi.p (λcl C s2 H2 fp U s σ H v u Q I r ⟨i,q⟩=>(hg cl C s2 H2 fp i).p U s σ H v u Q I r q) (λcl C s2 H2 fp U s σ H Q I ⟨i,t,q⟩=>(Mn cl C s2 H2 fp i t).p U s σ H Q I q) (λcl C s2 H2 fp U s σ H Q I ⟨i,t,h,q⟩=>(he cl C s2 H2 fp i t h).p U s σ H Q I q) qJ hs) λD σ H ⟨sr,q⟩=>VV (K:=K) S h0 hx hv VI hf hl Yh Yg rJ σ H _ ⟨sr,q⟩⟩
def acD(hc:X.calm=true)(hN:X.N.Nodup)(zX:X.N[i]?=am y)(hx:X.env.scope.names.lookup y=am .local)(S:aV X.env.scope X.N sc N' ix)(hi:mW X K fs tg iter wl ax)(hg:∀cl C s2 H2 fp,GF (dZ X sc N' cl C s2 H2 fp) K (aW ix ax) tg is wt fs2)(Mn:∀cl C s2 H2 fp t,FF (dZ X sc N' cl C s2 H2 fp) K (fs2 t) Ç (tf t))(he:∀cl C s2 H2 fp t,EF (dZ X sc N' cl C s2 H2 fp) K (fs2 t) Ã (te t))(hf:∀p,f p=.bind (wt p) λt=>.bind (tf t) λk=>if k=true then .bind (te t) λv=>.ret (am v) else .ret ce)(hl:pU is (aW ix ax) fs2/\∀t,cY (fs2 t) (aW ix ax))(rJ:∀j∈is,ix[j]?=am ce)(qJ:‹ss (.ListComp Ã [⟨tg,iter,Ç,0⟩] sc pos) (am (.Name y px)) m9.line X.env=pure true›)(hs:pV X iter:=by intro _;rfl):AS X K fs (.Assign [.Name y px] (.ListComp Ã [⟨tg,iter,Ç,0⟩] sc pos) m9) i (.bind wl λl=>mX l f) ax:=
 QP (hd:=λ_=>ax) (fs2:=λ_=>fs2) (fs3:=λ_=>fs2) hc hN zX hx S hi (λcl C s2 H2 fp _=>hg cl C s2 H2 fp) (λcl C s2 H2 fp _=>Mn cl C s2 H2 fp) (λcl C s2 H2 fp _ t _=>he cl C s2 H2 fp t) hf (λ_=>hl.1) rJ (.refl _) (λ_ _=>.refl _) (λ_ _=>.refl _) (λ_ _=>.inl rfl) (λ_ t _=>hl.2 t) (λ_ t _=>hl.2 t) qJ hs
def SF.aag(hc:X.calm=true)(hN:X.N.Nodup)(zX:X.N[i]?=am y)(hx:X.env.scope.names.lookup y=am .local)(S:aV X.env.scope X.N sc N' ix)(hi:mW X K fs tg iter wl ax)(hg:∀cl C s2 H2 fp,GF (dZ X sc N' cl C s2 H2 fp) K (aW ix ax) tg is wt fs2)(Mn:∀cl C s2 H2 fp t,FF (dZ X sc N' cl C s2 H2 fp) K (fs2 t) Ç (tf t))(he:∀cl C s2 H2 fp t,EF (dZ X sc N' cl C s2 H2 fp) K (fs2 t) Ã (te t))(hf:∀p,f p=.bind (wt p) λt=>.bind (tf t) λk=>if k=true then .bind (te t) λv=>.ret (am v) else .ret ce)(hl:pU is (aW ix ax) fs2/\∀t,cY (fs2 t) (aW ix ax))(rJ:∀j∈is,ix[j]?=am ce)(hr:∀l,SF X K x (ax.set i (am (.ol ce l))) rest (k l) out)(qJ:‹ss (.ListComp Ã [⟨tg,iter,Ç,0⟩] sc pos) (am (.Name y px)) m9.line X.env=pure true›)(hs:pV X iter:=by intro _;rfl):SF X K x fs (.Assign [.Name y px] (.ListComp Ã [⟨tg,iter,Ç,0⟩] sc pos) m9::rest) (.bind (.bind wl λl=>mX l f) k) out:=SF.as (acD hc hN zX hx S hi hg Mn he hf hl rJ qJ hs) hr
end
section
theorem xy:∀{l:aL}{i:Nat} (s:Option SL),l[i]?=am ce->cY (l.set i s) l
 |[],_,_,h=>by simp at h
 |x::l,0,s,h=>by
  simp at h;subst h;exact .drop (cY.refl l)
 |x::l,i+1,s,h=>by
  exact .keep (xy s (by simpa using h))
def cY.trans{a b c:aL}(h1:cY a b)(h2:cY b c):cY a c:=by
 induction h1 generalizing c with
 |nil=>exact h2
 |drop h ih=>cases h2 with|drop h2=>exact .drop (ih h2)|keep h2=>exact .drop (ih h2)
 |keep h ih=>cases h2 with|drop h2=>exact .drop (ih h2)|keep h2=>exact .keep (ih h2)|bump h2 k=>exact .bump (ih h2) k
 |bump h k ih=>cases h2 with|drop h2=>exact .drop (ih h2)|keep h2=>exact .bump (ih h2) k|bump h2 k2=>exact .bump (ih h2) ⟨AV k.1 k2.1,k2.2⟩
def tF{l:aL}(hl:l.length=qi.length/\∀(j:Nat) (s:SL),l[j]?=am (am s)->(j∈is/\s.own=false)\/(j∉is/\qi[j]?=am (am s)))(hi:qi[i]?=am ce):(l.set i (am (.val v))).length=qi.length/\∀(j:Nat) (s:SL),(l.set i (am (.val v)))[j]?=am (am s)->(j∈is++[i]/\s.own=false)\/(j∉is++[i]/\qi[j]?=am (am s)):=by
 refine⟨by rw[BH];exact hl.1,λj s e=>?_⟩;rcases cm e with⟨rfl,rfl⟩|⟨n,e⟩
 .exact .inl ⟨by simp,rfl⟩
 .rcases hl.2 j s e with⟨h1,h2⟩|⟨h1,h2⟩
  .exact .inl ⟨by simp[h1],h2⟩
  .exact .inr ⟨by simp[h1,n],h2⟩
def Vk(qi:aL):qi.length=qi.length/\∀(j:Nat) (s:SL),qi[j]?=am (am s)->(j∈([]:O Nat)/\s.own=false)\/(j∉([]:O Nat)/\qi[j]?=am (am s)):=⟨rfl,λj s e=>.inr ⟨by simp,e⟩⟩
def Iq(hi:qi[i]?=am ce):pU [i] qi (λp=>qi.set i (am (.val p)))/\∀t,cY (qi.set i (am (.val t))) qi:=⟨λt=>tF (Vk qi) hi,λt=>xy _ hi⟩
def NZ{l:aL}{s:Option SL}(h:l[j]?=am ce)(n:j≠i):(l.set i s)[j]?=am ce:=by rw[aw n];exact h
def aa6(hi:qi[i]?=am ce)(hj:qi[j]?=am ce)(n:j≠i):pU [i,j] qi (λt:PV×PV=>(qi.set i (am (.val t.1))).set j (am (.val t.2)))/\∀t:PV×PV,cY ((qi.set i (am (.val t.1))).set j (am (.val t.2))) qi:=
 ⟨λt=>tF (tF (Vk qi) hi) hj,λt=>(xy _ (NZ hj n)).trans (xy _ hi)⟩
end
section
variable{rest:O v4}{HB:Pos}{T:Type}{out:T->End}{x:Bool}{wi:W PV}{l:O PV}
def dq(sr:aU K H σ fs)(hs:fs[i]?=am (am (.ol q0 l))):∃a ws,σ[i]?=am (am (.ref a))/\H a=am (.lst ws)/\aB K [] H ws l:=by
 obtain⟨u,e1,r⟩:=sr.at' i _ hs;rcases r with⟨v,e,_⟩|⟨a,e,z,ws,q1,q2⟩
 .cases e
 .subst e;exact⟨a,ws,e1,q1,q2⟩
def nv{yM:O V}{l':O PV}(sr:aU K H σ fs)(hs:fs[i]?=am (am (.ol q0 l)))(e1:σ[i]?=am (am (.ref a)))(sx:kG a H H')(h':H' a=am (.lst yM))(r:aB K [] H yM l'):aU K H' σ (fs.set i (am (.ol q0 l')))/\cB σ fs H σ (fs.set i (am (.ol q0 l'))) H':=
 mw sr hs rfl (by simp) e1 sx λtk=>⟨(sr.ownAt hs rfl e1).1,yM,h',aB.tk tk r⟩
def iP(l:O PV)(v:PV):W (O PV):=.d8 (l.length<sizeLine) (.ret (l++[v]))
theorem SF.append(i:Nat){k:O PV->W T}(hs:fs[i]?=am (am (.ol q0 l)))(hK:X.K=K)(hN:X.N[i]?=am y)(hv:Ho X.env.scope y)(he:EF X K fs e we ax)(hr:∀l',SF X K x (ax.set i (am (.ol q0 l'))) rest (k l') out)(hd: ~~~(iQ y))(jO: ~~~(JP y))(cL:‹re (.Name y p) "append" X.env (o0 (.Name y p) X.env)=o0 (.Name y p) X.env›)(kj:‹V6 X bb [e]›)(cK:‹Nr À bb›)(tL:‹gE X e []›)(cu:‹kH X bb []›)(qJ:‹ss (.Call (.Attribute (.Name y p) "append" À) [e] [] bb) ce pos.line X.env=pure false›):SF X K x fs (.Expr (.Call (.Attribute (.Name y p) "append" À) [e] [] bb) pos::rest) (.bind we λv=>.bind (iP l v) k) out:=
 SF.step (nu (oY K hK BS PySem.F.slot_list_append PySem.F.type_list_append Ic (fu hN hv hd jO) (aQ he.p bq tL) cL kj cK tL cu) qJ) λD σ H ⟨sr,q⟩=>by
  obtain⟨a,ws,e1,h1,r1⟩:=dq sr hs;refine⟨_,e1,.inl ⟨rfl,_,bH.of h1⟩,sr,we.mono (λv q1 u H1 g1 s1 v1=>?_) q⟩;obtain⟨a',yM,rN,fV,yP⟩:=dq s1 (g1.ev.same hs (by simp));rw[e1]at rN;cases rN;refine⟨a,yM,u,rfl,rfl,fV,by rw[yP.length];exact q1.1,λH2 sx h2=>?_⟩;obtain⟨s2,g2⟩:=nv s1 (g1.ev.same hs (by simp)) e1 sx h2 (yP.append (.one v1));exact⟨_,k _,hr _,s2,(k _).mono (λt q2=>q2.go (g1.f.trans g2) sr s2) q1.2⟩
def Yy(l m:O PV):W (O PV):=.d8 (l.length+m.length<=sizeLine) (.ret (l++m))
theorem SF.extend(i:Nat){k:O PV->W T}(hs:fs[i]?=am (am (.ol q0 l)))(hK:X.K=K)(hN:X.N[i]?=am y)(hv:Ho X.env.scope y)(he:QF X K fs e wl ax)(hr:∀l',SF X K x (ax.set i (am (.ol q0 l'))) rest (k l') out)(hd: ~~~(iQ y))(jO: ~~~(JP y))(cL:‹re (.Name y p) "extend" X.env (o0 (.Name y p) X.env)=o0 (.Name y p) X.env›)(kj:‹V6 X bb [e]›)(cK:‹Nr À bb›)(tL:‹gE X e []›)(cu:‹kH X bb []›)(qJ:‹ss (.Call (.Attribute (.Name y p) "extend" À) [e] [] bb) ce pos.line X.env=pure false›):SF X K x fs (.Expr (.Call (.Attribute (.Name y p) "extend" À) [e] [] bb) pos::rest) (.bind wl λm=>.bind (Yy l m) k) out:=
 SF.step (nu (oY K hK BS PySem.F.slot_list_extend PySem.F.type_list_extend (SY K hK) (fu hN hv hd jO) (aQ he.p bq tL) cL kj cK tL cu) qJ) λD σ H ⟨sr,q⟩=>by
  obtain⟨a,ws,e1,h1,r1⟩:=dq sr hs;refine⟨_,e1,.inl ⟨rfl,_,bH.of h1⟩,sr,wl.mono (λm q1 u H1 g1 s1 v1=>?_) q⟩;obtain⟨a',yM,rN,fV,yP⟩:=dq s1 (g1.ev.same hs (by simp));rw[e1]at rN;cases rN;obtain⟨b,zs,rfl,hb,rb⟩:=v1.sq s1;refine⟨a,b,yM,zs,rfl,rfl,fV,hb,by rw[yP.length,rb.length];exact q1.1,λH2 sx h2=>?_⟩;obtain⟨s2,g2⟩:=nv s1 (g1.ev.same hs (by simp)) e1 sx h2 (yP.append rb);exact⟨_,k _,hr _,s2,(k _).mono (λt q2=>q2.go (g1.f.trans g2) sr s2) q1.2⟩
def zm(l:O PV):W (O PV×PV):=match l.getLast? with
 |some v=>.ret (l.dropLast,v)
 |none=>.fail
def NV{l:O PV}(h:l.getLast?=am v):l=l.dropLast++[v]:=by
 rw[List.getLast?_eq_some_iff]at h;obtain⟨ys,rfl⟩:=h;simp
theorem aB.snoc:∀{ws:O V}{l:O PV}{v:PV},aB K [] H ws (l++[v])->∃Y9 u,ws=Y9++[u]/\aB K [] H Y9 l/\VR K [] H u v
 |_,[],_,.cons r .nil=>⟨[],_,rfl,.nil,r⟩
 |_,x::l,v,.cons r t=>by
  obtain⟨Y9,u,rfl,h1,h2⟩:=aB.snoc t;exact⟨_::Y9,u,rfl,.cons r h1,h2⟩
def SF.HN(i j:Nat){k:O PV×PV->W T}(hs:fs[i]?=am (am (.ol q0 l)))(Yk:j≠i)(hK:X.K=K)(hN:X.N[i]?=am y)(hv:Ho X.env.scope y)(İ:X.N.Nodup)(hj:X.N[j]?=am z)(hx:Loc X.env.scope z)(hr:∀t:O PV×PV,SF X K x ((fs.set i (am (.ol q0 t.1))).set j (am (.val t.2))) rest (k t) out)(hd: ~~~(iQ y))(jO: ~~~(JP y))(cL:‹re (.Name y p) "pop" X.env (o0 (.Name y p) X.env)=o0 (.Name y p) X.env›)(cK:‹Nr À bb›)(qJ:‹ss (.Call (.Attribute (.Name y p) "pop" À) [] [] bb) (am (.Name z p')) pos.line X.env=pure false›)(hf:Q1 X z:=by first | exact .inl rfl | exact .inr rfl | assumption):SF X K x fs (.Assign [.Name z p'] (.Call (.Attribute (.Name y p) "pop" À) [] [] bb) pos::rest) (.bind (zm l) k) out:=
 SF.step (mq İ hj hx (Ss K hK BS DR DQ SV (fu hN hv hd jO) cL cK) qJ hf) λD σ H ⟨sr,q⟩=>by
  obtain⟨a,ws,e1,h1,r1⟩:=dq sr hs;have q:(zm l).run λt=>(k t).run λt=>bQ K x σ fs H D (out t):=q;unfold zm at q;cases hl:l.getLast? with
  |none=>rw[hl]at q;exact q.elim
  |some v=>
   rw[hl]at q;have el:=NV hl;rw[el]at r1;obtain⟨Y9,u,rfl,r0,ru⟩:=aB.snoc r1;refine⟨_,e1,.inl ⟨rfl,_,bH.of h1⟩,a,Y9,u,rfl,rfl,h1,λH2 sx h2=>?_⟩;obtain⟨s2,g2⟩:=nv sr hs e1 sx h2 r0;have ru2:VR K [] H2 u v:=g2.vr sr ru;have s3:=s2.jL ru2 j;exact⟨_,k _,hr (l.dropLast,v),s3,(k _).mono (λt q2=>q2.go (g2.trans (cB.jL s2 _ _ j)) sr s3) q⟩
def sA(l:O PV)(i v:PV):W (O PV):=match i with
 |.int k=>match uB l.length k with
  |some j=>.ret (l.set j v)
  |none=>.fail
 |_=>.fail
def SF.RS(i:Nat){ei:nw}{k:O PV->W T}(hs:fs[i]?=am (am (.ol q0 l)))(hN:X.N[i]?=am y)(hv:Ho X.env.scope y)(he:EF X K fs e we ax)(hi:EF X K ax ei wi fs2)(hr:∀l',SF X K x (fs2.set i (am (.ol q0 l'))) rest (k l') out)(ha:∀v,KM (.Subscript (.Name y p) ei HB) X.env v=(do
   let ov <- KB [v] (o0 (.Name y p) X.env)
   let iv <- KB [v,ov] (o0 ei X.env)
   standAt HB
   KB [v,ov,iv] (setItem ov iv v)
   release [v,ov,iv] []):=by intro _;rfl)(hd: ~~~(iQ y))(jO: ~~~(JP y))(hss:‹Fa [.Subscript (.Name y p) ei HB] e pos.line X.env=pure false›)(hw:‹Fk [.Subscript (.Name y p) ei HB] e X.env=pure ce›)(h1:‹(EQ [.Subscript (.Name y p) ei HB] X.env).map (·.2)=[KM (.Subscript (.Name y p) ei HB) X.env]›):SF X K x fs (.Assign [.Subscript (.Name y p) ei HB] e pos::rest) (.bind we λv=>.bind wi λn=>.bind (sA l n v) k) out:=
 SF.step (wX he.p (HP (fu hN hv hd jO) hi.p oS ha) hss hw h1) λD σ H ⟨sr,q⟩=>by
  refine⟨sr,we.mono (λv q1 u H1 g1 s1 v1=>?_) q⟩;obtain⟨a,ws,e1,h1,r1⟩:=dq s1 (g1.ev.same hs (by simp));refine⟨_,e1,s1,wi.mono (λn q2 u2 H2 g2 s2 v2=>?_) q1⟩;obtain⟨a',yM,rN,fV,yP⟩:=dq s2 ((g1.trans g2).ev.same hs (by simp));rw[e1]at rN;cases rN;cases v2 with
  |int kk=>
   have q2:(match uB l.length kk with|some j=>ca (l.set j v)|none=>W.fail).run _:=q2;cases hj:uB l.length kk with
   |none=>rw[hj]at q2;exact q2.elim
   |some j=>
    rw[hj]at q2;refine⟨a,yM,kk,j,rfl,rfl,fV,by rw[yP.length];exact hj,λH3 sx h3=>?_⟩;obtain⟨s3,g3⟩:=nv s2 ((g1.trans g2).ev.same hs (by simp)) e1 sx h3 (yP.set (g2.vr s1 v1) j);exact⟨_,k _,hr _,s3,(k _).mono (λt q3=>q3.go ((g1.trans g2).f.trans g3) sr s3) q2⟩
  |_=>exact q2.elim
end
end
section
variable[bL]
variable{K:Ab}
def gG(n:Nat):O AK->O PV->aL
 |[],_=>[]
 |.v::ks,x::l=>am (.val x)::gG n ks l
 |.v::_,[]=>[]
 |.p ψ d::ks,l=>am (.cG ψ n (n+d))::gG n ks l
 |.f a us ps fz::ks,l=>am (.adr a us ps fz)::gG n ks l
def uw(n:Nat)(ks:O AK)(l:O PV)(N:Nat):aL:=gG n ks l++Ao (N-ks.length) ce
def uA(ks:O AK):Prop:=∀i j:Nat,(∃ψ d,ks[i]?=am (.p ψ d))->(∃ψ d,ks[j]?=am (.p ψ d))->i=j
theorem qW:∀{n:Nat}{m:Hs R n}{l:O PV}{Q:R->Prop},(wG n m l).run Q->l.length=n
 |0,_,[],_,_=>rfl
 |0,_,_::_,_,h=>h.elim
 |n+1,_,[],_,h=>h.elim
 |n+1,m,x::l,Q,h=>by rw[Aw,qW (n:=n) h]
section
variable{l:O PV}
theorem iR.len(h:iR K H n vs ks l):vs.length=ks.length:=by induction h<;>simp_all
def iR.slot(h:iR K H n vs ks l):(gG n ks l).length=vs.length/\∀(i:Nat) (s:SL),(gG n ks l)[i]?=am (am s)->∃u,vs[i]?=am u/\qr K H u s/\(s.own=true->∃ψ d,s=.cG ψ n (n+d)/\ks[i]?=am (.p ψ d)):=by
 induction h with
 |nil=>exact⟨rfl,λi s e=>by simp[gG]at e⟩
 | @v u x vs ks l r t ih=>
  refine⟨by simp[gG,ih.1],λi s e=>?_⟩;cases i with
  |zero=>simp[gG]at e;subst e;exact⟨u,rfl,.inl ⟨x,rfl,r⟩,λz=>by cases z⟩
  |succ i=>simp[gG]at e;obtain⟨w,h1,h2,h3⟩:=ih.2 i s e;exact⟨w,by simpa using h1,h2,by simpa using h3⟩
 | @p a ψ d vs ks l e0 r t ih=>
  refine⟨by simp[gG,ih.1],λi s e=>?_⟩;cases i with
  |zero=>simp[gG]at e;subst e;exact⟨_,rfl,.inr ⟨a,rfl,e0,Bf _ _,r⟩,λ_=>⟨ψ,d,rfl,rfl⟩⟩
  |succ i=>simp[gG]at e;obtain⟨w,h1,h2,h3⟩:=ih.2 i s e;exact⟨w,by simpa using h1,h2,by simpa using h3⟩
 | @f a us vs ps fz ks l r z t ih=>
  refine⟨by simp[gG,ih.1],λi s e=>?_⟩;cases i with
  |zero=>simp[gG]at e;subst e;exact⟨_,rfl,.inr ⟨a,rfl,rfl,r,z⟩,λz=>by cases z⟩
  |succ i=>simp[gG]at e;obtain⟨w,h1,h2,h3⟩:=ih.2 i s e;exact⟨w,by simpa using h1,h2,by simpa using h3⟩
def iR.W9(h:iR K H n vs ks l)(e:ks[i]?=am (.p ψ d)):(gG n ks l)[i]?=am (am (.cG ψ n (n+d))):=by
 induction h generalizing i with
 |nil=>simp at e
 |v r t ih=>cases i with|zero=>simp at e|succ i=>simp[gG];exact ih (by simpa using e)
 |p e0 r t ih=>cases i with|zero=>simp at e;obtain⟨rfl,rfl⟩:=e;rfl|succ i=>simp[gG];exact ih (by simpa using e)
 |f r z t ih=>cases i with|zero=>simp at e|succ i=>simp[gG];exact ih (by simpa using e)
theorem oz{N:Nat}{s:SL}(h:(uw n ks l N)[i]?=am (am s)):(gG n ks l)[i]?=am (am s):=by
 unfold uw at h;by_cases c:i<(gG n ks l).length
 .rw[A1 c]at h;exact h
 .rw[Bc ∅,CM]at h
  split at h<;>cases h
def vz{N:O Str}(h:vs[i]?=am u):(L2.start N vs)[i]?=am (am u):=by
 unfold L2.start;rw[A1 (by rw[Ai];exact(Aj.mp h).1),Ag,h];rfl
def Lx{N:O Str}(h:(L2.start N vs)[i]?=am (am u)):vs[i]?=am u:=by
 unfold L2.start at h;by_cases c:i<vs.length
 .rw[A1 (by simpa using c),Ag]at h;cases z:vs[i]? with
  |none=>rw[z]at h;cases h
  |some q=>rw[z]at h;cases h;rfl
 .rw[Bc (by simpa using c),CM]at h
  split at h<;>cases h
def iR.beg(h:iR K H n vs ks l)(tb:TB H)(one:uA ks)(N:O Str):aU K H (L2.start N vs) (uw n ks l N.length):=by
 obtain⟨hl,hs⟩:=h.slot;refine⟨?_,λi s e=>?_,λi j s t x y a e1 e2 o1 o2 q1 q2 z1 z2=>?_,tb⟩
 .unfold L2.start uw;rw[Al,Al,Ai,hl,B3,B3,h.len]
 .obtain⟨u,h1,h2,_⟩:=hs i s (oz e);exact⟨u,vz h1,h2⟩
 .obtain⟨_,_,_,h3⟩:=hs i s (oz e1);obtain⟨_,_,_,h4⟩:=hs j t (oz e2);obtain⟨φ,d,_,k1⟩:=h3 o1;obtain⟨ψ,d',_,k2⟩:=h4 o2;exact one i j ⟨φ,d,k1⟩ ⟨ψ,d',k2⟩
def iR.go(h:iR K H n vs ks l){N:O Str}(g:cB (L2.start N vs) (uw n ks l N.length) H σ' aH H')(s':aU K H' σ' aH):V7 n vs ks H H':=by
 obtain⟨hl,hs⟩:=h.slot;refine⟨λa o e q=>(g.keep a o e λz=>?_).1,s'.tb,g.there,λa ψ d p=>?_,g.x⟩
 .obtain⟨i,s,x,e1,e2,e3,e4⟩:=z;obtain⟨u,h1,h2,h3⟩:=hs i s (oz e1);obtain⟨ψ,d,rfl,k⟩:=h3 e2;rcases e4 with rfl|e4
  .exact q ψ d ⟨i,k,Lx e3⟩
  .cases e4
 .obtain⟨i,e1,e2⟩:=p;have e3:=h.W9 e1;have e4:(uw n ks l N.length)[i]?=am (am (.cG ψ n (n+d))):=by unfold uw;rw[A1 ((Aj.mp e3).1)];exact e3
  rcases g.pk a ψ (n+d) ⟨i,n,e4,vz e2⟩ with p|⟨_,k⟩
  .exact s'.free p
  .exact k
end
section
variable{st:v4}{f:db}{N:O Str}
def fnV{m:Hs PV n}(Fn:UJ K x qual st f fd)(S:fc N ps (aM st))(TL:ks.length=ps.length)(one:uA ks)(Í:∀(j:Nat) (l:O PV),l.length=n->∀(fq:ci) (A:Da) (outer:O Env) (s:cr) (H:Hp) (E:XK),dz k (A.deeper (GM qual (aM st) s.heap.objs.size f fq))->SF (vf Hk P w K mg base N qual (aM st) f fq A outer s H E).Va K false (uw j ks l N.length) (cz st) (wG n m l) .rt):lM P w K mg base Hk (k+1) f fd ps (NR K ks (wG n m)):=by
 refine Fn.ok S (λvs H Q E h=>?_) (λfq A outer s H vs Q E hr h=>?_)
 .obtain⟨_,_,l,h,_⟩:=h;rw[h.len];exact TL
 obtain⟨tb,j,l,h,q⟩:=h;refine⟨_,(Í j l (qW q) fq A outer s H E hr).p,h.beg tb one N,(wG n m l).mono (λv q1 u σ' aH H' g s' r=>q1 u H' (h.go g s') r) q⟩
def fnL{m:Hs (O PV) n}(Fn:UJ K x qual st f fd)(S:fc N ps (aM st))(TL:ks.length=ps.length)(one:uA ks)(Í:∀(j:Nat) (l:O PV),l.length=n->∀(fq:ci) (A:Da) (outer:O Env) (s:cr) (H:Hp) (E:XK),dz k (A.deeper (GM qual (aM st) s.heap.objs.size f fq))->SF (vf Hk P w K mg base N qual (aM st) f fq A outer s H E).Va K false (uw j ks l N.length) (cz st) (wG n m l) .rl):lM P w K mg base Hk (k+1) f fd ps (zb K ks (wG n m)):=by
 refine Fn.ok S (λvs H Q E h=>?_) (λfq A outer s H vs Q E hr h=>?_)
 .obtain⟨_,_,l,h,_⟩:=h;rw[h.len];exact TL
 obtain⟨tb,j,l,h,q⟩:=h;refine⟨_,(Í j l (qW q) fq A outer s H E hr).p,(h.beg tb one N),(wG n m l).mono (λz q1 a ws σ' aH H' g s' fr e r=>q1 a ws H' (h.go g s') ?_ e r) q⟩;rcases fr with fr|⟨i,t,x,e1,e2,np,e3,e4⟩
 .exact fr
 .obtain⟨_,_,_,h3⟩:=h.slot.2 i t (oz e1);obtain⟨ψ,d,e,_⟩:=h3 e2;exact absurd e (np _ _ _)
end
def Kq:uA []:=λi j ⟨_,_,h⟩=>by simp at h
def U8{k:AK}(h:uA ks)(hk:∀ψ d,k≠.p ψ d):uA (k::ks):=λi j ⟨φ,d,a⟩ ⟨ψ,d',b⟩=>by
 cases i with
 |zero=>simp at a;exact absurd a (hk _ _)
 |succ i=>
  cases j with
  |zero=>simp at b;exact absurd b (hk _ _)
  |succ j=>rw[h i j ⟨φ,d,by simpa using a⟩ ⟨ψ,d',by simpa using b⟩]
def U7(h:uA ks):uA (.v::ks):=U8 h (by simp)
def aaV{fa:db}{us:O V}{qs:O PV}(h:uA ks):uA (.f fa us qs fz::ks):=U8 h (by simp)
end
end FL
namespace L2
def aaD(K:Ab):R2:=λx y H Q=>∃a b xs zs,x=.ref a/\y=.ref b/\bH K H a xs/\bH K H b zs/\xs.length+zs.length<=sizeLine/\jM H (.lst (xs++zs)) Q
theorem SD(K:Ab)(hK:X.K=K):ip X (u8 .Add) (aaD K):=by
 subst hK;intro U s σ H x y v u Q I rx ry h;obtain⟨l,b,xs,zs,rfl,rfl,hH,hB,hz,q⟩:=h;cases rx;cases ry;obtain⟨aq,r,⟨⟨cls,dd,data,sl⟩,n,ho,hc,hd,mG⟩,_⟩:=I.list hH;obtain⟨cT,r2,⟨⟨YU,Us,data2,Q9⟩,n2,Mj,VL,Ó,abJ⟩,_⟩:=I.list hB;subst hc hd mG VL Ó abJ;have e:aq.toArray++cT.toArray=(aq++cT).toArray:=by simp
 have hl:=r.length;have VD:=r2.length;refine concat_meets ⟨_,ho,rfl⟩ ⟨_,Mj,rfl⟩ noFill_list_add seq_list_add PySem.F.slot_list_add PySem.F.entry_list_add (PySem.F.args_list_add_2 _ _) (list_addW l b aq.toArray cT.toArray n n2 ce ce sl Q9 (by simp;lia)) ⟨ho,Mj,?_⟩;rw[e];exact⟨.ref _,_,I.XB (r.append r2) (by rw[Al];lia),rfl,q.at _ I.fresh⟩
end L2
variable{o:BC}{hi:FL.W (Option Int)}{neg:Bool}
namespace FL
section
variable[bL]
variable{K:Ab}
section
variable{a c:nw}{p2:Pos}{w:W PV}{wm:W (O PV)}
def om(l m:O PV):W (O PV):=.d8 (l.length+m.length<=sizeLine) (.ret (l++m))
def fQL(K:Ab)(fs:aL)(w:W (O PV))(aH:aL:=fs):TE:=λσ H Q=>aU K H σ fs/\w.run λl=>∀u H',ck σ fs H H' aH->aU K H' σ aH->UG K σ aH H' u l->(∀f2 Ď,ck σ aH H' Ď f2->aU K Ď σ f2->∃a vs,u=.ref a/\bH K Ď a vs/\aB K [] Ď vs l)->Q u H'
structure Hq(X:Cx)(K:Ab)(fs:aL)(e:nw)(w:W (List PV))(aH:aL:=fs):Prop where p:PE X e (fQL K fs w aH)
def cy(h:LF X K fs e wl ax):Hq X K fs e wl ax:=⟨PE.imp h.p λσ H Q ⟨sr,q⟩=>⟨sr,wl.mono (λl q1 a vs H1 g1 s1 n e v=>q1 _ H1 g1 s1 (.inr ⟨a,rfl,.inl ⟨λz=>sr.noOwn n (g1.ev.eK z),vs,e,v⟩⟩) λ_ H2 g2 s2=>⟨a,vs,rfl,bH.of (g2.tH e λz=>sr.noOwn n (g1.ev.eK z)),g2.JS s1 v⟩) q⟩⟩
def wV(i:Nat){l:O PV}(hs:‹fs[i]?=am (am (.ol q0 l))›)(hN:‹X.N[i]?=am x›)(hv:Ho X.env.scope x:=by first|exact Cg rfl|exact Co (Cg rfl)|exact Co (Co rfl))(hd: ~~~(iQ x))(jO: ~~~(JP x)):Hq X K fs (.Name x pos) (.ret l):=
 ⟨PE.imp (fu hN hv hd jO) λσ H Q ⟨sr,q⟩=>by
  obtain⟨a,ws,e1,h1,r1⟩:=dq sr hs;refine⟨_,e1,q _ H .refl sr (.inr ⟨a,rfl,.inr ⟨i,q0,hs,e1⟩⟩) λ_ H2 g2 s2=>?_⟩;obtain⟨a',yM,rN,fV,yP⟩:=dq s2 (g2.ev.same hs (by simp));rw[e1]at rN;cases rN;exact⟨a,yM,rfl,bH.of fV,yP⟩⟩
def qB:PV->W (O PV)
 |.cl l=>.ret l
 |_=>.fail
def gX(h:EF X K fs e w ax):Hq X K fs e (.bind w qB) ax:=⟨PE.imp h.p λσ H Q ⟨sr,q⟩=>⟨sr,w.mono (λx q1 u1 H1 g1 s1 v1=>by
 cases v1 with
 |cl e r=>exact q1 _ H1 g1 s1 (.inl ⟨_,_,rfl,.inl e,r⟩) λ_ H2 g2 s2=>⟨_,_,rfl,((g2.cD s1).f _ _ e).sq,g2.JS s1 r⟩
 |_=>exact q1.elim) q⟩⟩
def lY(hK:X.K=K)(ha:Hq X K fs a wl ax)(hb:Hq X K ax b wm fs2):LF X K fs (.BinOp a .Add b pos) (.bind wl λl=>.bind wm λm=>om l m) fs2:=⟨PE.imp (cV (SD K hK) ha.p hb.p) λσ H Q ⟨sr,q⟩=>⟨sr,wl.mono (λl q1 u1 H1 g1 s1 _ v1=>⟨s1,wm.mono (λm q2 u2 H2 g2 s2 _ v2=>by
 obtain⟨a,vs,rfl,h1,r1⟩:=v1 _ H2 g2 s2;obtain⟨b,ws,rfl,h2,r2⟩:=v2 _ H2 .refl s2;refine⟨a,b,vs,ws,rfl,rfl,h1,h2,by rw[r1.length,r2.length];exact q2.1,λp H3 s3 h3 n3=>?_⟩;have gg:=g1.trans g2;exact q2.2 p _ H3 (gg.trans (ck.same s3)) (s2.same s3) (gg.there p n3) h3 (aB.tk s3.eE (r1.append r2))) q1⟩) q⟩⟩
def vI{Q:VK}{l:O PV}(g1:ck σ fs H H1 ax)(s1:aU K H1 σ ax)(r:aB K [] H1 vs l)(q:∀a vs H',ck σ fs H H' ax->aU K H' σ ax->H a=ce->H' a=am (.lst vs)->aB K [] H' vs l->Q (.ref a) H'):jM H1 (.lst vs) Q:=λp H2 s2 h2 n2=>q p vs H2 (g1.trans (ck.same s2)) (s1.same s2) (g1.there p n2) h2 (aB.tk s2.eE r)
def O3(K:Ab):CL K (Oe K) .ret:=λ{fs σ H Q u l} s v q=>by
 obtain⟨a,vs,rfl,h,rs⟩:=v.sq s;exact⟨a,vs,rfl,h,vI .refl s rs q⟩
def O7(hK:X.K=K)(hg:Gl X "list")(hm:X.mg "list"=ce)(ha:QF X K fs e wl ax)(he:‹gE X e []›)(dG:‹kH X pos []›):LF X K fs (.Call (.Name "list" p) [e] [] pos) wl ax:=O8 (JA K hK) (O3 K) hg hm boot_list ha ⋯ ⋯ he dG
def dh(hK:X.K=K)(hg:Gl X "tuple")(hm:X.mg "tuple"=ce)(ha:QF X K fs e wl ax)(he:‹gE X e []›)(dG:‹kH X pos []›):EF X K fs (.Call (.Name "tuple" p) [e] [] pos) (.bind wl lq) ax:=Mz (MU K hK) (Rz K) hg hm boot_tuple ha ⋯ ⋯ he dG
def pI(hK:X.K=K)(hg:Gl X "len")(hm:X.mg "len"=ce)(ha:QF X K fs e wl ax)(he:‹gE X e []›)(dG:‹kH X pos []›):EF X K fs (.Call (.Name "len" p) [e] [] pos) (.bind wl xw) ax:=Qx (wu K hK) (S5 K) hg hm boot_len ha ⋯ ⋯ he dG
def V3(ha:EF X K fs e w ax)(he:gt [e] X.env=(false,o0 e X.env)::gt [] X.env):AF X K fs [e] (Ao 1 .v) (R:=R) (λk=>.bind w λx=>k [x]) ax:=ag ha ai he
def c8(hK:X.K=K)(hg:Gl X "len")(hm:X.mg "len"=ce)(ha:EF X K fs e w ax)(he:‹gE X e []›)(dG:‹kH X pos []›):EF X K fs (.Call (.Name "len" p) [e] [] pos) (.bind w λx=>Kt d6 [x]) ax:=Uh (wu K hK) (Uz K) hg hm boot_len (V3 ha he) ⋯ ⋯ he dG
def Ua(hg:Gl X "int")(hm:X.mg "int"=ce)(ha:EF X K fs e w ax)(he:‹gE X e []›)(dG:‹kH X pos []›):EF X K fs (.Call (.Name "int" p) [e] [] pos) (.bind w λx=>Kt M4 [x]) ax:=Qw MY UA hg hm boot_int (V3 ha he) ⋯ ⋯ he dG
def aa8(hK:X.K=K)(hc:X.calm=true)(ī:Gl X "list")(ħ:X.mg "list"=ce)(Ī:Gl X "reversed")(Zq:X.mg "reversed"=ce)(he:Hq X K fs e wl ax)(oC:‹gt [.Call (.Name "reversed" p3) [e] [] p4] X.env=(false,o0 (.Call (.Name "reversed" p3) [e] [] p4) X.env)::gt [] X.env›)(uC:‹gE X e []›):LF X K fs (.Call (.Name "list" p1) [.Call (.Name "reversed" p3) [e] [] p4] [] p2) (.bind wl λl=>.ret l.reverse) ax:=⟨PE.imp (HQ K hK hc ī ħ Ī Zq he.p oC uC) λσ H Q ⟨sr,q⟩=>⟨sr,wl.mono (λl q1 u1 H1 g1 s1 _ v1=>by
 obtain⟨a,vs,rfl,h1,r1⟩:=v1 _ H1 .refl s1;exact⟨a,vs,rfl,h1,vI g1 s1 r1.reverse q1⟩) q⟩⟩
def jo(k:Kd)(x:PV):W PV:=match x with
 |.ref _=>.fail
 |.ty _=>.fail
 |.ob _ _=>.fail
 |.hand=>.fail
 |x=>.ret (.bl (k.is x))
def U4(K:Ab):O V->Hp->VK->Prop:=λxs H Q=>∃x c t b,xs=[x,.ty c]/\(lL K H x t\/(t=.type "tuple"/\∃a vs,x=.ref a/\dF K H a vs)\/(t=.type "list"/\∃a vs,x=.ref a/\bH K H a vs)\/(t=.type "dict"/\∃a,x=.ref a/\IsD H a))/\Bz K t (.type c)=am b/\Q (.bl b) H
def MW(hK:X.K=K):cb X (.builtin "isinstance") (U4 K):=by
 subst hK;intro U s σ H xs us Q I r h;obtain⟨x,c,t,b,rfl,ty|ty|⟨rfl,a,vs,rfl,hL⟩|⟨rfl,a,rfl,hD⟩,e,q⟩:=h
 .exact qo U s σ H _ us Q I r ⟨x,c,t,b,rfl,ty,e,q⟩
 .exact MV X.K rfl U s σ H _ us Q I r ⟨x,c,t,b,rfl,.inr ty,e,q⟩
 .obtain⟨u,w,rfl,r1,r2⟩:=vals2 r;cases r1;cases r2;obtain⟨aq,_,⟨o,n,h1,h2,_⟩,_⟩:=I.list hL;exact Be EL I.vU ⟨o,h1,h2⟩ e (λz=>nomatch z) λtk=>⟨.bl b,H,I.tok _,rfl,q⟩
 .obtain⟨u,w,rfl,r1,r2⟩:=vals2 r;cases r1;cases r2;have:∃o,s.heap.get? a=am o/\o.cls=.type "dict":=by
   rcases hD with⟨ay,e⟩|⟨ay,e⟩
   .obtain⟨_,_,vs,_,o,_,_,h1,h2,_⟩:=GY I.bg e;exact⟨o,h1,h2.1⟩
   .obtain⟨_,_,xs,_,o,_,_,h1,h2,_⟩:=GV I.bg e;exact⟨o,h1,h2.1⟩
  obtain⟨o,h1,h2⟩:=this;exact Be EM I.vU ⟨o,h1,h2⟩ e (λz=>nomatch z) λtk=>⟨.bl b,H,I.tok _,rfl,q⟩
def ku(hK:X.K=K)(k:Kd)(hg:Gl X "isinstance")(hm:X.mg "isinstance"=ce)(ha:EF X K fs a wa ax)(hgx:Gl X x)(hmx:X.mg x=ce)(hv:sn x=am (.type k.name))(hn: ~~~(x≠"__name__"))(hd: ~~~(iQ x))(he:‹gt [a,.Name x p2] X.env=(false,o0 a X.env)::gt [.Name x p2] X.env›)(î:‹gt [Expr.Name x p2] X.env=(false,o0 (.Name x p2) X.env)::gt [] X.env›)(dG:‹(t0 pos (gt [Expr.Name x p2] X.env)).any (·.1)=false›):EF X K fs (.Call (.Name "isinstance" p) [a,.Name x p2] [] pos) (.bind wa (jo k)) ax:=
 ⟨PE.imp (fg (MW hK) hg hm boot_isinstance (aQ ha.p (aQ (Su (v:=.ty k.name) hgx hmx hv rfl hn hd) bq î) he) ⋯ ⋯ he dG) λσ H Q ⟨sr,q⟩=>⟨sr,wa.mono (λx q1 u1 H1 g1 s1 v1=>by
  have fin:∀{t:ci}{y:PV},lL K H1 u1 t->Bz K t (.type k.name)=am (k.is y)->Q (.bl (k.is y)) H1->U4 K [u1,.ty k.name] H1 Q:=λty e q=>⟨_,_,_,_,rfl,.inl ty,e,q⟩;cases v1 with
  |aF=>exact fin .aF (by rw[(rE K).1 k];cases k<;>rfl) (q1 _ H1 g1 s1 (.bl _))
  |bl b=>exact fin (.bl b) (XN K b k) (q1 _ H1 g1 s1 (.bl _))
  |int b=>exact fin (.int b) (Tf K b k) (q1 _ H1 g1 s1 (.bl _))
  |str b=>exact fin (.str b) (Te K b k) (q1 _ H1 g1 s1 (.bl _))
  |ty n=>exact q1.elim
  |ref n=>exact q1.elim
  |ob _ _ _ _ _=>exact q1.elim
  |hand _=>exact q1.elim
  | @dk a o ay ks l e k1 r=>exact⟨_,_,_,_,rfl,.inr (.inr (.inr ⟨rfl,_,rfl,.inl ⟨_,.inr ⟨_,e⟩⟩⟩)),(show _=am (k.is (.dv ks l)) by rw[(rE K).2.2 k];cases k<;>rfl),q1 _ H1 g1 s1 (.bl _)⟩
  | @dt a o ay ks l e k1 r=>exact⟨_,_,_,_,rfl,.inr (.inr (.inr ⟨rfl,_,rfl,.inr ⟨_,.inr ⟨_,e⟩⟩⟩)),(show _=am (k.is (.dv ks l)) by rw[(rE K).2.2 k];cases k<;>rfl),q1 _ H1 g1 s1 (.bl _)⟩
  | @cl p vs l e r=>exact⟨_,_,_,_,rfl,.inr (.inr (.inl ⟨rfl,_,_,rfl,e.sq⟩)),(show _=am (k.is (.cl l)) by rw[(rE K).2.1 k];cases k<;>rfl),q1 _ H1 g1 s1 (.bl _)⟩
  | @tup p vs l e r=>exact⟨_,_,_,_,rfl,.inr (.inl ⟨rfl,_,_,rfl,dF.of e⟩),Td K _ k,q1 _ H1 g1 s1 (.bl _)⟩) q⟩⟩
def R3(l:O PV):PV->W (O PV)
 |.int k=>.d8 (-(2 ^ 63)<=k/\k<2 ^ 63/\l.length*k.toNat<=sizeLine) (.ret (Ao k.toNat l).flatten)
 |_=>.fail
def aa9(ha:LF X K fs a wl ax)(hb:EF X K ax b wb fs2):LF X K fs (.BinOp a .Mult b pos) (.bind wl λl=>.bind wb λy=>R3 l y) fs2:=⟨PE.imp (cV Xi ha.p hb.p) λσ H Q ⟨sr,q⟩=>⟨sr,wl.mono (λl q1 a vs H1 g1 s1 n e v=>⟨s1,wb.mono (λy q2 u2 H2 g2 s2 v2=>by
 cases v2 with
 |int k=>
  have r2:=g2.JS s1 v;refine⟨a,k,vs,rfl,rfl,((g2.tH e (λz=>sr.noOwn n (g1.ev.eK z)))),q2.1.1,q2.1.2.1,by rw[r2.length];exact q2.1.2.2,λp hp=>?_⟩;have sm:=iz hp (.lst (Ao k.toNat vs).flatten);have gg:=g1.trans g2;exact q2.2 p _ _ (gg.trans (ck.same sm)) (s2.same sm) (gg.there p hp) aG (aB.tk sm.eE (r2.rep k.toNat))
 |_=>exact q2.elim) q1⟩) q⟩⟩
def part:PV->W (Option Int)
 |.int i=>.ret (am i)
 |_=>.fail
def sM:OF X K fs ce (.ret ce):=⟨PO.imp Sj λσ H Q ⟨sr,q⟩=>q H .refl sr⟩
def xh(h:EF X K fs e w ax):OF X K fs (am e) (.bind w part) ax:=⟨PO.imp (Sg h.p) λσ H Q ⟨sr,q⟩=>⟨sr,w.mono (λx q1 u1 H1 g1 s1 v1=>by
 cases v1 with
 |int i=>exact⟨_,rfl,q1 H1 g1 s1⟩
 |_=>exact q1.elim) q⟩⟩
variable{el eh:Option nw}{lo:W (Option Int)}
def XE(hK:X.K=K)(he:Hq X K fs e wl ax)(hl:OF X K ax el lo fs2)(hh:OF X K fs2 eh hi fs3):LF X K fs (.Subscript e (.Slice el eh ce p2) pos) (.bind wl λl=>.bind lo λi=>.bind hi λj=>.ret (uh l i j)) fs3:=⟨PE.imp (OC (NW K hK) he.p hl.p hh.p) λσ H Q ⟨sr,q⟩=>⟨sr,wl.mono (λl q1 u1 H1 g1 s1 _ v1=>⟨s1,lo.mono (λi q2 H2 g2 s2=>⟨s2,hi.mono (λj q3 H3 g3 s3=>by
 obtain⟨a,vs,rfl,h1,r1⟩:=v1 _ H3 (g2.trans g3) s3;exact⟨a,vs,rfl,h1,vI ((g1.trans g2).trans g3) s3 (r1.cut i j) q3⟩) q2⟩) q1⟩) q⟩⟩
def ql(h:Hq X K fs e wl ax):∀σ H Q,fE K fs (.bind wl λl=>.ret (.bl (if neg then !l.isEmpty else l.isEmpty))) ax σ H Q->UR (λx y H Q=>∃p q xs,x=.ref p/\y=.ref q/\bH K H p xs/\bH K H q []/\Q (.bl (if neg then !xs.isEmpty else xs.isEmpty)) H) (fQL K fs wl ax) (fL K ax (.ret [])) σ H Q:=λσ H Q ⟨sr,q⟩=>
 ⟨sr,wl.mono (λl q1 u1 H1 g1 s1 _ v1=>⟨s1,λa2 vs2 H2 g2 s2 n2 e2 r2=>by
  cases r2;obtain⟨a,vs,rfl,h1,r1⟩:=v1 _ H2 g2 s2;refine⟨a,a2,vs,rfl,rfl,h1,bH.of e2,?_⟩;rw[Qk r1];exact q1 _ H2 (g1.trans g2) s2 (.bl _)⟩) q⟩
def Vl:LF X K fs (.List [] pos) (.ret []):=Vn (n:=0) ai
theorem ahD(hK:X.K=K)(hu:X.A.units+200<sK)(h:Hq X K fs e wl ax)(hk:‹ul .Eq (.List [] p2)=false›):EF X K fs (.Compare e [.Eq] [.List [] p2] pos) (.bind wl λl=>.ret (.bl l.isEmpty)) ax:=⟨PE.imp (Kk (HU K hK ∅) h.p Vl.p hk) (ql (neg:=false) h)⟩
theorem ZY(hK:X.K=K)(hu:X.A.units+200<sK)(h:Hq X K fs e wl ax)(hk:‹ul .NotEq (.List [] p2)=false›):TF X K fs (.Compare e [.NotEq] [.List [] p2] pos) (.bind wl λl=>.ret (!l.isEmpty)) ax:=⟨PT.imp (gH (my K hK ∅) h.p Vl.p hk) λσ H Q q=>ql (neg:=true) h σ H _ (ab9 σ H Q q)⟩
def qf:O PV->W (O Int)
 |[]=>.ret []
 |.int i::r=>.bind (qf r) λl=>.ret (i::l)
 |_=>.fail
theorem kW:∀{l:O PV}{Q:O Int->Prop},(qf l).run Q->∃ns:O Int,l=ns.map PV.int/\Q ns
 |[],Q,h=>⟨[],rfl,h⟩
 |.int b::r,Q,h=>by
  obtain⟨bs,e,q⟩:=kW (l:=r) h;exact⟨b::bs,by rw[e];rfl,q⟩
 |.aF::r,Q,h=>h.elim
 |.bl _::r,Q,h=>h.elim
 |.str _::r,Q,h=>h.elim
 |.tup _::r,Q,h=>h.elim
 |.ref _::r,Q,h=>h.elim
 |.ty _::r,Q,h=>h.elim
 |.cl _::r,Q,h=>h.elim
@[simp] theorem iE:∀bs:O Int,qf (bs.map PV.int)=.ret bs
 |[]=>rfl
 |b::bs=>by
  show bn (qf (bs.map PV.int)) _=_;rw[iE bs];rfl
end
end
end FL
variable{f1:FL.aL}{Rb:Ck}{kt k2:Nat}
namespace FL
section
variable[bL]
variable{K:Ab}
abbrev b2(m:M2)(wa wb:W PV):W PV:=.bind wa λx=>.bind wb λy=>of2 m x y
abbrev t2(m:M2)(wa wb:W PV):W Bool:=.bind wa λx=>.bind wb λy=>.bind (of2 m x y) asB
abbrev c1(m:Lj)(w:W PV):W PV:=.bind w λx=>Kt m [x]
abbrev bR(wl:W (O PV))(wb:W PV):W PV:=.bind wl λl=>.bind wb λy=>XZ l y
abbrev Lu(a b:W Bool):W Bool:=.bind a λk=>if k=true then b else .ret false
abbrev Wn(a b:W Bool):W Bool:=.bind a λk=>if k=true then .ret true else b
abbrev Wq(a:W Bool):W Bool:=.bind a λk=>.ret (!k)
abbrev eB{α:Type}(t:W Bool)(a b:W α):W α:=.bind t λk=>if k=true then a else b
section
variable{a c:nw}{rest:O v4}{f2:aL}{S T T2:Type}{hd:S->aL}{s0:S}{w:W PV}{wt:PV->W T2}{fs2:S->T2->aL}{k:S->W T}{out:T->End}{x:Bool}
def SF.u7{f:PV->S->W S}(hp:ww (gl X.prog X.w) X.A X.env X.xe)(hc:X.calm=true)(hi:mW X K fs tg iter wl f1)(hl:cY f1 (hd s0))(hg:PG X tg (eG i))(hb:∀s p,SF X K false ((hd s).set i (am (.val p))) body (f p s) λs'=>.nc (hd s'))(hr:∀s,SF X K x (hd s) rest (k s) out)(hs:pV X iter:=by intro _;rfl):SF X K x fs (.For tg iter body [] pos::rest) (.bind wl λl=>.bind (cC l s0 f) k) out:=SF.for hp hc hi hl (λs=>TV hg) (λ_ _=>rfl) hb hr hs
def SF.Mt{wb:T2->S->W S}(hp:ww (gl X.prog X.w) X.A X.env X.xe)(hc:X.calm=true)(hi:mW X K fs tg iter wl f1)(hl:cY f1 (hd s0))(hg:∀s,GF X K (hd s) tg is wt (fs2 s))(hb:∀s t,SF X K false (fs2 s t) body (wb t s) λs'=>.nc (hd s'))(hr:∀s,SF X K x (hd s) rest (k s) out)(hs:pV X iter:=by intro _;rfl):SF X K x fs (.For tg iter body [] pos::rest) (.bind wl λl=>.bind (cC l s0 λp s=>.bind (wt p) λt=>wb t s) k) out:=SF.for hp hc hi hl hg (λ_ _=>rfl) hb hr hs
def SF.VP{inj:R->T}{f:PV->S->W (Lp S R)}(hp:ww (gl X.prog X.w) X.A X.env X.xe)(hc:X.calm=true)(hi:mW X K fs tg iter wl f1)(hl:cY f1 (hd s0))(hg:PG X tg (eG i))(ho:∀t,(out (inj t)).zV)(hb:∀s p,SF X K false ((hd s).set i (am (.val p))) body (f p s) (lpE hd λr=>out (inj r)))(hr:∀s,SF X K x (hd s) rest (k s) out)(hs:pV X iter:=by intro _;rfl):SF X K x fs (.For tg iter body [] pos::rest) (.bind wl λl=>.bind (FL.ko l s0 f) (KU k inj)) out:=SF.ko hp hc hi hl (λs=>TV hg) (λ_ _=>rfl) ho hb hr hs
def SF.WC{fs3:T2->aL}{k:T2->W T}(he:EF X K fs e we f1)(hg:GF X K f1 tg is wt fs3)(hr:∀t,SF X K x (fs3 t) rest (k t) out)(hs:‹Fa [tg] e pos.line X.env=pure false›)(hw:‹Fk [tg] e X.env=pure ce›)(h1:‹(EQ [tg] X.env).map (·.2)=[KM tg X.env]›):SF X K x fs (.Assign [tg] e pos::rest) (.bind we λv=>.bind (wt v) k) out:=SF.step (wX he.p hg.p hs hw h1) λD σ H ⟨sr,q⟩=>
 ⟨sr,we.mono (λv q1 u H1 g1 s1 v1=>⟨v,s1,v1,(wt v).mono (λt q2 us g2 s2=>⟨_,k t,hr t,s2,(k t).mono (λt' q3=>q3.go (g1.f.trans g2) sr s2) q2⟩) q1⟩) q⟩
def SF.par{k:PV->PV->W T}(hc:X.calm=true)(hN:X.N.Nodup)(hi:X.N[i]?=am y)(hj:X.N[j]?=am z)(Yk:i≠j)(hx:X.env.scope.names.lookup y=am .local)(hy:X.env.scope.names.lookup z=am .local)(ha:EF X K fs a wa f1)(hb:EF X K f1 b wb f2)(hr:∀u v,SF X K x ((f2.set i (am (.val u))).set j (am (.val v))) rest (k u v) out)(hw:‹Fk [.Tuple [.Name y px,.Name z py] kt pt] (.Tuple [a,b] k2 Rb) X.env=pure (am [y,z])›)(hs:‹Fa [.Tuple [.Name y px,.Name z py] kt pt] (.Tuple [a,b] k2 Rb) pos.line X.env=pure false›)(he:‹gt [a,b] X.env=(false,o0 a X.env)::gt [b] X.env›)(î:‹gE X b []›):SF X K x fs (.Assign [.Tuple [.Name y px,.Name z py] kt pt] (.Tuple [a,b] k2 Rb) pos::rest) (.bind wa λu=>.bind wb λv=>k u v) out:=
 SF.step (Oq hc hN hi hj Yk hx hy (aQ ha.p (aQ hb.p bq î) he) hw hs) λD σ H ⟨sr,q⟩=>⟨sr,wa.mono (λu q1 u1 H1 g1 s1 v1=>⟨s1,wb.mono (λv q2 u2 H2 g2 s2 v2=>by
  have s3:=s2.jL (g2.vr s1 v1) i;have s4:=s3.jL v2 j;exact⟨_,_,rfl,_,k u v,hr u v,s4,(k u v).mono (λt q3=>q3.go (((g1.trans g2).f.trans (cB.jL s2 _ _ i)).trans (cB.jL s3 _ _ j)) sr s4) q2⟩) q1⟩) q⟩
def bor{s:cr}(I:Inv X U σ H s)(sr:aU K H σ fs)(hs:fs[i]?=am (am t))(hb:t.bw=true):∃a o ob,Inv X U σ (upd H a (.cg ob o)) s/\aU K (upd H a (.cg ob o)) σ (fs.set i (am (.val t.bv)))/\ ∀σ' s' H1 f1,Inv X U σ' H1 s'->ck σ (fs.set i (am (.val t.bv))) (upd H a (.cg ob o)) H1 f1->aU K H1 σ f1->Inv X U σ' (upd H1 a o) s'/\ck σ fs H (upd H1 a o) (f1.set i (am t))/\aU K (upd H1 a o) σ (f1.set i (am t))/\(∀p vs,H1 p=am (.tup vs)->upd H1 a o p=am (.tup vs))/\∀p vs,p≠a->H1 p=am (.lst vs)->upd H1 a o p=am (.lst vs):=by
 have ho:=SL.QL hb;obtain⟨u,e1,⟨v,e,_⟩|⟨a,e,oa⟩⟩:=sr.at' i _ hs
 .subst e;cases hb
 subst e;obtain⟨ob,o,h1,n1,n2,I2,vr⟩:=abX I oa hb;have h0:∀o u,X.H₀ a≠am (.cg o u):=λo u z=>by
  have:=I.base.tT a o u z;rw[h1]at this;exact n2 _ _ (Option.some.inj this)
 refine⟨a,o,ob,I2,sr.abW hs ho e1 h1 n1 n2 vr,λσ' s' H1 f1 J g s1=>?_⟩;have pf:∀ψ m b,gF σ (fs.set i (am (.val t.bv))) ψ m b->gF σ fs ψ m b:=λψ m b ⟨j,k,z1,z3⟩=>by
  rcases cm z1 with⟨_,z⟩|⟨n,z1⟩
  .cases z
  .exact⟨j,k,z1,z3⟩
 have npa:∀ψ m,¬gF σ fs ψ m a:=λψ m ⟨j,k,z1,z3⟩=>by
  have:=sr.nd j i _ _ a a a z1 hs rfl ho z3 e1 (.inl rfl) (.inl rfl);subst this;rw[hs]at z1;cases z1;cases hb
 have e2:=g.keep a _ aG λψ m p=>npa ψ m (pf ψ m a p);have hk:=PB J.bg e2;have ow:o.ow=true:=by
  obtain⟨o',z1,_,_,z2⟩:=oa.ex ho (.inl rfl);rw[h1]at z1;cases z1;exact z2
 have hi:i<fs.length:=(Aj.mp hs).1;have Yl:i<f1.length:=by rw[<- g.ev.len,BH];exact hi
 have ev:Ev fs (f1.set i (am t)):=⟨by rw[BH,<- g.ev.len,BH],λj=>by
  by_cases c:j=i
  .subst c;exact .inl (by rw[hs,aY Yl])
  .have:=g.ev.at' j;rw[aw c]at this;rw[aw c];exact this⟩
 have xx:∀b,c9 H1 b->c9 (upd H1 a o) b:=λb z=>by
  have z':H1 b=_:=z;show upd H1 a o b=_;rw[ak (λy=>by subst y;rw[e2]at z';cases z')];exact z'
 have ge:ck σ fs H (upd H1 a o) (f1.set i (am t)):=by
  refine⟨λb o z n nt=>?_,λb z=>?_,ev,λb z=>xx b (g.x b ?_)⟩
  .by_cases c:b=a
   .subst c;rw[h1]at z;cases z;exact aG
   .rw[ak c];exact g.keep b o (by rw[ak c];exact z) (λψ m p=>n ψ m (pf ψ m b p)) nt
  .by_cases c:b=a
   .subst c;rw[aG]at z;cases z
   .rw[ak c]at z;have:=g.there b z;rw[ak c]at this;exact this
  .have z':H b=_:=z;show upd H a _ b=_;rw[ak (λy=>by subst y;rw[h1]at z';cases z';cases ow)];exact z'
 refine⟨J.Wr e2 h0 (hk a _ aG) hk,ge,⟨sr.len.trans ev.len,λj t' z=>?_,ev.nd sr,s1.tb.Wr J.bg e2 ow⟩,λp vs z=>?_,λp vs n z=>by rw[ak n];exact z⟩
 .by_cases c:∃ψ k m,t'=.cG ψ k m
  .obtain⟨ψ,k,m,rfl⟩:=c;have ji:j≠i:=λy=>by subst y;rw[aY Yl]at z;cases z;cases hb
   rw[aw ji]at z;obtain⟨u,k1,⟨v,y,_⟩|⟨b,y,⟨j',vs,y1,y2,y3,y4⟩,y5⟩⟩:=s1.at' j _ z
   .cases y
   .exact⟨u,k1,.inr ⟨b,y,⟨j',vs,y1,by rw[ak (λw=>by subst w;rw[e2]at y2;cases y2)];exact y2,y3,λb hb=>xx b (y4 b hb)⟩,y5⟩⟩
  .have z0:=ev.symm.same z λψ k m y=>c ⟨ψ,k,m,y⟩;obtain⟨u,k1,k2⟩:=sr.at' j t' z0;refine⟨u,k1,k2.mono (ge.cD sr) (λx b o eb ow hb zz nt=>ge.keep b o zz (λψ m ⟨j',k,p1,p3⟩=>?_) nt)⟩;subst eb;have:=sr.nd j j' t' _ x b b z0 p1 ow rfl k1 p3 hb (.inl rfl);subst this;rw[z0]at p1;cases p1;exact c ⟨ψ,k,m,rfl⟩
 .rw[ak (λy=>by subst y;rw[e2]at z;cases z)];exact z
end
end
section
variable[bL]
variable{K:Ab}
abbrev ago(wa wb:W PV):W PV:=.bind wa λx=>UB x wb
abbrev g9(wl:W (O PV)):W PV:=.bind wl λl=>.ret (.cl l)
abbrev Vj(t:W Bool)(w:W PV):W (Option PV):=.bind t λk=>if k=true then .bind w λv=>.ret (am v) else .ret ce
section
variable{c:nw}{W':W PV}{WL:W (O PV)}
def Ue{m:O PV->W PV}(G:Q4 X.prog X.w X.K X.mg X.base x k ps (NR K ks m))(hr:dz k' X.A)(hk:k<=k')(hg:Gl X x)(ha:AF X K fs (e::es) ks B f1)(hW:W'=B m)(lH: ~~~(iQ x))(he:‹gE X e es›)(dG:‹kH X pos es›):EF X K fs (.Call (.Name x p) (e::es) [] pos) W' f1:=hW▸YK G hr hk hg ha lH he dG
def S9{m:O PV->W (O PV)}{B:(O PV->W (O PV))->W (O PV)}(G:Q4 X.prog X.w X.K X.mg X.base x k ps (zb K ks m))(hr:dz k' X.A)(hk:k<=k')(hg:Gl X x)(ha:AF X K fs (e::es) ks B f1)(hW:WL=B m)(lH: ~~~(iQ x))(he:‹gE X e es›)(dG:‹kH X pos es›):LF X K fs (.Call (.Name x p) (e::es) [] pos) WL f1:=hW▸XI G hr hk hg ha lH he dG
def aO{x1}(h:AF X K fs es (Ao n .v) B f1)(hW:W'=B λl=>.ret (.tup l))(hn: ~~~(n<=1000)):EF X K fs (.Tuple es x1 pos) W' f1:=hW▸aci h hn
def a6{B:(O PV->W (O PV))->W (O PV)}(h:AF X K fs es (Ao n .v) B f1)(hW:WL=B λl=>.ret l)(hn: ~~~(n<=1000)):LF X K fs (.List es pos) WL f1:=hW▸Vn h hn
variable{sc:pc}{T2:Type}{wt:PV->W T2}{fs2:T2->aL}{tf:T2->W Bool}{te:T2->W PV}
def jn{f:PV->W PV}(hc:X.calm=true)(S:aV X.env.scope X.N sc N' ix)(hi:mW X K fs tg iter wl f1)(hg:∀cl C s2 H2 fp,PG (dZ X sc N' cl C s2 H2 fp) tg (eG i))(he:∀cl C s2 H2 fp t,EF (dZ X sc N' cl C s2 H2 fp) K ((aW ix f1).set i (am (.val t))) Ã (f t))(h0:ix[i]?=am ce)(hs:pV X iter:=by intro _;rfl):LF X K fs (.ListComp Ã [⟨tg,iter,[],0⟩] sc pos) (.bind wl λl=>bz l f) f1:=
 have h1:(aW ix f1)[i]?=am ce:=by unfold aW;rw[Ag,h0];rfl
 Vm hc S hi (λcl C s2 H2 fp=>TV (hg cl C s2 H2 fp)) he (λ_=>rfl) (Iq h1) (λj hj=>by rw[AW]at hj;subst hj;exact h0) hs
def KJ{tf:PV->W Bool}{te:PV->W PV}(hc:X.calm=true)(S:aV X.env.scope X.N sc N' ix)(hi:mW X K fs tg iter wl f1)(hg:∀cl C s2 H2 fp,PG (dZ X sc N' cl C s2 H2 fp) tg (eG i))(hf:∀cl C s2 H2 fp t,TF (dZ X sc N' cl C s2 H2 fp) K ((aW ix f1).set i (am (.val t))) c (tf t))(he:∀cl C s2 H2 fp t,EF (dZ X sc N' cl C s2 H2 fp) K ((aW ix f1).set i (am (.val t))) Ã (te t))(h0:ix[i]?=am ce)(hs:pV X iter:=by intro _;rfl):LF X K fs (.ListComp Ã [⟨tg,iter,[c],0⟩] sc pos) (.bind wl λl=>mX l λp=>Vj (tf p) (te p)) f1:=
 have h1:(aW ix f1)[i]?=am ce:=by unfold aW;rw[Ag,h0];rfl
 XH hc S hi (λcl C s2 H2 fp=>TV (hg cl C s2 H2 fp)) (λcl C s2 H2 fp t=>P6 (hf cl C s2 H2 fp t)) he (λ_=>rfl) (Iq h1) (λj hj=>by rw[AW]at hj;subst hj;exact h0) hs
def XF(hc:X.calm=true)(S:aV X.env.scope X.N sc N' ix)(hi:mW X K fs tg iter wl f1)(hg:∀cl C s2 H2 fp,GF (dZ X sc N' cl C s2 H2 fp) K (aW ix f1) tg is wt fs2)(he:∀cl C s2 H2 fp t,EF (dZ X sc N' cl C s2 H2 fp) K (fs2 t) Ã (te t))(hl:pU is (aW ix f1) fs2/\∀t,cY (fs2 t) (aW ix f1))(rJ:∀j∈is,ix[j]?=am ce)(hs:pV X iter:=by intro _;rfl):LF X K fs (.ListComp Ã [⟨tg,iter,[],0⟩] sc pos) (.bind wl λl=>bz l λp=>.bind (wt p) te) f1:=Vm hc S hi hg he (λ_=>rfl) hl rJ hs
def aba(hc:X.calm=true)(S:aV X.env.scope X.N sc N' ix)(hi:mW X K fs tg iter wl f1)(hg:∀cl C s2 H2 fp,GF (dZ X sc N' cl C s2 H2 fp) K (aW ix f1) tg is wt fs2)(hf:∀cl C s2 H2 fp t,TF (dZ X sc N' cl C s2 H2 fp) K (fs2 t) c (tf t))(he:∀cl C s2 H2 fp t,EF (dZ X sc N' cl C s2 H2 fp) K (fs2 t) Ã (te t))(hl:pU is (aW ix f1) fs2/\∀t,cY (fs2 t) (aW ix f1))(rJ:∀j∈is,ix[j]?=am ce)(hs:pV X iter:=by intro _;rfl):LF X K fs (.ListComp Ã [⟨tg,iter,[c],0⟩] sc pos) (.bind wl λl=>mX l λp=>.bind (wt p) λt=>Vj (tf t) (te t)) f1:=XH hc S hi hg (λcl C s2 H2 fp t=>P6 (hf cl C s2 H2 fp t)) he (λ_=>rfl) hl rJ hs
variable{rest:O v4}{T:Type}{out:T->End}{x0:Bool}{kk:O PV->W T}
def S2{wt:PV->W T2}{te:T2->W PV}:(λl=>bz l λp=>.bind (wt p) te)=λl=>mX l λp=>.bind (wt p) λt=>.bind (.ret true) λk=>if k=true then .bind (te t) λv=>.ret (am v) else .ret ce:=funext λl=>by
 rw[xj];rfl
def SF.RP(hc:X.calm=true)(hN:X.N.Nodup)(zX:X.N[i]?=am y)(hx:X.env.scope.names.lookup y=am .local)(S:aV X.env.scope X.N sc N' ix)(hi:mW X K fs tg iter wl f1)(hg:∀cl C s2 H2 fp,GF (dZ X sc N' cl C s2 H2 fp) K (aW ix f1) tg is wt fs2)(he:∀cl C s2 H2 fp t,EF (dZ X sc N' cl C s2 H2 fp) K (fs2 t) Ã (te t))(hl:pU is (aW ix f1) fs2/\∀t,cY (fs2 t) (aW ix f1))(rJ:∀j∈is,ix[j]?=am ce)(hr:∀l,SF X K x0 (f1.set i (am (.ol ce l))) rest (kk l) out)(qJ:‹ss (.ListComp Ã [⟨tg,iter,[],0⟩] sc pos) (am (.Name y px)) m9.line X.env=pure true›)(hs:pV X iter:=by intro _;rfl):SF X K x0 fs (.Assign [.Name y px] (.ListComp Ã [⟨tg,iter,[],0⟩] sc pos) m9::rest) (.bind (.bind wl λl=>bz l λp=>.bind (wt p) te) kk) out:=by
 rw[S2];exact SF.aag hc hN zX hx S hi hg (λ_ _ _ _ _ _=>xY) he (λp=>rfl) hl rJ hr qJ hs
def SF.iW{f:PV->W PV}(hc:X.calm=true)(hN:X.N.Nodup)(zX:X.N[i]?=am y)(hx:X.env.scope.names.lookup y=am .local)(S:aV X.env.scope X.N sc N' ix)(hi:mW X K fs tg iter wl f1)(hg:∀cl C s2 H2 fp,PG (dZ X sc N' cl C s2 H2 fp) tg (eG j))(he:∀cl C s2 H2 fp t,EF (dZ X sc N' cl C s2 H2 fp) K ((aW ix f1).set j (am (.val t))) Ã (f t))(h0:ix[j]?=am ce)(hr:∀l,SF X K x0 (f1.set i (am (.ol ce l))) rest (kk l) out)(qJ:‹ss (.ListComp Ã [⟨tg,iter,[],0⟩] sc pos) (am (.Name y px)) m9.line X.env=pure true›)(hs:pV X iter:=by intro _;rfl):SF X K x0 fs (.Assign [.Name y px] (.ListComp Ã [⟨tg,iter,[],0⟩] sc pos) m9::rest) (.bind (.bind wl λl=>bz l f) kk) out:=
 have h1:(aW ix f1)[j]?=am ce:=by unfold aW;rw[Ag,h0];rfl
 SF.RP hc hN zX hx S hi (λcl C s2 H2 fp=>TV (hg cl C s2 H2 fp)) he (Iq h1) (λm hj=>by rw[AW]at hj;subst hj;exact h0) hr qJ hs
end
def ab2{f:db}(h:∀vs H Q E,¬sp vs H Q E):lM P w K mg base Hk k f fd ps sp:=⟨λvs H Q E q=>(h _ _ _ _ q).elim,λA outer s H args us vs Q E _ _ _ _ q=>(h _ _ _ _ q).elim⟩
def RI{m:Hs (O PV) n}(h:∀l Q,l.length=n->¬(wG n m l).run Q):∀vs H Q E,¬zb K ks (wG n m) vs H Q E:=λvs H Q E ⟨_,_,l,_,q⟩=>h l _ (qW q) q
theorem bD(hr:dz k A):A.units+200<sK:=by have:=hr.un;lia
end
section
variable[bL]
variable{K:Ab}
mutual
def PV.eR:PV->Bool
 |.tup l=>dU l
 |.cl l=>dU l
 |.ref _=>false
 |.ty _=>false
 |.dv _ _=>false
 |.ob _ _=>false
 |.hand=>false
 |_=>true
def dU:O PV->Bool
 |[]=>true
 |x::l=>PV.eR x&&dU l
end
mutual
def PV.hJ:PV->Nat
 |.tup l=>c6 l+1
 |.cl l=>c6 l+1
 |_=>0
def c6:O PV->Nat
 |[]=>0
 |x::l=>max (PV.hJ x) (c6 l)
end
mutual
def hG:PV->PV->Bool
 |.aF,.aF=>true
 |.bl a,.bl b=>a==b
 |.bl a,.int b=>(if a then 1 else 0)==b
 |.int a,.bl b=>a==(if b then 1 else 0)
 |.int a,.int b=>a==b
 |.str a,.str b=>a==b
 |.tup l,.tup m=>fX l m
 |.cl l,.cl m=>fX l m
 |_,_=>false
def fX:O PV->O PV->Bool
 |[],[]=>true
 |x::l,y::m=>hG x y&&fX l m
 |_,_=>false
end
theorem tW:∀{l:O PV}{j:Nat}{x:PV},dU l=true->l[j]?=am x->PV.eR x=true
 |[],_,_,_,e=>by simp at e
 |y::l,0,x,h,e=>by
  simp at e;subst e;rw[dU,A7]at h;exact h.1
 |y::l,j+1,x,h,e=>by
  rw[dU,A7]at h;exact tW h.2 (by simpa using e)
theorem wo:∀{l:O PV}{j:Nat}{x:PV},l[j]?=am x->PV.hJ x<=c6 l
 |[],_,_,e=>by simp at e
 |y::l,0,x,e=>by
  simp at e;subst e;rw[c6];lia
 |y::l,j+1,x,e=>by
  have:=wo (by simpa using e);rw[c6];lia
mutual
theorem P8:∀(x:PV),PV.eR x=true->hG x x=true
 |.aF,_=>by rw[hG]
 |.bl b,_=>by rw[hG];simp
 |.int i,_=>by rw[hG];simp
 |.str i,_=>by rw[hG];simp
 |.tup l,h=>by rw[hG];exact k6 l (by rw[PV.eR]at h;exact h)
 |.cl l,h=>by rw[hG];exact k6 l (by rw[PV.eR]at h;exact h)
 |.ref _,h=>by rw[PV.eR]at h;cases h
 |.ty _,h=>by rw[PV.eR]at h;cases h
 |.dv _ _,h=>by rw[PV.eR]at h;cases h
 |.ob _ _,h=>by rw[PV.eR]at h;cases h
 |.hand,h=>by rw[PV.eR]at h;cases h
theorem k6:∀(l:O PV),dU l=true->fX l l=true
 |[],_=>by rw[fX]
 |x::l,h=>by
  rw[dU,A7]at h;rw[fX,P8 x h.1,k6 l h.2];rfl
end
def Qg(l m:O PV)(j:Nat):Bool:=match l[j]?,m[j]? with|some x,am y=>hG x y|_,_=>true
theorem nU:∀(l m:O PV),((Az (min l.length m.length)).all (Qg l m)&&l.length==m.length)=fX l m
 |[],[]=>by rw[fX];rfl
 |[],_::_=>by
  rw[fX]
  .simp
  .intros;simp_all
  .intros;simp_all
 |_::_,[]=>by
  rw[fX]
  .simp
  .intros;simp_all
  .intros;simp_all
 |x::l,y::m=>by
  rw[fX,<- nU l m];have e:min (x::l).length (y::m).length=min l.length m.length+1:=by simp only[Aw];lia
  rw[e,Fh,List.all_cons,List.all_map];have e2:((x::l).length==(y::m).length)=(l.length==m.length):=by simp
  rw[e2,Bool.and_assoc];rfl
def P7{l m:O PV}(h:l.length≠m.length):fX l m=false:=by
 rw[<- nU];have:(l.length==m.length)=false:=by simpa using h
 rw[this,DM]
section
variable{s:cr}
def Gx(I:Inv X U σ H s){xs:O V}(h:JQ X.K H a xs):H a≠am (.ext φ):=λe=>by
 rcases h with⟨o,h⟩|⟨o,_,_,h,_⟩
 .rw[e]at h;cases h
 .have:=(I.bs a o (I.mod.kin a o h)).2;rw[e]at this;cases this
mutual
theorem VR.Nm(I:Inv X U σ H s):∀{v:V}{x y:PV},VR X.K [] H v x->VR X.K [] H v y->x=y
 |_,_,_,.aF,h=>by cases h;rfl
 |_,_,_,.bl b,h=>by cases h;rfl
 |_,_,_,.int b,h=>by cases h;rfl
 |_,_,_,.str b,h=>by cases h;rfl
 |_,_,_,.ty b,h=>by cases h;rfl
 |_,_,_,.ref e,h=>by simp at e
 |_,_,_,.tup e r,h=>by
  cases h with
  |tup e' r'=>
   have ee:=I.kJ (dF.of e) (dF.of e');subst ee;rw[aB.Nm I r r']
  |ref e=>simp at e
  |cl e' r'=>
   obtain⟨aq,_,⟨o,n,h1,h2,_⟩,_⟩:=I.list e'.sq;obtain⟨dQ,_,⟨o',fV,uE,_⟩,_⟩:=I.tuple (dF.of e);rw[h1]at fV;cases fV;rw[h2]at uE;simp at uE
  |dk e' _ _=>rw[e]at e';cases e'
  |dt e' _ _=>rw[e]at e';cases e'
  |ob e' _ _ _ _=>rw[e]at e';cases e'
  |hand e'=>have e':_=_:=e';rw[e]at e';cases e'
 |_,_,_,.ob e c na k r,h=>by
  cases h with
  |ob e' _ _ k' r'=>rw[e]at e';cases e';rw[k,k',aB.Nm I r r']
  |hand e'=>have e':_=_:=e';rw[e]at e';cases e'
  |dk e' _ _=>rw[e]at e';cases e'
  |dt e' _ _=>rw[e]at e';cases e'
  |ref e=>simp at e
  |tup e' _=>rw[e]at e';cases e'
  |cl e' r'=>
   obtain⟨aq,_,⟨o,n,h1,h2,_⟩,_⟩:=I.list e'.sq;obtain⟨_,_,_,_,fV,_⟩:=I.bg _ _ e;rw[h1]at fV;cases fV;simp at h2
 |_,_,_,.dk e k r,h=>by
  cases h with
  |dk e' k' r'=>rw[e]at e';cases e';rw[k,k',aB.Nm I r r']
  |dt e' _ _=>rw[e]at e';cases e'
  |ob e' _ _ _ _=>rw[e]at e';cases e'
  |hand e'=>have e':_=_:=e';rw[e]at e';cases e'
  |ref e=>simp at e
  |tup e' _=>rw[e]at e';cases e'
  |cl e' r'=>
   obtain⟨aq,_,⟨o,n,h1,h2,_⟩,_⟩:=I.list e'.sq;obtain⟨_,_,vs,_,o',_,_,fV,uE,_⟩:=GY I.bg (.inr ⟨_,e⟩);rw[h1]at fV;cases fV;have h3:=uE.1;rw[h2]at h3;simp at h3
 |_,_,_,.dt e k r,h=>by
  cases h with
  |dt e' k' r'=>rw[e]at e';cases e';rw[k,k',aB.Nm I r r']
  |ob e' _ _ _ _=>rw[e]at e';cases e'
  |hand e'=>have e':_=_:=e';rw[e]at e';cases e'
  |dk e' _ _=>rw[e]at e';cases e'
  |ref e=>simp at e
  |tup e' _=>rw[e]at e';cases e'
  |cl e' r'=>
   obtain⟨aq,_,⟨o,n,h1,h2,_⟩,_⟩:=I.list e'.sq;obtain⟨_,_,vs,_,o',_,_,fV,uE,_⟩:=GV I.bg (.inr ⟨_,e⟩);rw[h1]at fV;cases fV;have h3:=uE.1;rw[h2]at h3;simp at h3
 |_,_,_,.hand e,h=>by
  have e:_=am _:=e;cases h with
  |hand _=>rfl
  |ob e' _ _ _ _=>rw[e]at e';cases e'
  |dk e' _ _=>rw[e]at e';cases e'
  |dt e' _ _=>rw[e]at e';cases e'
  |ref e=>simp at e
  |tup e' _=>rw[e]at e';cases e'
  |cl e' r'=>exact absurd e (Gx I e')
 |_,_,_,.cl e r,h=>by
  cases h with
  |hand e'=>exact absurd (show _=am _ from e') (Gx I e)
  |ob e' _ _ _ _=>
   obtain⟨aq,_,⟨o,n,h1,h2,_⟩,_⟩:=I.list e.sq;obtain⟨_,_,_,_,fV,_⟩:=I.bg _ _ e';rw[h1]at fV;cases fV;simp at h2
  |dk e' _ _=>
   obtain⟨aq,_,⟨o,n,h1,h2,_⟩,_⟩:=I.list e.sq;obtain⟨_,_,vs,_,o',_,_,fV,uE,_⟩:=GY I.bg (.inr ⟨_,e'⟩);rw[h1]at fV;cases fV;have h3:=uE.1;rw[h2]at h3;simp at h3
  |dt e' _ _=>
   obtain⟨aq,_,⟨o,n,h1,h2,_⟩,_⟩:=I.list e.sq;obtain⟨_,_,vs,_,o',_,_,fV,uE,_⟩:=GV I.bg (.inr ⟨_,e'⟩);rw[h1]at fV;cases fV;have h3:=uE.1;rw[h2]at h3;simp at h3
  |cl e' r'=>
   obtain⟨aq,k,⟨o,n,h1,h2,h3,h4⟩,_⟩:=I.list e.sq;obtain⟨dQ,k',⟨o',n',fV,uE,PN,Yr⟩,_⟩:=I.list e'.sq;rw[h1]at fV;cases fV;rw[h4]at Yr;have:aq=dQ:=by injection Yr with a b;simpa using a
   subst this;have ee:=Vals.inj k k';subst ee;rw[aB.Nm I r r']
  |ref e=>simp at e
  |tup e' r'=>
   obtain⟨aq,_,⟨o,n,h1,h2,_⟩,_⟩:=I.list e.sq;obtain⟨dQ,_,⟨o',fV,uE,_⟩,_⟩:=I.tuple (dF.of e');rw[h1]at fV;cases fV;rw[h2]at uE;simp at uE
theorem aB.Nm(I:Inv X U σ H s):∀{v:O V}{x y:O PV},aB X.K [] H v x->aB X.K [] H v y->x=y
 |_,_,_,.nil,h=>by cases h;rfl
 |_,_,_,.cons r t,h=>by
  cases h with
  |cons r' t'=>rw[VR.Nm I r r',aB.Nm I t t']
end
structure Cmp(A:Da)(s:cr)(w w':ci)(b:Bool):Prop where
 rc:SeqAt.RcAt A s w w' b
 ne:SeqAt.RcNeAt A s w w' (!b)
 eq:DU A s w w' b
def ach(I:Inv X U σ H s){ws:O V}{l m:O PV}(r:Vals vs aq)(r':Vals ws dQ)(r1:aB X.K [] H vs l)(r2:aB X.K [] H ws m)(ih:∀(j:Nat) (x y:PV) (v v':V) (w w':ci),l[j]?=am x->m[j]?=am y->VR X.K [] H v x->VR X.K [] H v' y->RelV v w->RelV v' w'->DU A s w w' (hG x y)):∀j (g1:j<aq.toArray.size) (g2:j<dQ.toArray.size),DU A s aq.toArray[j] dQ.toArray[j] (Qg l m j):=λj g1 g2=>by
 have h1:j<aq.length:=by simpa using g1
 have h2:j<dQ.length:=by simpa using g2
 have hl:j<l.length:=by rw[<- r1.length,r.length];exact h1
 have hm:j<m.length:=by rw[<- r2.length,r'.length];exact h2
 obtain⟨v,v1,v2⟩:=r1.get (Ad hl);obtain⟨v',Đ,v2'⟩:=r2.get (Ad hm);obtain⟨u,u1,u2⟩:=r.get v1;obtain⟨u',u1',u2'⟩:=r'.get Đ;rw[Ad h1]at u1;rw[Ad h2]at u1';cases u1;cases u1';unfold Qg;rw[Ad hl,Ad hm];have:=ih j _ _ v v' _ _ (Ad hl) (Ad hm) v2 v2' u2 u2';simpa using this
inductive Sh(X:Cx)(H:Hp)(s:cr):PV->ci->Prop
 |aF:Sh X H s .aF .none
 |bl (b:Bool):Sh X H s (.bl b) (.bool b)
 |int (i:Int) (t:Tok):Sh X H s (.int i) (.int i t)
 |str (x:Str) (t:Tok):Sh X H s (.str x) (.str x t)
 |tup {p:db}{vs:List V}{aq:List ci}{l:List PV} (e:VR X.K [] H (.ref p) (.tup l)) (k:Vals vs aq) (r:aB X.K [] H vs l) (h:s.heap.IsTuple p aq.toArray):Sh X H s (.tup l) (.ref p)
 |cl {p:db}{vs:List V}{aq:List ci}{l:List PV} (e:VR X.K [] H (.ref p) (.cl l)) (k:Vals vs aq) (r:aB X.K [] H vs l) (h:s.heap.IsList p aq.toArray):Sh X H s (.cl l) (.ref p)
def Sh.of(I:Inv X U σ H s){v:V}{x:PV}{w:ci}(h:VR X.K [] H v x)(r:RelV v w)(d:PV.eR x=true):Sh X H s x w:=by
 cases h with
 |ref e=>simp at e
 |aF=>cases r;exact .aF
 |bl a=>cases r;exact .bl a
 |int a=>obtain⟨t,rfl⟩:=r;exact .int a t
 |str a=>obtain⟨t,rfl⟩:=r;exact .str a t
 |tup e q=>
  cases r;obtain⟨aq,k,ht,_⟩:=I.tuple (dF.of e);exact .tup (.tup e q) k q ht
 |cl e q=>
  cases r;obtain⟨aq,k,pl,_⟩:=I.list e.sq;exact .cl (.cl e q) k q pl.isList
 |_=>rw[PV.eR]at d;cases d
set_option maxHeartbeats 8000000 in
theorem YT(hK:X.K=K)(I:Inv X U σ H s):∀(n:Nat) (x y:PV) (A:Da) (v v':V) (w w':ci),PV.hJ x<=n->PV.eR x=true->PV.eR y=true->VR K [] H v x->VR K [] H v' y->RelV v w->RelV v' w'->A.units+n+1<sK->Cmp A s w w' (hG x y):=by
 subst hK;intro n
 induction n using Ce with
 |ind n ih=>
 intro x y A v v' w w' hd dx dy hv hv' r1 r2 hu;have a:=Sh.of I hv r1 dx;have b:=Sh.of I hv' r2 dy;clear hv hv' r1 r2;have el:∀{l m:O PV}{vs ws:O V}{aq cT:O ci},dU l=true->dU m=true->c6 l<n->Vals vs aq->Vals ws cT->aB X.K [] H vs l->aB X.K [] H ws m->aq.toArray.size=l.length/\cT.toArray.size=m.length/\∀j g1 (g2:j<cT.toArray.size),DU A.in1 s aq.toArray[j] cT.toArray[j] (Qg l m j):=λd1 d2 hd k1 k2 r r'=>⟨by rw[Am,<- k1.length,r.length],by rw[Am,<- k2.length,r'.length],ach I k1 k2 r r' λj x y v v' w w' hx hy vx vy rx ry=>(ih _ hd x y A.in1 v v' w w' (wo hx) (tW d1 hx) (tW d2 hy) vx vy rx ry (by show A.units+1+_+1<_;lia)).eq⟩;have fin:∀{pa pb:db}{l m:O PV},(pa=pb->l=m)->dU l=true->SeqAt.RcAt A s (.ref pa) (.ref pb) (fX l m)->DU A s (.ref pa) (.ref pb) (fX l m):=λ{pa pb l m} h d q=>by
  by_cases hab:pa=pb
  .rw[h hab,k6 _ (h hab▸d),hab];exact Gr _
  .exact Ga hab q
 cases a<;>cases b
 case tup.tup pa vs aq l e k r ht pb ws cT m e2 k2 r2 IL=>
  rw[PV.hJ]at hd;obtain⟨z1,z2,ie⟩:=el dx dy ∅ k k2 r r2;have q1:=Gd ht IL ∅ ie;have q2:=SeqAt.RcNeAt.tuples ht IL (A:=A) ∅ ie;rw[z1,z2,nU]at q1 q2;exact⟨q1,q2,fin (λz=>by subst z;have:=VR.Nm I e e2;injection this) dx q1⟩
 case cl.cl pa vs aq l e k r ht pb ws cT m e2 k2 r2 IL=>
  rw[PV.hJ]at hd;obtain⟨z1,z2,ie⟩:=el dx dy ∅ k k2 r r2;by_cases hz:l.length=m.length
  .have q1:=Gn ht IL (by rw[z1,z2];exact hz) (A:=A) ∅ ie;have q2:=F9 ht IL (by rw[z1,z2];exact hz) (A:=A) ∅ ie;have ef:(Az l.length).all (Qg l m)=fX l m:=by rw[<- nU,hz,Nat.min_self,beq_self_eq_true,Bool.and_true]
   rw[z1,ef]at q1 q2;exact⟨q1,q2,fin (λz=>by subst z;have:=VR.Nm I e e2;injection this) dx q1⟩
  .have q1:=EU (A:=A) ht IL (by rw[z1,z2];simpa using hz) ∅;have q2:=Et (A:=A) ht IL (by rw[z1,z2];simpa using hz) ∅;have ef:=P7 hz;rw[<- ef]at q1;have q2:SeqAt.RcNeAt A s (.ref pa) (.ref pb) (!fX l m):=by rw[ef];exact q2
   exact⟨q1,q2,fin (λz=>by subst z;have:=VR.Nm I e e2;injection this) dx q1⟩
 all_goals
  clear ih el fin;rw[hG]<;>try (intros;simp_all;done)
  refine⟨?_,?_,?_⟩<;>(try simp)<;>first|with_reducible exact .none_none|with_reducible exact .none_bool _|with_reducible exact .none_int _ _|with_reducible exact .none_str _ _|with_reducible exact .none_tuple ‹_› ∅ | with_reducible exact .none_list ‹_› ∅ | with_reducible exact .bool_none _|with_reducible exact .bool_str _ _ _|with_reducible exact .bool_tuple _ ‹_› ∅ | with_reducible exact .bool_list _ ‹_› ∅ | with_reducible exact .int_none _ _|with_reducible exact .int_str _ _ _ _|with_reducible exact .int_tuple _ _ ‹_› ∅ | with_reducible exact .int_list _ _ ‹_› ∅ | with_reducible exact .str_none _ _|with_reducible exact .str_bool _ _ _|with_reducible exact .str_int _ _ _ _|with_reducible exact .str_tuple _ _ ‹_› ∅ | with_reducible exact .str_list _ _ ‹_› ∅ | with_reducible exact .tuple_none ‹_› ∅ | with_reducible exact .tuple_bool _ ‹_› ∅ | with_reducible exact .tuple_int _ _ ‹_› ∅ | with_reducible exact .tuple_str _ _ ‹_› ∅ | with_reducible exact .tuple_list ‹_› ‹_› ∅ | with_reducible exact .list_none ‹_› ∅ | with_reducible exact .list_bool _ ‹_› ∅ | with_reducible exact .list_int _ _ ‹_› ∅ | with_reducible exact .list_str _ _ ‹_› ∅ | with_reducible exact .list_tuple ‹_› ‹_› ∅ | exact .same _|exact .bool_bool _ _|exact .bool_int _ _ _|exact .int_bool _ _ _|exact .int_int _ _ _ _|exact .str_str _ _ _ _
end
end
section
variable[bL]
variable{K:Ab}
mutual
theorem VR.nF{ι:O db}{H:Hp}:∀{v:V}{q:PV},VR K ι H v q->PV.eR q=true->VR K [] H v q
 |_,_,.aF,_=>.aF
 |_,_,.bl b,_=>.bl b
 |_,_,.int i,_=>.int i
 |_,_,.str x,_=>.str x
 |_,_,.ty n,h=>by rw[PV.eR]at h;cases h
 |_,_,.dk _ _ _,h=>by rw[PV.eR]at h;cases h
 |_,_,.dt _ _ _,h=>by rw[PV.eR]at h;cases h
 |_,_,.ob _ _ _ _ _,h=>by rw[PV.eR]at h;cases h
 |_,_,.hand _,h=>by rw[PV.eR]at h;cases h
 |_,_,.tup e r,h=>.tup e (aB.nF r (by rw[PV.eR]at h;exact h))
 |_,_,.cl e r,h=>.cl e (aB.nF r (by rw[PV.eR]at h;exact h))
 |_,_,.ref e,h=>by rw[PV.eR]at h;cases h
theorem aB.nF{ι:O db}{H:Hp}:∀{v:O V}{q:O PV},aB K ι H v q->dU q=true->aB K [] H v q
 |_,_,.nil,_=>.nil
 |_,_,.cons r s,h=>by
  rw[dU,A7]at h;exact .cons (VR.nF r h.1) (aB.nF s h.2)
end
def Jf(x y:PV):Prop:=PV.eR x=true/\PV.eR y=true/\PV.hJ x<=150
def i7:M2:=⟨λx y h Q=>Jf x y/\Q (.bl (hG x y)) h,λf q=>⟨q.1,f _ _ q.2⟩⟩
def zx:M2:=⟨λx y h Q=>Jf x y/\Q (.bl (!hG x y)) h,λf q=>⟨q.1,f _ _ q.2⟩⟩
def Se(K:Ab)(neg:Bool):R2:=λu v H Q=>∃x y,VR K [] H u x/\VR K [] H v y/\Jf x y/\Q (.bl (if neg then !hG x y else hG x y)) H
section
theorem Xm(hK:X.K=K)(hu:X.A.units+200<sK):ip X (sw .Eq) (Se K false):=λU s σ H u v w w' Q I r1 r2 ⟨x,y,h1,h2,⟨o1,o2,o3⟩,q⟩=>by
 exact Fu (YT hK I 150 x y X.A u v w w' o3 o1 o2 h1 h2 r1 r2 ∅).rc ⟨.bl _,H,I,rfl,q⟩
theorem Xk(hK:X.K=K)(hu:X.A.units+200<sK):ip X (sw .NotEq) (Se K true):=λU s σ H u v w w' Q I r1 r2 ⟨x,y,h1,h2,⟨o1,o2,o3⟩,q⟩=>by
 exact EO (YT hK I 150 x y X.A u v w w' o3 o1 o2 h1 h2 r1 r2 ∅).ne ⟨.bl _,H,I,rfl,q⟩
def SN:M2.Ok K (Se K false) i7:=λ{ι H h u v x y Q} hr hu hv q=>⟨x,y,VR.nF hu q.1.1,VR.nF hv q.1.2.1,q.1,q.2 ι _ H (Go.refl _ _) hr (.bl _)⟩
def SJ:M2.Ok K (Se K true) zx:=λ{ι H h u v x y Q} hr hu hv q=>⟨x,y,VR.nF hu q.1.1,VR.nF hv q.1.2.1,q.1,q.2 ι _ H (Go.refl _ _) hr (.bl _)⟩
def lZ(hK:X.K=K)(hu:X.A.units+200<sK):JC X K .Eq b i7:=⟨⟨_,Xm hK hu,SN⟩,gc _⟩
def Vv(hK:X.K=K)(hu:X.A.units+200<sK):JC X K .NotEq b zx:=⟨⟨_,Xk hK hu,SJ⟩,gc _⟩
end
end
end FL
variable{x:A9}{b b1:Bool}{t z i1 i2 a1 a2:Bg}{ys:Array A9}{k1:Nat}{e2:BC}
namespace L2
def uy(b:Bool)(h:pr)(it a:db)(k:Nat):Prop:=match b with
 |true=>h.IsListIter it a k
 |false=>h.IsTupleIter it a k
def ik(b:Bool)(h:pr)(a:db)(xs:Array ci):Prop:=match b with
 |true=>h.IsList a xs
 |false=>h.IsTuple a xs
def uy.move(x:uy b h it a k)(g:∀o,h.get? it=am o->h'.get? it=am o):uy b h' it a k:=by
 cases b with
 |true=>obtain⟨o,e,p⟩:=(x);exact(⟨o,g o e,p⟩)
 |false=>obtain⟨o,e,p⟩:=(x);exact(⟨o,g o e,p⟩)
def ik.move(x:ik b h a xs)(g:∀o,h.get? a=am o->h'.get? a=am o):ik b h' a xs:=by
 cases b with
 |true=>obtain⟨o,e,p⟩:=(x);exact(⟨o,g o e,p⟩)
 |false=>obtain⟨o,e,p⟩:=(x);exact(⟨o,g o e,p⟩)
def uy.obj(x:uy b h it a k):∃o,h.get? it=am o/\∀v,o.data≠.cell v:=by
 cases b with
 |true=>obtain⟨o,e,_,d⟩:=(x);exact⟨o,e,λv z=>by rw[d]at z;cases z⟩
 |false=>obtain⟨o,e,_,d⟩:=(x);exact⟨o,e,λv z=>by rw[d]at z;cases z⟩
def ik.lt(x:ik b h a xs):a<h.objs.size:=by
 cases b with
 |true=>obtain⟨o,e,p⟩:=(x);exact Ap e
 |false=>obtain⟨o,e,p⟩:=(x);exact Ap e
section
variable{s:cr}
def j9(h:uy b s.heap it t i)(ht:ik b s.heap t items)(hx:items[i]?=am x)(q:∀h':pr,uy b h' it t (i+1)->Cu it s.heap h'->Q x {s with heap:=h'}):ga (gl prog w) A (Builtin.SmallTypes.nextOf (.ref it)) Q E s:=by
 cases b with
 |true=>exact wpAny_nextOf_list_item h ht hx λh' a b=>q h' a b
 |false=>exact gJ h ht hx q
def sS(hA:A.handled=ce)(h:uy b s.heap it t i)(ht:ik b s.heap t items)(hx:items[i]?=ce)(q:∀(h':pr) (e:db),FO it s.heap h'->(∃o,h'.get? e=am o/\o.cls=.type "StopIteration")->E (.ref e) {s with heap:=h'}):ga (gl prog w) A (Builtin.SmallTypes.nextOf (.ref it)) Q E s:=by
 cases b with
 |true=>exact wpAny_nextOf_list_end hA h ht hx λh' e a b=>q h' e a b
 |false=>exact iC hA h ht hx q
def Ma:Bool->String
 |true=>"list_iterator"
 |false=>"tuple_iterator"
def vE(h:ik b s.heap a xs)(q:Q (.ref s.heap.objs.size) {s with heap:=s.heap.push {cls:=.type (Ma b),data:=.fields #[.ref a,.int 0 0]}}):ga (gl prog w) A (pyIter (.ref a)) Q E s:=by
 cases b with
 |true=>exact DC h q
 |false=>exact EC h q
def J8(e:h.get? it=am {cls:=.type (Ma b),data:=.fields #[.ref a,.int 0 0]}):uy b h it a 0:=by
 cases b with
 |true=>exact(⟨_,e,rfl,rfl⟩)
 |false=>exact(⟨_,e,rfl,rfl⟩)
end
structure jB(b1 b2:Bool)(h:pr)(z TI TO i1 i2 a1 a2:db)(f0:ci)(k1 k2:Nat):Prop where
 zip:IsZip h z TI TO f0
 ti:IR h TI (.ref i1) (.ref i2)
 to:∃a b,IR h TO a b
 it1:uy b1 h i1 a1 k1
 it2:uy b2 h i2 a2 k2
def rS{E:ci->cr->Prop}{s:cr}{b2:Bool}{TI TO:db}{y:ci}(hA:ZipApart z TI TO i1 i2 a1 a2)(hz:jB b1 b2 s.heap z TI TO i1 i2 a1 a2 .none k1 k2)(Vz:ik b1 s.heap a1 xs)(IL:ik b2 s.heap a2 ys)(hx:xs[k1]?=am x)(hy:ys[k2]?=am y)(q:∀h':pr,jB b1 b2 h' z TI TO i1 i2 a1 a2 (wT s.heap.objs.size) (k1+1) (k2+1)->IR h' s.heap.objs.size x y->(∀c o,c≠z->c≠TO->c≠i1->c≠i2->s.heap.get? c=am o->h'.get? c=am o)->Q (.ref s.heap.objs.size) {s with heap:=h'}):ga (gl prog w) A (wn.«zip.__next__» {pos:=[.ref z]}) (λfin s'=>∃v,fin=Ex (E5 v)/\Q v s') E s:=by
 obtain⟨hz,TC,⟨ta,tb,ğ⟩,Yl,ĩ⟩:=hz;show ga _ _ (field (.ref z) 2 >>= λr=>_) _ _ s;refine Aa (A4 hz rfl rfl ?_);refine Aa (A4 hz rfl rfl ?_);refine Aa (Bu TC rfl ?_);refine Aa ?_;refine Aa (A4 hz rfl rfl ?_);refine Af ?_;refine Aa (C3 ?_);refine Aa (A4 hz rfl rfl ?_);refine Aa (AL hz (show 0 < 5 by decide) λh1 z1 b1=>?_);show ga _ _ ((forIn [(AJ i1,0),(AJ i2,1)] _ _) >>= λr=>_) _ _ _;refine Aa ?_;rw[Cs];have uY:=b1.2;refine Aa ?_;refine Aa (EZ ?_);refine Aa (j9 (Yl.move λo e=>(uY _ hA.i1z).trans e) (Vz.move λo e=>(uY _ hA.l1z).trans e) hx λh2 j2 b2=>Af ?_);have PQ:∀b,b≠z->b≠i1->h2.get? b=s.heap.get? b:=λb n1 n2=>(b2.2 b n2).trans (uY b n1);have Þ:=(PQ _ hA.TOz hA.TOi1).trans ğ;refine Aa (Bu Þ rfl ?_);refine Aa (D4 Þ λh3 t3 b3=>?_);have Ð:∀b,b≠z->b≠i1->b≠TO->h3.get? b=s.heap.get? b:=λb n1 n2 n3=>(b3.2 b n3).trans (PQ b n1 n2);refine Aa (Cy (Af ?_));show ga _ _ (forIn [(AJ i2,1)] _ _) _ _ _;rw[Cs];refine Aa ?_;refine Aa (EZ ?_);refine Aa (j9 (ĩ.move λo e=>(Ð _ hA.i2z hA.i12.symm hA.TOi2.symm).trans e) (IL.move λo e=>(Ð _ hA.l2z hA.l2i1 hA.l2TO).trans e) hy λh4 j4 b4=>Af ?_);have to4:=(b4.2 _ hA.TOi2).trans t3;refine Aa (Bu to4 rfl ?_);refine Aa (D4 to4 λh5 t5 b5=>?_);have to5:=t5;refine Aa (Cy (Af ?_));refine Af ?_;refine Aa (Bu to5 rfl ?_);have Ē:=b5.1.trans (b4.1.trans (b3.1.trans (b2.1.trans b1.1)));refine Aa (CH ?_ (by show 2<=sizeLine;decide));have abQ:∀b,b≠z->b≠i1->b≠TO->b≠i2->h5.get? b=s.heap.get? b:=λb n1 n2 n3 n4=>(b5.2 b n3).trans ((b4.2 b n4).trans (Ð b n1 n2 n3));have kp:∀b o,h5.get? b=am o->(h5.push {cls:=.type "tuple",data:=.seq #[x,y]}).get? b=am o:=λb o e=>Ah _ e;refine Aa ?_;refine Aa (AL (kp _ _ ((b5.2 _ hA.TOz.symm).trans ((b4.2 _ hA.i2z.symm).trans ((b3.2 _ hA.TOz.symm).trans ((b2.2 _ hA.i1z.symm).trans z1))))) (show 0 < 5 by decide) λh7 z7 b7=>?_);refine AL z7 (show 1 < 5 by decide) λh8 z8 b8=>?_;have Mp:∀b,b≠z->h8.get? b=(h5.push {cls:=.type "tuple",data:=.seq #[x,y]}).get? b:=λb n=>(b8.2 b n).trans (b7.2 b n);have nz:s.heap.objs.size≠z:=λe=>by have:=Ap hz;rw[<- e]at this;exact AB _ this
 refine Af ⟨.ref h5.objs.size,rfl,?_⟩;rw[Ē];refine q h8 ⟨?_,?_,?_,?_,?_⟩ ?_ ?_
 .rw[<- Ē];exact z8
 .rw[IR,Mp _ hA.TIz];exact kp _ _ ((abQ _ hA.TIz hA.TIi1 hA.TITO hA.TIi2).trans TC)
 .exact⟨x,y,by rw[IR,Mp _ hA.TOz];exact kp _ _ to5⟩
 .refine j2.move λo e=>?_;rw[Mp _ hA.i1z];exact kp _ _ ((b5.2 _ hA.TOi1.symm).trans ((b4.2 _ hA.i12).trans ((b3.2 _ hA.TOi1.symm).trans e)))
 .refine j4.move λo e=>?_;rw[Mp _ hA.i2z];exact kp _ _ ((b5.2 _ hA.TOi2.symm).trans e)
 .rw[IR,Mp _ nz,<- Ē];exact(An _ rfl)
 .intro c o n1 n2 n3 n4 e;rw[Mp _ n1];exact kp _ _ ((abQ _ n1 n3 n2 n4).trans e)
def uF{s:cr}{b2:Bool}{TI TO:db}{Q:PySem.Fin->cr->Prop}(hh:A.handled=ce)(hA:ZipApart z TI TO i1 i2 a1 a2)(hz:jB b1 b2 s.heap z TI TO i1 i2 a1 a2 .none k1 k2)(Vz:ik b1 s.heap a1 xs)(IL:ik b2 s.heap a2 ys)(hx:xs[k1]?=ce\/ys[k2]?=ce)(q:∀(h':pr) (e:db),(∀c o,c≠z->c≠TO->c≠i1->c≠i2->s.heap.get? c=am o->h'.get? c=am o)->(∃o,h'.get? e=am o/\o.cls=.type "StopIteration")->E (.ref e) {s with heap:=h'}):ga (gl prog w) A (wn.«zip.__next__» {pos:=[.ref z]}) Q E s:=by
 obtain⟨hz,TC,⟨ta,tb,ğ⟩,Yl,ĩ⟩:=hz;show ga _ _ (field (.ref z) 2 >>= λr=>_) _ _ s;refine Aa (A4 hz rfl rfl ?_);refine Aa (A4 hz rfl rfl ?_);refine Aa (Bu TC rfl ?_);refine Aa ?_;refine Aa (A4 hz rfl rfl ?_);refine Af ?_;refine Aa (C3 ?_);refine Aa (A4 hz rfl rfl ?_);refine Aa (AL hz (show 0 < 5 by decide) λh1 z1 b1'=>?_);show ga _ _ ((forIn [(AJ i1,0),(AJ i2,1)] _ _) >>= λr=>_) _ _ _;refine Aa ?_;have uY:=b1'.2;refine Aa ?_;refine Aa (EZ ?_);have fin:∀{h2:pr}{e:db}{R:ci->cr->Prop},h2.get? z=am {cls:=.type "zip",data:=.fields #[.ellipsis,.bool false,.bool false,.ref TI,.ref TO]}->(∃o,h2.get? e=am o/\o.cls=.type "StopIteration")->(∀c o,c≠z->c≠TO->c≠i1->c≠i2->s.heap.get? c=am o->h2.get? c=am o)->ga (gl prog w) A (setField (.ref z) 0 .none) (λ_ s'=>E (.ref e) s') R {s with heap:=h2}:=λ{h2 e R} z2 ex k=>by
  refine AL z2 (show 0<5 by decide) λh3 z3 b3=>?_;refine q h3 e (λc o n1 n2 n3 n4 ec=>?_) ?_
  .rw[b3.2 _ n1];exact k c o n1 n2 n3 n4 ec
  .obtain⟨o,eo,hc⟩:=ex;by_cases he:e=z
   .subst he;rw[z2]at eo;cases eo;exact absurd (show C2 "zip"=C2 "StopIteration" from hc) ⋯
   .exact⟨o,(b3.2 _ he).trans eo,hc⟩
 cases hx1:xs[k1]? with
 |none=>
  exact Aa (sS hh (Yl.move λo e=>(uY _ hA.i1z).trans e) (Vz.move λo e=>(uY _ hA.l1z).trans e) hx1 λh2 e k ex=>fin (k _ _ hA.i1z.symm z1) ex λc o n1 n2 n3 n4 ec=>k _ _ n3 ((uY _ n1).trans ec))
 |some x=>
  have hy:ys[k2]?=ce:=by
   rcases hx with h|h
   .rw[hx1]at h;cases h
   .exact h
  refine Aa (j9 (Yl.move λo e=>(uY _ hA.i1z).trans e) (Vz.move λo e=>(uY _ hA.l1z).trans e) hx1 λh2 j2 b2'=>Af ?_);have PQ:∀b,b≠z->b≠i1->h2.get? b=s.heap.get? b:=λb n1 n2=>(b2'.2 b n2).trans (uY b n1);have Þ:=(PQ _ hA.TOz hA.TOi1).trans ğ;refine Aa (Bu Þ rfl ?_);refine Aa (D4 Þ λh3 t3 b3=>?_);have Ð:∀b,b≠z->b≠i1->b≠TO->h3.get? b=s.heap.get? b:=λb n1 n2 n3=>(b3.2 b n3).trans (PQ b n1 n2);exact Aa (Cy (Af (Aa (Aa (EZ (Aa (sS hh (ĩ.move λo e=>(Ð _ hA.i2z hA.i12.symm hA.TOi2.symm).trans e) (IL.move λo e=>(Ð _ hA.l2z hA.l2i1 hA.l2TO).trans e) hy λh4 e k ex=>fin (k _ _ hA.i2z.symm ((b3.2 _ hA.TOz.symm).trans ((b2'.2 _ hA.i1z.symm).trans z1))) ex λc o n1 n2 n3 n4 ec=>k _ _ n4 ((Ð _ n1 n3 n2).trans ec))))))))
def oT{s:cr}{b2:Bool}{TI TO:db}{y:ci}{Q:Option ci->cr->Prop}(hA:ZipApart z TI TO i1 i2 a1 a2)(hz:jB b1 b2 s.heap z TI TO i1 i2 a1 a2 .none k1 k2)(Vz:ik b1 s.heap a1 xs)(IL:ik b2 s.heap a2 ys)(hx:xs[k1]?=am x)(hy:ys[k2]?=am y)(q:∀h':pr,jB b1 b2 h' z TI TO i1 i2 a1 a2 (wT s.heap.objs.size) (k1+1) (k2+1)->IR h' s.heap.objs.size x y->(∀c o,c≠z->c≠TO->c≠i1->c≠i2->s.heap.get? c=am o->h'.get? c=am o)->Q (am (.ref s.heap.objs.size)) {s with heap:=h'}):ga (gl prog w) A (Pi (.ref z)) Q E s:=by
 have ty:s.TypeIs (.ref z) "zip":=⟨_,hz.zip,rfl⟩;refine Aa (CB (A6 ty D7 (Bm D7 ty F.entry_zip_next ?_ (F.args_zip_next_1 _))));exact rS hA hz Vz IL hx hy λh' a b c=>Af (q h' a b c)
def qv{s:cr}{b2:Bool}{TI TO:db}{Q:Option ci->cr->Prop}(hh:A.handled=ce)(hA:ZipApart z TI TO i1 i2 a1 a2)(hz:jB b1 b2 s.heap z TI TO i1 i2 a1 a2 .none k1 k2)(Vz:ik b1 s.heap a1 xs)(IL:ik b2 s.heap a2 ys)(hx:xs[k1]?=ce\/ys[k2]?=ce)(q:∀h':pr,(∀c o,c≠z->c≠TO->c≠i1->c≠i2->s.heap.get? c=am o->h'.get? c=am o)->Q ce {s with heap:=h'}):ga (gl prog w) A (Pi (.ref z)) Q E s:=by
 have ty:s.TypeIs (.ref z) "zip":=⟨_,hz.zip,rfl⟩;refine Aa (CB (A6 ty D7 (Bm D7 ty F.entry_zip_next ?_ (F.args_zip_next_1 _))));refine uF hh hA hz Vz IL hx λh' e k ex=>?_;obtain⟨o,eo,hc⟩:=ex;exact Aa (C9 ⟨o,eo,hc⟩ isSubtype_stop (Af (q h' k)))
def sT(b1 b2:Bool)(a1 a2:db)(xs ys:Array ci):Meets (wn.«zip.__new__» {pos:=[.type "zip",.ref a1,.ref a2]}) (λ_ R s=>ik b1 s.heap a1 xs/\ik b2 s.heap a2 ys/\
  ∀h':pr,jB b1 b2 h' (s.heap.objs.size+4) (s.heap.objs.size+2) (s.heap.objs.size+3) s.heap.objs.size (s.heap.objs.size+1) a1 a2 .none 0 0->(∀b o,s.heap.get? b=am o->h'.get? b=am o)->R (.ok (.ret (.ref (s.heap.objs.size+4)))) {s with heap:=h'}):=
 .of_wp λprog w A R s h=>by
  obtain⟨h1,h2,q⟩:=h;refine Aa ?_;refine Aa (Br rfl ?_);refine Aa (Br sub_zip ?_);refine Af ?_;refine Aa ?_;refine Aa ?_;rw[Cs];refine Aa ?_;refine Aa (Bp (vE h1 (Af ?_)));have k1:∀b o,s.heap.get? b=am o->(s.heap.push {cls:=.type (Ma b1),data:=.fields #[.ref a1,.int 0 0]}).get? b=am o:=λb o e=>Ah _ e;have g1:(s.heap.push {cls:=.type (Ma b1),data:=.fields #[.ref a1,.int 0 0]}).get? s.heap.objs.size=am {cls:=.type (Ma b1),data:=.fields #[.ref a1,.int 0 0]}:=An _ rfl;have z1:(s.heap.push {cls:=.type (Ma b1),data:=.fields #[.ref a1,.int 0 0]}).objs.size=s.heap.objs.size+1:=Bt ..;generalize s.heap.push {cls:=.type (Ma b1),data:=.fields #[.ref a1,.int 0 0]}=yR at k1 g1 z1 ⊢;show ga _ _ (forIn [AJ a2] _ _) _ _ _;rw[Cs];refine Aa ?_;refine Aa (Bp (vE (h2.move λo e=>k1 _ _ e) (Af ?_)));show ga _ _ (forIn [] _ _) _ _ _;refine Af (Af ?_);have k2:∀b o,yR.get? b=am o->(yR.push {cls:=.type (Ma b2),data:=.fields #[.ref a2,.int 0 0]}).get? b=am o:=λb o e=>Ah _ e;have g2:(yR.push {cls:=.type (Ma b2),data:=.fields #[.ref a2,.int 0 0]}).get? yR.objs.size=am {cls:=.type (Ma b2),data:=.fields #[.ref a2,.int 0 0]}:=An _ rfl;have z2:(yR.push {cls:=.type (Ma b2),data:=.fields #[.ref a2,.int 0 0]}).objs.size=yR.objs.size+1:=Bt ..;show ga _ _ (newTuple [.ref s.heap.objs.size,.ref yR.objs.size] >>= λr=>_) _ _ {s with heap:=yR.push {cls:=.type (Ma b2),data:=.fields #[.ref a2,.int 0 0]}};generalize yR.push {cls:=.type (Ma b2),data:=.fields #[.ref a2,.int 0 0]}=yQ at k2 g2 z2 ⊢;refine Aa (CH ?_ (by show 2<=sizeLine;decide));have k3:∀b o,yQ.get? b=am o->(yQ.push {cls:=.type "tuple",data:=.seq [AJ s.heap.objs.size,AJ yR.objs.size].toArray}).get? b=am o:=λb o e=>Ah _ e;have g3:(yQ.push {cls:=.type "tuple",data:=.seq [AJ s.heap.objs.size,AJ yR.objs.size].toArray}).get? yQ.objs.size=am {cls:=.type "tuple",data:=.seq #[.ref s.heap.objs.size,.ref yR.objs.size]}:=An _ rfl;have z3:(yQ.push {cls:=.type "tuple",data:=.seq [AJ s.heap.objs.size,AJ yR.objs.size].toArray}).objs.size=yQ.objs.size+1:=Bt ..;generalize yQ.push {cls:=.type "tuple",data:=.seq [AJ s.heap.objs.size,AJ yR.objs.size].toArray}=Mh at k3 g3 z3 ⊢;refine Aa (CH ?_ (by show 2<=sizeLine;decide));have k4:∀b o,Mh.get? b=am o->(Mh.push {cls:=.type "tuple",data:=.seq [A3,A3].toArray}).get? b=am o:=λb o e=>Ah _ e;have g4:(Mh.push {cls:=.type "tuple",data:=.seq [A3,A3].toArray}).get? Mh.objs.size=am {cls:=.type "tuple",data:=.seq #[.none,.none]}:=An _ rfl;have z4:(Mh.push {cls:=.type "tuple",data:=.seq [A3,A3].toArray}).objs.size=Mh.objs.size+1:=Bt ..;show ga _ _ (newObj (.type "zip") (.fields #[.none,.bool false,.bool false,.ref yQ.objs.size,.ref Mh.objs.size]) >>= λr=>_) _ _ {s with heap:=Mh.push {cls:=.type "tuple",data:=.seq [A3,A3].toArray}};generalize Mh.push {cls:=.type "tuple",data:=.seq [A3,A3].toArray}=Zp at k4 g4 z4 ⊢;refine Aa (BK ?_ (by simp[sizeOk];decide));have k5:∀b o,Zp.get? b=am o->(Zp.push {cls:=.type "zip",data:=.fields #[.none,.bool false,.bool false,.ref yQ.objs.size,.ref Mh.objs.size]}).get? b=am o:=λb o e=>Ah _ e;have g5:(Zp.push {cls:=.type "zip",data:=.fields #[.none,.bool false,.bool false,.ref yQ.objs.size,.ref Mh.objs.size]}).get? Zp.objs.size=am {cls:=.type "zip",data:=.fields #[.none,.bool false,.bool false,.ref yQ.objs.size,.ref Mh.objs.size]}:=An _ rfl;have e1:=z1;have e2:yQ.objs.size=s.heap.objs.size+2:=by rw[z2,e1]
  have e3:Mh.objs.size=s.heap.objs.size+3:=by rw[z3,e2]
  have e4:Zp.objs.size=s.heap.objs.size+4:=by rw[z4,e3]
  refine Af ⟨.ref Zp.objs.size,rfl,?_⟩;rw[e2,e3]at g5 k5 ⊢;rw[e4]at g5 ⊢;rw[e3]at g4;rw[e1,e2]at g3;rw[e1]at g2;refine q _ ⟨g5,k5 _ _ (k4 _ _ g3),⟨_,_,k5 _ _ g4⟩,J8 (k5 _ _ (k4 _ _ (k3 _ _ (k2 _ _ g1)))),J8 (k5 _ _ (k4 _ _ (k3 _ _ g2)))⟩ λb o e=>k5 _ _ (k4 _ _ (k3 _ _ (k2 _ _ (k1 _ _ e))))
def MR{s:cr}{b2:Bool}(h1:ik b1 s.heap a1 xs)(h2:ik b2 s.heap a2 ys)(q:∀h':pr,jB b1 b2 h' (s.heap.objs.size+4) (s.heap.objs.size+2) (s.heap.objs.size+3) s.heap.objs.size (s.heap.objs.size+1) a1 a2 .none 0 0->(∀b o,s.heap.get? b=am o->h'.get? b=am o)->Q (.ref (s.heap.objs.size+4)) {s with heap:=h'}):ga (gl prog w) A (call (.type "zip") [.ref a1,.ref a2]) Q E s:=
 callType_new F.called_zip ⋯ (F.typeCall_zip_2 _ _) (F.newCall_zip_2 _ _) (λo=>F.args_object_init_3 o _ _) F.entry_zip_new (sT b1 b2 a1 a2 xs ys) ⟨h1,h2,λh' z k=>⟨⟨_,z.zip,rfl⟩,q h' z k⟩⟩
def Np(b:Bool)(K:Ab)(H:Hp)(a:db)(xs:O V):Prop:=match b with
 |true=>bH K H a xs
 |false=>dF K H a xs
def Inv.Za{s:cr}{xs:O V}(I:Inv X U σ H s)(h:Np b X.K H a xs):∃aq:O ci,Vals xs aq/\ik b s.heap a aq.toArray/\xs.length<=sizeLine:=by
 cases b with
 |true=>obtain⟨aq,r,p,z⟩:=I.list (h);exact⟨aq,r,p.isList,z⟩
 |false=>obtain⟨aq,r,p,z⟩:=I.tuple (h);exact⟨aq,r,p,z⟩
def Inv.J7{s:cr}{xs ys:O V}(I:Inv X U σ H s)(h:Np b X.K H a xs)(h':Np b X.K H a ys):xs=ys:=by
 cases b with
 |true=>
  obtain⟨aq,k,⟨o,n,h1,h2,h3,h4⟩,_⟩:=I.list (h);obtain⟨dQ,k',⟨o',n',fV,uE,PN,Yr⟩,_⟩:=I.list (h');rw[h1]at fV;cases fV;rw[h4]at Yr;have:aq=dQ:=by injection Yr with a b;simpa using a
  subst this;exact Vals.inj k k'
 |false=>exact I.kJ h h'
def acG(b1 b2:Bool)(K:Ab)(a1 a2:db):It where
 go:=λi H=>∃xs ys x y,Np b1 K H a1 xs/\Np b2 K H a2 ys/\xs[i]?=am x/\ys[i]?=am y
 Ro:=λi H v H'=>∃p x y,v=.ref p/\H p=ce/\H'=upd H p (.tup [x,y])/\(∀xs,Np b1 K H a1 xs->xs[i]?=am x)/\∀ys,Np b2 K H a2 ys->ys[i]?=am y
 stop:=λi H=>∃xs ys,Np b1 K H a1 xs/\Np b2 K H a2 ys/\(xs.length<=i\/ys.length<=i)
theorem Lo{K:Ab}{b2:Bool}{kk:Nat}{TI TO:db}(hA:ZipApart z TI TO i1 i2 a1 a2):Turn P w K (.Tuple Ì kk pos) (acG b1 b2 K a1 a2) [z,TI,TO,i1,i2] z (λi h=>jB b1 b2 h z TI TO i1 i2 a1 a2 .none i i) where
 mem:=by simp
 obj:=λi h st b hb=>by
  simp at hb;rcases hb with rfl|rfl|rfl|rfl|rfl
  .exact⟨_,st.zip,λv z=>by cases z⟩
  .exact⟨_,st.ti,λv z=>by cases z⟩
  .obtain⟨_,_,e⟩:=st.to;exact⟨_,e,λv z=>by cases z⟩
  .exact st.it1.obj
  .exact st.it2.obj
 keep:=λi h h' st k=>⟨k z (by simp) _ st.zip,k TI (by simp) _ st.ti,let ⟨a,b,e⟩:=st.to;⟨a,b,k TO (by simp) _ e⟩,st.it1.move λo e=>k i1 (by simp) _ e,st.it2.move λo e=>k i2 (by simp) _ e⟩
 item:=by
  intro X hP hw hK hc i U s σ H E I hf st hg;subst hP hw hK;obtain⟨xs,ys,x,y,hx,hy,gx,gy⟩:=hg;obtain⟨aq,rx,tx,_⟩:=I.Za hx;obtain⟨cT,ry,ty,_⟩:=I.Za hy;obtain⟨u,gu,ru⟩:=jR rx gx;obtain⟨v,gv,rv⟩:=jR ry gy;refine oT hA st tx ty (by simpa using gu) (by simpa using gv) λh' zt np k=>?_;refine⟨_,rfl,?_⟩;refine Aa (wpAny_load zt.zip ?_);show ga _ _ (if ((["enumerate","zip","dict_itemiterator","dict_reverseitemiterator","odict_iterator","itertools.zip_longest","itertools.pairwise"].contains "zip"&&(am (wT s.heap.objs.size)==am (wT s.heap.objs.size)))=true) then (do rule "for.unpacks-the-owned-tuple";setField (.ref z) 0 .none) else pure ()) _ _ _;rw[if_pos (by rw[beq_self_eq_true];decide)];refine Aa (C3 ?_);refine AL zt.zip (show 0 < 5 by decide) λh2 z2 b2=>?_;have lt:∀b∈[z,TI,TO,i1,i2],b < s.heap.objs.size:=λb hb=>by
   simp only[AD,CJ,or_false]at hb;rcases hb with rfl|rfl|rfl|rfl|rfl
   .exact Ap st.zip
   .exact Ap st.ti
   .obtain⟨_,_,e⟩:=st.to;exact Ap e
   .obtain⟨o,e,_⟩:=st.it1.obj;exact Ap e
   .obtain⟨o,e,_⟩:=st.it2.obj;exact Ap e
  have XM:∀b o,b∉[z,TI,TO,i1,i2]->s.heap.get? b=am o->h2.get? b=am o:=λb o hb e=>by
   have Px:b≠z:=λq=>hb (by simp[q]);rw[b2.2 b Px];exact k b o Px (λq=>hb (by simp[q])) (λq=>hb (by simp[q])) (λq=>hb (by simp[q])) e
  refine⟨.ref s.heap.objs.size,upd H s.heap.objs.size (.tup [x,y]),I.m6 hf XM (Ak _) ⟨by show 2<=sizeLine;decide,[u,v],.cons ru (.cons rv .nil),⟨_,((b2.2 _ (λe=>AB _ (by have:=lt z (by simp);rw[<- e]at this;exact this))).trans np),rfl,_,rfl⟩,_,((b2.2 _ (λe=>AB _ (by have:=lt z (by simp);rw[<- e]at this;exact this))).trans np),rfl⟩,rfl,⟨_,x,y,rfl,(I.bg.fresh (Ak s.heap.objs.size)),rfl,λxs' h'=>?_,λys' h'=>?_⟩,⟨z2,(b2.2 _ hA.TIz).trans zt.ti,let ⟨p,q,e⟩:=zt.to;⟨p,q,(b2.2 _ hA.TOz).trans e⟩,zt.it1.move λo e=>(b2.2 _ hA.i1z).trans e,zt.it2.move λo e=>(b2.2 _ hA.i2z).trans e⟩,λb hb=>?_⟩
  .rw[I.J7 h' hx];exact gx
  .rw[I.J7 h' hy];exact gy
  .rw[ak (AE (lt b hb))];exact(hf b hb).1
 done:=by
  intro X hP hw hK hc i U s σ H E I hf st hg;subst hP hw hK;obtain⟨xs,ys,hx,hy,hl⟩:=hg;obtain⟨aq,rx,tx,_⟩:=I.Za hx;obtain⟨cT,ry,ty,_⟩:=I.Za hy;have el:=rx.length;have Ĉ:=ry.length;refine qv (I.ok.hd hc) hA st tx ty ?_ λh' k=>⟨rfl,I.qX (t':=s.toks) hf λb o hb e=>k b o (λz=>hb (by simp[z])) (λz=>hb (by simp[z])) (λz=>hb (by simp[z])) (λz=>hb (by simp[z])) e⟩;rcases hl with hl|hl
  .exact .inl (by simp;lia)
  .exact .inr (by simp;lia)
 self:=λA i s Q E st h=>wpAny_pyIter_zip st.zip h
def abl(K:Ab)(t1 t2:TE):TI:=λσ H R=>t1 σ H λx H1=>t2 σ H1 λy H2=>∃b1 b2 a b,x=.ref a/\y=.ref b/\(∃xs,Np b1 K H2 a xs)/\(∃ys,Np b2 K H2 b ys)/\R (acG b1 b2 K a b) H2
def Sk(K:Ab)(hK:X.K=K){t2:TE}{kk:Nat}{p2:Pos}(hg:Gl X "zip")(hm:X.mg "zip"=ce)(h1:PE X e1 t1)(h2:PE X e2 t2)(oC:‹gt [e1,e2] X.env=(false,o0 e1 X.env)::gt [e2] X.env›)(uC:‹gE X e2 []›)(dG:‹(t0 p2 (gt [e2] X.env)).any (·.1)=false›):PI X (.Tuple Ì kk tp) (.Call (.Name "zip" p1) [e1,e2] [] p2) (abl K t1 t2):=by
 subst hK;intro U s σ H R I h;refine BD (gp I hg hm boot_zip ?_ ⋯ ⋯);refine Bj ?_ oC dG;rw[oC,uC];refine B5 (bN (h1 U s σ H _ I h) λu1 s1 ⟨x,H1,I1,r1,q1⟩=>?_);refine B5 (bN (h2 U s1 σ H1 _ I1 q1) λu2 s2 ⟨y,H2,I2,r2,b1,b2,a,b,ex,ey,⟨xs,hx⟩,⟨ys,hy⟩,q⟩=>Cv ?_);subst ex;subst ey;cases r1;cases r2;obtain⟨aq,rx,tx,_⟩:=I2.Za hx;obtain⟨cT,ry,ty,_⟩:=I2.Za hy;refine MR tx ty λh' zt k=>?_;refine wpAny_pyIter_zip zt.zip ?_;have dd:∀i j:Nat,i≠j->s2.heap.objs.size+i≠s2.heap.objs.size+j:=λi j n e=>n (Nat.add_left_cancel e);have na:∀i:Nat,a≠s2.heap.objs.size+i:=λi=>AE (Ay tx.lt (Bf _ _));have nb:∀i:Nat,b≠s2.heap.objs.size+i:=λi=>AE (Ay ty.lt (Bf _ _));have hA:ZipApart (s2.heap.objs.size+4) (s2.heap.objs.size+2) (s2.heap.objs.size+3) s2.heap.objs.size (s2.heap.objs.size+1) a b:=
  ⟨dd 2 4 ⋯,dd 3 4 ⋯,dd 0 4 ⋯,dd 1 4 ⋯,dd 2 3 ⋯,dd 2 0 ⋯,dd 2 1 ⋯,dd 3 0 ⋯,dd 3 1 ⋯,dd 0 1 ⋯,na 4,na 3,na 0,na 1,nb 4,nb 3,nb 0,nb 1⟩
 refine⟨_,_,_,_,H2,rfl,I2.kept k,Lo hA,zt,λc hc=>?_,q⟩;have Ë:s2.heap.objs.size<=c:=by
  simp at hc;rcases hc with rfl|rfl|rfl|rfl|rfl
  .exact Bf _ _
  .exact Bf _ _
  .exact Bf _ _
  .exact Ak _
  .exact Bf _ _
 exact I2.xW Ë (I2.bg.fresh Ë)
def aaC(K:Ab):R2:=λx y H Q=>∃a b xs ys,x=.ref a/\y=.ref b/\dF K H a xs/\dF K H b ys/\xs.length+ys.length<=sizeLine/\
 (xs=[]->Q (.ref b) H)/\(xs≠[]->ys=[]->Q (.ref a) H)/\(xs≠[]->ys≠[]->jM H (.tup (xs++ys)) Q)
def SA(K:Ab)(hK:X.K=K):ip X (u8 .Add) (aaC K):=by
 subst hK;intro U s σ H x y v u Q I rx ry h;obtain⟨a,b,xs,ys,rfl,rfl,ha,hb,hz,q0,q1,q2⟩:=h;by_cases c:xs=[]
 .cases rx;cases ry;obtain⟨aq,r1,p1,_⟩:=I.tuple ha;obtain⟨cT,r2,p2,_⟩:=I.tuple hb;obtain⟨⟨cls,dd,data,sl⟩,ho,hc,n,hd⟩:=id p1;obtain⟨⟨YU,Us,data2,Q9⟩,Mj,VL,n2,Ó⟩:=id p2;subst hc hd VL Ó;exact concat_meets ⟨_,ho,rfl⟩ ⟨_,Mj,rfl⟩ noFill_tuple_add seq_tuple_add Dy Du (Dl _ _)
   (tuple_addW0 a b aq.toArray cT.toArray n n2 dd Us sl Q9 (by rw[r1.i8.mpr c];rfl)) ⟨ho,Mj,.ref b,H,I,rfl,q0 c⟩
 .exact Ko U s σ H _ _ v u Q I rx ry ⟨a,b,xs,ys,rfl,rfl,ha,hb,c,hz,q1 c,λn p hp=>(q2 c n).at p hp⟩
end L2
variable{b:BC}
namespace FL
section
variable[bL]
variable{K:Ab}
section
variable{a:nw}{p2:Pos}{wm:W (O PV)}
def addW:PV->PV->W PV
 |.int i,.int j=>.ret (.int (i+j))
 |.str a,.str b=>.d8 (a.length+b.length<=sizeLine) (.ret (.str (a++b)))
 |.tup a,.tup b=>.d8 (a.length+b.length<=sizeLine) (.ret (.tup (a++b)))
 |_,_=>.fail
def dY{f2:aL}(hK:X.K=K)(ha:EF X K fs a wa f1)(hb:EF X K f1 b wb f2):EF X K fs (.BinOp a .Add b pos) (.bind wa λx=>.bind wb λy=>addW x y) f2:=
 ⟨PE.imp (cV ((kN K hK).or (SA K hK)) ha.p hb.p) λσ H Q ⟨sr,q⟩=>⟨sr,wa.mono (λx q1 u1 H1 g1 s1 v1=>⟨s1,wb.mono (λy q2 u2 H2 g2 s2 v2=>by
  have Đ:=g2.vr s1 v1;cases Đ with
  |int i=>
   cases v2 with
   |int j=>exact .inl ⟨_,rfl,q2 _ H2 (g1.trans g2) s2 (.int _)⟩
   |_=>exact q2.elim
  |str i=>
   cases v2 with
   |str j=>exact .inl ⟨_,rfl,q2.1,q2.2 _ H2 (g1.trans g2) s2 (.str _)⟩
   |_=>exact q2.elim
  | @tup p vs l e r=>
   cases v2 with
   | @tup p' vs' l' e' r'=>
    refine .inr ⟨p,p',vs,vs',rfl,rfl,dF.of e,dF.of e',by rw[r.length,r'.length];exact q2.1,λz=>?_,λ_ z=>?_,λ_ _ q H3 s3 h3 n3=>?_⟩
    .have z':=(PL.aB.i8 r).mp z;subst z';exact q2.2 _ H2 (g1.trans g2) s2 (.tup e' r')
    .have z':=(PL.aB.i8 r').mp z;subst z';have q2:=q2.2;rw[CU]at q2;exact q2 _ H2 (g1.trans g2) s2 (.tup e r)
    .exact q2.2 _ H3 ((g1.trans g2).trans (ck.same s3)) (s2.same s3) (.tup h3 (aB.tk s3.eE (r.append r')))
   |_=>exact q2.elim
  |_=>exact q2.elim) q1⟩) q⟩⟩
theorem mY:∀(l m:O PV),(oG l m).length=min l.length m.length
 |[],m=>by rw[oG];simp;intros;simp_all
 |x::l,[]=>by rw[oG];simp;intros;simp_all
 |x::l,y::m=>by rw[oG,Aw,mY l m];simp only[Aw];lia
def Lk(l m:O PV):W (O PV):=.d8 (l.length<=sizeLine) (.ret (oG l m))
def UZ{l:O PV}(h:Y1 K H u l):∃(b:Bool) (a:db) (vs:O V),u=.ref a/\aB K [] H vs l/\∀H',bc K H H'->Np b K H' a vs:=by
 obtain⟨a,vs,e,h|h,r⟩:=h
 .exact⟨true,a,vs,e,r,λH' t=>(t.f _ _ h).sq⟩
 .exact⟨false,a,vs,e,r,λH' t=>dF.of (t.t _ _ h)⟩
theorem Pp(hK:X.K=K){kk:Nat}(hg:Gl X "zip")(hm:X.mg "zip"=ce)(ha:IF X K fs a wl)(hb:IF X K fs b wm)(oC:‹gt [a,b] X.env=(false,o0 a X.env)::gt [b] X.env›)(uC:‹gE X b []›)(dG:‹(t0 p2 (gt [b] X.env)).any (·.1)=false›):mW X K fs (.Tuple Ì kk tp) (.Call (.Name "zip" p1) [a,b] [] p2) (.bind wl λl=>.bind wm λm=>Lk l m):=
 ⟨PI.imp (Sk K hK hg hm ha.p hb.p oC uC dG) λσ H R ⟨sr,q⟩=>⟨sr,wl.mono (λl q1 u1 H1 g1 s1 v1=>⟨s1,wm.mono (λm q2 u2 H2 g2 s2 v2=>by
  obtain⟨b1,a1,vs,rfl,r1,x1⟩:=UZ (v1.tk (g2.cD s1));obtain⟨b2,a2,ws,rfl,r2,x2⟩:=UZ v2;have tr:bc K H2 H2:=bc.refl H2;refine⟨b1,b2,a1,a2,rfl,rfl,⟨vs,x1 H2 tr⟩,⟨ws,x2 H2 tr⟩,q2.2 _ H2 (g1.trans g2) s2 ⟨by rw[mY];have:=q2.1;lia,λH' t=>⟨λi pp hp=>?_,vs,ws,x1 H' t,x2 H' t,?_⟩⟩⟩
  .obtain⟨x,y,hx,hy,rfl⟩:=rT hp;obtain⟨v,h3,h4⟩:=(aB.tk t r1).get hx;obtain⟨v',PN,Yr⟩:=(aB.tk t r2).get hy;refine⟨⟨vs,ws,v,v',x1 H' t,x2 H' t,h3,PN⟩,λz H3 yl=>?_⟩;obtain⟨p,x',y',rfl,hn,rfl,e1,e2⟩:=yl;have e1:=e1 vs (x1 H' t);have e2:=e2 ws (x2 H' t);rw[h3]at e1;rw[PN]at e2;cases e1;cases e2;have sm:=iz hn (.tup [v,v']);exact⟨sm,.tup aG (.cons (VR.tk sm.eE h4) (.cons (VR.tk sm.eE Yr) .nil))⟩
  .rw[mY,r1.length,r2.length];lia) q1⟩) q⟩⟩
variable{el eh:Option nw}{st:nw}{lo ws:W (Option Int)}
def RO(l:O PV)(i j k:Option Int):W (O PV):=.d8 (k≠am 0) (.ret (j6 l i j k))
def aa7(hK:X.K=K)(he:Hq X K fs e wl)(hl:OF X K fs el lo)(hh:OF X K fs eh hi)(hs:OF X K fs (am st) ws):LF X K fs (.Subscript e (.Slice el eh (am st) p2) pos) (.bind wl λl=>.bind lo λi=>.bind hi λj=>.bind ws λk=>RO l i j k):=
 ⟨PE.imp (LO K hK he.p hl.p hh.p hs.p) λσ H Q ⟨sr,q⟩=>⟨sr,wl.mono (λl q1 u1 H1 g1 s1 _ v1=>⟨s1,lo.mono (λi q2 H2 g2 s2=>⟨s2,hi.mono (λj q3 H3 g3 s3=>⟨s3,ws.mono (λk q4 H4 g4 s4=>by
 obtain⟨a,vs,rfl,h1,r1⟩:=v1 _ H4 ((g2.trans g3).trans g4) s4;exact⟨a,vs,rfl,h1,q4.1,vI (((g1.trans g2).trans g3).trans g4) s4 (r1.pick i j k) q4.2⟩) q3⟩) q2⟩) q1⟩) q⟩⟩
end
end
end FL
namespace L2
def aiG:O Int->Int
 |[]=>0
 |x::l=>l.foldl max x
def uO:O Int->Int
 |[]=>0
 |x::l=>l.foldl min x
theorem xX(l:O Int)(x:Int):l.foldl min x<=x/\(∀y∈l,l.foldl min x<=y)/\(l.foldl min x=x\/l.foldl min x∈l):=by
 induction l generalizing x with
 |nil=>exact⟨A5 _,by simp,.inl rfl⟩
 |cons y l ih=>
  obtain⟨h1,h2,h3⟩:=ih (min x y);refine⟨by rw[Dn];lia,λz hz=>?_,?_⟩
  .rw[Dn];rcases AD.mp hz with rfl|hz
   .omega
   .exact h2 z hz
  .rw[Dn];rcases h3 with h3|h3
   .rw[h3];by_cases c:y<=x
    .right;rw[Int.min_eq_right c];exact .head _
    .left;lia
   .exact .inr (.tail _ h3)
def rB{l:O Int}{x:Int}(h:x∈l):uO l<=x:=by
 cases l with
 |nil=>cases h
 |cons y l=>
  rcases AD.mp h with rfl|h
  .exact(xX l _).1
  .exact(xX l y).2.1 x h
def nH{l:O Int}(h:l≠[]):uO l∈l:=by
 cases l with
 |nil=>exact absurd rfl h
 |cons y l=>
  rcases (xX l y).2.2 with e|e
  .show l.foldl min y∈_;rw[e];exact .head _
  .exact .tail _ e
def Og(K:Ab)(C:O Int->Prop)(g:O Int->Int):O V->Hp->VK->Prop:=λxs H Q=>∃(p:db) (ns:O Int),xs=[.ref p]/\bH K H p (ns.map V.int)/\C ns/\Q (.int (g ns)) H
section
variable{s:cr}
theorem S1{xs:Array (Int×Tok)}(Mk:ns=xs.toList.map (·.1))(Ml:ns≠[]):numAt xs (argBest (λi j=>decide (numAt xs i<numAt xs j)) (xs.size-1))=uO ns:=by
 have uW:0<xs.size:=by
  have h3:=Dk.mpr Ml;rw[Mk,Ai,Eh]at h3;exact h3
 obtain⟨h1,h2⟩:=argBest_lt (numAt xs) (xs.size-1);apply Ec
 .have hm:=nH Ml;rw[Mk]at hm;obtain⟨j,hj,ej⟩:=mem_getD hm;rw[Ai,Eh]at hj;rw[<- Mk]at ej;rw[<- ej,Mk,<- numAt_eq];exact h2 j ∅
 .refine rB ?_;rw[Mk,numAt_eq];exact getD_mem (by rw[Ai,Eh];lia)
def Lv{l:db}{vs:O ci}(hh:A.handled=ce)(hl:s.heap.IsList l vs.toArray)(hi:xL vs ns)(h:∀(h':pr) (t:Tok) tk,(∀b o,s.heap.get? b=am o->h'.get? b=am o)->Q (.int ns.sum t) {s with heap:=h',toks:=tk}):ga (gl prog w) A (call (.builtin "sum") [.ref l]) Q E s:=by
 obtain⟨xs,e⟩:=hi.allInts.items;have Mk:ns=xs.toList.map (·.1):=by rw[<- hi.numsOf,<- nums_intItems,<- e]
 rw[e]at hl;refine sum_intListG hh hl λh' tk t' hk=>?_;have:=h h' t' tk hk;rw[preSum_eq,Ci (by simp),<- Mk];exact this
end
def MX{b:String}{C:O Int->Prop}{g:O Int->Int}(K:Ab)(hK:X.K=K)(hc:X.calm=true)(Ö:∀{s:cr}{l:db}{vs:O ci}{ns:O Int}{Q:ci->cr->Prop},X.A.handled=ce->s.heap.IsList l vs.toArray->xL vs ns->C ns->(∀(h':pr) (t:Tok) tk,(∀b o,s.heap.get? b=am o->h'.get? b=am o)->Q (.int (g ns) t) {s with heap:=h',toks:=tk})->ga (gl X.prog X.w) X.A (call (.builtin b) [.ref l]) Q X.xe s):cb X (.builtin b) (Og K C g):=by
 subst hK;intro U s σ H xs us Q I r h;obtain⟨p,ns,rfl,hq,hC,q⟩:=h;obtain⟨u,rfl,rx⟩:=vals1 r;cases rx;obtain⟨aq,r',pl,hz⟩:=I.list hq;exact Ö (I.ok.hd hc) pl.isList (intsAre_of r') hC λh' t tk hk=>⟨.int _,H,I.kept hk,⟨t,rfl⟩,q⟩
end L2
variable{x:PL.PV}
namespace FL
section
variable[bL]
variable{K:Ab}
section
variable{s:cr}
open Classical in
noncomputable def Jg(K:Ab)(H:Hp)(x:PV)(w:ci):Bool:=decide (∃p v,RelV v w/\VR K [] H v p/\hG p x=true)
open Classical in
def Qh(hK:X.K=K)(I:Inv X U σ H s){x p:PV}{v:V}{w:ci}(r:RelV v w)(h:VR K [] H v p):Jg K H x w=hG p x:=by
 subst hK;cases e:hG p x with
 |true=>exact decide_eq_true ⟨p,v,r,h,e⟩
 |false=>
  refine decide_eq_false ?_;rintro⟨p',v',r',h',e'⟩;have:=N8 r r';subst this;rw[VR.Nm I h h',e']at e;cases e
theorem rM(hK:X.K=K)(I:Inv X U σ H s):∀{vs:O V}{aq:O ci}{l:O PV},Vals vs aq->aB K [] H vs l->aq.map (Jg K H x)=l.map λy=>hG y x
 |_,_,_,.nil,.nil=>rfl
 |_,_,_,.cons r t,.cons q z=>by rw[AA,AA,Qh hK I r q,rM hK I t z]
def IJ(x:PV)(l:O PV):Prop:=PV.eR x=true/\dU l=true/\c6 l<=150
theorem pH(hK:X.K=K)(I:Inv X U σ H s){v:V}{w:ci}(hx:VR K [] H v x)(rx:RelV v w)(dx:PV.eR x=true)(hu:A.units+150+1<sK):∀{vs:O V}{aq:O ci}{l:O PV},Vals vs aq->aB K [] H vs l->dU l=true->c6 l<=150->∀u∈aq,DU A s u w (Jg K H x u)
 |_,_,_,.nil,.nil,_,_,u,hu=>by cases hu
 |_,_,_,.cons r t,.cons q z,d,dd,u,hm=>by
  rw[dU,A7]at d;rw[c6]at dd;rcases AD.mp hm with rfl|hm
  .rw[Qh hK I r q];exact(YT hK I 150 _ x A _ v _ w ∅ d.1 dx q hx r rx hu).eq
  .exact pH hK I hx rx dx hu t z d.2 ∅ u hm
end
def lI(x:PV)(l:O PV):Bool:=l.any λy=>hG y x
def W4(K:Ab)(neg:Bool):R2:=λx y H Q=>∃p vs l xp,y=.ref p/\(bH K H p vs\/dF K H p vs)/\aB K [] H vs l/\VR K [] H x xp/\IJ xp l/\Q (.bl (if neg then !lI xp l else lI xp l)) H
section
theorem any_map'(f:α->Bool):∀l:List α,l.any f=(l.map f).any id
 |[]=>rfl
 |x::l=>by rw[CW,AA,CW,any_map' f l];rfl
theorem OJ(K:Ab)(hK:X.K=K)(hu:X.A.units+200<sK):ip X (sw .In) (W4 K false):=by
 intro U s σ H x y v u Q I rx ry h;obtain⟨p,vs,l,xp,rfl,hq,hl,hx,ok,q⟩:=h;cases ry;have Ye:X.A.in1.units+150+1<sK:=by show X.A.units+1+150+1<_;lia
 have fin:∀{aq:O ci},Vals vs aq->aq.toArray.any (Jg K H xp)=lI xp l:=λ{aq} r=>by
  rw[show aq.toArray.any (Jg K H xp)=aq.any (Jg K H xp) by simp,any_map',rM hK I r hl,<- any_map'];rfl
 rcases hq with hq|hq
 .obtain⟨aq,r,pl,hz⟩:=I.list (show bH X.K H p vs by rw[hK];exact hq);refine SeqAt.in_listAt (Jg K H xp) pl.isList (λw hw=>pH hK I hx rx ok.1 Ye r hl ok.2.1 ok.2.2 w (by simpa using hw)) ⟨.bl _,H,I,rfl,?_⟩;rw[fin r];exact q
 .obtain⟨aq,r,pl,hz⟩:=I.tuple (show dF X.K H p vs by rw[hK];exact hq);refine SeqAt.in_tupleAt (Jg K H xp) pl (λw hw=>pH hK I hx rx ok.1 Ye r hl ok.2.1 ok.2.2 w (by simpa using hw)) ⟨.bl _,H,I,rfl,?_⟩;rw[fin r];exact q
theorem Sz(K:Ab)(hK:X.K=K)(hu:X.A.units+200<sK):ip X (sw .NotIn) (W4 K true):=by
 intro U s σ H x y v u Q I rx ry h;obtain⟨p,vs,l,xp,rfl,hq,hl,hx,ok,q⟩:=h;cases ry;have Ye:X.A.in1.units+150+1<sK:=by show X.A.units+1+150+1<_;lia
 have fin:∀{aq:O ci},Vals vs aq->aq.toArray.any (Jg K H xp)=lI xp l:=λ{aq} r=>by
  rw[show aq.toArray.any (Jg K H xp)=aq.any (Jg K H xp) by simp,any_map',rM hK I r hl,<- any_map'];rfl
 rcases hq with hq|hq
 .obtain⟨aq,r,pl,hz⟩:=I.list (show bH X.K H p vs by rw[hK];exact hq);refine SeqAt.notIn_listAt (Jg K H xp) pl.isList (λw hw=>pH hK I hx rx ok.1 Ye r hl ok.2.1 ok.2.2 w (by simpa using hw)) ⟨.bl _,H,I,rfl,?_⟩;rw[fin r];exact q
 .obtain⟨aq,r,pl,hz⟩:=I.tuple (show dF X.K H p vs by rw[hK];exact hq);refine SeqAt.notIn_tupleAt (Jg K H xp) pl (λw hw=>pH hK I hx rx ok.1 Ye r hl ok.2.1 ok.2.2 w (by simpa using hw)) ⟨.bl _,H,I,rfl,?_⟩;rw[fin r];exact q
def xN(x:PV)(l:O PV):Nat:=l.findIdx λy=>hG y x
end
end
section
variable[bL]
variable{K:Ab}
section
variable{a c:nw}
def qI(neg:Bool)(x:PV)(l:O PV):W Bool:=.d8 (IJ x l) (.ret (if neg then !lI x l else lI x l))
def Qb:∀σ H Q,fT K fs (.bind wa λx=>.bind wl λl=>qI neg x l) fs σ H Q->UR (W4 K neg) (fE K fs wa) (fQ K fs wl) σ H λx H'=>∃k,x=.bl k/\Q k H':=λσ H Q ⟨sr,q⟩=>
 ⟨sr,wa.mono (λx q1 u1 H1 g1 s1 v1=>⟨s1,wl.mono (λl q2 u2 H2 g2 s2 v2=>by
  obtain⟨ad,vs,rfl,h,rs⟩:=v2.sq s2;exact⟨ad,vs,l,x,rfl,h,rs,g2.vr s1 v1,q2.1,_,rfl,q2.2 H2 (g1.trans g2) s2⟩) q1⟩) q⟩
def Z0(hK:X.K=K)(hu:X.A.units+200<sK)(ha:EF X K fs a wa)(hb:QF X K fs b wl)(hk:‹ul .In b=false›):TF X K fs (.Compare a [.In] [b] pos) (.bind wa λx=>.bind wl λl=>qI false x l):=⟨PT.imp (gH (OJ K hK hu) ha.p hb.p hk) (Qb)⟩
def NH(hK:X.K=K)(hu:X.A.units+200<sK)(ha:EF X K fs a wa)(hb:QF X K fs b wl)(hk:‹ul .NotIn b=false›):TF X K fs (.Compare a [.NotIn] [b] pos) (.bind wa λx=>.bind wl λl=>qI true x l):=⟨PT.imp (gH (Sz K hK hu) ha.p hb.p hk) (Qb)⟩
abbrev X6(neg:Bool)(wa:W PV)(wl:W (O PV)):W Bool:=.bind wa λx=>.bind wl λl=>qI neg x l
def sk(l:O PV):W PV:=.bind (qf l) λns=>.ret (.int ns.sum)
def Me{C:O Int->Prop}{g:O Int->Int}{f:O PV->W PV}(hf:∀{l:O PV}{Q:PV->Prop},(f l).run Q->∃ns:O Int,l=ns.map PV.int/\C ns/\Q (.int (g ns))):∀σ H Q,fE K fs (.bind wl f) fs σ H Q->tCB (Og K C g) (NL (fQL K fs wl) Wv) σ H Q:=λσ H Q ⟨sr,q⟩=>⟨sr,wl.mono (λl q1 u1 H1 g1 s1 _ v1=>by
 obtain⟨ns,el,hC,q2⟩:=hf q1;obtain⟨a,vs,rfl,h1,r1⟩:=v1 _ H1 .refl s1;rw[el]at r1;have:=nT r1;subst this;exact⟨a,ns,rfl,h1,hC,q2 _ H1 g1 s1 (.int _)⟩) q⟩
def Lw{l:O PV}{Q:PV->Prop}(h:(sk l).run Q):∃ns:O Int,l=ns.map PV.int/\True/\Q (.int ns.sum):=let ⟨ns,e,q⟩:=kW h;⟨ns,e,trivial,q⟩
def Qm(hK:X.K=K)(hc:X.calm=true)(hg:Gl X "sum")(hm:X.mg "sum"=ce)(ha:Hq X K fs e wl)(he:‹gE X e []›)(dG:‹kH X pos []›):EF X K fs (.Call (.Name "sum" p) [e] [] pos) (.bind wl sk):=⟨PE.imp (fg (MX K hK hc λa b c _ q=>Lv a b c q) hg hm (show sn "sum"=am (.builtin "sum") by rfl) (aQ ha.p bq he) ⋯ ⋯ he dG) (Me Lw)⟩
def sortI(ns:O Int):O Int:=ns.mergeSort (λa b=>decide (a<=b))
theorem NU(h1:ms.Perm ns)(h2:ms.Pairwise (·<=·)):ms=sortI ns:=by
 exact List.Perm.eq_of_pairwise (λa b _ _ h h'=>Ec h h') h2 ((E6 (λa b c=>by simp;lia) (λa b=>by simp;lia) ns).imp (by simp)) (h1.trans (Dj ns _).symm)
def wL(l:O PV):W (O PV):=.bind (qf l) λns=>.d8 (ns.length<64) (.ret ((sortI ns).map PV.int))
def S8(hK:X.K=K)(hg:Gl X "sorted")(hm:X.mg "sorted"=ce)(ha:Hq X K fs e wl)(he:‹gE X e []›)(dG:‹kH X pos []›):LF X K fs (.Call (.Name "sorted" p) [e] [] pos) (.bind wl wL):=⟨PE.imp (fg (Jy K hK) hg hm boot_sorted (aQ ha.p bq he) ⋯ ⋯ he dG) λσ H Q ⟨sr,q⟩=>⟨sr,wl.mono (λl q1 u1 H1 g1 s1 _ v1=>by
 obtain⟨ns,el,hC,q2⟩:=kW q1;obtain⟨a,vs,rfl,h1,r1⟩:=v1 _ H1 .refl s1;rw[el]at r1;have:=nT r1;subst this;refine⟨a,ns,rfl,h1,hC,λms a2 a3=>?_⟩;rw[NU a2 a3];exact vI g1 s1 (xK _ _ _) q2) q⟩⟩
def Tw(l:O PV)(x:PV):W PV:=.d8 (IJ x l/\lI x l=true) (.ret (.int (xN x l)))
end
end
end FL
variable{vs:O (L2.Key×L2.V)}{ay:O (L2.Key×PL.PV)}
namespace FL
section
variable[bL]
variable{K:Ab}
abbrev w2(f:PV->PV->W PV)(wa wb:W PV):W PV:=.bind wa λx=>.bind wb λy=>f x y
def afX(ay:O (Key×PV))(k:Key):Bool:=ay.any λkv=>decide (kv.1=k)
def qK(ay:O (Key×PV))(k:Key):Option PV:=(ay.find? λkv=>decide (kv.1=k)).map (·.2)
def iq(K:Ab)(H:Hp)(vs:O (Key×V))(ay:O (Key×PV)):Prop:=vs.map (·.1)=ay.map (·.1)/\aB K [] H (vs.map (·.2)) (ay.map (·.2))
section
def iq.cons_inv{p:Key×V}{q:Key×PV}(h:iq K H (p::vs) (q::ay)):p.1=q.1/\VR K [] H p.2 q.2/\iq K H vs ay:=by
 obtain⟨h1,h2⟩:=h;injection h1 with a b;cases h2 with
 |cons r t=>exact⟨a,r,b,t⟩
theorem iq.ind{C:O (Key×V)->O (Key×PV)->Prop}(h0:C [] [])(h1:∀p q vs ay,p.1=q.1->VR K [] H p.2 q.2->iq K H vs ay->C vs ay->C (p::vs) (q::ay)):∀{vs ay},iq K H vs ay->C vs ay
 |[],[],_=>h0
 |[],_::_,h=>by simp[iq]at h
 |_::_,[],h=>by simp[iq]at h
 |p::vs,q::ay,h=>let ⟨a,b,c⟩:=h.cons_inv;h1 p q vs ay a b c (iq.ind h0 h1 c)
def iq.has(h:iq K H vs ay)(k:Key):(ir vs k).isSome=afX ay k:=by
 rw[<- yU];refine iq.ind (C:=λvs ay=>(vs.any λkv=>decide (kv.1=k))=ay.any λkv=>decide (kv.1=k)) rfl (λp q vs ay e _ _ ih=>?_) h;rw[CW,CW,ih,e]
def iq.get(h:iq K H vs ay)(k:Key)(g:qK ay k=am v):∃u,ir vs k=am u/\VR K [] H u v:=by
 refine iq.ind (C:=λvs ay=>qK ay k=am v->∃u,ir vs k=am u/\VR K [] H u v) (λg=>by simp[qK]at g) (λp q vs ay e r _ ih g=>?_) h g;by_cases c:p.1=k
 .rw[jS c];have c':=e▸c;have:qK (q::ay) k=am q.2:=by simp[qK,c']
  rw[this]at g;cases g;exact⟨_,rfl,r⟩
 .rw[jT c];have:qK (q::ay) k=qK ay k:=by simp[qK,(e▸c)]
  exact ih (this▸g)
end
end
end FL
variable{ay:O (O L2.Key×PL.PV)}
namespace FL
section
variable[bL]
variable{K:Ab}
def oB(K:Ab)(H:Hp)(vs:O (O Key×V))(ay:O (O Key×PV)):Prop:=vs.map (·.1)=ay.map (·.1)/\aB K [] H (vs.map (·.2)) (ay.map (·.2))
def UL(K:Ab)(H:Hp)(ob:HO)(v:PV):Prop:=(∃vs ay,ob=.dK vs/\v=dvK ay/\iq K H vs ay)\/∃vs ay,ob=.dT vs/\v=Qy ay/\oB K H vs ay
def fDv(K:Ab)(fs:aL)(w:W PV):TE:=λσ H Q=>aU K H σ fs/\w.run λv=>∀a ob H',ck σ fs H H'->aU K H' σ fs->H a=ce->H' a=am ob->UL K H' ob v->Q (.ref a) H'
structure DVF(X:Cx)(K:Ab)(fs:aL)(e:nw)(w:W PV):Prop where p:PE X e (fDv K fs w)
section
variable{σ:L2.St}{fs:aL}{H:Hp}{a:db}{ob:HO}{v:PV}
def aU.aaf(s:aU K H σ fs)(n:¬bP σ fs a)(e:H a=am ob)(n1:∀vs,ob≠.tup vs)(n2:∀o u,ob≠.cg o u)(n3:ob.ow=true)(o':HO):aU K (upd H a o') σ fs:=⟨s.len,λi t q=>by
 obtain⟨u,h1,h2⟩:=s.at' i t q;exact⟨u,h1,h2.mono (f7 o' e n1 n2) (λx b o eb ow hb z _=>by subst eb;rw[ak (λy:b=a=>n ⟨i,t,x,q,ow,h1,y▸hb⟩)];exact z)⟩,s.nd,s.tb.Ka (λb o n z=>by rw[ak n];exact z) e (OH n3) n2⟩
def UL.cg{X:Cx}{U:O (db×Obj)}{s:cr}{σ':L2.St}(I:Inv X U σ' H s)(e:H a=am ob)(d:UL K H ob v):∃u,Inv X U σ' (upd H a u) s/\VR K [] (upd H a u) (.ref a) v/\(∀vs,ob≠.tup vs)/\(∀o u,ob≠.cg o u)/\ob.ow=true:=by
 rcases d with⟨vs,ay,rfl,rfl,d1,d2⟩|⟨vs,ay,rfl,rfl,d1,d2⟩
 .obtain⟨o,I2⟩:=I.KY e;exact⟨_,I2,.dk aG (Vq d1) (aB.tk (f7 _ e (by simp) (by simp)) d2),by simp,by simp,rfl⟩
 .obtain⟨o,I2⟩:=I.freeze e;exact⟨_,I2,.dt aG (Vp d1) (aB.tk (f7 _ e (by simp) (by simp)) d2),by simp,by simp,rfl⟩
end
section
variable{a c:nw}{w:W PV}
def agi(h:DVF X K fs e w):EF X K fs e w:=⟨λU s σ H Q I ⟨sr,q⟩=>by
 refine bN (h.p U s σ H (λu H1=>∃a ob v,u=.ref a/\ck σ fs H H1/\aU K H1 σ fs/\H a=ce/\H1 a=am ob/\UL K H1 ob v/\∀u H',ck σ fs H H'->aU K H' σ fs->VR K [] H' u v->Q u H') I ⟨sr,w.mono (λv q1 a ob H1 g1 s1 n e d=>⟨a,ob,v,rfl,g1,s1,n,e,d,q1⟩) q⟩) λu s1 ⟨v,H1,I1,r1,a,ob,v',e,g1,WE,n,ea,d,q1⟩=>?_;subst e;obtain⟨o',I2,vr,n1,n2,n3⟩:=d.cg I1 ea;exact⟨.ref a,_,I2,r1,q1 _ _ (g1.side n (λφ z=>by rw[ea]at z;cases z;cases n3) _) (WE.aaf (λz=>sr.noOwn n z) ea n1 n2 n3 _) vr⟩⟩
def Kl(kv:O Key×PV):PV:=.tup [.tup (kv.1.map kP),kv.2]
theorem Pl(H:Hp):∀k:O Key,aB K [] H (k.map kV) (k.map kP)
 |[]=>.nil
 |.inl i::k=>.cons (.int i) (Pl H k)
 |.inr i::k=>.cons (.str i) (Pl H k)
theorem KL:∀{k:O Key}{vs:O V},aB K [] H vs (k.map kP)->vs=k.map kV
 |[],_,h=>by cases h;rfl
 |.inl i::k,_,h=>by
  cases h with
  |cons x t=>cases x;rw[KL t];rfl
 |.inr i::k,_,h=>by
  cases h with
  |cons x t=>cases x;rw[KL t];rfl
theorem zr:∀{ay:O (O Key×PV)}{vs:O V},aB K [] H vs (ay.map Kl)->∃zs:O Pz,vs=zs.map (λz=>V.ref z.pa)/\(∀z∈zs,z.At H)/\zs.map (·.k)=ay.map (·.1)/\aB K [] H (zs.map (·.v)) (ay.map (·.2))
 |[],_,h=>by cases h;exact⟨[],rfl,by simp,rfl,.nil⟩
 |kv::ay,_,h=>by
  cases h with
  |cons x t=>
  obtain⟨zs,z1,z2,z3,z4⟩:=zr t;cases x with
  | @tup p ws _ e r=>
  cases r with
  |cons x1 t1=>
  cases t1 with
  |cons x2 t2=>
  cases t2;cases x1 with
  | @tup b us _ e1 r1=>
  have:=KL r1;subst this;refine⟨⟨p,kv.1,b,_⟩::zs,by rw[AA,z1],λz hz=>?_,by rw[AA,AA,z3],.cons x2 z4⟩;rcases AD.mp hz with rfl|hz
  .exact⟨e,e1⟩
  .exact z2 z hz
def Jt(l:O PV):W PV:=⟨λQ=>∃ay:O (O Key×PV),l=ay.map Kl/\(ay.map (·.1)).Nodup/\ay.length<=1000/\Q (Qy ay),λf q=>q.imp λay h=>⟨h.1,h.2.1,h.2.2.1,f _ h.2.2.2⟩⟩
theorem Ut(hK:X.K=K)(hc:X.calm=true)(hu:X.A.units+200 < sK)(hg:Gl X "dict")(hm:X.mg "dict"=ce)(ha:Hq X K fs e wl)(he:‹gE X e []›)(dG:‹kH X pos []›):DVF X K fs (.Call (.Name "dict" p) [e] [] pos) (.bind wl Jt):=⟨PE.imp (kL (JE K hK hc ∅) hg hm boot_dict (aQ ha.p bq he) ⋯ ⋯ he dG) λσ H Q ⟨sr,q⟩=>⟨sr,wl.mono (λl q1 u H1 g1 s1 v0 v1=>by
  obtain⟨ay,rfl,nd,hl,q1⟩:=q1;obtain⟨a,vs,rfl,e3,e4⟩:=v1 _ H1 .refl s1;obtain⟨zs,rfl,z2,z3,z4⟩:=zr e4;have hzl:zs.length=ay.length:=by have:=congrArg Cb z3;simpa using this
  refine⟨a,zs,rfl,e3,z2,by rw[z3];exact nd,by lia,λp H2 s2 h2 n2=>?_⟩;exact q1 _ _ H2 (g1.trans (ck.same s2)) (s1.same s2) (g1.there _ n2) h2 (.inr ⟨_,_,rfl,rfl,by rw[A0,<- z3];rfl,by rw[A0];exact aB.tk s2.eE z4⟩)) q⟩⟩
def MK{Q:PV->Prop}(nd:(ay.map (·.1)).Nodup)(hl:ay.length<=1000)(q:Q (Qy ay)):(Jt (ay.map Kl)).run Q:=⟨ay,rfl,nd,hl,q⟩
def lJ(ay:O (O Key×PV))(k:O Key):Option PV:=(ay.find? λkv=>decide (kv.1=k)).map (·.2)
theorem oB.get{k:O Key}:∀{vs:O (O Key×V)}{ay:O (O Key×PV)},oB K H vs ay->(lJ ay k=ce->ir vs k=ce)/\∀{v},lJ ay k=am v->∃u,ir vs k=am u/\VR K [] H u v
 |[],[],_=>⟨λ_=>rfl,λg=>by simp[lJ]at g⟩
 |[],_::_,h=>by simp[oB]at h
 |_::_,[],h=>by simp[oB]at h
 |p::vs,q::ay,h=>by
  obtain⟨h1,h2⟩:=h;rw[AA,AA]at h1 h2;injection h1 with e b;cases h2 with
  |cons r t=>
  by_cases c:p.1=k
  .rw[jS c];have c':=e▸c;have:lJ (q::ay) k=am q.2:=by simp[lJ,c']
   rw[this];refine⟨λz=>(by cases z),λ{v} z=>?_⟩;cases z;exact⟨_,rfl,r⟩
  .rw[jT c];have:lJ (q::ay) k=lJ ay k:=by simp[lJ,(e▸c)]
   rw[this];exact(oB.get ⟨b,t⟩)
def iq.get'{k:Key}:∀{vs:O (Key×V)}{ay:O (Key×PV)},iq K H vs ay->(qK ay k=ce->ir vs k=ce)/\∀{v},qK ay k=am v->∃u,ir vs k=am u/\VR K [] H u v:=λ{vs ay} h=>⟨λz=>by
 have:=h.has k;cases e:ir vs k with
 |none=>rfl
 |some u=>
  rw[e]at this;unfold qK at z;rw[Option.map_eq_none_iff,List.find?_eq_none]at z;obtain⟨x,hx,hx2⟩:=List.any_eq_true.mp this.symm;exact absurd hx2 (z x hx),λz=>h.get k z⟩
def Vu(k:Key)(l:O PV):kP k≠.tup l:=by cases k<;>exact PV.noConfusion
def XU{a b:Key}(h:kP a=kP b):a=b:=by
 cases a<;>cases b<;>simp[kP]at h<;>rw[h]
theorem xH:∀{a b:O Key},a.map kP=b.map kP->a=b
 |[],[],_=>rfl
 |[],_::_,h=>by simp at h
 |_::_,[],h=>by simp at h
 |x::a,y::b,h=>by
  injection h with h1 h2;rw[XU h1,xH h2]
inductive Hj:PV->PV->Option PV->Prop
 |k (ay:List (Key×PV)) (k:Key):ay≠[]->Hj (dvK ay) (kP k) (qK ay k)
 |t (ay:List (List Key×PV)) (k:List Key):ay≠[]->Hj (Qy ay) (.tup (k.map kP)) (lJ ay k)
def Wh{ay:O (Key×PV)}(h0:ay≠[])(h:VR K [] H u (dvK ay)):∃a o vs,u=.ref a/\H a=am (.cg o (.dK vs))/\iq K H vs ay:=by
 have Û:∀{vs:O (Key×V)}{ay:O (Key×PV)},(ay.map λkv=>kP kv.1)=(vs.map λkv=>kP kv.1)->vs.map (·.1)=ay.map (·.1):=λ{vs ay} e=>by
  have e:(ay.map (·.1)).map kP=(vs.map (·.1)).map kP:=by rw[A0,A0];exact e
  exact(xH e).symm
 cases h with
 | @dk a o vs _ _ e k r=>exact⟨a,o,vs,rfl,e,Û k,r⟩
 | @dt a o vs _ _ e k r=>
  cases ay with
  |nil=>exact absurd rfl h0
  |cons x l=>cases vs with
   |nil=>simp at k
   |cons y m=>simp at k;exact absurd k.1 (Vu _ _)
def Nw(h0:ay≠[])(h:VR K [] H u (Qy ay)):∃a o vs,u=.ref a/\H a=am (.cg o (.dT vs))/\oB K H vs ay:=by
 have Û:∀{vs:O (O Key×V)}{ay:O (O Key×PV)},(ay.map λkv=>PV.tup (kv.1.map kP))=(vs.map λkv=>PV.tup (kv.1.map kP))->vs.map (·.1)=ay.map (·.1):=λ{vs ay} e=>by
  induction ay generalizing vs with
  |nil=>cases vs with
   |nil=>rfl
   |cons y m=>simp at e
  |cons x l ih=>cases vs with
   |nil=>simp at e
   |cons y m=>
    injection e with e1 e2;injection e1 with e1;rw[AA,AA,xH e1,ih e2]
 cases h with
 | @dt a o vs _ _ e k r=>exact⟨a,o,vs,rfl,e,Û k,r⟩
 | @dk a o vs _ _ e k r=>
  cases ay with
  |nil=>exact absurd rfl h0
  |cons x l=>cases vs with
   |nil=>simp at k
   |cons y m=>simp at k;exact absurd k.1.symm (Vu _ _)
def Hj.ok{z:V}{d y:PV}{r:Option PV}(h:Hj d y r)(hu:VR K [] H u d)(hz:VR K [] H z y):∃a o,u=.ref a/\IsD H a/\UM H a z o/\(r=ce->o=ce)/\∀v,r=am v->∃w,o=am w/\VR K [] H w v:=by
 cases h with
 |k ay k h0=>
  obtain⟨a,o,vs,rfl,e,d⟩:=Wh h0 hu;have ez:z=kV k:=by
   cases k with
   |inl i=>cases hz;rfl
   |inr i=>cases hz;rfl
  subst ez;exact⟨a,ir vs k,rfl,.inl ⟨vs,.inr ⟨o,e⟩⟩,.inl ⟨vs,k,.inr ⟨o,e⟩,rfl,rfl⟩,(iq.get' d).1,λv=>(iq.get' d).2⟩
 |t ay k h0=>
  obtain⟨a,o,vs,rfl,e,d⟩:=Nw h0 hu;cases hz with
  | @tup b us _ e1 r1=>
  have:=KL r1;subst this;exact⟨a,ir vs k,rfl,.inr ⟨vs,.inr ⟨o,e⟩⟩,.inr ⟨vs,k,b,.inr ⟨o,e⟩,rfl,e1,rfl⟩,(oB.get d).1,λv=>(oB.get d).2⟩
def dgW(d y:PV):W PV:=⟨λQ=>∃v,Hj d y (am v)/\Q v,λf ⟨v,a,q⟩=>⟨v,a,f _ q⟩⟩
def dgB(a b:W PV):W PV:=.bind a λx=>.bind b λy=>dgW x y
theorem Qv(hu:X.A.units+200<sK)(ha:EF X K fs a wa)(hb:EF X K fs b wb)(hs:Y4 b):EF X K fs (.Subscript a b pos) (dgB wa wb):=⟨PE.imp (Sr ∅ ha.p hb.p hs) λσ H Q ⟨sr,q⟩=>⟨sr,wa.mono (λx q1 u1 H1 g1 s1 v1=>⟨s1,wb.mono (λy q2 u2 H2 g2 s2 v2=>by
 obtain⟨v,g,q2⟩:=q2;obtain⟨a,o,rfl,_,g2',_,h⟩:=g.ok (g2.vr s1 v1) v2;obtain⟨w,rfl,vw⟩:=h v rfl;exact⟨a,w,rfl,g2',q2 _ H2 (g1.trans g2) s2 vw⟩) q1⟩) q⟩⟩
def Lb{k:O Key}{Q:PV->Prop}(h:lJ ay k=am v)(q:Q v):(dgW (Qy ay) (.tup (k.map kP))).run Q:=⟨v,by rw[<- h];exact .t ay k (λz=>by subst z;simp[lJ]at h),q⟩
def O9(d:PV):W (O PV):=⟨λQ=>∃ay:O (O Key×PV),d=Qy ay/\ay≠[]/\ay.length<=sizeLine/\Q (ay.map λkv=>.tup (kv.1.map kP)),λf q=>q.imp λay h=>⟨h.1,h.2.1,h.2.2.1,f _ h.2.2.2⟩⟩
theorem Tq(h:EF X K fs e w):mW X K fs tg e (.bind w O9):=⟨PI.imp (Oz h.p) λσ H R ⟨sr,q⟩=>⟨sr,w.mono (λx q1 u1 H1 g1 s1 v1=>by
 obtain⟨ay,rfl,h0,hl,q1⟩:=q1;obtain⟨a,o,vs,rfl,e,d1,d2⟩:=Nw h0 v1;have len:vs.length=ay.length:=by have:=congrArg Cb d1;simpa using this
 refine⟨a,o,vs,rfl,e,q1 _ H1 g1 s1 ⟨by simpa using hl,λH' t=>?_⟩⟩;have e':=t.z _ _ _ e;refine⟨λi p hp=>?_,vs,e',by simp[len]⟩;rw[Ag]at hp;cases z:ay[i]? with
 |none=>rw[z]at hp;cases hp
 |some kv=>
  rw[z]at hp;have hp:=Option.some.inj hp;subst hp;have hi:=(Aj.mp z).1;refine⟨⟨vs,e',by lia⟩,λy H2 yy=>?_⟩;obtain⟨rfl,yy⟩:=yy;obtain⟨b,k,v,rfl,k2,k3⟩:=yy vs e';have ek:k=kv.1:=by
   have h1:(vs.map (·.1))[i]?=am k:=by rw[Ag,k2];rfl
   rw[d1,Ag,z]at h1;exact(Option.some.inj h1).symm
  subst ek;exact⟨jD.refl _,.tup k3 (Pl _ _)⟩) q⟩⟩
def L3{Q:O PV->Prop}(h0:ay≠[])(hl:ay.length<=sizeLine)(q:Q (ay.map λkv=>.tup (kv.1.map kP))):(O9 (Qy ay)).run Q:=⟨ay,rfl,h0,hl,q⟩
end
end
section
variable[bL]
variable{K:Ab}
mutual
def PV.pd:PV->PyData
 |.aF=>.none
 |.bl b=>.bool b
 |.int i=>.int i
 |.str x=>.str x
 |.tup l=>.tuple (qw l)
 |.cl l=>.list (qw l)
 |_=>.none
def qw:O PV->O PyData
 |[]=>[]
 |x::l=>PV.pd x::qw l
end
section
variable{s:cr}
mutual
theorem VR.reads(I:Inv X U σ H s):∀{v:V}{x:PV},VR X.K [] H v x->PV.eR x=true->∀{u},RelV v u->∃as,Reads s.heap u (PV.pd x) as
 |_,_,.aF,_,u,r=>by cases r;rw[PV.pd];exact⟨_,.none⟩
 |_,_,.bl b,_,u,r=>by cases r;rw[PV.pd];exact⟨_,.bool b⟩
 |_,_,.int i,_,u,r=>by obtain⟨t,r⟩:=(show ∃t,u=CF i t from r);cases r;rw[PV.pd];exact⟨_,.int i t⟩
 |_,_,.str i,_,u,r=>by obtain⟨t,r⟩:=(show ∃t,u=Bh i t from r);cases r;rw[PV.pd];exact⟨_,.str i t⟩
 |_,_,.ty n,h,_,_=>by rw[PV.eR]at h;cases h
 |_,_,.dk _ _ _,h,_,_=>by rw[PV.eR]at h;cases h
 |_,_,.dt _ _ _,h,_,_=>by rw[PV.eR]at h;cases h
 |_,_,.ob _ _ _ _ _,h,_,_=>by rw[PV.eR]at h;cases h
 |_,_,.hand _,h,_,_=>by rw[PV.eR]at h;cases h
 |_,_,.ref e,h,_,_=>by simp at e
 |_,_,.tup e r,h,u,q=>by
  cases q;obtain⟨aq,rv,⟨o,h1,h2,n,h3⟩,_⟩:=I.tuple (dF.of (K:=X.K) e);obtain⟨as,ra⟩:=aB.reads I r (by rw[PV.eR]at h;exact h) rv;rw[PV.pd];exact⟨as,.tuple h1 h2 h3 (by simpa using ra)⟩
 |_,_,.cl e r,h,u,q=>by
  cases q;obtain⟨aq,rv,⟨o,n,h1,h2,_,h3⟩,_⟩:=I.list e.sq;obtain⟨as,ra⟩:=aB.reads I r (by rw[PV.eR]at h;exact h) rv;rw[PV.pd];exact⟨_,.list h1 h2 h3 (by simpa using ra)⟩
theorem aB.reads(I:Inv X U σ H s):∀{v:O V}{x:O PV},aB X.K [] H v x->dU x=true->∀{u},Vals v u->∃as,ReadsAll s.heap u (qw x) as
 |_,_,.nil,_,u,r=>by cases r;rw[qw];exact⟨_,.nil⟩
 |_,_,.cons a t,h,u,r=>by
  rw[dU,A7]at h;cases r with
  |cons r1 r2=>
  obtain⟨as,ra⟩:=VR.reads I a h.1 r1;obtain⟨bs,rb⟩:=aB.reads I t h.2 r2;rw[qw];exact⟨_,.cons ra rb⟩
end
mutual
theorem vH:∀x:PV,(PV.pd x).hasDict=false
 |.aF=>by simp[PV.pd,BN]
 |.bl _=>by simp[PV.pd,BN]
 |.int _=>by simp[PV.pd,BN]
 |.str _=>by simp[PV.pd,BN]
 |.tup l=>by rw[PV.pd,BN];exact mr l
 |.cl l=>by rw[PV.pd,BN];exact mr l
 |.ref _=>by simp[PV.pd,BN]
 |.ty _=>by simp[PV.pd,BN]
 |.dv _ _=>by simp[PV.pd,BN]
 |.ob _ _=>by simp[PV.pd,BN]
 |.hand=>by simp[PV.pd,BN]
theorem mr:∀x:O PV,EN (qw x)=false
 |[]=>by simp[qw,EN]
 |x::l=>by rw[qw,EN,vH x,mr l];rfl
end
end
def wN(x:PV):Prop:=PV.eR x=true/\(PV.pd x).showable=true/\(PV.pd x).depth<=100/\(PV.pd x).shown.length<=sizeLine
def U1(x:PV):W PV:=.d8 (wN x) (.ret (.str (PV.pd x).shown))
def aii(x:PV):W PV:=match x with
 |.int i=>.d8 (wN x) (.ret (.str (PV.pd x).shown))
 |.tup l=>.d8 (wN x) (.ret (.str (PV.pd x).shown))
 |.cl l=>.d8 (wN x) (.ret (.str (PV.pd x).shown))
 |_=>.fail
section
variable{a:nw}
def Vw(b:Bool):PV->Prop
 |.int _=>b=true
 |.tup _=>True
 |.cl _=>True
 |_=>False
def aar(K:Ab)(b:Bool):O V->Hp->VK->Prop:=λxs H Q=>∃v x,xs=[v]/\VR K [] H v x/\wN x/\Vw b x/\Q (.str (PV.pd x).shown) H
theorem Jz(hK:X.K=K)(hg:X.A.guards=am [])(hu:X.A.units+200 < sK):cb X (.builtin "repr") (aar K false):=by
 subst hK;intro U s σ H xs us Q I r ⟨v,x,e,hv,⟨o1,o2,o3,o4⟩,hx,q⟩;subst e;obtain⟨u,rfl,ru⟩:=vals1 r;have rf:∀a,u=.ref a->ga (gl X.prog X.w) X.A (call (.builtin "repr") [u]) (EP X U σ Q) X.xe s:=λa e=>by
  subst e;obtain⟨as,rd⟩:=VR.reads I hv o1 ru;exact repr_of_reads' rd o2 (PyData.noDict_hsm (vH x)) hg ∅ (λ_ _ e=>e) (λh' u tk hk=>⟨.str _,H,I.kept (t':=tk) hk,⟨_,rfl⟩,q⟩) o4
 cases hv with
 |tup _ _=>exact rf _ ru
 |cl _ _=>exact rf _ ru
 |int _=>cases hx
 |_=>exact hx.elim
def wU(x:PV):W PV:=match x with
 |.tup l=>U1 x
 |.cl l=>U1 x
 |_=>.fail
def Qn(hK:X.K=K)(hr:dz k X.A)(hg:Gl X "repr")(hm:X.mg "repr"=ce)(ha:EF X K fs a wa)(he:‹gE X a []›)(dG:‹kH X pos []›):EF X K fs (.Call (.Name "repr" p) [a] [] pos) (.bind wa wU):=
 ⟨PE.imp (fg (Jz hK hr.gd (bD hr)) hg hm boot_repr (aQ ha.p bq he) ⋯ ⋯ he dG) λσ H Q ⟨sr,q⟩=>⟨sr,wa.mono (λx q1 u H1 g1 s1 v1=>by
  have h:wN x/\Vw false x/\∀u H',ck σ fs H H'->aU K H' σ fs->VR K [] H' u (.str (PV.pd x).shown)->Q u H':=by
   cases x with
   |tup l=>exact⟨q1.1,trivial,q1.2⟩
   |cl l=>exact⟨q1.1,trivial,q1.2⟩
   |_=>exact q1.elim
  exact⟨u,x,rfl,v1,h.1,h.2.1,h.2.2 _ H1 g1 s1 (.str _)⟩) q⟩⟩
end
end
end FL
variable{κ:PyProof.Rows.SortKind}{vs:O A9}{p:Array Nat}
namespace L2
def eD(N:Nat)(P:α->Prop):Ei α->Prop
 |.ret a=>P a
 |.ask i j k=>i<N/\j<N/\∀b,eD N P (k b)
theorem eD.mono{N:Nat}{P P':α->Prop}(h:∀a,P a->P' a):∀{t:Ei α},eD N P t->eD N P' t
 |.ret a,q=>h a q
 |.ask i j k,q=>⟨q.1,q.2.1,λb=>eD.mono h (q.2.2 b)⟩
theorem eD.bind{N:Nat}{P:α->Prop}{P':β->Prop}{f:α->Ei β}(hf:∀a,P a->eD N P' (f a)):∀{t:Ei α},eD N P t->eD N P' (t.bind f)
 |.ret a,q=>hf a q
 |.ask i j k,q=>⟨q.1,q.2.1,λb=>eD.bind hf (q.2.2 b)⟩
theorem eD.wp{N:Nat}{P:α->Prop}{cmp:Nat->Nat->(Bool->cr->Prop)->cr->Prop}{Q:α->cr->Prop}{s:cr}(hc:∀i j C,i<N->j<N->(∀b,C b s)->cmp i j C s)(hq:∀a,P a->Q a s):∀{t:Ei α},eD N P t->t.kasWp cmp Q s
 |.ret a,q=>hq a q
 |.ask i j k,q=>hc i j _ q.1 q.2.1 λb=>eD.wp hc hq (q.2.2 b)
def cA(N:Nat)(p:Array Nat):Prop:=p.toList.Perm (Az N)
def cA.lt{N:Nat}(h:cA N p)(h0:0<N)(k:Nat):p.getD k 0<N:=by
 by_cases c:k<p.size
 .have:p.getD k 0=p[k]:=by simp[c]
  rw[this];exact AX.mp (h.mem_iff.mp (by simp))
 .have:p.getD k 0=0:=by simp[c]
  rw[this];exact h0
def cA.rev{N:Nat}(h:cA N p)(i j:Nat):cA N (PySem.W.kas_rev p i j):=(EJ.mp (mirror_perm p i j _)).trans h
def cA.bub{N:Nat}(h:cA N p)(i j:Nat):cA N (bubble p i j):=(EJ.mp (bubble_perm p i j)).trans h
section
variable{N:Nat}(h0:0<N)
include h0
theorem Pk(h:cA N p):∀f n,eD N (λ_=>True) (PySem.W.kas_asc p f n)
 |0,n=>trivial
 |f+1,n=>⟨h.lt h0 _,h.lt h0 _,λb=>by
  cases b with
  |true=>exact trivial
  |false=>exact Pk h f (n+1)⟩
theorem xD:∀f (p:Array Nat) n q,cA N p->eD N (λr=>cA N r.1) (PySem.W.kas_desc f p n q)
 |0,p,n,q,h=>h
 |f+1,p,n,q,h=>⟨h.lt h0 _,h.lt h0 _,λb=>by
  cases b with
  |true=>
   split
   .exact xD f _ _ _ (h.rev _ _)
   .exact xD f _ _ _ h
  |false=>exact⟨h.lt h0 _,h.lt h0 _,λb=>by
    cases b with
    |true=>exact h
    |false=>exact xD f _ _ _ h⟩⟩
def Pb{m:Nat}(h:cA N p):eD N (λr=>cA N r.2) (PySem.W.kas_tail3 n m p):=by
 exact eD.bind (P':=λr:Nat×Array Nat=>cA N r.2) (f:=λk=>.ret (k,PySem.W.kas_rev p 0 n)) (λk _=>(h.rev _ _)) (Pk h0 (h.rev _ _) _ _)
def Pe{m:Nat}(h:cA N p):eD N (λr=>cA N r.2) (PySem.W.kas_descPart n m p):=eD.bind (λr hr=>by
 split
 .exact Pb h0 (hr.rev _ _)
 .exact Pb h0 hr) (xD h0 _ _ _ _ h)
def Tj{m:Nat}(h:cA N p):eD N (λr=>cA N r.2) (PySem.W.kas_count m p):=eD.bind (λn _=>by
 split
 .exact h
 .split
  .exact⟨h.lt h0 _,h.lt h0 _,λb=>by
    cases b with
    |true=>exact h
    |false=>exact Pe h0 (h.rev _ _)⟩
  .exact Pe h0 h) (Pk h0 h _ _)
theorem xB(h:cA N p)(k:Nat):∀f l r,eD N (λ_=>True) (PySem.W.kas_place p k f l r)
 |0,l,r=>trivial
 |f+1,l,r=>by
  show eD N _ (if l≥r then _ else _)
  split
  .exact trivial
  .exact⟨h.lt h0 _,h.lt h0 _,λb=>by
    cases b with
    |true=>exact xB h k f _ _
    |false=>exact xB h k f _ _⟩
theorem Vs:∀f (p:Array Nat) k,cA N p->eD N (cA N) (PySem.W.kas_bin f p k)
 |0,p,k,h=>h
 |f+1,p,k,h=>eD.bind (λl _=>Vs f _ _ (h.bub _ _)) (xB h0 h k _ _ _)
def XT:eD N (cA N) (Gm N):=eD.bind (λr hr=>by
 split
 .exact Vs h0 _ _ _ hr
 .exact hr) (Tj h0 (List.Perm.refl _))
end
section
variable{s:cr}
theorem Il{P:PySem.Fin->cr->Prop}(ho:s.heap.get? a=am (wS "list" vs.toArray n))(ñ:vs.length < 64)(Ĩ:2<=vs.length->∀h',(∀b o,b≠a->s.heap.get? b=am o->h'.get? b=am o)->ga (gl prog w) A (keyKind' vs.toArray) (λk s'=>k=κ/\s'={s with heap:=h'}) (λ_ _=>False) {s with heap:=h'})(gw:∀h',(∀b o,b≠a->s.heap.get? b=am o->h'.get? b=am o)->∀i j,i < vs.length->j < vs.length->∀C:Bool->cr->Prop,(∀b,C b {s with heap:=h'})->ga (gl prog w) A (keyLt' κ (vs.getD i A3) (vs.getD j A3)) C (λ_ _=>False) {s with heap:=h'})(h:∀out:O ci,out.Perm vs->P (.done (.ret .none)) {s with heap:=sortedHeap s.heap a vs out.toArray}):ga (gl prog w) A (wn.«list.sort» ⟨[.ref a],[]⟩) P E s:=by
 rw[list_sort_plain];have ha:=Ap ho;refine Aa (listItems_at ho rfl ?_);refine Aa (listUpdate_at ho rfl ?_);obtain⟨e1,ho1⟩:∃e1,(s.heap.update a (BA λ_=>#[])).get? a=am (wS "list" #[] e1):=⟨_,get?_update_seq ho (λ_=>#[])⟩;refine Aa (seqEpoch_at ho1 rfl ?_);refine Aa (CH ?_);refine Aa (wpAny_newList ?_);refine Bp ?_;have Ă:(((s.heap.update a (BA λ_=>#[])).push (wS "tuple" vs.toArray 0)).push (wS "list" #[] 0)).get? a=am (wS "list" #[] e1):=by
  rw[Heap.get?_push_ne _ _ _ (by rw[size_push',E4];exact AE (C0 ha)),Heap.get?_push_ne _ _ _ (by rw[E4];exact AE ha)];exact ho1
 have kp:∀b o,b≠a->s.heap.get? b=am o->(((s.heap.update a (BA λ_=>#[])).push (wS "tuple" vs.toArray 0)).push (wS "list" #[] 0)).get? b=am o:=λb o n e=>Ah _ (Ah _ (by rw[F1 _ _ _ _ n];exact e));dsimp only;have uW:vs.toArray.size=vs.length:=by simp
 by_cases h2:vs.toArray.size<2
 .rw[if_pos h2,if_pos h2];refine Aa (Af ?_);refine Aa (Af ?_);dsimp only;refine Aa (seqEpoch_at Ă rfl ?_);refine Aa (listUpdate_at Ă rfl ?_ (hsz2:=by rw[Array.size_map];show(pairsOf vs).size<=_;rw[pairsOf_size,sizeLine_eq];lia));simp only[bne_self_eq_false,if_false];refine Af ?_;have e:(arrOf (SortSt.mk' general' (vs.toArray.zip vs.toArray) #[] 7 ce)).map (·.2)=vs.toArray:=by
   apply Array.toList_inj.mp;simp[List.map_snd_zip]
  rw[e];exact h vs (List.Perm.refl _)
 .rw[if_neg h2,if_neg h2];have uE:2<=vs.length:=by lia
  refine Aa (BJ (Ĩ uE _ kp) (λk s0 hk=>?_) λ_ _ x=>x.elim);obtain⟨rfl,rfl⟩:=hk;have hw:(Gm vs.length).kasWp (PySem.W.kas_ask prog w A k vs) (λp s'=>cA vs.length p/\s'={s with heap:=((s.heap.update a (BA λ_=>#[])).push (wS "tuple" vs.toArray 0)).push (wS "list" #[] 0)}) {s with heap:=((s.heap.update a (BA λ_=>#[])).push (wS "tuple" vs.toArray 0)).push (wS "list" #[] 0)}:=
   eD.wp (λi j C hi hj hC=>gw _ kp i j hi hj C hC) (λp hp=>⟨hp,rfl⟩) (XT (show 0<vs.length by lia))
  refine Aa (BJ (PySem.W.kat_run (Q:=λqZ s'=>∃p:Array Nat,cA vs.length p/\arrOf qZ=p.map (PySem.W.kas_item (vs.toArray.zip vs.toArray))/\failedOf qZ=ce/\s'={s with heap:=((s.heap.update a (BA λ_=>#[])).push (wS "tuple" vs.toArray 0)).push (wS "list" #[] 0)})
   rfl uE ñ (λp' qZ s' a1 a2 a3 a4=>⟨p',a4.1,a2,a3,a4.2⟩) hw) ?_ λ_ _ e=>e)
  rintro⟨⟨⟩,qZ⟩ s' ⟨p,hp,har,hf,rfl⟩;have VA:(p.toList.map λi=>vs.getD i A3).Perm vs:=by
   have e:(Az vs.length).map (λi=>vs.getD i A3)=vs:=by
    apply BL;intro i;by_cases c:i<vs.length
    .rw[Ag,AN c,Ad c];show am (vs.getD i A3)=_;rw[Ae,Ad c];rfl
    .rw[Au (by simp;lia),Au ∅]
   have:=hp.map (λi=>vs.getD i A3);rw[e]at this;exact this
  rw[(PySem.W.kat_snds rfl har)];refine Aa (seqEpoch_at Ă rfl ?_);refine Aa (listUpdate_at Ă rfl ?_ (hsz2:=by rw[Am,VA.length_eq,sizeLine_eq];lia));rw[hf];simp only[bne_self_eq_false,Aq,if_false];exact Af (h _ VA)
def RK{l:db}(hl:s.heap.IsList l vs.toArray)(ñ:vs.length < 64)(Ĩ:2<=vs.length->∀h',(∀b o,s.heap.get? b=am o->h'.get? b=am o)->ga (gl prog w) A.in1.in1 (keyKind' vs.toArray) (λk s'=>k=κ/\s'={s with heap:=h'}) (λ_ _=>False) {s with heap:=h'})(gw:∀h',(∀b o,s.heap.get? b=am o->h'.get? b=am o)->∀i j,i < vs.length->j < vs.length->∀C:Bool->cr->Prop,(∀b,C b {s with heap:=h'})->ga (gl prog w) A.in1.in1 (keyLt' κ (vs.getD i A3) (vs.getD j A3)) C (λ_ _=>False) {s with heap:=h'})(h:∀out:O ci,out.Perm vs->Q (.ref (s.heap.objs.size+1)) {s with heap:=sortedAll s.heap vs out.toArray}):ga (gl prog w) A (call (.builtin "sorted") [.ref l]) Q E s:=by
 refine Calls.call_function_entry kind_sorted plain_sorted entry_sorted (args_sorted1 _) ?_;refine Aa (Af ?_);refine Aa (collect_list hl ?_);refine Aa (wpAny_newList ?_);have uW:((s.heap.push (wS "list" #[] 0)).update s.heap.objs.size (BA (·++vs.toArray))).objs.size=s.heap.objs.size+1:=by
  rw[E4,size_push']
 have ā:(((s.heap.push (wS "list" #[] 0)).update s.heap.objs.size (BA (·++vs.toArray))).push (wS "list" vs.toArray 0)).get? (s.heap.objs.size+1)=am (wS "list" vs.toArray 0):=by
  rw[<- uW];exact An _ rfl
 have kp:∀b o,s.heap.get? b=am o->b≠s.heap.objs.size+1/\(((s.heap.push (wS "list" #[] 0)).update s.heap.objs.size (BA (·++vs.toArray))).push (wS "list" vs.toArray 0)).get? b=am o:=λb o e=>by
  have lt:=Ap e;refine⟨AE (C0 lt),Ah _ ?_⟩;rw[F1 _ _ _ _ (AE lt)];exact Ah _ e
 rw[uW];refine Aa (Bp (Bm slot_list_sort ⟨_,ā,rfl⟩ entry_list_sort (Il (κ:=κ) ā ñ (λh2 h' k=>?_) (λh' k=>?_) λout hp=>⟨_,rfl,?_⟩) (args_list_sort _)))
 .exact Ĩ h2 h' λb o e=>k b o (kp b o e).1 (kp b o e).2
 .exact gw h' λb o e=>k b o (kp b o e).1 (kp b o e).2
 .exact Af ⟨_,rfl,h out hp⟩
end
end L2
variable{b:Bg}{i j:Int}{p:Ck}{t1:PySem.Tok}
namespace FL
section
variable[bL]
variable{K:Ab}
def pw:PV->Bool
 |.tup [.str _,.tup [.int _,.int _]]=>true
 |_=>false
def IH(h:pw x=true):∃s i j,x=.tup [.str s,.tup [.int i,.int j]]:=by
 unfold pw at h
 split at h
 .exact⟨_,_,_,rfl⟩
 .cases h
section
variable{s:cr}
def Up(I:Inv X U σ H s){v:V}{u:ci}(hv:VR X.K [] H v x)(ru:RelV v u)(hx:pw x=true):∃(a b:db) (st:Str) (i j:Int) (t t1 t2:Tok) (oa ob:Obj) (na nb:Nat),u=.ref a/\s.heap.get? a=am oa/\oa.cls=.type "tuple"/\oa.data=.seq #[.str st t,.ref b] na/\s.heap.get? b=am ob/\ob.cls=.type "tuple"/\ob.data=.seq #[.int i t1,.int j t2] nb:=by
 obtain⟨st,i,j,rfl⟩:=IH hx;cases hv with
 | @tup p vs _ e r=>
 cases ru;cases r with
 |cons r1 r2=>
 cases r1;cases r2 with
 |cons r2 r3=>
 cases r3;cases r2 with
 | @tup b ws _ e2 r4=>
 cases r4 with
 |cons r4 r5=>
 cases r4;cases r5 with
 |cons r5 r6=>
 cases r6;cases r5;obtain⟨aq,rv,⟨o,h1,h2,n,h3⟩,_⟩:=I.tuple (dF.of e);obtain⟨cT,rv2,⟨o2,k1,k2,n2,k3⟩,_⟩:=I.tuple (dF.of e2);cases rv with
 |cons q1 q2=>
 cases q2 with
 |cons q2 q3=>
 cases q3;cases rv2 with
 |cons m1 m2=>
 cases m2 with
 |cons m2 m3=>
 cases m3;obtain⟨t,rfl⟩:=q1;cases q2;obtain⟨t1,rfl⟩:=m1;obtain⟨t2,rfl⟩:=m2;exact⟨p,b,st,i,j,t,t1,t2,o,o2,n,n2,rfl,h1,h2,h3,k1,k2,k3⟩
end
theorem Um{s:cr}{a' b':db}{st qZ:Str}{i' j':Int}{t t2 t' à ß:Tok}{oa Zd ç:Obj}{na nb na' ĕ:Nat}(hu:A.units+1 < sK)(h1:s.heap.get? a=am oa)(h3:oa.data=.seq #[.str st t,.ref b] na)(k1:s.heap.get? b=am ob)(k2:ob.cls=.type "tuple")(k3:ob.data=.seq #[.int i t1,.int j t2] nb)(fV:s.heap.get? a'=am Zd)(PN:Zd.data=.seq #[.str qZ t',.ref b'] na')(ę:s.heap.get? b'=am ç)(Ę:ç.cls=.type "tuple")(ė:ç.data=.seq #[.int i' à,.int j' ß] ĕ){C:Bool->cr->Prop}(hC:∀b,C b s):ga (gl prog w) A (keyLt' (tuples' true) (.ref a) (.ref a')) C (λ_ _=>False) s:=by
 refine PySem.W.kat_lt h1 h3 fV PN (PySem.W.kat_cons (DU.str_str st t qZ t' prog w _ _ (PySem.W.kat_go (λ_=>PySem.W.kat_yes ?_) λ_=>PySem.W.kat_no ?_)))
 .have hT:s.heap.IsTuple b #[.int i t1,.int j t2]:=⟨ob,k1,k2,nb,k3⟩;have Ą:s.heap.IsTuple b' #[.int i' à,.int j' ß]:=⟨ç,ę,Ę,ĕ,ė⟩;have go:∀e,PySem.W.KatGo prog w A true (decide ((#[Bh st t,.ref b]:Array ci).size<(#[Bh qZ t',.ref b']:Array ci).size)) C (.ref b) (.ref b') [] 1 e s:=λe=>PySem.W.kat_go (λ_=>PySem.W.kat_yes (PySem.W.kat_nil (hC _))) λ_=>PySem.W.kat_no (PySem.W.kat_one _ _ (HT.Ii hT Ą (.cons i t1 (.cons j t2 .nil)) (.cons i' à (.cons j' ß .nil)) ∅ (hC _)));by_cases c:b=b'
  .subst c;exact Gr (.ref b) prog w _ _ (go _)
  .refine Ga c (Gd (e:=λk=>if k=0 then i==i' else j==j') hT Ą ∅ λk g1 g2=>?_) prog w _ _ (go _);have:k=0\/k=1:=by simp at g1;lia
   rcases this with rfl|rfl
   .exact Eu i t1 i' à
   .exact Eu j t2 j' ß
 .exact oneLt_str (hC _)
section
def WY(K:Ab):O V->Hp->VK->Prop:=λxs H Q=>∃(p:db) (vs:O V) (l:O PV),xs=[.ref p]/\bH K H p vs/\aB K [] H vs l/\l.length<64/\l.all pw=true/\∀m:O PV,m.Perm l->∀ws,aB K [] H ws m->jM H (.lst ws) Q
def OA{vs:O V}{out:O ci}{l:O PV}(r:Vals vs us)(v:aB K [] H vs l)(p:out.Perm us):∃ws m,Vals ws out/\aB K [] H ws m/\m.Perm l:=by
 induction p generalizing vs l with
 |nil=>cases r;cases v;exact⟨[],[],.nil,.nil,.refl _⟩
 |cons x p ih=>
  cases r with
  |cons r1 r2=>
  cases v with
  |cons v1 v2=>
  obtain⟨ws,m,a,b,c⟩:=ih r2 v2;exact⟨_::ws,_::m,.cons r1 a,.cons v1 b,.cons _ c⟩
 |swap x y l'=>
  cases r with
  |cons r1 r2=>
  cases r2 with
  |cons r2 r3=>
  cases v with
  |cons v1 v2=>
  cases v2 with
  |cons v2 v3=>exact⟨_::_::_,_::_::_,.cons r2 (.cons r1 r3),.cons v2 (.cons v1 v3),.swap _ _ _⟩
 |trans p1 p2 Tv X7=>
  obtain⟨ws,m,a,b,c⟩:=X7 r v;obtain⟨yM,m',a',b',c'⟩:=Tv a b;exact⟨yM,m',a',b',c'.trans c⟩
theorem Jx(hK:X.K=K)(hu:X.A.units+200 < sK):cb X (.builtin "sorted") (WY K):=by
 subst hK;intro U s σ H xs us Q I r h;obtain⟨p,vs,l,rfl,hq,hv,ñ,hd,q⟩:=h;obtain⟨u,rfl,rx⟩:=vals1 r;cases rx;obtain⟨aq,r',pl,hz⟩:=I.list hq;have hl:=r'.length;have VD:=hv.length;have el:∀i,i < aq.length->∃(a b:db) (st:Str) (i1 j1:Int) (t t1 t2:Tok) (oa ob:Obj) (na nb:Nat),aq.getD i A3=.ref a/\s.heap.get? a=am oa/\oa.cls=.type "tuple"/\oa.data=.seq #[.str st t,.ref b] na/\s.heap.get? b=am ob/\ob.cls=.type "tuple"/\ob.data=.seq #[.int i1 t1,.int j1 t2] nb:=λi hi=>by
  have e1:vs[i]?=am vs[i]:=Ad ∅;obtain⟨x,ex,vx⟩:=hv.abP e1;have ru:RelV vs[i] (aq.getD i A3):=by
   obtain⟨u,hu1,hu2⟩:=Vals.get r' e1;rw[Ae,hu1];exact hu2
  exact Up I vx ru (De.mp hd x (Bb ex))
 refine RK (κ:=tuples' true) pl.isList ∅ (λh2 h' kp=>?_) (λh' kp i j hi hj C hC=>?_) λout hp=>?_
 .have Ü:∀l:O ci,(∀v∈l,∃(a:db) (x:ci) (st:Str) (t:Tok) (oa:Obj) (na:Nat),v=.ref a/\h'.get? a=am oa/\oa.cls=.type "tuple"/\oa.data=.seq #[.str st t,x] na)->∃fs,PySem.W.KatTups h' l fs/\fs.length=l.length/\∀v∈fs,∃st t,v=Bh st t:=by
   intro l
   induction l with
   |nil=>intro _;exact⟨[],trivial,rfl,by simp⟩
   |cons v l ih=>
    intro hl;obtain⟨fs,f1,f2,f3⟩:=ih λy hy=>hl y (.tail _ hy);obtain⟨a,x,st,t,oa,na,rfl,g1,g2,g3⟩:=hl v (.head _);refine⟨.str st t::fs,PySem.W.KatTups.cons g1 g2 g3 rfl f1,by simp[f2],λy hy=>?_⟩;rcases AD.mp hy with rfl|hy
    .exact⟨st,t,rfl⟩
    .exact f3 y hy
  obtain⟨fs,f1,f2,f3⟩:=Ü aq λv hv=>by
   obtain⟨i,hi,rfl⟩:=Ef hv;obtain⟨a,b,st,i1,j1,t,t1,t2,oa,ob,na,nb,e,h1,h2,h3,_⟩:=el i hi;rw[Ae,Ad hi]at e;exact⟨a,.ref b,st,t,oa,na,e,kp _ _ h1,h2,h3⟩
  refine PySem.W.kat_kind (T:=.type "str") f1 ∅ (λv hv=>?_) ⋯ ⟨rfl,rfl⟩;obtain⟨st,t,rfl⟩:=f3 v hv;exact PySem.W.Looks.now
 .obtain⟨a,b,st,i1,j1,t,t1,t2,oa,ob,na,nb,e,h1,h2,h3,k1,k2,k3⟩:=el i hi;obtain⟨a',b',qZ,i1',j1',t',à,ß,Zd,ç,na',ĕ,e',fV,uE,PN,ę,Ę,ė⟩:=el j hj;rw[e,e'];exact Um (by show X.A.units+1+1+1<_;lia) (kp _ _ h1) h3 (kp _ _ k1) k2 k3 (kp _ _ fV) PN (kp _ _ ę) Ę ė hC
 .obtain⟨ws,m,a1,a2,a3⟩:=OA r' hv hp;obtain⟨e,he⟩:=sortedAll_at s.heap aq out.toArray;refine⟨.ref (s.heap.objs.size+1),_,I.laid (λ_ _=>sortedAll_old) (Dv _) (show bh X.prog X.w _ _ _ (.lst ws) from⟨?_,out,e,a1,he⟩),rfl,(q m a3 ws a2).at _ (I.bg.fresh (Dv _))⟩;rw[a2.length,a3.length_eq];rw[<- VD];exact hz
def NT(l:O PV):W (O PV):=.d8 (l.length<64/\l.all pw=true) (.any λm=>m.Perm l)
def S7(hK:X.K=K)(hu:X.A.units+200 < sK)(hg:Gl X "sorted")(hm:X.mg "sorted"=ce)(ha:Hq X K fs e wl)(he:‹gE X e []›)(dG:‹kH X pos []›):LF X K fs (.Call (.Name "sorted" p) [e] [] pos) (.bind wl NT):=
 ⟨PE.imp (fg (Jx hK hu) hg hm boot_sorted (aQ ha.p bq he) ⋯ ⋯ he dG) λσ H Q ⟨sr,q⟩=>⟨sr,wl.mono (λl q1 u1 H1 g1 s1 _ v1=>by
  obtain⟨⟨c1,c2⟩,q2⟩:=q1;obtain⟨a,vs,rfl,h1,r1⟩:=v1 _ H1 .refl s1;exact⟨a,vs,l,rfl,h1,r1,c1,c2,λm hm ws hw=>vI g1 s1 hw (q2 m hm)⟩) q⟩⟩
end
end
end FL
variable{x z:BZ}{ts:O BZ}{t3:PySem.Tok}
namespace FL
section
variable[bL]
variable{K:Ab}
structure QX(K:Ab)(a:db)(ts:List Str):Prop where
 ex:∃(o:Obj) (aq:Array ci) (n:Nat),K.lookup a=am o/\o.cls=.type "tuple"/\o.data=.seq aq n/\aq.size<=sizeLine/\Vals (ts.map V.str) aq.toList
 tn:∃o:Obj,K.lookup a=am o/\o.cls=.type "tuple"/\o.dict=ce
def tup3K{t2:Tok}(h:K.lookup a=am ⟨.type "tuple",ce,.seq #[.str x t1,.str y t2,.str z t3] n,Rg⟩):QX K a [x,y,z]:=⟨⟨_,_,_,h,rfl,rfl,bW (by show 3<=_;decide),.cons ⟨_,rfl⟩ (.cons ⟨_,rfl⟩ (.cons ⟨_,rfl⟩ .nil))⟩,_,h,rfl,rfl⟩
section
theorem J5(H:Hp):∀ts:O Str,aB K [] H (ts.map V.str) (ts.map PV.str)
 |[]=>.nil
 |t::ts=>.cons (.str t) (J5 H ts)
end
section
variable{a:nw}
def ZZ(hK:X.K=K)(hu:X.A.units+200<sK){ad:db}(ha:EF X K fs a wa)(hm:X.mg x=am (.ref ad))(T:QX K ad ts)(hg:‹Gl X x›)(hd: ~~~(iQ x))(hk:‹ul .In (.Name x p)=false›):TF X K fs (.Compare a [.In] [.Name x p] pos) (.bind wa λv=>qI false v (ts.map PV.str)):=⟨PT.imp (gH (OJ K hK hu) ha.p (rk hg hm (v:=.ref ad) rfl hd) hk) λσ H Q ⟨sr,q⟩=>⟨sr,wa.mono (λv q1 u1 H1 g1 s1 v1=>⟨ad,_,_,v,rfl,.inr (.inr T.ex),J5 H1 ts,v1,q1.1,_,rfl,q1.2 H1 g1 s1⟩) q⟩⟩
end
end
section
variable[bL]
def drawn(m:Int):W PV:=.any λv=>∃d:Int,v=.int d/\0<=d/\d<m
end
end FL
namespace My
def mB(cE:PV):W (O PV):=
 []\λmT=>
 bn (cE\λx3=>ca [x3]) λoJ=>
 bn (oH (λs4=>(s4.2\λl5=>ca (!l5.isEmpty))) (λs4=>(
 bn (zm s4.2) λt7=>
 t7.2\λx9=>bn (iP s4.1 x9) λmS=>
 eB (Wq (bn (bn (ca t7.2) (jo .str)) iu)) (
 bn (bn (ca t7.2) aA) λl11=>bn (Yy t7.1 l11) λsg=>
 ca (mS,sg)) (
 ca (mS,t7.1)))) (mT,oJ)) λs4=>
 (s4.1\λl12=>ca l12.reverse)
def jh(cE:PV):W PV:=
 []\λbM=>
 []\λxr=>
 bn (cE\λx3=>mB x3) λl30=>bn (cC l30 (bM,xr) λw4 s4=>(
 bn (bn (bn (ca w4) (jo .str)) iu) λb=>bn (if b=true then (
 w4\λwF=>bn (iP s4.1 wF) λJ0=>
 ca (J0,s4.2)) else (
 bn (zm s4.2) λt20=>
 bn (zm t20.1) λt22=>
 bn (t22.2\λLl=>t20.2\λRt=>ca (.tup [Ll,Rt])) λRr=>bn (iP s4.1 Rr) λJZ=>
 ca (JZ,t22.1))) λWD=>
 bn (b2 ny (bn (ca WD.1) xw) (ca (.int 1))) λWf=>bn (iP WD.2 Wf) λzK=>
 ca (WD.1,zK))) λs4=>
 (bn (ca s4.1) lq)
def cH(dM:PV):W PV:=
 (eB (bn (bn (ca dM) (jo .str)) iu) (ca (.tup [])) (ca dM))
def gm(cE:PV):W PV:=
 bn (cE\λx2=>jh x2) λbM=>
 bn (bn (bn (ca bM) aA) λl4=>bz l4 λp5=>(ca .aF)) λyA=>
 bn (bn (bn (ca bM) aA) λl6=>.d8 (l6.length<=sizeLine) (.ret (eH 0 l6))) λl19=>bn (cC l19 yA λp8 s7=>bn (yN p8) λt9=>(
 bn (bn (t9.2\λml=>cH ml) aA) λTa=>bn (cC Ta s7 λKR Hm=>(
 t9.1\λrV=>KR\λmj=>bn (sA Hm mj rV) λG7=>
 ca G7)) λHm=>
 ca Hm)) λs7=>
 (bn (ca s7) lq)
def eM(eY:PV)(ki:PV):W PV:=
 (eB (bn (bn (bR (bn (ca eY) aA) (ca ki)) (jo .str)) iu) (bR (bn (ca eY) aA) (ca ki)) (ca ki))
def jk(bF:PV):W (O PV):=
 bn (bF\λx2=>gm x2) λdi=>
 bn (bn (bn (ca di) aA) λl4=>bz l4 λp5=>(ca (.tup []))) λkU=>
 bn (bn (b2 ny (c1 d6 (ca di)) (ca (.int 1))) λx6=>bn (bn (ca (.int 1)) qz) λx7=>bn (bn (ca (.int 1)) qz) λx8=>Ke x6 x7 x8) λTa=>bn (cC Ta kU λkh s9=>(
 bn (eB (t2 qx (bR (bn (ca di) aA) (ca kh)) (ca .aF)) (ca (.tup [])) (bR (ca s9) (bR (bn (ca di) aA) (ca kh)))) λG8=>
 bn (w2 addW (kh\λrX=>ca (.tup [rX])) (ca G8)) λrV=>kh\λmj=>bn (sA s9 mj rV) λzL=>
 ca zL)) λs9=>
 ca s9
def fN(xu:PV)(ki:PV):W PV:=
 (bn (bn (bn (c1 d6 (ca xu)) iA) λl2=>mX l2 λp3=>Vj (Lu (X6 true (ca p3) (bn (bR (bn (ca xu) aA) (ca ki)) aA)) (X6 true (ca ki) (bn (bR (bn (ca xu) aA) (ca p3)) aA))) (ca p3)) lq)
def gk(bF:PV):W PV:=
 bn (bF\λx2=>jh x2) λfm=>
 bn (bF\λx4=>jk x4) λkU=>
 (bn (bn (bn (c1 d6 (ca fm)) iA) λl6=>bz l6 λp7=>(bn (fm\λx8=>p7\λx9=>eM x8 x9) λml=>(.int 0)\λqu=>bn (bn (bR (bn (ca fm) aA) (ca p7)) λuH=>cH uH) λrX=>bn ((.cl kU)\λrV=>p7\λmj=>fN rV mj) λqt=>ca (.tup [ml,qu,rX,qt]))) lq)
def eW(eY:PV)(cX:PV):W (O PV):=
 (bn (bn (bn (ca eY) aA) λl1=>bn (bn (ca cX) aA) λl2=>Lk l1 l2) λl3=>mX l3 λp4=>bn (yN p4) λt5=>Vj (Wq (bn (bn (ca t5.1) (jo .str)) iu)) (ca t5.2))
def jd(bF:PV)(cX:PV)(jz:PV):W (O PV):=
 bn (bF\λx2=>gm x2) λdi=>
 []\λw9=>
 bn (bn (bn (ca jz) aA) λl4=>.d8 (l4.length<=sizeLine) (.ret (eH 0 l4))) λl19=>bn (cC l19 w9 λp6 s5=>bn (yN p6) λt7=>(
 bn (bn (bn (ca cX) aA) λl8=>.d8 (l8.length<=sizeLine) (.ret (eH 0 l8))) λTa=>bn (cC Ta s5 λp10 s9=>bn (yN p10) λQ6=>(
 eB (Lu (t2 oLe (ca Q6.2) (ca t7.2)) (Wn (t2 qx (bR (bn (ca di) aA) (ca Q6.1)) (ca .aF)) (t2 oLt (ca t7.2) (bR (bn (ca cX) aA) (bR (bn (ca di) aA) (ca Q6.1)))))) (
 bn (Q6.1\λrX=>t7.1\λrV=>ca (.tup [rX,rV])) λmj=>bn (iP s9 mj) λzu=>
 ca zu) (
 ca s9))) λs9=>
 ca s9)) λs5=>
 ca s5
def kR(eY:PV)(cX:PV)(jz:PV)(nA:PV)(OG:PV):W PV:=
 bn (bR (bn (ca OG) aA) (ca (.int 0))) λkY=>
 bn (bR (bn (ca OG) aA) (ca (.int 1))) λnQ=>
 bn (b2 oLt (bR (bn (ca cX) aA) (ca kY)) (bR (bn (ca jz) aA) (ca nQ))) λv8=>
 bn (eB (bn (ca v8) iu) (kY\λx5=>ca (.tup [x5])) (bn (bR (bn (ca eY) aA) (ca kY)) λx6=>cH x6)) λbelow_4=>
 bn (bn (bn (bn (ca below_4) aA) λl8=>bz l8 λp9=>(dgB (ca nA) (p9\λml=>bn (b2 ny (ca nQ) (ca (.int 1))) λqu=>ca (.tup [ml,qu])))) lq) λJW=>
 bn (bn (bn (bn (ca nA) O9) λTb=>mX Tb λæ=>Vj (Lu (t2 i7 (bR (bn (ca æ) aA) (ca (.int 1))) (ca nQ)) (t2 zx (bR (bn (ca æ) aA) (ca (.int 0))) (ca kY))) (dgB (ca nA) (ca æ))) lq) λwB=>
 (bn (eY\λmj=>kY\λqt=>eM mj qt) λLn=>nQ\λwF=>JW\λuG=>wB\λNu=>ca (.tup [Ln,wF,uG,Nu]))
def kT(bF:PV)(cX:PV):W PV:=
 bn (bF\λx2=>jh x2) λfm=>
 bn (bn ((.int 0)\λx4=>ca [x4]) λl7=>bn (bn (fm\λx5=>cX\λx6=>eW x5 x6) wL) λl8=>om l7 l8) λuv=>
 bn (bF\λml=>cX\λqu=>(.cl uv)\λuH=>jd ml qu uH) λw6=>
 bn (bn (bn (bn (bn (ca (.cl w6)) aA) λZh=>.d8 (Zh.length<=sizeLine) (.ret (eH 0 Zh))) λl15=>bz l15 λp16=>bn (yN p16) λđ=>(đ.2\λwF=>đ.1\λuG=>ca (.tup [wF,uG]))) Jt) λsN=>
 (bn (bn (bn (ca (.cl w6)) aA) λXJ=>bz XJ λp21=>(fm\λWg=>cX\λZS=>(.cl uv)\λLl=>sN\λRt=>p21\λRr=>kR Wg ZS Ll Rt Rr)) lq)
def dr(iU:PV)(bV:PV):W PV:=
 (bR (bn (bR (bn (ca iU) aA) (ca bV)) aA) (ca (.int 2)))
def gN(iU:PV)(bV:PV):W PV:=
 (bR (bn (bR (bn (ca iU) aA) (ca bV)) aA) (ca (.int 3)))
def kS(iU:PV)(bV:PV)(UP:PV):W PV:=
 (ago (b2 i7 (iU\λx1=>bV\λx2=>dr x1 x2) (ca (.tup []))) (b2 i7 (bR (bn (bR (bn (ca iU) aA) (ca bV)) aA) (ca (.int 0))) (ca UP)))
def gL(aX:PV)(bV:PV):W (O PV):=
 bn (aX\λx2=>bV\λx3=>dr x2 x3) λm5=>
 (eB (t2 i7 (c1 d6 (ca m5)) (ca (.int 2))) (m5\λx4=>bn (bn (bR (bn (ca m5) aA) (ca (.int 1))) λx5=>bn (bR (bn (ca m5) aA) (ca (.int 0))) λx6=>ca (.tup [x5,x6])) λx7=>ca [x4,x7]) (ca []))
def jg(aX:PV)(bV:PV):W (O PV):=
 bn (aX\λx2=>bV\λx3=>gN x2 x3) λur=>
 (bn (bn (bn (ca ur) aA) λl4=>bz l4 λp5=>(bV\λx6=>p5\λx7=>ca (.tup [x6,x7]))) λl12=>bn (bn (bn (ca ur) aA) λl8=>bz l8 λp9=>(p9\λml=>bV\λqu=>ca (.tup [ml,qu]))) λTb=>om l12 Tb)
def eO(aX:PV)(dM:PV)(bV:PV):W (O PV):=
 eB (bn (bn (ca dM) (jo .str)) iu) (
 (eB (bn (aX\λx1=>bV\λx2=>dM\λx3=>kS x1 x2 x3) iu) (bn ((.str "found")\λx4=>(.tup [])\λx5=>ca (.tup [x4,x5])) λx6=>ca [x6]) (ca []))) (
 bn (bn (aX\λx8=>bV\λx9=>gL x8 x9) λl10=>bz l10 λp11=>((.str "split")\λuH=>p11\λrX=>ca (.tup [uH,rX]))) λJ9=>
 bn (bn (aX\λmj=>bV\λqt=>jg mj qt) λTa=>bz Ta λp18=>((.str "over")\λuG=>p18\λNu=>ca (.tup [uG,Nu]))) λKm=>
 (bn (bn (bn (bn ((.str "doubled")\λRu=>bn (bV\λWg=>bV\λZS=>ca (.tup [Wg,ZS])) λLl=>ca (.tup [Ru,Ll])) λRt=>ca [Rt]) λl26=>bn (bn (ca (.cl J9)) qB) λl27=>om l26 l27) λl28=>bn (bn (ca (.cl Km)) qB) λl29=>om l28 l29) NT))
end My
variable{kp cp:Ck}{kc:Nat}
namespace L2
section
variable{R:Result->cr->Prop}{I S:db}{wr:O db}{P:Nat->ci->Prop}{St:Nat->pr->Prop}
abbrev dfN:O (Str×ci):=[(Cf "default",.none)]
abbrev acB(l:O ci)(c:Nat):Obj:={cls:=.type "list",dict:=ce,data:=.seq l.toArray c,slots:=#[]}
def T5{n:Nat}(h:n<=2):n<=sizeLine:=AV h ⋯
theorem LX(W:Walks prog w A.in1 I fp wr n P St)(bt:Nat->Nat->Bool)(afU:CmpOf prog w A.in1 .Lt P bt)(hSf:S∉fp):∀(k j:Nat) (s:cr) (l:O ci) (c:Nat),n-j=k->j<=n->St j s.heap->(j=0/\l=[]\/∃i v,j=i+1/\l=[v,v]/\P (argBest bt i) v)->s.heap.get? S=am (acB l c)->(∀v h' tk,(n=0/\v=.none\/0 < n/\P (argBest bt (n-1)) v)->(∀b o,b∉wr->b≠S->s.heap.get? b=am o->h'.get? b=am o)->R (.ok (.ret v)) {s with heap:=h',toks:=tk})->KF (gl prog w) A (.builtin "min.loop" ⟨[.ref I,.none,.ref S],dfN⟩) R s:=by
 have hSw:S∉wr:=λh=>hSf (W.sub _ h);have hn:(toString "min"++toString ".loop")="min.loop":=by decide
 intro k
 induction k with
 |zero=>
  intro j s l c hk hj tL hl hS hR;have e:j=n:=by lia
  subst e;refine FB F.entry_min_loop ?_;refine Aa (Bu hS rfl (Aa (EA (W.done s _ _ tL λh' tk Nj=>?_))));have Yq:=Nj S _ hSw hS;rcases hl with⟨e0,rfl⟩|⟨i,v,rfl,rfl,hv⟩
  .exact Aa (C3 (Af (hR _ h' tk (.inl ⟨e0,rfl⟩) λb o hb _ z=>Nj b o hb z)))
  .exact Aa (CT Yq rfl (Aa (Cy (Af (hR v _ tk (.inr ⟨Nat.succ_pos _,hv⟩) λb o hb PM z=>(BV _ _ (Bx PM)).trans (Nj b o hb z))))) (T5 (Ak _)) (Ba _))
 |succ k ih=>
  intro j s l c hk hj tL hl hS hR;have gw:j<n:=by lia
  refine FB F.entry_min_loop ?_;rw[Around.under_plainId C8 _];refine Aa (Bu hS rfl (Aa (EA (W.item j s _ _ gw tL λv h' tk hP abu Nj=>?_))));have Yq:=Nj S _ hSw hS;have Vr:∀f b o,b∉wr->b≠S->s.heap.get? b=am o->(h'.update S f).get? b=am o:=λf b o hb PM z=>(BV _ _ (Bx PM)).trans (Nj b o hb z);have frU:∀(f:Obj->Obj),St (j+1) (h'.update S f):=λf=>W.frame _ _ _ abu λb hbf o e=>(BV _ _ (λh:S=b=>hSf (by rw[h];exact hbf))).trans e;refine Aa (Af ?_);rcases hl with⟨rfl,rfl⟩|⟨i,vb,rfl,rfl,hb⟩
  .refine Aa (CT Yq rfl ?_ (Ba _) (Nat.le_succ_of_le (T5 (Ak _))));rw[hn];refine Af ⟨BT C8 _,ih 1 _ [v,v] _ ∅ gw (frU _) (.inr ⟨0,v,rfl,rfl,hP⟩) (B2 _ Yq rfl) λv' h2 ZW ð ì=>?_⟩;exact hR v' h2 ZW ð λb o hb PM z=>ì b o hb PM (Vr _ b o hb PM z)
  .refine Aa (EA (Bp (Aa (afU (i+1) (argBest bt i) v vb _ _ _ hP hb ?_))));refine Aa (Bp (DB (Aa (Cy (Af ?_)))));cases hbt:bt (i+1) (argBest bt i) with
   |true=>
    refine Aa (CT Yq rfl (Aa (Cy ?_)) (T5 (Ak _)) (Nat.le_succ_of_le (T5 (Ak _))));refine Af ⟨BT C8 _,ih (i+2) _ [v,v] _ ∅ gw (frU _) (.inr ⟨i+1,v,rfl,rfl,by simp only[argBest,hbt];exact hP⟩) (B2 _ Yq rfl) λv' h2 ZW ð ì=>?_⟩;exact hR v' h2 ZW ð λb o hb PM z=>ì b o hb PM (Vr _ b o hb PM z)
   |false=>
    refine Aa (Cy ?_);rw[hn];exact Af ⟨BT C8 _,ih (i+2) _ [vb,vb] c ∅ gw abu (.inr ⟨i+1,vb,rfl,rfl,by simp only[argBest,hbt];exact hb⟩) Yq λv' h2 ZW ð ì=>hR v' h2 ZW ð λb o hb PM z=>ì b o hb PM (Nj b o hb z)⟩
variable{s:cr}
def M5(a:ci):argsOk "min" ⟨[a],dfN⟩:=by unfold argsOk;kernel_rfl
def S0(ns:O Int)(t:Tok):ci:=if ns=[] then .none else .int (uO ns) t
theorem Ie{l:db}(hh:A.handled=ce)(hl:s.heap.IsList l vs.toArray)(hi:xL vs ns)(h:∀(h':pr) (t:Tok) tk,(∀b o,s.heap.get? b=am o->h'.get? b=am o)->Q (S0 ns t) {s with heap:=h',toks:=tk}):ga (gl prog w) A (call (.builtin "min") [.ref l] dfN) Q E s:=by
 obtain⟨xs,e⟩:=hi.allInts.items;have Mk:ns=xs.toList.map (·.1):=by rw[<- hi.numsOf,<- nums_intItems,<- e]
 rw[e]at hl;have hn:(toString "min"++toString ".loop")="min.loop":=by decide
 refine kmb_tree F.kind_min F.plain_min F.entry_min (M5 _) ?_;refine Aa (Br (rfl) ?_);refine Aa (Af ?_);refine Aa (iter_intList hl λs₂ e2 st hfp hlI=>?_);subst e2;refine Aa (BK ?_);rw[hn];have W:=Walks.list (A:=A.in1) (prog:=prog) (w:=w) hh s.heap.objs.size l hlI (intItems xs);have uW:(intItems xs).size=ns.length:=by rw[Mk];simp[intItems]
 refine Af ⟨BT C8 _,LX W _ (CmpOf.ints_lt (numAt xs) (λ_ _=>intItems_at)) (λhm=>AB _ (hfp _ hm)) _ 0 _ [] 0 rfl (Ba _) (W.frame _ _ _ st λb _ o e=>Ah _ e) (.inl ⟨rfl,rfl⟩) (An _ rfl) λv h' tk hP hk=>?_⟩;have kp:∀b o,s.heap.get? b=am o->h'.get? b=am o:=λb o z=>by
  have h1:=Ap z;refine hk b o (λy=>AE h1 (AW.mp y)) (λy=>?_) (Ah _ (Ah _ z));rw[y,Bt]at h1;exact absurd h1 (Nat.not_lt_of_le (Dv _))
 rcases hP with⟨h0,rfl⟩|⟨h0,hP⟩
 .have e0:ns=[]:=Cd ∅;have:=h h' 0 tk kp;rw[S0,if_pos e0]at this;exact this
 .obtain⟨t,rfl⟩:=intItems_at hP;have e0:ns≠[]:=λz=>by rw[uW,z]at h0;exact AB _ h0
  have h2:=h h' t tk kp;rw[S0,if_neg e0,<- S1 Mk e0]at h2;have ez:(intItems xs).size=xs.size:=by simp[intItems]
  rw[ez];exact h2
end
def aau(K:Ab):O V->Hp->VK->Prop:=λxs H Q=>∃(p:db) (ns:O Int),xs=[.ref p]/\bH K H p (ns.map V.int)/\Q (if ns=[] then .aF else .int (uO ns)) H
def Sq{t:TA}(K:Ab)(hK:X.K=K)(hc:X.calm=true)(hg:Gl X "min")(hm:X.mg "min"=ce)(ha:PA X [e] t)(he:t0 pos (gt [e] X.env)=(false,o0 e X.env)::t0 pos (gt [] X.env))(hp:(t0 pos (gt [e] X.env)).any (·.1)=false):PE X (.Call (.Name "min" p) [e] [⟨am (Cf "default"),.Constant .none kc cp,kp⟩] pos) (λσ H Q=>t σ H λvs H'=>aau K vs H' Q):=by
 subst hK;intro U s σ H Q I h;refine BD (gp I hg hm boot_min ?_ ⋯ ⋯);refine callWith_kw (bN (ha pos U s σ H _ I h) λus s1 ⟨vs,H1,I1,r1,q1⟩=>?_) he hp;refine kws_cons (bN (OD U s1 σ H1 (λv H2=>v=.aF/\H2=H1) I1 ⟨rfl,rfl⟩) λv s2 ⟨x,H2,I2,r2,e1,e2⟩=>kws_nil ?_);subst e1 e2;cases r2;obtain⟨a,ns,rfl,hq,q⟩:=q1;obtain⟨u,rfl,rx⟩:=vals1 r1;cases rx;obtain⟨aq,r',pl,hz⟩:=I2.list hq;refine Ie (I2.ok.hd hc) pl.isList (intsAre_of r') λh' t tk hk=>?_;unfold S0;by_cases c:ns=[]
 .rw[if_pos c]at q ⊢;exact⟨.aF,_,I2.kept hk,rfl,q⟩
 .rw[if_neg c]at q ⊢;exact⟨.int _,_,I2.kept (t':=tk) hk,⟨t,rfl⟩,q⟩
end L2
namespace FL
section
variable[bL]
def Ky(l:O PV):W PV:=.bind (qf l) λns=>.ret (if ns=[] then .aF else .int (uO ns))
def YH{K:Ab}(hK:X.K=K)(hc:X.calm=true)(hg:Gl X "min")(hm:X.mg "min"=ce)(ha:Hq X K fs e wl)(hs:‹gE X e []›)(he:‹t0 pos (gt [e] X.env)=(false,o0 e X.env)::t0 pos (gt [] X.env)›)(hp:‹(t0 pos (gt [e] X.env)).any (·.1)=false›):EF X K fs (.Call (.Name "min" p) [e] [⟨am (Cf "default"),.Constant .none kc cp,kp⟩] pos) (.bind wl Ky):=⟨PE.imp (Sq K hK hc hg hm (aQ ha.p bq hs) he hp) λσ H Q ⟨sr,q⟩=>⟨sr,wl.mono (λl q1 u1 H1 g1 s1 _ v1=>by
 obtain⟨ns,el,q2⟩:=kW q1;obtain⟨a,vs,rfl,h1,r1⟩:=v1 _ H1 .refl s1;rw[el]at r1;have:=nT r1;subst this;refine⟨a,ns,rfl,h1,?_⟩;by_cases c:ns=[]
 .simp only[if_pos c]at q2 ⊢;exact q2 _ H1 g1 s1 .aF
 .simp only[if_neg c]at q2 ⊢;exact q2 _ H1 g1 s1 (.int _)) q⟩⟩
end
end FL
namespace L2
def Zi(x y z q:Str):Nat:=if x=q then 0 else if y=q then 1 else 2
def o7{q:Str}{t2 t:Tok}:Meets (wn.«tuple.index» ⟨[.ref a,.str q t],[]⟩) (λ_ R s=>(∃o,s.heap.get? a=am o/\o.data=.seq #[.str x t1,.str y t2,.str z t3] n)/\q∈[x,y,z]/\∀u,R (.ok (.ret (.int (Zi x y z q:Nat) u))) {s with toks:=s.toks+1}):=by
 refine .of_wp λprog w A R s ⟨⟨o,ho,hd⟩,hq,h⟩=>?_;refine Aa (Af ?_);refine Aa (Aa (Bu ho hd (Af ?_)));refine Aa (Af ?_);refine Aa (Af ?_);refine Aa ?_;rw[C1];rw[show Gp [:min #[Bh x t1,Bh y t2,Bh z t3].size #[Bh x t1,Bh y t2,Bh z t3].size].start [:min #[Bh x t1,Bh y t2,Bh z t3].size #[Bh x t1,Bh y t2,Bh z t3].size].size [:min #[Bh x t1,Bh y t2,Bh z t3].size #[Bh x t1,Bh y t2,Bh z t3].size].step=[0,1,2] from by simp;decide];refine Aa (Aa (DW ?_));have Ï:∀k:Nat,Zi x y z q=k->∃v,Ex (.ret (.int k s.toks))=Ex (.ret v)/\R (.ok (.ret v)) {s with toks:=s.toks+1}:=λk e=>⟨_,rfl,by have:=h s.toks;rw[e]at this;exact this⟩;by_cases c1:x=q
 .subst c1;rw[decide_eq_true rfl,if_pos rfl];exact Aa (Aa (Aa (FQ (Af (Af (Af (Af (Af (Ï 0 (if_pos rfl))))))))))
 .rw[decide_eq_false c1,if_neg ⋯];refine Af (Aa (Aa (DW ?_)));by_cases c2:y=q
  .subst c2;rw[decide_eq_true rfl,if_pos rfl];exact Aa (Aa (Aa (FQ (Af (Af (Af (Af (Af (Ï 1 (by rw[Zi,if_neg c1,if_pos rfl]))))))))))
  .rw[decide_eq_false c2,if_neg ⋯];refine Af (Aa (Aa (DW ?_)));have c3:z=q:=by simp at hq;rcases hq with e|e|e<;>first|exact absurd e.symm c1|exact absurd e.symm c2|exact e.symm
   subst c3;rw[decide_eq_true rfl,if_pos rfl];exact Aa (Aa (Aa (FQ (Af (Af (Af (Af (Af (Ï 2 (by rw[Zi,if_neg c1,if_neg c2]))))))))))
def aaA(K:Ab):V->O V->Hp->VK->Prop:=λv vs H Q=>∃a x y z q,v=.ref a/\vs=[.str q]/\dF K H a [.str x,.str y,.str z]/\q∈[x,y,z]/\Q (.int (Zi x y z q:Nat)) H
def SX(K:Ab)(hK:X.K=K):Hr X "tuple.index" (aaA K):=by
 subst hK;intro U s σ H v vs u us Q I rx rv h;obtain⟨a,x,y,z,q,rfl,rfl,hq,hm,qq⟩:=h;cases rx;obtain⟨u,rfl,ru⟩:=rv.one;obtain⟨t,rfl⟩:=ru;obtain⟨aq,r,pl,hz⟩:=I.tuple hq;obtain⟨o,ho,hc,n,hd⟩:=pl;cases r with
 |cons q1 r=>cases r with
  |cons q2 r=>cases r with
   |cons q3 r=>
    cases r;obtain⟨t1,rfl⟩:=q1;obtain⟨t2,rfl⟩:=q2;obtain⟨t3,rfl⟩:=q3;exact wv F.slot_tuple_index ⟨_,ho,hc⟩ F.entry_tuple_index (F.args_tuple_index_2 _ _) o7 ⟨⟨_,ho,hd⟩,hm,λu=>⟨.int _,H,I.tok _,⟨u,rfl⟩,qq⟩⟩
end L2
namespace FL
section
variable[bL]
def Pw(ts:O Str):PV->W PV
 |.str q=>match ts with
  |[x,y,z]=>.d8 (q∈[x,y,z]) (.ret (.int (Zi x y z q:Nat)))
  |_=>.fail
 |_=>.fail
def YJ{K:Ab}{w:W PV}{n:Str}{ad:db}(hK:X.K=K)(he:EF X K fs e w)(hm:X.mg n=am (.ref ad))(T:QX K ad ts)(hg:‹Gl X n›)(hd: ~~~(iQ n))(cL:‹re (.Name n p) "index" X.env (o0 (.Name n p) X.env)=o0 (.Name n p) X.env›)(kj:‹V6 X bb [e]›)(cK:‹Nr À bb›)(tL:‹gE X e []›)(cu:‹kH X bb []›):EF X K fs (.Call (.Attribute (.Name n p) "index" À) [e] [] bb) (.bind w (Pw ts)):=
 ⟨PE.imp (oY K hK EY EX EW (SX K hK) (rk hg hm (v:=.ref ad) rfl hd) (aQ he.p bq tL) cL kj cK tL cu) λσ H Q ⟨sr,q⟩=>
  ⟨.inr (.inl ⟨rfl,T.tn⟩),sr,w.mono (λx q2 u2 H2 g2 s2 v2=>by
   cases v2<;>first|exact q2.elim|skip
   match ts,T,q2 with
   |[x,y,z],T,q2=>exact⟨ad,x,y,z,_,rfl,rfl,.inr T.ex,q2.1,q2.2 _ H2 g2 s2 (.int _)⟩
   |[],_,q2=>exact q2.elim
   |[_],_,q2=>exact q2.elim
   |[_,_],_,q2=>exact q2.elim
   |_::_::_::_::_,_,q2=>exact q2.elim) q⟩⟩
end
section
variable[bL]
variable{K:Ab}
def oW(l:O PV):PV->W (O PV×PV)
 |.int k=>.bind (.SI (uB l.length k)) λj=>.bind (.SI l[j]?) λv=>.d8 (l.length<=sizeLine) (.ret (l.eraseIdx j,v))
 |_=>.fail
theorem aB.erase:∀{ws:O V}{l:O PV} (j:Nat),aB K [] H ws l->aB K [] H (ws.eraseIdx j) (l.eraseIdx j)
 |_,_,_,.nil=>by simp;exact .nil
 |_,_,0,.cons _ t=>t
 |_,_,j+1,.cons r t=>by rw[Dw,Dw];exact .cons r (aB.erase j t)
section
variable{rest:O v4}{T:Type}{out:T->End}{x:Bool}{l:O PV}
theorem SF.Xa(i j:Nat){k:O PV×PV->W T}(hs:fs[i]?=am (am (.ol q0 l)))(Yk:j≠i)(hK:X.K=K)(hN:X.N[i]?=am y)(hv:Ho X.env.scope y)(İ:X.N.Nodup)(hj:X.N[j]?=am z)(hx:Loc X.env.scope z)(he:EF X K fs e we ax)(hr:∀t:O PV×PV,SF X K x ((ax.set i (am (.ol q0 t.1))).set j (am (.val t.2))) rest (k t) out)(hd: ~~~(iQ y))(jO: ~~~(JP y))(cL:‹re (.Name y p) "pop" X.env (o0 (.Name y p) X.env)=o0 (.Name y p) X.env›)(kj:‹V6 X bb [e]›)(cK:‹Nr À bb›)(tL:‹gE X e []›)(cu:‹kH X bb []›)(qJ:‹ss (.Call (.Attribute (.Name y p) "pop" À) [e] [] bb) (am (.Name z p')) pos.line X.env=pure false›)(hf:Q1 X z:=by first | exact .inl rfl | exact .inr rfl | assumption):SF X K x fs (.Assign [.Name z p'] (.Call (.Attribute (.Name y p) "pop" À) [e] [] bb) pos::rest) (.bind we λn=>.bind (oW l n) k) out:=
 SF.step (mq İ hj hx (oY K hK BS DR DQ zC (fu hN hv hd jO) (aQ he.p bq tL) cL kj cK tL cu) qJ hf) λD σ H ⟨sr,q⟩=>by
  obtain⟨a,ws,e1,h1,r1⟩:=dq sr hs;refine⟨_,e1,.inl ⟨rfl,_,bH.of h1⟩,sr,we.mono (λn q1 u H1 g1 s1 v1=>?_) q⟩;obtain⟨a',yM,rN,fV,yP⟩:=dq s1 (g1.ev.same hs (by simp));rw[e1]at rN;cases rN;cases v1 with
  |int kk=>
   have q1:(bn (.SI (uB l.length kk)) λj=>.bind (.SI l[j]?) λv=>.d8 (l.length<=sizeLine) (.ret (l.eraseIdx j,v))).run λt=>(k t).run λt=>bQ K x σ fs H D (out t):=q1;cases hx:uB l.length kk with
   |none=>rw[hx]at q1;exact q1.elim
   |some m=>
   cases hv:l[m]? with
   |none=>rw[hx]at q1;simp only[zn,lc,hv]at q1;exact q1.elim
   |some v=>
   rw[hx]at q1;simp only[zn,lc,hv]at q1;obtain⟨hz,q1⟩:=q1;obtain⟨uu,hu,ru⟩:=yP.get hv;obtain⟨h3,h4,h5,h6⟩:=rH hx;have h9:(sizeLine:Int)<2 ^ 63:=by decide
   refine⟨a,yM,kk,m,uu,rfl,rfl,fV,by lia,by lia,by rw[yP.length];exact h3,hu,?_⟩;have sx:kG a H1 (upd H1 a (.lst (yM.eraseIdx m))):=λz o n hz=>by rw[ak n];exact hz
   have oC:ax[i]?=am (am (.ol q0 l)):=g1.ev.same hs (by simp);obtain⟨s2,g2⟩:=mw (t':=.ol q0 (l.eraseIdx m)) s1 oC rfl (by simp) e1 sx λtk=>⟨λb hb=>by
    subst hb;obtain⟨u,e2,⟨v,e,_⟩|⟨b',e,z,_⟩⟩:=s1.at' i _ oC
    .cases e
    .rw[e2]at e1;cases e1;cases e;exact z b rfl,_,aG,aB.tk tk (aB.erase m yP)⟩
   have s3:=s2.jL (g2.vr s1 ru) j;exact⟨_,k _,hr (l.eraseIdx m,v),s3,(k _).mono (λt q2=>q2.go ((g1.f.trans g2).trans (cB.jL s2 _ _ j)) sr s3) q1⟩
  |_=>exact q1.elim
end
end
end FL
namespace My
def ka(dw:PV):W PV:=
 (eB (X6 false (ca .aF) (bn (ca dw) aA)) (ca .aF) (bn (bn (ca dw) qB) sk))
def cI(dw:PV):W PV:=
 (bn (bn (bn (ca dw) aA) λl1=>mX l1 λp2=>Vj (t2 pY (ca p2) (ca .aF)) (ca p2)) Ky)
def je(bf:PV)(fo:PV):W PV:=
 (eB (fo\λx1=>qI false x1 ([("split":Str),("doubled":Str),("over":Str)].map PV.str)) (bR (bn (ca bf) aA) (bn (ca fo) (Pw ["split","doubled","over"]))) (ca (.int 0)))
def gK(aX:PV)(bf:PV)(bV:PV):W PV:=
 (eB (t2 i7 (c1 d6 (aX\λx1=>bV\λx2=>dr x1 x2)) (ca (.int 2))) (bR (bn (ca bf) aA) (ca (.int 3))) (ca (.int 0)))
end My
namespace FL
section
variable[bL]
def sL:of2 (aI g) (.int i) (.int j)=.ret (g i j):=Op λQ=>⟨Ep,λq=>⟨rfl,q⟩⟩
def rz{C:Int->Int->Prop}:of2 (YY C g) (.int i) (.int j)=.d8 (C i j) (.ret (g i j)):=Op λQ=>⟨λq=>⟨q.1,q.2.2⟩,λq=>⟨q.1,rfl,q.2⟩⟩
section
variable(i j:Int)(a:Bool)(x y:PV)(l m:O PV)(s t:Str)
@[simp] theorem kr:of2 ny (.int i) (.int j)=.ret (.int (i-j)):=sL
@[simp] theorem pG:of2 o6 (.int i) (.int j)=.d8 (tz i j) (.ret (.int (i*j))):=rz
@[simp] theorem Qf:of2 oDiv (.int i) (.int j)=.d8 (Q5 i j) (.ret (.int (i / j))):=rz
@[simp] theorem Jc:of2 oMod (.int i) (.int j)=.d8 (0<j) (.ret (.int (i % j))):=rz
@[simp] theorem Jb:of2 OL (.int i) (.int j)=.d8 (Na i j) (.ret (.int (i ^ j.toNat))):=rz
@[simp] theorem GK:of2 oLt (.int i) (.int j)=.ret (.bl (decide (i<j))):=sL
@[simp] theorem acd:of2 oLe (.int i) (.int j)=.ret (.bl (decide (i<=j))):=sL
@[simp] theorem tZ:of2 SM (.int i) (.int j)=.ret (.bl (decide (j<i))):=sL
@[simp] theorem ace:of2 oGe (.int i) (.int j)=.ret (.bl (decide (j<=i))):=sL
def t6:of2 i7 x y=.d8 (Jf x y) (.ret (.bl (hG x y))):=Op λQ=>⟨λq=>⟨q.1,q.2.2⟩,λq=>⟨q.1,rfl,q.2⟩⟩
def Qe:of2 zx x y=.d8 (Jf x y) (.ret (.bl (!hG x y))):=Op λQ=>⟨λq=>⟨q.1,q.2.2⟩,λq=>⟨q.1,rfl,q.2⟩⟩
@[simp] theorem eS:of2 qx x .aF=.ret (.bl x.bZ):=Op λQ=>⟨Ep,λq=>⟨rfl,q⟩⟩
@[simp] theorem nV:of2 pY x .aF=.ret (.bl (!x.bZ)):=Op λQ=>⟨Ep,λq=>⟨rfl,q⟩⟩
@[simp] theorem dX:addW (.int i) (.int j)=.ret (.int (i+j)):=(rfl)
@[simp] theorem adY:addW (.str s) (.str t)=.d8 (s.length+t.length<=sizeLine) (.ret (.str (s++t))):=(rfl)
@[simp] theorem T8:addW (.tup l) (.tup m)=.d8 (l.length+m.length<=sizeLine) (.ret (.tup (l++m))):=(rfl)
@[simp] theorem pF:qz (.int i)=.ret (.int (-i)):=(rfl)
@[simp] theorem a9:asB (.bl a)=.ret a:=(rfl)
@[simp] theorem ZD(w:W PV):QI (.bl true) w=w:=(rfl)
@[simp] theorem ZE(w:W PV):QI (.bl false) w=.ret (.bl false):=(rfl)
@[simp] theorem T7(w:W PV):UB (.bl true) w=w:=(rfl)
@[simp] theorem adX(w:W PV):UB (.bl false) w=.ret (.bl false):=(rfl)
@[simp] theorem cU:iu (.bl a)=.ret a:=(rfl)
@[simp] theorem adF:iu (.int i)=.ret (i != 0):=(rfl)
@[simp] theorem adE:iu .aF=.ret false:=(rfl)
@[simp] theorem adD:iu (.tup l)=.ret (!l.isEmpty):=(rfl)
@[simp] theorem adG:iu (.cl l)=.ret (!l.isEmpty):=(rfl)
@[simp] theorem aE:aA (.tup l)=.ret l:=(rfl)
@[simp] theorem bU:aA (.cl l)=.ret l:=(rfl)
@[simp] theorem k7:qB (.cl l)=.ret l:=(rfl)
@[simp] theorem bu:XZ l (.int i)=.SI (d9 l i):=(rfl)
@[simp] theorem ya:xw l=.ret (.int l.length):=(rfl)
@[simp] theorem Yz:lq l=.ret (.tup l):=(rfl)
@[simp] theorem adH:part (.int i)=.ret (am i):=(rfl)
@[simp] theorem kq:yN (.tup [x,y])=.ret (x,y):=(rfl)
@[simp] theorem adT(k:Kd):jo k (.int i)=.ret (.bl (k.is (.int i))):=(rfl)
@[simp] theorem rL(k:Kd):jo k (.str s)=.ret (.bl (k.is (.str s))):=(rfl)
@[simp] theorem gQ(k:Kd):jo k (.tup l)=.ret (.bl (k.is (.tup l))):=(rfl)
@[simp] theorem adU(k:Kd):jo k (.cl l)=.ret (.bl (k.is (.cl l))):=(rfl)
@[simp] theorem adV(k:Kd):jo k (.bl a)=.ret (.bl (k.is (.bl a))):=(rfl)
@[simp] theorem adS(k:Kd):jo k .aF=.ret (.bl (k.is .aF)):=(rfl)
@[simp] theorem nW:Kt d6 [.tup l]=.ret (.int l.length):=Op λQ=>⟨Ep,λq=>⟨rfl,q⟩⟩
@[simp] theorem eZ:Kt d6 [.cl l]=.ret (.int l.length):=Op λQ=>⟨Ep,λq=>⟨rfl,q⟩⟩
@[simp] theorem adI:Kt d6 [.str s]=.d8 (s.length<=sizeLine) (.ret (.int s.length)):=Op λQ=>⟨λq=>⟨q.1,q.2.2⟩,λq=>⟨q.1,rfl,q.2⟩⟩
@[simp] theorem adW:Kt M4 [.int i]=.ret (.int i):=Op λQ=>⟨Ep,λq=>⟨rfl,q⟩⟩
@[simp] theorem T6:Kt M4 [.bl a]=.ret (.int (if a then 1 else 0)):=Op λQ=>⟨Ep,λq=>⟨rfl,q⟩⟩
@[simp] theorem dW:iA (.int j)=.d8 (okN 0 j) (.ret (jG 0 j.toNat)):=(rfl)
@[simp] theorem K4(k:Int):Ke (.int i) (.int j) (.int k)=.d8 (k = -1/\okN j i) (.ret (n5 i (i-j).toNat)):=(rfl)
@[simp] theorem YC:zm (l++[x])=.ret (l,x):=by unfold zm;simp
@[simp] theorem YA:R3 l (.int i)=.d8 (-(2 ^ 63)<=i/\i<2 ^ 63/\l.length*i.toNat<=sizeLine) (.ret (Ao i.toNat l).flatten):=(rfl)
@[simp] theorem adO:Kd.is .int (.int i)=true:=(rfl)
@[simp] theorem adP:Kd.is .int (.bl a)=true:=(rfl)
@[simp] theorem adR:Kd.is .bool (.bl a)=true:=(rfl)
@[simp] theorem adQ:Kd.is .bool (.int i)=false:=(rfl)
@[simp] theorem rK:Kd.is .str (.str s)=true:=(rfl)
@[simp] theorem gP:Kd.is .str (.tup l)=false:=(rfl)
@[simp] theorem adN:Kd.is .str (.int i)=false:=(rfl)
@[simp] theorem adJ:Kd.is .tup (.tup l)=true:=(rfl)
@[simp] theorem adK:Kd.is .tup (.str s)=false:=(rfl)
@[simp] theorem adL:Kd.is .tup (.int i)=false:=(rfl)
@[simp] theorem adM:Kd.is .tup (.bl a)=false:=(rfl)
def bJ{m:Int}{Q:PV->Prop}(h:∀d:Int,0<=d->d<m->Q (.int d)):(drawn m).run Q:=λv ⟨d,e,h0,h1⟩=>e▸h d h0 h1
end
namespace W
variable{α β:Type}
def le(a b:W α):Prop:=∀Q,b.run Q->a.run Q
def le.refl(a:W α):a.le a:=λ_ h=>h
def le.of_eq{a b:W α}(h:a=b):a.le b:=h▸le.refl a
def le.ret{a:W α}{v:α}{f:α->W β}{b:W β}(h:a.le (.ret v))(hf:(f v).le b):(a.bind f).le b:=λQ q=>h _ (hf Q q)
def le.use{a:W α}{v:α}{Q:α->Prop}(h:a.le (.ret v))(q:Q v):a.run Q:=h _ q
end W
section
variable{S R:Type}
@[simp] theorem GA(s:S)(f:PV->S->W S):cC [] s f=.ret s:=(rfl)
@[simp] theorem Ms(x:PV)(r:O PV)(s:S)(f:PV->S->W S):cC (x::r) s f=.bind (f x s) λs'=>cC r s' f:=(rfl)
theorem tU{f:PV->S->W S}{Q:S->Prop}(I:O PV->S->Prop):∀{l:O PV}{s:S},I l s->(∀x r s,I (x::r) s->(f x s).run (I r))->(∀s,I [] s->Q s)->(cC l s f).run Q
 |[],s,h0,_,he=>he s h0
 |x::r,s,h0,hs,he=>(f x s).mono (λs' h=>tU I h hs he) (hs x r s h0)
theorem GB{f:PV->S->W (Lp S R)}{Q:Lp S R->Prop}(I:O PV->S->Prop):∀{l:O PV}{s:S},I l s->(∀x r s,I (x::r) s->(f x s).run λo=>match o with|.go s'=>I r s'|.out t=>Q (.out t))->(∀s,I [] s->Q (.go s))->(FL.ko l s f).run Q
 |[],s,h0,_,he=>he s h0
 |x::r,s,h0,hs,he=>(f x s).mono (λo h=>match o,h with
  |.go s',h=>GB I h hs he
  |.out t,h=>h) (hs x r s h0)
theorem dg{f:PV->S->W S}{Q:S->Prop}{l:O PV}(I:Nat->S->Prop){s:S}(h0:I 0 s)(hs:∀(i:Nat) (x:PV) s,l[i]?=am x->I i s->(f x s).run (I (i+1)))(he:∀s,I l.length s->Q s):(cC l s f).run Q:=by
 refine tU (λr s=>∃i,i<=l.length/\r=l.drop i/\I i s) ⟨0,Ba _,rfl,h0⟩ (λx r s ⟨i,hi,e,h⟩=>?_) (λs ⟨i,hi,e,h⟩=>?_)
 .have gw:i<l.length:=by
   rcases Bs i l.length with h|h
   .exact h
   .rw[Fp h]at e;cases e
  rw[B1 gw]at e;injection e with e1 e2;subst e1;exact(f _ s).mono (λs' h'=>⟨i+1,gw,e2,h'⟩) (hs i _ s (Ad gw) h)
 .have:i=l.length:=by
   have:=congrArg Cb e;rw[Dc]at this;simp at this;lia
  subst this;exact he s h
theorem K1{f:PV->S->W (Lp S R)}{Q:Lp S R->Prop}{l:O PV}(I:Nat->S->Prop){s:S}(h0:I 0 s)(hs:∀(i:Nat) (x:PV) s,l[i]?=am x->I i s->(f x s).run λo=>match o with|.go s'=>I (i+1) s'|.out t=>Q (.out t))(he:∀s,I l.length s->Q (.go s)):(FL.ko l s f).run Q:=by
 refine GB (λr s=>∃i,i<=l.length/\r=l.drop i/\I i s) ⟨0,Ba _,rfl,h0⟩ (λx r s ⟨i,hi,e,h⟩=>?_) (λs ⟨i,hi,e,h⟩=>?_)
 .have gw:i<l.length:=by
   rcases Bs i l.length with h|h
   .exact h
   .rw[Fp h]at e;cases e
  rw[B1 gw]at e;injection e with e1 e2;subst e1;exact(f _ s).mono (λo h'=>match o,h' with
   |.go s',h'=>⟨i+1,gw,e2,h'⟩
   |.out t,h'=>h') (hs i _ s (Ad gw) h)
 .have:i=l.length:=by
   have:=congrArg Cb e;simp at this;lia
  subst this;exact he s h
def km{f:PV->S->W S}{Q:S->Prop}(I:Nat->S->Prop){s:S}(h0:I 0 s)(hs:∀(i:Nat) s,i<n->I i s->(f (.int (i:Int)) s).run (I (i+1)))(he:∀s,I n s->Q s):(cC (jG 0 n) s f).run Q:=
 dg I h0 (λi x s hx h=>by obtain⟨hi,rfl⟩:=pz hx;rw[Gi];exact hs i s hi h) (λs h=>he s (by rw[iG]at h;exact h))
def GC{f:PV->S->W (Lp S R)}{Q:Lp S R->Prop}(I:Nat->S->Prop){s:S}(h0:I 0 s)(hs:∀(i:Nat) s,i<n->I i s->(f (.int (i:Int)) s).run λo=>match o with|.go s'=>I (i+1) s'|.out t=>Q (.out t))(he:∀s,I n s->Q (.go s)):(FL.ko (jG 0 n) s f).run Q:=
 K1 I h0 (λi x s hx h=>by obtain⟨hi,rfl⟩:=pz hx;rw[Gi];exact hs i s hi h) (λs h=>he s (by rw[iG]at h;exact h))
theorem iT{c:S->W Bool}{b:S->W S}{Q:S->Prop}(I:Nat->S->Prop){s:S}(h0:I n s)(hs:∀n s,I n s->(c s).run λk=>if k=true then (b s).run (λs'=>∃m,m<n/\I m s') else Q s):(oH c b s).run Q:=by
 refine⟨n+1,?_⟩;have:∀k n s,n<k->I n s->(gW c b k s).run Q:=by
  intro k
  induction k with
  |zero=>intro n s h;lia
  |succ k ih=>
   intro n s hn h;refine(c s).mono (λz q=>?_) (hs n s h);cases z with
   |true=>exact(b s).mono (λs' ⟨m,hm,h'⟩=>ih m s' ∅ h') (q)
   |false=>exact q
 exact this (n+1) n s ∅ h0
theorem KA{f:PV->W PV}{g:PV->PV}:∀{l:O PV},(∀x∈l,f x=.ret (g x))->bz l f=.ret (l.map g)
 |[],_=>rfl
 |x::r,h=>by
  show bn (f x) (λy=>bn (bz r f) λl=>ca (y::l))=_;rw[h x (.head _),KA λy hy=>h y (.tail _ hy)];rfl
theorem xA{g:PV->Option PV}:∀{l:O PV},(∀x∈l,f x=.ret (g x))->mX l f=.ret (l.filterMap g)
 |[],_=>rfl
 |x::r,h=>by
  show bn (f x) (λo=>bn (mX r f) λl=>ca (o.toList++l))=_;rw[h x (.head _),xA λy hy=>h y (.tail _ hy),AG];cases g x<;>rfl
end
section
variable(i j:Int)(a b:Bool)(x y:PV)(l m:O PV)(s t:Str)
@[simp] theorem P9:hG (.int i) (.int j)=(i==j):=by rw[hG]
@[simp] theorem K3:hG (.str s) (.str t)=(s==t):=by rw[hG]
@[simp] theorem VT:hG (.bl a) (.bl b)=(a==b):=by rw[hG]
@[simp] theorem ahy:hG (.tup l) (.tup m)=fX l m:=by rw[hG]
@[simp] theorem ahz:hG (.cl l) (.cl m)=fX l m:=by rw[hG]
@[simp] theorem agb:fX [] []=true:=by rw[fX]
@[simp] theorem aga:fX (x::l) (y::m)=(hG x y&&fX l m):=by rw[fX]
@[simp] theorem adA:PV.eR (.int i)=true:=by rw[PV.eR]<;>simp
@[simp] theorem af9:PV.eR (.bl a)=true:=by rw[PV.eR]<;>simp
@[simp] theorem ady:PV.eR (.str s)=true:=by rw[PV.eR]<;>simp
@[simp] theorem adz:PV.eR .aF=true:=by rw[PV.eR]<;>simp
@[simp] theorem T3:PV.eR (.tup l)=dU l:=by rw[PV.eR]
@[simp] theorem af8:PV.eR (.cl l)=dU l:=by rw[PV.eR]
@[simp] theorem ab0:dU []=true:=by rw[dU]
@[simp] theorem Zx:dU (x::l)=(PV.eR x&&dU l):=by rw[dU]
@[simp] theorem ab8:PV.hJ (.int i)=0:=by rw[PV.hJ]<;>simp
@[simp] theorem adC:PV.hJ (.bl a)=0:=by rw[PV.hJ]<;>simp
@[simp] theorem ab6:PV.hJ (.str s)=0:=by rw[PV.hJ]<;>simp
@[simp] theorem ab7:PV.hJ .aF=0:=by rw[PV.hJ]<;>simp
@[simp] theorem ab5:PV.hJ (.tup l)=c6 l+1:=by rw[PV.hJ]
@[simp] theorem adB:PV.hJ (.cl l)=c6 l+1:=by rw[PV.hJ]
@[simp] theorem Zz:c6 []=0:=by rw[c6]
@[simp] theorem Yw:c6 (x::l)=max (PV.hJ x) (c6 l):=by rw[c6]
def GL:Jf (.int i) (.int j):=⟨by simp,by simp,by simp⟩
@[simp] theorem t4:of2 i7 (.int i) (.int j)=.ret (.bl (i==j)):=by rw[t6,r9 (GL i j),P9]
@[simp] theorem YD:of2 zx (.int i) (.int j)=.ret (.bl (!(i==j))):=by rw[Qe,r9 (GL i j),P9]
@[simp] theorem agf:of2 i7 (.bl a) (.bl b)=.ret (.bl (a==b)):=by rw[t6,r9 ⟨by simp,by simp,by simp⟩,VT]
@[simp] theorem age:of2 zx (.bl a) (.bl b)=.ret (.bl (!(a==b))):=by rw[Qe,r9 ⟨by simp,by simp,by simp⟩,VT]
end
theorem gC:∀{l:O PV},dU l=true↔∀x∈l,PV.eR x=true
 |[]=>by simp
 |x::l=>by rw[dU,A7,gC];simp
theorem iI:∀{l:O PV},(∀x∈l,PV.hJ x<=n)->c6 l<=n
 |[],_=>by simp
 |x::l,h=>by
  have h1:=h x (.head _);have h2:=iI λy hy=>h y (.tail _ hy);rw[c6];lia
instance (priority:=10) aib:bL:=⟨[]⟩
end
section
variable[bL]
structure EV where
 P:wP
 w:Db
 K:Ab
 mg:Str->Option ci
 base:pr
structure DF where
 x:Str
 s:v4
 ps:List Str
 k:Nat
 sp:Ab->Sp
abbrev DF.C(d:DF)(v:EV):=Q4 v.P v.w v.K v.mg v.base d.x d.k d.ps (d.sp v.K)
structure DI(v:EV)(d:DF) where
 f:db
 fd:FuncData
 fn:UJ v.K d.x d.x d.s f fd
 bi:Binds v.K fd d.ps []
 at':v.mg d.x=am (.ref f)
abbrev DI.O{v:EV}{d:DF}(D:DI v d):Prop:=lM v.P v.w v.K v.mg v.base Hk d.k D.f D.fd d.ps (d.sp v.K)
def DI.c{v:EV}{d:DF}(D:DI v d)(h:D.O):d.C v:=⟨D.f,D.fd,h,D.bi,D.fn.kp,D.at'⟩
def DI.cN{v:EV}{d:DF}(D:DI v d)(h:lM v.P v.w v.K v.mg v.base Hk k D.f D.fd d.ps sp):Q4 v.P v.w v.K v.mg v.base d.x k d.ps sp:=⟨D.f,D.fd,h,D.bi,D.fn.kp,D.at'⟩
structure DX(K:Ab)(x:Str)(st:v4):Prop where
 ex:∃f fd,AI K im x=am (am (.ref f))/\UJ K x x st f fd
abbrev dnm(s:v4):Str:=match s with
 |.FunctionDef x _ _ _ _ _ _ _ _ _=>x
 |_=>""
def dx{K:Ab}{st:v4}{f:db}{kV:ci}(a:AI K im x=am (am (.ref f)))(l:K.lookup f=am ⟨oc,od,.func (B9 x x (fb st) (cz st) (aM st) .none kV È pm an fq ct),Rg⟩)(c:Es K fq x=true)(k:Er K (.ref f)=true):DX K x st:=⟨f,_,a,Yt l c k⟩
def fsc{N P:O Str}{sc:pc}(h1:‹sc.kind=.function›)(h2:‹sc.isCoroutine=false›)(h3:‹sc.isGenerator=false›)(h4:N.Nodup:=by decide +kernel)(h5:‹N.take P.length=P›)(h6:∀x∈P,sc.names.lookup x=am .local\/sc.names.lookup x=am .cell:=by decide +kernel)(h7:∀y∈sc.names,y.2≠.free:=by decide +kernel):fc N P sc:=⟨h1,h2,h3,h4,h5,h6,h7⟩
def lcs{N:O Str}{sc:pc}(h1:‹sc.kind=.function›)(h2:∀y∈sc.names,y.2=.cell->sc.names.lookup y.1=am .cell:=by decide +kernel)(h3:∀y∈sc.names,y.2=.local->sc.names.lookup y.1=am .local:=by decide +kernel)(h4:∀y∈sc.names,y.2=.free->(Xs.names.lookup y.1=am .cell\/Xs.names.lookup y.1=am .free):=by decide +kernel)(h5:N'.Nodup:=by decide +kernel)(h6:‹ix.length=N'.length›)(h7:((ix.zip N').all λp=>match p.1 with|none=>true|some j=>decide (N[j]?=am p.2)&&decide (sc.names.lookup p.2=am .free))=true:=by decide +kernel):aV Xs N sc N' ix:=⟨h1,h2,h3,h4,h5,h6,h7⟩
abbrev tw(l:O (Str×wE)):pc:={kind:=.function,names:=(Cf ".0",.local)::l,isGenerator:=false,isCoroutine:=false,more:=[]}
abbrev lo:wE:=.local
abbrev gi:wE:=.globalImplicit
abbrev fr:wE:=.free
def zA:O AK->Nat
 |[]=>0
 |.p _ _::ks=>zA ks+1
 |_::ks=>zA ks
theorem nB:∀{ks:O AK}{i:Nat},ks[i]?=am (.p ψ d)->zA ks≠0
 |[],i,h=>by simp at h
 |.p _ _::_,_,_=>Nat.succ_ne_zero _
 |.v::ks,0,h=>by simp at h
 |.f _ _ _ _::ks,0,h=>by simp at h
 |.v::ks,i+1,h=>nB (ks:=ks) (by simpa using h)
 |.f _ _ _ _::ks,i+1,h=>nB (ks:=ks) (i:=i) (by simpa using h)
theorem xf:∀{ks:O AK},Nat.ble (zA ks) 1=true->uA ks
 |[],_=>Kq
 |.v::ks,h=>U7 (xf (ks:=ks) h)
 |.f _ _ _ _::ks,h=>aaV (xf (ks:=ks) h)
 |.p _ _::ks,h=>λi j ⟨φ,d,a⟩ ⟨ψ,d',b⟩=>by
  have z:zA ks+1<=1:=CY h;cases i with|succ i=>exact absurd ∅ (nB (ks:=ks) (by simpa using a))|zero=>cases j with|succ j=>exact absurd ∅ (nB (ks:=ks) (by simpa using b))|zero=>rfl
abbrev Ku(st:v4):O Str:=((aM st).names.filter λy=>y.2==.local||y.2==.cell).map (·.1)
abbrev LL(st:v4):O Str:=(fb st).args.map (·.arg)
abbrev nml(sc:pc):O Str:=((sc.names.tail.filter λy=>y.2==.local||y.2==.cell)++sc.names.filter λy=>y.2==.free).map (·.1)
abbrev ixl(N:O Str)(sc:pc):O (Option Nat):=((sc.names.tail.filter λy=>y.2==.local||y.2==.cell).map λ_=>ce)++(sc.names.filter λy=>y.2==.free).map λy=>am (N.idxOf y.1)
abbrev LS(st:v4)(sc:pc):Prop:=aV (aM st) (Ku st) sc (nml sc) (ixl (Ku st) sc)
abbrev LT(Xs sc:pc):Prop:=aV Xs (nml Xs) sc (nml sc) (ixl (nml Xs) sc)
def msk:Nat->aL->aL
 |_,[]=>[]
 |n,s::l=>(match n % 2 with|0=>s|_=>ce)::msk (n / 2) l
theorem cY.m:∀(n:Nat) {fs:aL},cY fs (msk n fs)
 |_,[]=>.refl _
 |n,s::l=>by
  unfold msk
  split
  .exact .keep (cY.m _)
  .exact .drop (cY.m _)
def Nb:(n:Nat)->(O PV->W R->Prop)->Hs R n->Prop
 |0,B,m=>B [] m
 |n+1,B,m=>∀x:PV,Nb n (λl w=>B (x::l) w) (m x)
theorem Nb.all:∀{n:Nat}{B:O PV->W R->Prop}{m:Hs R n},Nb n B m->∀l,l.length=n->B l (wG n m l)
 |0,_,_,h,[],_=>h
 |n+1,_,_,h,x::l,e=>Nb.all (h x) l (Nat.succ.inj e)
section
variable{v:EV}{st:v4}
abbrev BB{T:Type}(v:EV)(x:Str)(st:v4)(k:Nat)(ks:O AK)(f:db)(n:Nat)(m:Hs T n)(o:T->End):Prop:=∀{j:Nat}{fq:ci}{A:Da}{outer:O Env}{s:cr}{H:Hp}{E:XK},dz k (A.deeper (GM x (aM st) s.heap.objs.size f fq))->(Ku st).Nodup->Nb n (λl w=>SF (vf Hk v.P v.w v.K v.mg v.base (Ku st) x (aM st) f fq A outer s H E).Va v.K false (uw j ks l (Ku st).length) (cz st) w o) m
abbrev BP{T:Type}(v:EV)(x:Str)(st:v4)(k:Nat)(ks:O AK)(f:db)(n:Nat)(m:Hs T n)(o:T->End):Prop:=∀{fq:ci}{A:Da}{outer:O Env}{s:cr}{H:Hp}{E:XK} (j:Nat),dz k (A.deeper (GM x (aM st) s.heap.objs.size f fq))->(Ku st).Nodup->Nb n (λl w=>SF (vf Hk v.P v.w v.K v.mg v.base (Ku st) x (aM st) f fq A outer s H E).Va v.K false (uw j ks l (Ku st).length) (cz st) w o) m
def rA{m:Hs PV n}(D:DI v ⟨x,st,LL st,k+1,λK=>NR K ks (wG n m)⟩)(Í:BB v x st k ks D.f n m .rt)(TL:‹ks.length=(LL st).length›)(one:‹Nat.ble (zA ks) 1=true›)(S:fc (Ku st) (LL st) (aM st):=by exact fsc):D.O:=fnV D.fn S TL (xf one) λj l e fq A outer s H E hr=>(Í hr S.nd).all l e
def Ng{m:Hs (O PV) n}(D:DI v ⟨x,st,LL st,k+1,λK=>zb K ks (wG n m)⟩)(Í:BB v x st k ks D.f n m .rl)(TL:‹ks.length=(LL st).length›)(one:‹Nat.ble (zA ks) 1=true›)(S:fc (Ku st) (LL st) (aM st):=by exact fsc):D.O:=fnL D.fn S TL (xf one) λj l e fq A outer s H E hr=>(Í hr S.nd).all l e
def OV{m:Hs PV n}(D:DI v ⟨x,st,LL st,k+1,λK=>NR K ks (wG n m)⟩)(Í:BP v x st k ks D.f n m .rt)(TL:‹ks.length=(LL st).length›)(one:‹Nat.ble (zA ks) 1=true›)(S:fc (Ku st) (LL st) (aM st):=by exact fsc):D.O:=rA D (λ{j _ _ _ _ _ _}=>Í j) TL one S
end
section
variable{K:Ab}{W':W PV}{WL:W (O PV)}
theorem eC{m:O PV->W PV}(G:Q4 X.prog X.w X.K X.mg X.base x k ps (NR K ks m))(hr:dz k' X.A)(ha:AF X K fs (e::es) ks B f1)(hk:k<=k':=by first|exact CY rfl|exact Ak _|lia)(hg:‹Gl X x›)(hW:‹W'=B m›)(lH: ~~~(iQ x))(he:‹gE X e es›)(dG:‹kH X pos es›):EF X K fs (.Call (.Name x p) (e::es) [] pos) W' f1:=Ue G hr hk hg ha hW lH he dG
theorem lC{m:O PV->W (O PV)}{B:(O PV->W (O PV))->W (O PV)}(G:Q4 X.prog X.w X.K X.mg X.base x k ps (zb K ks m))(hr:dz k' X.A)(ha:AF X K fs (e::es) ks B f1)(hk:k<=k':=by first|exact CY rfl|exact Ak _|lia)(hg:‹Gl X x›)(hW:‹WL=B m›)(lH: ~~~(iQ x))(he:‹gE X e es›)(dG:‹kH X pos es›):LF X K fs (.Call (.Name x p) (e::es) [] pos) WL f1:=S9 G hr hk hg ha hW lH he dG
variable{n0 mx:Nat}{y0:Str}
theorem eP(i:Nat){m:O PV->W PV}(G:Q4 X.prog X.w X.K X.mg X.base x k ps (NR K (.p ψ d::ks) m))(hr:dz k' X.A)(ha:AF X K fs es ks B f1)(hs:‹fs[i]?=am (am (.cG ψ n0 mx))›)(oC:‹f1[i]?=am (am (.cG ψ n mx))›)(hd:n+d<=mx:=by omega)(hk:k<=k':=by first|exact CY rfl|exact Ak _|lia)(hg:‹Gl X x›)(hW:‹W'=B m›)(lH: ~~~(iQ x))(hN:‹X.N[i]?=am y0›)(hv:Ho X.env.scope y0:=by first|exact Cg rfl|exact Co (Cg rfl)|exact Co (Co rfl))(ĝ: ~~~(iQ y0))(jO: ~~~(JP y0))(he:‹gt (.Name y0 py::es) X.env=(false,o0 (.Name y0 py) X.env)::gt es X.env›)(dG:‹kH X pos es›):EF X K fs (.Call (.Name x p) (.Name y0 py::es) [] pos) W' (f1.set i (am (.cG ψ (n+d) mx))):=hW▸Ug i G hr hk hg hs ha oC hd lH hN hv ĝ jO he dG
theorem oE.s:∀{fs:aL} (i:Nat) {n n' m:Nat},n<=n'/\n'<=m->(hs:‹fs[i]?=am (am (.cG ψ n m))›)->oE fs (fs.set i (am (.cG ψ n' m)))
 |[],_,_,_,_,_,h=>by simp at h
 |s::l,0,_,_,_,k,h=>by simp at h;subst h;exact .bump k (.refl _)
 |s::l,i+1,_,_,_,k,h=>by exact .keep (oE.s (fs:=l) i k (by simpa using h))
def d7(i:Nat)(hN:X.N.Nodup)(hi:‹X.N[i]?=am x›)(hx:Loc X.env.scope x:=by first|exact .inl rfl|exact .inr rfl)(hf:Q1 X x:=by first|exact .inl rfl|exact .inr rfl|assumption):PG X (.Name x pos) (eG i):=Sl hN hi hx hf
variable{T:Type}{out:T->End}{b:Bool}{rest:O v4}
def sv(i:Nat){k:PV->W T}(hN:X.N.Nodup)(he:EF X K fs e we f1)(hr:∀v,SF X K b (f1.set i (am (.val v))) rest (k v) out)(hi:‹X.N[i]?=am y›)(hx:Loc X.env.scope y:=by first|exact .inl rfl|exact .inr rfl)(hs:‹ss e (am (.Name y p')) pos.line X.env=pure false›)(hf:Q1 X y:=by first|exact .inl rfl|exact .inr rfl|assumption):SF X K b fs (.Assign [.Name y p'] e pos::rest) (.bind we k) out:=SF.set hN hi hx he hr hs hf
def sl(i:Nat){k:O PV->W T}(hN:X.N.Nodup)(he:LF X K fs e wl f1)(hr:∀l,SF X K b (f1.set i (am (.ol ce l))) rest (k l) out)(hi:‹X.N[i]?=am y›)(hx:Loc X.env.scope y:=by first|exact .inl rfl|exact .inr rfl)(hs:‹ss e (am (.Name y p')) pos.line X.env=pure false›)(hf:Q1 X y:=by first|exact .inl rfl|exact .inr rfl|assumption):SF X K b fs (.Assign [.Name y p'] e pos::rest) (.bind wl k) out:=SF.aey hN hi hx he hr hs hf
end
end
end FL
variable{v:FL.EV}{m:PL.PV->FL.W PL.PV}{d:FL.DF}
namespace FL
section
variable[bL]
def acM:(n:Nat)->(O ci->Prop)->Prop
 |0,P=>P []
 |n+1,P=>∀x,acM n λl=>P (x::l)
theorem usN:∀{n:Nat}{P:O ci->Prop},acM n P->∀us:O ci,us.length=n->P us
 |0,_,h,[],_=>h
 |n+1,_,h,x::l,e=>usN (h x) l (Nat.succ.inj e)
def DX.mk2(D:DX v.K d.x d.s)(X:v.K.In h)(G:h.Ns im v.mg)(hb:∀(kV È pm:ci) (an:Option db) (fq ct:ci) (us:O ci),us.length=d.ps.length->bindArgs (B9 d.x d.x (fb d.s) (cz d.s) (aM d.s) .none kV È pm an fq ct) ⟨us,[]⟩=pure (d.ps.zip us):=by exact λ_ _ _ _ _ _=>usN (by (repeat intro _);rfl)):Nonempty (DI v d):=by
 obtain⟨f,fd,a,F⟩:=D.ex;exact⟨⟨f,fd,F,F.binds hb,BU X G a⟩⟩
def DX.go(D:DX v.K d.x d.s)(X:v.K.In h)(G:h.Ns im v.mg){P:Prop}(k:∀D:DI v d,D.O)(r:d.C v->P)(hb:∀(kV È pm:ci) (an:Option db) (fq ct:ci) (us:O ci),us.length=d.ps.length->bindArgs (B9 d.x d.x (fb d.s) (cz d.s) (aM d.s) .none kV È pm an fq ct) ⟨us,[]⟩=pure (d.ps.zip us):=by exact λ_ _ _ _ _ _=>usN (by (repeat intro _);rfl)):P:=by
 obtain⟨D⟩:=D.mk2 X G hb;exact r (D.c (k D))
def NQ(K:Ab):Sp:=λvs H Q _=>TB H/\∃(a:db) (ns:O Int),vs=[.ref a]/\JQ K H a (ns.map V.int)/\ns.length<=63/\∀H',Q (.bl true) H'
def S6{K:Ab}(ok:∀ns:O Int,ns.length<=63->(m (.cl (ns.map PV.int))).run (·=.bl true)):∀vs H Q E,NQ K vs H Q E->NR K [.v] (wG 1 m) vs H Q E:=λvs H Q E ⟨tb,a,ns,e,fz,hl,q⟩=>by
 subst e;refine⟨tb,0,[.cl (ns.map PV.int)],.v (.cl fz (xK _ _ ns)) .nil,(m (.cl (ns.map PV.int))).mono (λv e u H' _ r=>?_) (ok ns hl)⟩;subst e;cases r;exact q H'
structure acN(K:Ab)(mg:Str->Option ci)(d:DF):Prop where
 f:∀v:EV,v.K=K->v.mg=mg->∀D:DI v d,D.O
def mkAll{l:PySem.W.OpenLaw}{K:Ab}{fa:db}{st:v4}(ok:∀ns:O Int,ns.length<=63->(m (.cl (ns.map PV.int))).run (·=.bl true))(X:K.In h)(G:h.Ns im mg)(hfa:mg "law"=am (.ref fa))(ack:DX K "law" st)(hb:∀(kV È pm:ci) (an:Option db) (fq ct:ci) (us:O ci),us.length=1->bindArgs (B9 "law" "law" (fb st) (cz st) (aM st) .none kV È pm an fq ct) ⟨us,[]⟩=pure (([("_law_script":Str)]:O Str).zip us))(F:acN K mg ⟨"law",st,["_law_script"],k,λK=>NR K [.v] (wG 1 m)⟩):∃fd:FuncData,(∀(s:cr) (v:ci),BindsTo s fd ⟨[v],[]⟩ [("_law_script",v)])/\∀base:pr,K.In base->base.Ns im mg->lM l.prog w K mg base Hk k fa fd ["_law_script"] (NQ K):=by
 obtain⟨f,fd,a,F'⟩:=ack.ex;have e:=hfa.symm.trans (BU X G a);cases e;obtain⟨oc,od,kV,È,pm,an,fq,ct,Rg,rfl,_⟩:=id F'.ex;exact⟨B9 "law" "law" (fb st) (cz st) (aM st) .none kV È pm an fq ct,λs v=>.of_eq (hb kV È pm an fq ct [v] rfl),λbase _ _=>(F.f ⟨l.prog,w,K,mg,base⟩ rfl rfl ⟨_,_,F',(F'.binds (ps:=["_law_script"]) hb),hfa⟩).imp (S6 ok)⟩
section
variable{K:Ab}{R:Type}{B:(O PV->W R)->W R}
def av(i:Nat){v:PV}(hr:AF X K fs es ks B f1)(hs:‹fs[i]?=am (am (.val v))›)(hN:‹X.N[i]?=am x›)(hv:Ho X.env.scope x:=by first|exact Cg rfl|exact Co (Cg rfl)|exact Co (Co rfl))(hd: ~~~(iQ x))(jO: ~~~(JP x))(h:‹gt (.Name x pos::es) X.env=(false,o0 (.Name x pos) X.env)::gt es X.env›):AF X K fs (.Name x pos::es) (.v::ks) (λk=>.bind (.ret v) λx=>B λl=>k (x::l)) f1:=ag (ae i hs hN hv hd jO) hr h
end
end
section
variable[bL]
structure Lm where
 q:Str
 ar:Arguments
 bd:nw
 sc:pc
end
end FL
variable{o:Option L2.HO}{ts:O Bg}
namespace L2
def HD(ts:O db)(a:db)(o:Option HO):Hp:=λb=>if b∈ts then am (.yZ #[]) else if b=a then o else ce
def NF(h:b∈ts):HD ts a o b=am (.yZ #[]):=if_pos h
def Ws(h:a∉ts):HD ts a o a=o:=by unfold HD;rw[if_neg h,if_pos rfl]
def m7{u:HO}(h:HD ts a o b=am u):(b∈ts/\u=.yZ #[])\/(b=a/\o=am u):=by
 unfold HD at h;by_cases c:b∈ts
 .rw[if_pos c]at h;cases h;exact .inl ⟨c,rfl⟩
 .rw[if_neg c]at h;by_cases d:b=a
  .rw[if_pos d]at h;exact .inr ⟨d,h⟩
  .rw[if_neg d]at h;cases h
def L1{K:Ab}{mb:Str->Option ci}{fa:db}{s₁:cr}(KX:K.In s₁.heap)(Mk:s₁.heap.Ns im mg)(hb:s₁.heap.Ns GT mb)(hbb:∀x:Str,x≠"__name__"->mb x=sn x)(afH:s₁.heap.NoLimit)(hbm:∃bm ob,mg "__builtins__"=am (.ref bm)/\bm≠GT/\s₁.heap.get? bm=am ob/\ob.cls=.type "module"/\ob.dict=am GT/\ob.data=.plain)(hg:s₁.gens=#[])(ha:s₁.heap.get? a=am {cls:=.type "list",data:=.seq vs.toArray})(hi:xL vs ns)(hl:ns.length<=sizeLine)(hr:dz k callerA)(ht:∀P∈ts,s₁.heap.get? P=am (FJ #[]))(htK:∀P∈ts,K.lookup P=ce)(htC:∀P∈ts,isCodeTable s₁.heap P)(F:∀base:pr,K.In base->base.Ns im mg->lM P w K mg base Hk k fa fd [x] sp)(abK:∀(s:cr) (u:ci),BindsTo s fd ⟨[u],[]⟩ [(x,u)])(Yf:∀H:Hp,(∀P∈ts,H P=am (.yZ #[]))->PL.JQ K H a (ns.map V.int)->sp [.ref a] H (λv _=>v=.bl true) λ_ _ _=>False):KF (gl P w) callerA (.call (.ref fa) ⟨[.ref a],[]⟩) (λr s'=>r=.ok (.ret (.bool true))/\OldK s₁.heap s'.heap/\s'.os=s₁.os/\Pv s'.gens) s₁:=by
 have rv:=oK hi;have ae5:=hi.length;have Ö:∀H:Hp,(∀P∈ts,H P=am (.yZ #[]))->PL.JQ K H a (ns.map V.int)->mh P w H s₁.heap->(∀b o,H b=am o->(b∈ts/\o=.yZ #[])\/(b=a/\K.lookup a=ce/\∃o' u,o=.cg o' u))->
   KF (gl P w) callerA (.call (.ref fa) ⟨[.ref a],[]⟩) (λr s'=>r=.ok (.ret (.bool true))/\OldK s₁.heap s'.heap/\s'.os=s₁.os/\Pv s'.gens) s₁:=by
  intro H hT hS bg hA;have yu:∀{b:db}{o:Obj},s₁.heap.get? b=am o->H b=ce->(xP s₁.heap H).get? b=am o:=λe n=>PF e n;have è:∀{b:db}{o:Obj}{es:Array DictEntry}{ep:Nat},s₁.heap.get? b=am o->o.data=.dict es ep->H b=ce:=λ{b o es ep} e d=>by
   cases q:H b with
   |none=>rfl
   |some u=>
    rcases hA b u q with⟨z,_⟩|⟨z,_⟩
    .rw[ht b z]at e;cases e;cases d
    .subst z;rw[ha]at e;cases e;cases d
  have ú:∀{b:db}{m:Str->Option ci},s₁.heap.Ns b m->(xP s₁.heap H).Ns b m:=λ{b m} ⟨o,es,ep,e,d,r⟩=>⟨o,es,ep,yu e (è e d),d,r⟩;have hKb:K.In (xP s₁.heap H):=λb o e=>yu (KX b o e) (by
   cases q:H b with
   |none=>rfl
   |some u=>
    rcases hA b u q with⟨z,_⟩|⟨z,z2,_⟩
    .rw[htK b z]at e;cases e
    .subst z;rw[z2]at e;cases e)
  have hM:Mod K mg (xP s₁.heap H):=⟨hKb,ú Mk,⟨mb,ú hb,hbb⟩,let ⟨mc,h1,h2⟩:=afH;⟨mc,ú h1,h2⟩,let ⟨bm,ob,h1,h2,h3,h4,h5,h6⟩:=hbm;⟨bm,ob,h1,h2,yu h3 (by
   cases q:H bm with
   |none=>rfl
   |some u=>
    rcases hA bm u q with⟨z,_⟩|⟨z,_⟩
    .rw[ht bm z]at h3;cases h3;cases h6
    .subst z;rw[ha]at h3;cases h3;cases h6),h4,h5,h6⟩⟩
  have e0:UK P w K mg (xP s₁.heap H) callerA [] s₁ H:=⟨rfl,hM,λb o e=>SH e,Gg (Mm _ _),trivial,λb hb=>absurd (show b∈([]:O db) from hb) (by simp),bg,.of_eq hg⟩;refine Ps ((F _ hKb (ú Mk)).run callerA [] s₁ H ⟨[.ref a],[]⟩ [.ref a] [.ref a] _ _ hr e0 (abK s₁ (.ref a)) (.cons rfl .nil) (Yf H hT hS)) λr s' h=>?_;cases r with
  |error e=>exact h.elim
  |ok fl=>
   cases fl with
   |next=>exact BX h
   |brk=>exact BX h
   |cont=>exact BX h
   |ret u=>
    obtain⟨v,H',os,bare,un,abw,r',q⟩:=h;have q':v=.bl true:=q;subst q';obtain rfl:u=F8 true:=r';refine⟨rfl,⟨λb o e=>?_,λb o e=>un.there b o e (by simp)⟩,os,bare⟩;cases q:H b with
    |none=>exact .inl (un.keep b o e q (by intro z;exact absurd (show b∈([]:O db) from z) (by simp)) (by simp))
    |some u=>
     rcases hA b u q with⟨z,rfl⟩|⟨z,_,o',u',rfl⟩
     .obtain⟨more,h2⟩:=un.uL b _ q;have h3:s'.heap.get? b=am (FJ (#[]++more)):=abw b _ h2;rw[ht b z]at e;cases e;exact .inr (.inl ⟨htC b z,rfl,#[],more,rfl,h3⟩)
     .have z2:=un.tT b _ _ q;obtain⟨e1,_⟩:=bg b _ q;obtain⟨e2,_⟩:=abw b _ z2;rw[e]at e1;cases e1;exact .inl e2
 have naT:a∉ts:=λz=>by rw[ht a z]at ha;cases ha
 cases hk:K.lookup a with
 |some o=>
  have e:=KX a o hk;rw[ha]at e;cases e;refine Ö (HD ts a ce) (λb hb=>NF hb) (.inr ⟨_,vs.toArray,_,hk,rfl,rfl,rfl,by rw[Am,ae5];exact hl,by simpa using rv⟩) (λb u z=>?_) λb u z=>?_
  .rcases m7 z with⟨y,rfl⟩|⟨_,y⟩
   .exact ht b y
   .cases y
  .rcases m7 z with⟨y,rfl⟩|⟨_,y⟩
   .exact .inl ⟨y,rfl⟩
   .cases y
 |none=>
  refine Ö (HD ts a (am (.cg {cls:=.type "list",data:=.seq vs.toArray} (.lst (ns.map V.int))))) (λb hb=>NF hb) (.inl ⟨{cls:=.type "list",data:=.seq vs.toArray},Ws naT⟩) (λb u z=>?_) λb u z=>?_
  .rcases m7 z with⟨y,rfl⟩|⟨rfl,y⟩
   .exact ht b y
   .cases y;exact⟨ha,by rw[Ai];exact hl,vs,_,rv,ha⟩
  .rcases m7 z with⟨y,rfl⟩|⟨rfl,y⟩
   .exact .inl ⟨y,rfl⟩
   .cases y;exact .inr ⟨rfl,hk,_,_,rfl⟩
end L2
namespace FL
section
variable[bL]
abbrev EV.at(v:EV)(b:pr):EV:=⟨v.P,v.w,v.K,v.mg,b⟩
def walkT{l:PySem.W.OpenLaw}{q:wP}{d:DefRec}{K:Params->Ab}(hn:l.most=am 63)(ĭ:d.params.defaults=[])(hr:dz k callerA)(hY:∀(w:Db) (h:pr),YP w h->(K w.params).In h/\∀P∈bL.ts.map (·.1),h.get? P=am (FJ #[]))(hK:∀w:Db,∀P∈bL.ts.map (·.1),(K w.params).lookup P=ce)(hC:∀(w:Db) (h:pr),(K w.params).In h->∀P∈bL.ts.map (·.1),isCodeTable h P)(F:∀(w:Db) (mg:Str->Option ci) (fa:db) (h:pr),(K w.params).In h->h.Ns im mg->mg d.name=am (.ref fa)->
   ∃fd:FuncData,(∀(s:cr) (u:ci),BindsTo s fd ⟨[u],[]⟩ [("_law_script",u)])/\∀base:pr,(K w.params).In base->base.Ns im mg->lM l.prog w (K w.params) mg base Hk k fa fd ["_law_script"] (NQ (K w.params))):PySem.W.WalkO q Ô XP YP l.row.toRowW d [] (λf vs=>PySem.call f vs):=by
 refine Att.G5 hn ĭ λw s₀ s₁ mg mb fa o pm cd È a vs ns G Y ho hd jO hmg Yi Õ Á hg=>?_;obtain⟨KX,hT⟩:=hY w _ Y;obtain⟨fd,hb,hF⟩:=F w mg fa _ KX G.T.g hmg;exact L1 KX G.T.g G.T.b G.T.builtins G.T.nolimit G.T.bmain hg Yi Õ (AV Á ⋯) hr hT (hK w) (hC w _ KX) hF hb λH Ą hS=>⟨λp hp=>⟨#[],Ą _ (Ar.mpr ⟨p,hp,rfl⟩),trivial,λpos c z=>by simp[codeAmong]at z⟩,a,ns,rfl,hS,Á,λ_=>rfl⟩
end
end FL
variable{o:BC}
namespace L2
section
variable{t:TA}{id:String}{r:V->O V->Hp->VK->Prop}
def aer(r:V->O V->Hp->VK->Prop)(to:TE)(t:TA):TE:=λσ H Q=>to σ H λx H1=>(∃p xs,x=.ref p/\H1 p=am (.tup xs))/\t σ H1 λys H2=>r x ys H2 Q
def Xd(slot:Slot "tuple" name id)(Tz:typeOf (.builtin id)=pure (.type "method_descriptor"))(hm:Hr X id r)(ho:PE X o to)(ha:PA X (e::es) t)(cL:‹re o name X.env (o0 o X.env)=o0 o X.env›)(kj:‹V6 X bb (e::es)›)(cK:‹Nr À bb›)(hs:‹gE X e es›)(cu:‹kH X bb es›):PE X (.Call (.Attribute o name À) (e::es) [] bb) (aer r to t):=by
 intro U s σ H Q I h;refine wpAny_Call_method_late cL kj cK rfl (bN (ho U s σ H _ I h) λv s1 ⟨x,H1,I1,r1,⟨p,xs,ex,hp⟩,q1⟩=>?_);subst ex;cases r1;obtain⟨_,_,_,⟨ob,e1,e2,_⟩,od,e3,e4⟩:=(show bh X.prog X.w H1 s1.heap p (.tup xs) from I1.bg p _ hp);rw[e1]at e3;cases e3;refine⟨"tuple",id,EY,slot,Tz,⟨ob,e1,e2⟩,λa z=>?_,?_⟩
 .cases z;exact⟨ob,e1,e4⟩
 have hA:=ha bb U s1 σ H1 _ I1 q1;rw[hs]at hA ⊢;exact Dz (by show(false||(t0 bb (gt es X.env)).any (·.1))=false;rw[cu]<;>rfl) (FP (bN hA λus s2 ⟨vs,H2,I2,r2,q2⟩=>hm U s2 σ H2 (.ref p) vs (.ref p) us Q I2 rfl r2 q2))
end
end L2
namespace FL
section
variable[bL]
section
def NA:PV->W (O PV)
 |.tup l=>.ret l
 |_=>.fail
end
end
end FL
variable{x:Bool}{i p m:Nat}
namespace FL
section
variable[bL]
variable{K:Ab}
def a8:sizeLine=16777216:=by decide
section
variable{rest:O v4}{S T:Type}{hd:Nat->S->aL}{hE:S->aL}{s0:S}{k:S->W T}{out:T->End}{R:Type}{inj:R->T}
def SF.VQ{f:PV->S->W S}(hp:ww (gl X.prog X.w) X.A X.env X.xe)(hc:X.calm=true)(hi:mW X K fs tg iter wl f1)(hl:cY f1 (hd 0 s0))(hg:PG X tg (eG i))(hb:∀j s p,j<16777216->SF X K false ((hd j s).set i (am (.val p))) body (f p s) λs'=>.nc (hd (j+1) s'))(hx:∀j s,j<=16777216->cY (hd j s) (hE s))(hr:∀s,SF X K x (hE s) rest (k s) out)(hs:pV X iter:=by intro _;rfl):SF X K x fs (.For tg iter body [] pos::rest) (.bind wl λl=>.bind (cC l s0 f) k) out:=SF.abZ hp hc hi hl (λ_ _=>TV hg) (λ_ _=>rfl) (λj s p h=>hb j s p (a8▸h)) (λj s h=>hx j s (a8▸h)) hr hs
def SF.Yu{f:PV->S->W (Lp S R)}(hp:ww (gl X.prog X.w) X.A X.env X.xe)(hc:X.calm=true)(hi:mW X K fs tg iter wl f1)(hl:cY f1 (hd 0 s0))(hg:PG X tg (eG i))(ho:∀t,(out (inj t)).zV)(hb:∀j s p,j<16777216->SF X K false ((hd j s).set i (am (.val p))) body (f p s) (lpE (hd (j+1)) λr=>out (inj r)))(hx:∀j s,j<=16777216->cY (hd j s) (hE s))(hr:∀s,SF X K x (hE s) rest (k s) out)(hs:pV X iter:=by intro _;rfl):SF X K x fs (.For tg iter body [] pos::rest) (.bind wl λl=>.bind (FL.ko l s0 f) (KU k inj)) out:=SF.VO hp hc hi hl (λ_ _=>TV hg) (λ_ _=>rfl) ho (λj s p h=>hb j s p (a8▸h)) (λj s h=>hx j s (a8▸h)) hr hs
end
section
variable{sc:pc}{f:PV->W PV}{fs3:Nat->PV->aL}
theorem HI:∀{l:aL}{p:Nat}{s:Option SL},l[p]?=am s->l.set p s=l
 |[],_,_,_=>rfl
 |_::l,0,s,h=>by simp at h;subst h;rfl
 |x::l,p+1,s,h=>by show x::l.set p s=_;rw[HI (by simpa using h)]
theorem set_set:∀{l:aL}{p:Nat}{s t:Option SL},(l.set p s).set p t=l.set p t
 |[],_,_,_=>rfl
 |_::l,0,_,_=>rfl
 |x::l,p+1,s,t=>by show x::(l.set p s).set p t=x::l.set p t;rw[set_set]
abbrev eA(f1:aL)(p:Nat)(ψ:Nat->O V->Prop)(n m:Nat):aL:=f1.set p (am (.cG ψ n m))
def sI(hp:f1[p]?=am (am (.cG ψ n m)))(n' m':Nat):(eA f1 p ψ n' m')[p]?=am (am (.cG ψ n' m')):=aY ((Aj.mp hp).1)
def rj(hp:f1[p]?=am (am (.cG ψ n m))){a b:Nat}(h:a<=b/\b<=m):oE (eA f1 p ψ a m) (eA f1 p ψ b m):=by
 have:=oE.s (fs:=eA f1 p ψ a m) p (n':=b) h (sI hp a m)
 rwa [show(eA f1 p ψ a m).set p (am (.cG ψ b m))=eA f1 p ψ b m from set_set]at this
def QM{q:Nat}(hp:f1[p]?=am (am (.cG ψ n m)))(hq:ix[q]?=am (am p))(inj:∀i i' j:Nat,ix[i]?=am (am j)->ix[i']?=am (am j)->i=i'){a b:Nat}(h:a<=b/\b<=m):cY (aW ix (eA f1 p ψ a m)) (aW ix (eA f1 p ψ b m)):=by
 have e:aW ix (eA f1 p ψ b m)=(aW ix (eA f1 p ψ a m)).set q (am (.cG ψ b m)):=by
  unfold aW;refine BL λr=>?_;by_cases c:r=q
  .subst c;rw[aY (by rw[Ai];exact(Aj.mp hq).1),Ag,hq];show am (((eA f1 p ψ b m)[p]?).getD ce)=_;rw[sI hp];rfl
  .rw[aw c,Ag,Ag];cases z:ix[r]? with
   |none=>rfl
   |some o=>
    cases o with
    |none=>rfl
    |some j=>
     have jp:j≠p:=λy=>c (inj r q p (y▸z) hq);show am (((eA f1 p ψ b m)[j]?).getD ce)=am (((eA f1 p ψ a m)[j]?).getD ce);rw[aw jp,aw jp]
 rw[e];refine(oE.s q h ?_).f;unfold aW;rw[Ag,hq];show am (((eA f1 p ψ a m)[p]?).getD ce)=_;rw[sI hp];rfl
def KH{N:O Str}(S:aV Xs N sc N' ix):∀i i' j:Nat,ix[i]?=am (am j)->ix[i']?=am (am j)->i=i':=λi i' j h1 h2=>by
 have hi:i<N'.length:=by rw[<- S.len];exact(Aj.mp h1).1
 have zX:i'<N'.length:=by rw[<- S.len];exact(Aj.mp h2).1
 have e2:=(S.at h2 (Ad zX)).1;rw[((S.at h1 (Ad hi)).1)]at e2;exact(E8 S.nd).mp (Option.some.inj e2)
theorem adb(p q d nE:Nat)(hc:X.calm=true)(S:aV X.env.scope X.N sc N' ix)(hi:mW X K fs tg iter wl f1)(hg:∀cl C s2 H2 fp,PG (dZ X sc N' cl C s2 H2 fp) tg (eG i))(he:∀cl C s2 H2 fp j t,j<16777216->EF (dZ X sc N' cl C s2 H2 fp) K ((aW ix (eA f1 p ψ (n+d*j) m)).set i (am (.val t))) Ã (f t) (fs3 j t))(h3:∀j t,j<16777216->cY (fs3 j t) (aW ix (eA f1 p ψ (n+d*(j+1)) m)))(hd:n+d*16777216<=nE/\nE<=m)(h0:ix[i]?=am ce)(hp:‹f1[p]?=am (am (.cG ψ n m))›)(hq:‹ix[q]?=am (am p)›)(hs:pV X iter:=by intro _;rfl):LF X K fs (.ListComp Ã [⟨tg,iter,[],0⟩] sc pos) (.bind wl λl=>bz l f) (eA f1 p ψ nE m):=by
 have h1:∀j,(aW ix (eA f1 p ψ (n+d*j) m))[i]?=am ce:=λj=>by unfold aW;rw[Ag,h0];rfl
 have bd:∀j,j<=sizeLine->n+d*j<=nE:=λj h=>by
  have h':j<=16777216:=by rw[<- a8];exact h
  have:=Dh d h';lia
 have up:∀j,n+d*j<=n+d*(j+1):=λj=>by have:=Dh d (Bf j 1);lia
 refine XG (hd:=λj=>eA f1 p ψ (n+d*j) m) (fs2:=λj t=>(aW ix (eA f1 p ψ (n+d*j) m)).set i (am (.val t))) hc S hi (λcl C s2 H2 fp j=>TV (hg cl C s2 H2 fp)) (λcl C s2 H2 fp j t h=>he cl C s2 H2 fp j t (a8▸h)) (λ_=>rfl) (λj=>(Iq (h1 j)).1) (λj hj=>by rw[AW]at hj;subst hj;exact h0) ?_ (λj h=>rj hp ⟨bd j h,hd.2⟩) (λj h=>(rj hp ⟨up j,AV (bd (j+1) h) hd.2⟩).ev) (λj r=>?_) (λj t h=>((Iq (h1 j)).2 t).trans (QM hp hq (KH S) ⟨up j,AV (bd (j+1) h) hd.2⟩)) (λj t h=>h3 j t (a8▸h)) hs
 .have:eA f1 p ψ (n+d*0) m=f1:=HI hp;rw[this];exact .refl _
 .by_cases c:r=p
  .subst c;exact .inr ⟨q,hq⟩
  .exact .inl (by rw[aw c,aw c])
theorem QO(p q d nE:Nat)(hc:X.calm=true)(hN:X.N.Nodup)(zX:X.N[k]?=am y)(hx:X.env.scope.names.lookup y=am .local)(S:aV X.env.scope X.N sc N' ix)(hi:mW X K fs tg iter wl f1)(hg:∀cl C s2 H2 fp,PG (dZ X sc N' cl C s2 H2 fp) tg (eG i))(he:∀cl C s2 H2 fp j t,j<16777216->EF (dZ X sc N' cl C s2 H2 fp) K ((aW ix (eA f1 p ψ (n+d*j) m)).set i (am (.val t))) Ã (f t) (fs3 j t))(h3:∀j t,j<16777216->cY (fs3 j t) (aW ix (eA f1 p ψ (n+d*(j+1)) m)))(hd:n+d*16777216<=nE/\nE<=m)(h0:ix[i]?=am ce)(hp:‹f1[p]?=am (am (.cG ψ n m))›)(hq:‹ix[q]?=am (am p)›)(qJ:‹ss (.ListComp Ã [⟨tg,iter,[],0⟩] sc pos) (am (.Name y px)) m9.line X.env=pure true›)(hs:pV X iter:=by intro _;rfl):AS X K fs (.Assign [.Name y px] (.ListComp Ã [⟨tg,iter,[],0⟩] sc pos) m9) k (.bind wl λl=>bz l f) (eA f1 p ψ nE m):=by
 have h1:∀j,(aW ix (eA f1 p ψ (n+d*j) m))[i]?=am ce:=λj=>by unfold aW;rw[Ag,h0];rfl
 have bd:∀j,j<=sizeLine->n+d*j<=nE:=λj h=>by
  have h':j<=16777216:=by rw[<- a8];exact h
  have:=Dh d h';lia
 have up:∀j,n+d*j<=n+d*(j+1):=λj=>by have:=Dh d (Bf j 1);lia
 rw[xi (f:=f) (wt:=.ret) (te:=f) λ_=>rfl];refine QP (hd:=λj=>eA f1 p ψ (n+d*j) m) (fs2:=λj t=>(aW ix (eA f1 p ψ (n+d*j) m)).set i (am (.val t))) hc hN zX hx S hi (λcl C s2 H2 fp j=>TV (hg cl C s2 H2 fp)) (λ_ _ _ _ _ _ _=>xY) (λcl C s2 H2 fp j t h=>he cl C s2 H2 fp j t (a8▸h)) (λ_=>rfl) (λj=>(Iq (h1 j)).1) (λj hj=>by rw[AW]at hj;subst hj;exact h0) ?_ (λj h=>rj hp ⟨bd j h,hd.2⟩) (λj h=>(rj hp ⟨up j,AV (bd (j+1) h) hd.2⟩).ev) (λj r=>?_) (λj t h=>((Iq (h1 j)).2 t).trans (QM hp hq (KH S) ⟨up j,AV (bd (j+1) h) hd.2⟩)) (λj t h=>h3 j t (a8▸h)) qJ hs
 .have:eA f1 p ψ (n+d*0) m=f1:=HI hp;rw[this];exact .refl _
 .by_cases c:r=p
  .subst c;exact .inr ⟨q,hq⟩
  .exact .inl (by rw[aw c,aw c])
end
end
end FL
variable{s:DA}{j:Nat}{c:Int}{vs:O L2.V}
namespace FL
section
variable[bL]
variable{K:Ab}
def fM:Nat->O V->Prop:=λj vs=>∃(b:db) (s c:Int),vs=[.ref b,.int s,.int c]/\0<=c/\c<=(j:Int)
section
def Md(I:Inv X U σ H s)(e:c9 H b):∃ns:O Int,Inv X U σ (upd H b (.lst (ns.map V.int))) s:=by
 have e:H b=am (.ext (Hi b)):=e;obtain⟨⟨ns,dQ,n',z',v',g'⟩,_⟩:=(show bh X.prog X.w H s.heap b (.ext (Hi b)) from I.bg b _ e);exact⟨ns,I.write (x:=b) (e:=b) (o:=.lst (ns.map V.int)) (h':=s.heap) (t':=s.toks) (by rw[e];exact Cm) (.inl rfl) (λb u _ z=>z) ⟨_,g'⟩ ⟨by rw[Ai];exact z',dQ,n',v',g'⟩⟩
def Mf:∀h1 h2:pr,Hi b h1->(∀o,h1.get? b=am o->h2.get? b=am o)->Hi b h2:=λ_ _ ⟨ns,aq,n,z,v,e⟩ k=>⟨ns,aq,n,z,v,k _ e⟩
def vY(I:Inv X U σ H s)(e:H b=am (.lst (ns.map V.int))):Inv X U σ (upd H b (.ext (Hi b))) s:=by
 obtain⟨z',dQ,n',v',g'⟩:=(show bh X.prog X.w H s.heap b (.lst (ns.map V.int)) from I.bg b _ e);exact I.write (x:=b) (e:=b) (o:=.ext (Hi b)) (h':=s.heap) (t':=s.toks) (by rw[e];exact Cm) (.inl rfl) (λb u _ z=>z) ⟨_,g'⟩ ⟨⟨ns,dQ,n',by rw[Ai]at z';exact z',v',g'⟩,⟨_,g'⟩,Mf⟩
def abG(b:db)(D:Ends):Ends:={nx:=λ_ _=>False,rt:=λv H'=>∃ns:O Int,H' b=am (.lst (ns.map V.int))/\D.rt v (upd H' b (.ext (Hi b)))}
def oD.shown{Q8:O v4}{t:TS}(h:oD X Q8 t):oD X Q8 λD σ H=>∃b,c9 H b/\∀ns:O Int,t (abG b D) σ (upd H b (.lst (ns.map V.int))):=λU s σ H D I ⟨b,e,q⟩=>by
 obtain⟨ns,I1⟩:=Md I e;refine bN (h U s σ _ _ I1 (q ns)) λfl s' z=>?_;cases fl with
 |next=>obtain⟨_,_,_,z⟩:=z;exact z.elim
 |brk=>obtain⟨_,_,_,z⟩:=z;exact z.elim
 |cont=>obtain⟨_,_,_,z⟩:=z;exact z.elim
 |ret u=>
  obtain⟨v,σ',H',I',r,ns,e1,z⟩:=z;exact⟨v,σ',_,vY I' e1,r,z⟩
end
section
variable{Q8:O v4}{T:Type}{w:W T}{out:T->End}
def acm(h:LF X K fs e wl ax):EF X K fs e (.bind wl λl=>.d8 (∃ns:O Int,l=ns.map PV.int) (.ret .hand)) ax:=⟨λU s σ H Q I ⟨sr,q⟩=>by
 refine bN (h.p U s σ H (λu H1=>∃a vs l,u=.ref a/\ck σ fs H H1 ax/\aU K H1 σ ax/\H a=ce/\H1 a=am (.lst vs)/\aB K [] H1 vs l/\(∃ns:O Int,l=ns.map PV.int)/\∀u H',ck σ fs H H' ax->aU K H' σ ax->VR K [] H' u .hand->Q u H') I ⟨sr,wl.mono (λl q1 a vs H1 g1 s1 n e v=>⟨a,vs,l,rfl,g1,s1,n,e,v,q1.1,q1.2⟩) q⟩) λu s1 ⟨v,H1,I1,r1,a,vs,l,e,g1,WE,n,ea,vr,⟨ns,el⟩,q1⟩=>?_;subst e el;have:=nT vr;subst this;exact⟨.ref a,_,vY I1 ea,r1,q1 _ _ (g1.side n (λφ=>by rw[ea];simp) _) (WE.side (λz=>sr.noOwn n (g1.ev.eK z)) ea _) (.hand aG)⟩⟩
def SF.fM(i m:Nat){l:O PV}(hs:fs[i]?=am (am (.ol ce l)))(hr:SF X K x (fs.set i (am (.cG FL.fM 0 m))) Q8 w out)(hm: ~~~(m<=HM)):SF X K x fs Q8 (.d8 (∃s:Int,l=[.hand,.int s,.int 0]) w) out:=⟨λU s σ H D I ⟨sr,q⟩=>by
 obtain⟨⟨sd,el⟩,q⟩:=q;obtain⟨a,ws,e1,h1,r1⟩:=dq sr hs;subst el;cases r1 with
 |cons ra r1=>
 cases r1 with
 |cons rb r1=>
 cases r1 with
 |cons rc r1=>
 cases r1;cases ra with
 | @hand b hb=>
 cases rb;cases rc;obtain⟨s2,g2⟩:=mw (t':=.cG FL.fM 0 m) sr hs rfl (by simp) e1 (λ_ _ _ z=>z:kG a H H) λtk=>⟨⟨0,_,Ak 0,h1,⟨b,sd,0,rfl,A5 0,A5 0⟩,λc hc=>by simp at hc;subst hc;exact hb⟩,Ba m,hm⟩;exact hr.p U s σ H D I ⟨s2,w.mono (λt q2=>q2.go g2 sr s2) q⟩⟩
end
theorem SU{a b:Int}(ha:-2037035976334486086268445688409378161051468393665936250636140449354381299763336706183397376<a/\a<2037035976334486086268445688409378161051468393665936250636140449354381299763336706183397376)(hb:-2037035976334486086268445688409378161051468393665936250636140449354381299763336706183397376<b/\b<2037035976334486086268445688409378161051468393665936250636140449354381299763336706183397376):tz a b:=by
 have h:∀x:Int,-2037035976334486086268445688409378161051468393665936250636140449354381299763336706183397376<x/\x<2037035976334486086268445688409378161051468393665936250636140449354381299763336706183397376->Builtin.Int.intBits x<=300:=λx hx=>intBits_le_iff.mpr (Ay (show x.natAbs<2037035976334486086268445688409378161051468393665936250636140449354381299763336706183397376 by lia) (by decide +kernel));unfold tz;have k:=h a ha;have l:=h b hb;have:Builtin.Int.intTooBig ((Builtin.Int.intBits a:Int)+(Builtin.Int.intBits b:Int))=false:=by
  unfold Builtin.Int.intTooBig;have:bitsLine=134217728:=by decide +kernel
  rw[this];exact decide_eq_false ∅
 rw[this,DM];exact AM
def bS:PV->W PV
 |.int i=>.d8 (0<i/\i<1073741824) (drawn i)
 |_=>.fail
@[simp] theorem cx{i:Int}(h0:0<i)(h1:i<1073741824):bS (.int i)=drawn i:=r9 ⟨h0,h1⟩
def af3{s:Int}(tb:TB H)(ea:∃ws,H a=am (.lst ws))(eb:c9 H b)(k:∀x o,x≠a->x≠b->H x=am o->H' x=am o)(th:∀x,H' x=ce->H x=ce)(e1:H' a=am (.lst [.ref b,.int s,.int c]))(e2:c9 H' b)(ab:a≠b)(hc:0<=c/\c<=((j+1:Nat):Int))(np:∀x ψ d,¬uz vs ks ψ d x):V7 j (.ref a::vs) (.p FL.fM 1::ks) H H':=by
 have keep:∀x o,H x=am o->x≠a->H' x=am o:=λx o h n=>by
  by_cases c:x=b
  .subst c;rw[show H x=_ from eb]at h;cases h;exact e2
  .exact k x o n c h
 obtain⟨ws,ea⟩:=ea;refine⟨λx o h n _=>keep x o h λy=>n FL.fM 1 ⟨0,rfl,by rw[y];rfl⟩,tb.mono (λx ps z=>keep x _ z λy=>by subst y;rw[ea]at z;cases z) λx o u _ z _=>⟨u,keep x _ z λy=>by subst y;rw[ea]at z;cases z⟩,th,λx ψ d ⟨i,p1,p2⟩=>?_,λx h=>keep x _ h λy=>by subst y;rw[show H x=_ from h]at ea;cases ea⟩;cases i with
 |zero=>simp at p1 p2;obtain⟨rfl,rfl⟩:=p1;subst p2;exact⟨j+1,_,Ak _,e1,⟨b,s,c,rfl,hc.1,hc.2⟩,λy hy=>by simp at hy;subst hy;exact e2⟩
 |succ i=>exact(np x ψ d ⟨i,by simpa using p1,by simpa using p2⟩).elim
end
end FL
namespace L2
def Sa:V->O V->Hp->VK->Prop:=λx vs H Q=>∃l xs i y,x=.ref l/\vs=[.int i,y]/\H l=am (.lst xs)/\0<=i/\i<2 ^ 63/\xs.length<sizeLine/\yW H l (.lst (xs.take i.toNat++y::xs.drop i.toNat)) (Q .aF)
theorem LR:Hr X "list.insert" Sa:=by
 intro U s σ H x vs v us Q I rx rv h;obtain⟨l,xs,i,y,rfl,rfl,hH,h1,h2,hz,q⟩:=h;cases rx;cases rv with
 |cons ru rv=>
 cases rv with
 |cons rw rv=>
 cases rv;obtain⟨t,rfl⟩:=ru;obtain⟨z,aq,n,r,hl,e⟩:=I.qC hH;refine wv F.slot_list_insert ⟨_,e,rfl⟩ F.entry_list_insert (F.args_list_insert_3 _ _ _) (AutoSeq1.list_insert_list_int_val_1 l aq.toArray n i t _ (by rw[fitsIndex_both ∅ h2];decide) (by rw[Am];lia)) ⟨e,?_⟩;refine⟨.aF,_,I.Ij hH e ?_ ((r.take i.toNat).append (.cons rw (r.drop i.toNat))) ?_,rfl,q.at⟩
 .have c:¬i<0:=by lia
  simp only[Am,if_neg c];apply Array.toList_inj.mp;have hk:min i.toNat aq.length<=aq.length:=Nat.min_le_right _ _;have e1:aq.take (min i.toNat aq.length)=aq.take i.toNat:=by
   rcases Nat.le_total i.toNat aq.length with h|h
   .rw[Nat.min_eq_left h]
   .rw[Nat.min_eq_right h,Ci (Ak _),Ci h]
  have e2:aq.drop (min i.toNat aq.length)=aq.drop i.toNat:=by
   rcases Nat.le_total i.toNat aq.length with h|h
   .rw[Nat.min_eq_left h]
   .rw[Nat.min_eq_right h,Fo (Ak _),Fo h]
  simp[e1,e2];exact Ci (by rw[Dc];lia)
 .rw[Al,Aw,CK,Dc];lia
end L2
namespace FL
section
variable[bL]
variable{K:Ab}
def X2(l:O PV)(n v:PV):W (O PV):=match n with
 |.int i=>.d8 (0<=i/\i<2 ^ 63/\l.length<sizeLine) (.ret (l.take i.toNat++v::l.drop i.toNat))
 |_=>.fail
theorem aB.take':∀{vs:O V}{us:O PV} (n:Nat),aB K [] H vs us->aB K [] H (vs.take n) (us.take n)
 |_,_,0,_=>.nil
 |_,_,_+1,.nil=>.nil
 |_,_,n+1,.cons r t=>.cons r (aB.take' n t)
theorem aB.drop':∀{vs:O V}{us:O PV} (n:Nat),aB K [] H vs us->aB K [] H (vs.drop n) (us.drop n)
 |_,_,0,h=>h
 |_,_,_+1,.nil=>.nil
 |_,_,n+1,.cons _ t=>aB.drop' n t
section
variable{rest:O v4}{p:Pos}{T:Type}{out:T->End}{wi:W PV}{l:O PV}
theorem SF.insert(i:Nat){k:O PV->W T}(hs:fs[i]?=am (am (.ol q0 l)))(hK:X.K=K)(hN:X.N[i]?=am y)(hv:Ho X.env.scope y)(hi:EF X K fs e wi ax)(he:EF X K ax e2 we fs2)(hr:∀l',SF X K x (fs2.set i (am (.ol q0 l'))) rest (k l') out)(hd: ~~~(iQ y))(jO: ~~~(JP y))(cL:‹re (.Name y p) "insert" X.env (o0 (.Name y p) X.env)=o0 (.Name y p) X.env›)(kj:‹((t0 bb (gt [e,e2] X.env)).all (λx=>!x.1)&&(Ix bb (xz [] X.env)).all (λx=>x.1.isSome)
   && decide ([e,e2].length+([]:O Keyword).length+(if ([]:O Keyword).isEmpty then 0 else 1) < 30))=true›)(cK:‹Nr À bb›)(tL:‹gt [e,e2] X.env=(false,o0 e X.env)::gt [e2] X.env›)(afv:‹gE X e2 []›)(cu:‹(t0 bb (gt [e2] X.env)).any (·.1)=false›)(qJ:‹ss (.Call (.Attribute (.Name y p) "insert" À) [e,e2] [] bb) ce pos.line X.env=pure false›):SF X K x fs (.Expr (.Call (.Attribute (.Name y p) "insert" À) [e,e2] [] bb) pos::rest) (.bind wi λn=>.bind we λv=>.bind (X2 l n v) k) out:=
 SF.step (nu (oY K hK BS PySem.F.slot_list_insert PySem.F.type_list_insert LR (fu hN hv hd jO) (aQ hi.p (aQ he.p bq afv) tL) cL kj cK tL cu) qJ) λD σ H ⟨sr,q⟩=>by
  obtain⟨a,ws,e1,h1,r1⟩:=dq sr hs;refine⟨_,e1,.inl ⟨rfl,_,bH.of h1⟩,sr,wi.mono (λn q0 u0 H0 g0 s0 v0=>⟨s0,we.mono (λv q1 u H1 g1 s1 v1=>?_) q0⟩) q⟩;obtain⟨a',yM,rN,fV,yP⟩:=dq s1 ((g0.trans g1).ev.same hs (by simp));rw[e1]at rN;cases rN;cases v0 with
  |int ii=>
   have q1:(0<=ii/\ii<2 ^ 63/\l.length<sizeLine)/\_:=q1;refine⟨a,yM,ii,u,rfl,rfl,fV,q1.1.1,q1.1.2.1,by rw[yP.length];exact q1.1.2.2,λH2 sx h2=>?_⟩;obtain⟨s2,g2⟩:=nv s1 ((g0.trans g1).ev.same hs (by simp)) e1 sx h2 ((aB.take' ii.toNat yP).append (.cons v1 (aB.drop' ii.toNat yP)));exact⟨_,k _,hr _,s2,(k _).mono (λt q2=>q2.go ((g0.trans g1).f.trans g2) sr s2) q1.2⟩
  |_=>exact q1.elim
variable{a b:nw}
def SF.aaL{y:Str}{wb:W (O PV)}{k:O PV->O PV->W T}(hc:X.calm=true)(hN:X.N.Nodup)(hi:X.N[i]?=am y)(hj:X.N[j]?=am z)(Yk:i≠j)(hx:X.env.scope.names.lookup y=am .local)(hy:X.env.scope.names.lookup z=am .local)(ha:LF X K fs a wl ax)(hb:LF X K ax b wb fs2)(hr:∀u v,SF X K x ((fs2.set i (am (.ol ce u))).set j (am (.ol ce v))) rest (k u v) out)(hw:‹Fk [.Tuple [.Name y px,.Name z py] kt pt] (.Tuple [a,b] k2 Rb) X.env=pure (am [y,z])›)(hs:‹Fa [.Tuple [.Name y px,.Name z py] kt pt] (.Tuple [a,b] k2 Rb) pos.line X.env=pure false›)(he:‹gt [a,b] X.env=(false,o0 a X.env)::gt [b] X.env›)(î:‹gE X b []›):SF X K x fs (.Assign [.Tuple [.Name y px,.Name z py] kt pt] (.Tuple [a,b] k2 Rb) pos::rest) (.bind wl λu=>.bind wb λv=>k u v) out:=
 SF.step (Oq hc hN hi hj Yk hx hy (aQ ha.p (aQ hb.p bq î) he) hw hs) λD σ H ⟨sr,q⟩=>⟨sr,wl.mono (λu q1 ad vs H1 g1 s1 n1 e1 v1=>⟨s1,wb.mono (λv q2 bd us H2 g2 s2 n2 e2 v2=>by
  have no:¬bP σ fs2 ad:=λz=>sr.noOwn n1 ((g1.trans g2).ev.eK z);have no2:¬bP σ fs2 bd:=λz=>s1.noOwn n2 (g2.ev.eK z);have ea:H2 ad=am (.lst vs):=g2.tH e1 λz=>sr.noOwn n1 (g1.ev.eK z);have ab:bd≠ad:=λy=>by subst y;rw[e1]at n2;cases n2
  have oa:gV K H2 ad (.ol ce u):=⟨λ_ z=>(nomatch z),vs,ea,g2.JS s1 v1⟩;have ob:gV K H2 bd (.ol ce v):=⟨λ_ z=>(nomatch z),us,e2,v2⟩;have s3:=s2.wW oa no i;have no3:¬bP (σ.set i (am (.ref ad))) (fs2.set i (am (.ol ce u))) bd:=λz=>(j8 z s2.len).elim no2 λ⟨x,y,_,w⟩=>by
   cases y;rcases w with w|w
   .exact ab w
   .cases w
  have s4:=s3.wW ob no3 j;have g4:cB σ fs H ((σ.set i (am (.ref ad))).set j (am (.ref bd))) ((fs2.set i (am (.ol ce u))).set j (am (.ol ce v))) H2:=by
   refine⟨λc o z n=>?_,(g1.trans g2).there,λc ψ m pp=>?_,(g1.trans g2).x⟩
   .obtain⟨h1,h2⟩:=(cB.wW s2 (g1.trans g2) no n1 i (t:=.ol ce u)).keep c o z n;refine⟨h1,λw=>(j8 w s3.len).elim h2 λ⟨x,y,_,w⟩=>?_⟩;cases y;rcases w with w|w
    .rw[w,g1.there bd n2]at z;cases z
    .cases w
   .rcases (cB.wW s2 (g1.trans g2) no n1 i (t:=.ol ce u)).pk c ψ m pp with w|⟨w1,w2⟩
    .refine(wY s3 w (λx y _ w2=>?_)).imp id λn=>⟨n,s3.free w⟩;cases y;rcases w2 with rfl|w2
     .exact absurd w.eK no3
     .cases w2
    .refine .inr ⟨λw=>(j8 w s3.len).elim w1 λ⟨x,y,_,w3⟩=>?_,w2⟩;cases y;rcases w3 with rfl|w3
     .obtain⟨i',n',h1,h2⟩:=pp;have:=sr.free ⟨i',n',h1,h2⟩;obtain⟨_,_,_,e,_⟩:=this;rw[g1.there _ n2]at e;cases e
     .cases w3
  exact⟨_,_,rfl,_,k u v,hr u v,s4,(k u v).mono (λt q3=>q3.go g4 sr s4) q2⟩) q1⟩) q⟩
end
end
section
variable[bL]
theorem uK(l:db)(items:Array ci)(n:Nat)(dd:Option db)(sl:Array (Option ci))(x:ci)(e:ci->Bool)(j:Nat)(hj:j < items.size)(Ï:e items[j]=true)(hno:∀m (hm:m < items.size),m < j->e items[m]=false):Meets (wn.«tuple.index» ⟨[.ref l,x],[]⟩) (λA R s=>s.heap.get? l=am {cls:=.type "tuple",dict:=dd,data:=.seq items n,slots:=sl}/\(∀y,y∈items->PySem.SeqAt.EqAt A.in1 s y x (e y))/\R (.ok (.ret (.int j s.toks))) {s with toks:=s.toks+1}):=
 .of_wp λprog w A R s h=>by
  obtain⟨hl,he,h⟩:=h;refine Aa (Af ?_);refine Aa (Aa (Bu hl rfl (Af ?_)));refine Aa (Af ?_);refine Aa (Af ?_);refine Aa ?_;rw[C1];refine wpAny_forIn_list _ (λrest b s'=>b.1=ce/\s'=s/\∃i,rest=Gp i (items.size-i)/\i<=j) _ ?turn ?fin _ _ ⟨rfl,rfl,0,by simp[Std.Legacy.Range.size],Ba _⟩
  case turn=>
   rintro i rest b s' ⟨hb,rfl,i',er,hi⟩;have gw:i'<items.size:=by lia
   have e2:items.size-i'=(items.size-i'-1)+1:=by lia
   rw[e2,List.range'_succ]at er;injection er with e3 e4;subst e3;have afK:items[i]?=am items[i]:=by simp[gw]
   rw[afK];refine Aa (he _ (Array.getElem_mem gw) prog w _ _ ?_);by_cases c:i=j
   .subst c;rw[Ï,if_pos rfl];exact Aa (Aa (Aa (FQ (Af (Af (Af (Af ⟨_,rfl,h⟩)))))))
   .rw[hno i gw ∅,if_neg ⋯];exact Af ⟨rfl,rfl,i+1,by rw[e4];congr 1,by lia⟩
  case fin=>
   rintro b s' ⟨_,_,i,e1,hi⟩;exfalso;have:(Gp i (items.size-i)).length=0:=by rw[<- e1];rfl
   rw[List.length_range']at this;lia
section
def aaz(K:Ab):V->O V->Hp->VK->Prop:=λx us H Q=>∃p vs l y q,x=.ref p/\us=[y]/\dF K H p vs/\aB K [] H vs l/\VR K [] H y q/\IJ q l/\lI q l=true/\Q (.int (xN q l)) H
theorem SW(K:Ab)(hK:X.K=K)(hu:X.A.units+200 < sK):Hr X "tuple.index" (aaz K):=by
 intro U s σ H x vs v us Q I rx rv h;obtain⟨p,ws,l,y,q,rfl,rfl,hq,hl,hy,ok,has,qq⟩:=h;cases rx;obtain⟨u,rfl,ru⟩:=rv.one;have Ye:X.A.in1.units+150+1<sK:=by show X.A.units+1+150+1<_;lia
 obtain⟨aq,r,⟨⟨cls,dd,data,sl⟩,ho,hc,n,mG⟩,hz⟩:=I.tuple (show dF X.K H p ws by rw[hK];exact hq);simp only at hc mG;subst hc mG;have Á:aq.length=l.length:=by rw[<- r.length,hl.length]
 have gw:xN q l<l.length:=List.findIdx_lt_length_of_exists (by simpa[lI]using has);have at':∀j h1 (h2:j<l.length),Jg K H q aq[j]=hG l[j] q:=λj h1 h2=>by
  have e:=congrArg (λz=>z[j]?) (rM (x:=q) hK I r hl);simp only[Ag,Ad h1,Ad h2,Cr]at e;exact Option.some.inj e
 refine wv F.slot_tuple_index ⟨_,ho,rfl⟩ F.entry_tuple_index (F.args_tuple_index_2 _ _) (uK p aq.toArray n dd sl u (Jg K H q) (xN q l) (by rw[Am];lia) ?_ ?_) ⟨ho,?_,?_⟩
 .have h1:xN q l<aq.length:=by lia
  rw[show aq.toArray[xN q l]'(by rw[Am];lia)=aq[xN q l] by simp,at' _ h1 gw];exact List.findIdx_getElem (w:=gw)
 .intro m hm afG;have h1:m<aq.length:=by rw[Am]at hm;exact hm
  rw[show aq.toArray[m]=aq[m] by simp,at' m h1 ∅];have:=List.not_of_lt_findIdx afG;simpa using this
 .intro w hw;exact pH hK I hy ru ok.1 Ye r hl ok.2.1 ok.2.2 w (by simpa using hw)
 .exact⟨.int _,H,I.tok _,⟨s.toks,rfl⟩,qq⟩
variable{K:Ab}{w:W PV}
def YI(hK:X.K=K)(hu:X.A.units+200 < sK)(ho:EF X K fs o wa)(he:EF X K fs e w)(cL:‹re o "index" X.env (o0 o X.env)=o0 o X.env›)(kj:‹V6 X bb [e]›)(cK:‹Nr À bb›)(tL:‹gE X e []›)(cu:‹kH X bb []›):EF X K fs (.Call (.Attribute o "index" À) [e] [] bb) (.bind (.bind wa NA) λl=>.bind w λx=>Tw l x):=
 ⟨PE.imp (Xd EX EW (SW K hK hu) ho.p (aQ he.p bq tL) cL kj cK tL cu) λσ H Q ⟨sr,q⟩=>⟨sr,wa.mono (λx q1 u1 H1 g1 s1 v1=>by
  cases v1<;>first|exact q1.elim|skip
  rename_i p vs l h r;refine⟨⟨p,vs,rfl,h⟩,s1,w.mono (λx q2 u2 H2 g2 s2 v2=>?_) q1⟩;exact⟨p,vs,l,u2,x,rfl,rfl,dF.of ((g2.cD s1).t _ _ h),g2.JS s1 r,v2,q2.1.1,q2.1.2,q2.2 _ H2 (g1.trans g2) s2 (.int _)⟩) q⟩⟩
end
end
end FL
variable{x:A9}{e:Bg}{Î:String}{kw:O (BZ×A9)}
namespace L2
open PySem.AutoSeq1 (wpAny_loadPart')
abbrev kwS(v:ci):O (Str×ci):=[(Cf "start",v)]
def kS1(a v:ci):checkTypeCall "enumerate" ⟨[a],kwS v⟩=pure ():=by kernel_rfl
def kS2(a v:ci):checkBuiltinCall "enumerate.__new__" ⟨[.type "enumerate",a],kwS v⟩=pure ():=by kernel_rfl
def kS3(a b v:ci):argsOk "object.__init__" ⟨[a,b],kwS v⟩:=by unfold argsOk;kernel_rfl
section
def qS{II:String}{Bn Bi:wn}{args:O ci}{S:PySem.Spec}{Q₁:ci->cr->Prop}(ft:TypeCalled T Î II)(hct:checkTypeCall T ⟨args,kw⟩=pure ())(hcn:checkBuiltinCall Î ⟨.type T::args,kw⟩=pure ())(YE:entryFor table Î=am Bn)(YF:entryFor table II=am Bi)(g:Meets (Bn ⟨.type T::args,kw⟩) S)(h:S A.in1 (wants Q₁ E) s)(abx:∀obj s₁,Q₁ obj s₁->s₁.TypeIs obj T/\argsOk II ⟨obj::args,kw⟩/\∃Si,Meets (Bi ⟨obj::args,kw⟩) Si/\Si A.in1 (wants (λr s₂=>r=.none/\Q obj s₂) E) s₁):ga (gl prog w) A (call (.type T) args kw) Q E s:=by
 obtain⟨c,tl,ajs⟩:=ft.mro;have ahe:=ft.made;have afu:=ft.sub;refine wpAny_call (codeAny_of_tree ?_);show ga _ _ (callAny (.type T) _) _ _ _;refine Af ⟨Code.quiet_builtin _ (by decide +kernel),FB F.entry_type_call ?_⟩;rw[Around.under_plain (weight_type_call_type T args kw) (units_type_call_type T args kw)];have h1:=ft.notType;have h2:=ft.canCreate
 repeat (any_goals (first|assumption|wp_step))
 refine Ps (codeAny_call_builtin ft.plain YE (Br hcn (g prog w A.in1 _ s h))) λr s₁ hr=>?_;cases r with
 |error e=>exact hr
 |ok fl=>
  cases fl with
  |ret obj=>
   obtain⟨hT,bg,Si,gi,hsi⟩:=abx _ _ hr;have hli:=ft.init.lookup;have hbi:=ft.init.bind obj
   repeat (any_goals (first|assumption|wp_step))
   refine Ps (codeAny_call_builtin ft.init.plain YF (ft.init.check _ _ _ _ _ _ _ _ hT bg (gi prog w A.in1 _ s₁ hsi))) λr₂ s₂ Py=>?_;cases r₂ with
   |error e=>exact Py
   |ok ab3=>
    cases ab3 with
    |ret r=>
     obtain⟨rfl,hq⟩:=Py
     repeat (any_goals (first|assumption|wp_step))
    |_=>exact Py.elim
  |_=>exact hr.elim
def xg{self a:ci}{rest:O ci}(hl:Gc (.type T) "__init__"=pure (am (.builtin "object.__init__")))(hm:Bind.madeBy (.type T)=pure (am Î))(Ml:(am Î != am "object.__new__")=true):Meets (wn.«object.__init__» ⟨self::a::rest,kw⟩) (λ_ R s=>s.TypeIs self T/\R (.ok (.ret .none)) s):=by
 refine Meets.of_wp λprog w A R s hs=>?_;obtain⟨hT,hq⟩:=hs
 repeat (any_goals (first|assumption|wp_step))
 exact⟨_,rfl,hq⟩
end
theorem meets_enumerate_newS(l:db)(items:Array ci)(n:Nat)(ċ:Option db)(sl:Array (Option ci))(k:Int)(t:Tok)(k0:0<=k)(k1:k<=1000000000):Meets (wn.«enumerate.__new__» ⟨[.type "enumerate",.ref l],kwS (.int k t)⟩) (λ_ R s=>s.heap.get? l=am {cls:=.type "list",dict:=ċ,data:=.seq items n,slots:=sl}/\
   R (.ok (.ret (.ref (s.heap.push {cls:=.type "list_iterator",data:=.fields #[.ref l,.int 0 0]}).objs.size)))
    {s with heap:=(s.heap.push {cls:=.type "list_iterator",data:=.fields #[.ref l,.int 0 0]}).push {cls:=.type "enumerate",data:=.fields #[.none,.bool false,.ref s.heap.objs.size,wT k,.none,.none]}}):=
 .of_wp λprog w A R s h=>by
  obtain⟨hp,g,d,tk,os⟩:=s;obtain⟨hl,h⟩:=h;have afu:=sub_enumerate;have hL:Heap.IsList (Shared.heap ⟨hp,g,d,tk,os⟩) l items:=⟨_,hl,rfl,n,rfl⟩;have hf:Builtin.SmallTypes.fitsIndex k=true:=by
   have e:(2:Int) ^ 63=9223372036854775808:=by decide
   unfold Builtin.SmallTypes.fitsIndex;simp;lia
  refine Aa ?_;refine Aa (Br rfl ?_);refine Aa (Br sub_enumerate ?_);refine Af ?_;refine Aa ?_;refine Aa (wpAny_stack_any λst=>Af ?_);have fin:ga (gl prog w) A.in1 (pyIter (.ref l) >>= λit=>(Builtin.SmallTypes.newRecord (.type "enumerate") (Builtin.SmallTypes.ownedTupleFields++[it,wT k,.none,.none]) >>= λr=>ret r)) (λfin s'=>∃v,fin=Ex (E5 v)/\R (Except.ok (E5 v)) s') (λe s'=>R (Gj e) s') ⟨hp,g,d,tk,os⟩:=by
   wp_walk using Fw hl,DC hL
   exact⟨_,rfl,h⟩
  refine wpAny_ite_split (λ_=>?_) (λ_=>?_)
  .refine Aa (Br rfl ?_);refine Aa (Br (a:=CF k t) rfl ?_);refine Aa (Br (a:=am k) rfl ?_);dsimp only;rw[hf,if_neg ⋯];exact fin
  .refine Aa (Br rfl ?_);refine Aa (Br (a:=CF k t) rfl ?_);refine Aa (Br (a:=am k) rfl ?_);dsimp only;rw[hf,if_neg ⋯];exact fin
def kE{l:db}{k:Int}{t:Tok}(k0:0<=k)(k1:k<=1000000000)(hL:s.heap.IsList l items)(h:∀h',FM h' (s.heap.objs.size+1) s.heap.objs.size k .none->h'.IsListIter s.heap.objs.size l 0->h'.objs.size=s.heap.objs.size+2->
   (∀b o,s.heap.get? b=am o->h'.get? b=am o)->Q (.ref (s.heap.objs.size+1)) {s with heap:=h'}):ga (gl prog w) A (call (.type "enumerate") [.ref l] (kwS (.int k t))) Q E s:=by
 obtain⟨⟨c,ċ,dt,sl⟩,hl,hc,n,hd⟩:=hL;replace hc:c=.type "list":=hc;replace hd:dt=.seq items n:=hd;subst hc hd;refine qS Dr (kS1 _ _) (kS2 _ _) F.entry_enumerate_new F.entry_object_init
  (meets_enumerate_newS l items n ċ sl k t k0 k1) (Q₁:=λobj s₁=>s₁.TypeIs obj "enumerate"/\Q obj s₁) ⟨hl,?_⟩ λobj _ hq=>⟨hq.1,kS3 _ _ _,_,xg Dr.init.lookup Dr.made ⋯,hq.1,rfl,hq.2⟩
 have hz:(s.heap.push {cls:=.type "list_iterator",data:=.fields #[.ref l,.int 0 0]}).objs.size=s.heap.objs.size+1:=Bt ..;show _/\_;rw[hz];have he:FM ((s.heap.push {cls:=.type "list_iterator",data:=.fields #[.ref l,.int 0 0]}).push
   {cls:=.type "enumerate",data:=.fields #[.none,.bool false,.ref s.heap.objs.size,wT k,.none,.none]}) (s.heap.objs.size+1) s.heap.objs.size k .none:=by
  have:=An (s.heap.push {cls:=.type "list_iterator",data:=.fields #[.ref l,.int 0 0]})
   (o:={cls:=.type "enumerate",data:=.fields #[.none,.bool false,.ref s.heap.objs.size,wT k,.none,.none]}) rfl
  rw[hz]at this;exact this
 refine⟨⟨_,he,rfl⟩,h _ he ⟨_,Ah _ (An _ rfl),rfl,rfl⟩ (by rw[Bt,hz]) λb o x=>Ah _ (Ah _ x)⟩
def qO{E:ci->cr->Prop}(uD:e≠it)(hz:FM s.heap e it c É)(hi:s.heap.IsListIter it t i)(ht:s.heap.IsList t items)(hx:items[i]?=am x)(q:∀(h':pr) (tk:Nat),IsEnumOut h' e it (c+1) x s.heap.objs.size->h'.IsListIter it t (i+1)->IR h' s.heap.objs.size (.int c s.toks) x->(∀c o,c≠e->c≠it->s.heap.get? c=am o->h'.get? c=am o)->Q (.ref s.heap.objs.size) {s with heap:=h',toks:=tk}):ga (gl prog w) A (wn.«enumerate.__next__» {pos:=[.ref e]}) (λfin s'=>∃v,fin=Ex (E5 v)/\Q v s') E s:=by
 show ga _ _ (field (.ref e) 2 >>= λr=>_) _ _ s;refine Aa (A4 hz rfl rfl ?_);refine Aa (wpAny_nextOf_list_item hi ht hx λh1 j1 b1=>?_);have z1:=(b1.2 _ uD).trans hz;refine Aa (A4 z1 rfl rfl ?_);refine Aa (A4 z1 rfl rfl ?_);refine Aa (wpAny_mkInt ?_);refine Aa (AL z1 (show 3 < 6 by decide) λh2 z2 b2=>?_);refine Aa (AL z2 (show 4 < 6 by decide) λh3 z3 b3=>?_);refine Aa (CH ?_ (by show 2<=sizeLine;decide));have kp:∀b o,h3.get? b=am o->(h3.push {cls:=.type "tuple",data:=.seq [CF c s.toks,x].toArray}).get? b=am o:=λb o e=>Ah _ e;have HZ:(h3.push {cls:=.type "tuple",data:=.seq [CF c s.toks,x].toArray}).get? h3.objs.size=am {cls:=.type "tuple",data:=.seq #[.int c s.toks,x]}:=An _ rfl;generalize h3.push {cls:=.type "tuple",data:=.seq [CF c s.toks,x].toArray}=h4 at kp HZ ⊢;have z4:=kp _ _ z3;refine Aa ?_;refine Aa (A4 z4 rfl rfl ?_);refine Af ?_;refine Aa (C3 ?_);refine Aa (A4 z4 rfl rfl ?_);refine Aa (AL z4 (show 5 < 6 by decide) λh5 z5 b5=>?_);refine Aa ?_;refine Aa (AL z5 (show 0 < 6 by decide) λh6 z6 b6=>?_);refine AL z6 (show 1 < 6 by decide) λh7 z7 b7=>?_;refine Aa (Cy ?_);have IP:∀b,b≠e->h7.get? b=h4.get? b:=λb n=>(b7.2 b n).trans ((b6.2 b n).trans (b5.2 b n));have ne:s.heap.objs.size≠e:=λz=>by have:=Ap hz;rw[<- z]at this;exact AB _ this
 refine Af ⟨.ref h3.objs.size,rfl,?_⟩;rw[(b3.1.trans (b2.1.trans b1.1))]at z7 HZ ⊢;refine q h7 _ ?_ ?_ ?_ ?_
 .exact z7
 .obtain⟨o,eo,p⟩:=j1;refine⟨o,?_,p⟩;rw[IP _ (Bx uD)];exact kp _ _ ((b3.2 _ (Bx uD)).trans ((b2.2 _ (Bx uD)).trans eo))
 .rw[IR,IP _ ne];exact HZ
 .intro b o n1 n2 ec;rw[IP _ n1];exact kp _ _ (((λb n1 n2=>(b3.2 b n1).trans ((b2.2 b n1).trans (b1.2 b n2))) _ n1 n2).trans ec)
def uc{Q:Option ci->cr->Prop}(hA:A.handled=ce)(hz:FM s.heap e it c É)(hi:s.heap.IsListIter it t i)(ht:s.heap.IsList t items)(hx:items[i]?=ce)(q:∀h':pr,FO it s.heap h'->Q ce {s with heap:=h'}):ga (gl prog w) A (Pi (.ref e)) Q E s:=by
 have ty:s.TypeIs (.ref e) "enumerate":=⟨_,hz,rfl⟩;refine Aa (CB (A6 ty Bv (Bm Bv ty CP ?_ (CG _))));show ga _ _ (field (.ref e) 2 >>= λr=>_) _ _ _;refine Aa (A4 hz rfl rfl (Aa (wpAny_nextOf_list_end hA hi ht hx λh' x k ex=>?_)));obtain⟨o,eo,hc⟩:=ex;exact Aa (C9 ⟨o,eo,hc⟩ isSubtype_stop (Af (q h' k)))
def nr{Q:Option ci->cr->Prop}(uD:e≠it)(hz:FM s.heap e it c É)(hi:s.heap.IsListIter it t i)(ht:s.heap.IsList t items)(hx:items[i]?=am x)(q:∀(h':pr) (tk:Nat),IsEnumOut h' e it (c+1) x s.heap.objs.size->h'.IsListIter it t (i+1)->IR h' s.heap.objs.size (.int c s.toks) x->(∀c o,c≠e->c≠it->s.heap.get? c=am o->h'.get? c=am o)->Q (am (.ref s.heap.objs.size)) {s with heap:=h',toks:=tk}):ga (gl prog w) A (Pi (.ref e)) Q E s:=by
 have ty:s.TypeIs (.ref e) "enumerate":=⟨_,hz,rfl⟩;refine Aa (CB (A6 ty Bv (Bm Bv ty CP ?_ (CG _))));exact qO uD hz hi ht hx λh' tk a b c d=>Af (q h' tk a b c d)
def V4(K:Ab)(k:Nat)(a:db):It where
 go:=λi H=>∃xs x,bH K H a xs/\xs[i]?=am x
 Ro:=λi H v H'=>∃p x,v=.ref p/\H p=ce/\H'=upd H p (.tup [.int ((k+i:Nat):Int),x])/\∀xs,bH K H a xs->xs[i]?=am x
 stop:=λi H=>∃xs,bH K H a xs/\xs.length<=i
theorem Hx{K:Ab}{kk:Nat}(uD:e≠it):Turn P w K (.Tuple Ì kk pos) (V4 K k t) [e,it] e (λi h=>(∃É,FM h e it ((k+i:Nat):Int) É)/\h.IsListIter it t i) where
 mem:=by simp
 obj:=λi h st b hb=>by
  simp at hb;rcases hb with rfl|rfl
  .obtain⟨⟨_,e⟩,_⟩:=st;exact⟨_,e,λv z=>by cases z⟩
  .obtain⟨_,⟨o,e,_,d⟩⟩:=st;exact⟨o,e,λv z=>by rw[d]at z;cases z⟩
 keep:=λi h h' st k=>⟨let ⟨o,e'⟩:=st.1;⟨o,k e (by simp) _ e'⟩,let ⟨o,e',p⟩:=st.2;⟨o,k it (by simp) _ e',p⟩⟩
 item:=by
  intro X hP hw hK hc i U s σ H E I hf st hg;subst hP hw hK;obtain⟨xs,x,hx,gx⟩:=hg;obtain⟨aq,rx,tx,_⟩:=I.list hx;obtain⟨u,gu,ru⟩:=jR rx gx;obtain⟨⟨É,hz⟩,hi⟩:=st;refine nr uD hz hi tx.isList (by simpa using gu) λh' tk zo j np k'=>?_;refine⟨_,rfl,?_⟩;refine C4 zo λh2 z2 b2=>?_;have le:=Ap hz;have li:=let ⟨_,e',_⟩:=hi;Ap e';have lt:∀b∈[e,it],b<s.heap.objs.size:=λb hb=>by
   simp only[AD,CJ,or_false]at hb;rcases hb with rfl|rfl
   .exact le
   .exact li
  have XM:∀b o,b∉[e,it]->s.heap.get? b=am o->h2.get? b=am o:=λb o hb e'=>by
   have Px:b≠e:=λq=>hb (by simp[q]);rw[b2.2 b Px];exact k' b o Px (λq=>hb (by simp[q])) e'
  have np2:h2.get? s.heap.objs.size=am {cls:=.type "tuple",data:=.seq #[.int ((k+i:Nat):Int) s.toks,u]}:=(b2.2 _ (λz=>AB _ (by have:=le;rw[<- z]at this;exact this))).trans np;refine⟨.ref s.heap.objs.size,upd H s.heap.objs.size (.tup [.int ((k+i:Nat):Int),x]),I.m6 hf XM (Ak _) ⟨by show 2<=sizeLine;decide,[.int ((k+i:Nat):Int) s.toks,u],.cons ⟨_,rfl⟩ (.cons ru .nil),⟨_,np2,rfl,_,rfl⟩,_,np2,rfl⟩,rfl,⟨_,x,rfl,(I.bg.fresh (Ak s.heap.objs.size)),rfl,λxs' h'=>by rw[I.tB h' hx];exact gx⟩,⟨⟨_,z2⟩,let ⟨o,e',p⟩:=j;⟨o,(b2.2 _ (Bx uD)).trans e',p⟩⟩,λb hb=>?_⟩;rw[ak (AE (lt b hb))];exact(hf b hb).1
 done:=by
  intro X hP hw hK hc i U s σ H E I hf st hg;subst hP hw hK;obtain⟨xs,hx,hl⟩:=hg;obtain⟨aq,rx,tx,_⟩:=I.list hx;have el:=rx.length;obtain⟨⟨É,hz⟩,hi⟩:=st;refine uc (I.ok.hd hc) hz hi tx.isList (by simp;lia) λh' k=>⟨rfl,I.qX hf λb o hb e'=>k b o (λz=>hb (by simp[z])) e'⟩
 self:=λA i s Q E st h=>let ⟨_,e'⟩:=st.1;Cw e' h
def X9(K:Ab)(t1 t2:TE):TI:=λσ H R=>t1 σ H λx H1=>t2 σ H1 λy H2=>∃(a:db) (k:Nat),x=.ref a/\y=.int (k:Int)/\k<=1000000000/\(∃xs,bH K H2 a xs)/\R (V4 K k a) H2
def uk{e:nw}{rest:O nw}{Ý:O Keyword}(h:ga M A (spliced (t0 pos (gt (e::rest) env))) (λvs s₁=>ga M A (evalAll ((Ix pos (xz Ý env)).map (·.2)))
   (λay s₂=>ga M A (call (.type T) vs (((Ix pos (xz Ý env)).filterMap (·.1)).zip ay)) Q E s₂) E s₁) E s)(he:‹t0 pos (gt (e::rest) env)=(false,o0 e env)::t0 pos (gt rest env)›)(cu:‹(t0 pos (gt (e::rest) env)).any (·.1)=false›)(Yp:‹(Ix pos (xz Ý env)).all (·.1.isSome)=true›)(hkw:‹(Ix pos (xz Ý env)).any (·.1.isNone)=false›):ga M A (callWith pos (.type T) [] (t0 pos (gt (e::rest) env)) (Ix pos (xz Ý env))) Q E s:=by
 have h':ga M A (evalArgs (.type T) true (t0 pos (gt (e::rest) env)) (Ix pos (xz Ý env))) (λa s₁=>ga M A (call (.type T) ([]++a.pos) a.kw) Q E s₁) E s:=by
  rw[he]at h ⊢;exact evalArgs_kwB Yp h
 unfold callWith;refine Aa (Bp (BJ h' (λa s₁ h₁=>Aa (DZ ?_)) λ_ _ x=>x));simp only[cu,hkw,Bool.or_false];refine Aa (Af ?_);exact Aa (BJ h₁ (λr s₂ hr=>Aa (Bp (wpAny_point (Af hr)))) λ_ _ x=>x)
theorem Ox(K:Ab)(hK:X.K=K){t1 t2:TE}{kk:Nat}{p2:Pos}(hg:Gl X "enumerate")(hm:X.mg "enumerate"=ce)(h1:PE X e1 t1)(h2:PE X e2 t2)(oC:‹gE X e1 []›)(hp:‹(t0 p2 (gt [e1] X.env)).any (·.1)=false›):PI X (.Tuple Ì kk tp) (.Call (.Name "enumerate" p1) [e1] [⟨am (Cf "start"),e2,kp⟩] p2) (X9 K t1 t2):=by
 subst hK;intro U s σ H R I h;refine BD (gp I hg hm boot_enumerate ?_ ⋯ ⋯);refine uk ?_ (by rw[oC];rfl) hp;rw[oC];refine B5 (bN (h1 U s σ H _ I h) λu1 s1 ⟨x,H1,I1,r1,q1⟩=>Cv ?_);refine kws_cons (bN (h2 U s1 σ H1 _ I1 q1) λu2 s2 ⟨y,H2,I2,r2,a,k,ex,ey,hk,⟨xs,hx⟩,q⟩=>kws_nil ?_);subst ex ey;cases r1;obtain⟨tt,rfl⟩:=r2;obtain⟨aq,rx,tx,_⟩:=I2.list hx;refine kE (Int.natCast_nonneg k) ∅ tx.isList λh' ze hi _ k=>?_;refine Cw ze ?_;refine⟨_,_,_,_,H2,rfl,I2.kept k,Hx (Nat.succ_ne_self _),⟨⟨_,ze⟩,hi⟩,λc hc=>?_,q⟩;have Ë:s2.heap.objs.size<=c:=by
  simp at hc;rcases hc with rfl|rfl
  .exact Bf _ _
  .exact Ak _
 exact I2.xW Ë (I2.bg.fresh Ë)
end L2
namespace FL
section
variable[bL]
variable{K:Ab}{e:nw}{p2:Pos}
def Jh:PV->PV->W (O PV)
 |.cl l,.int k=>.d8 (0<=k/\k<=1000000000/\l.length<=sizeLine) (.ret (eH k.toNat l))
 |_,_=>.fail
theorem Pq(hK:X.K=K){kk:Nat}(hg:Gl X "enumerate")(hm:X.mg "enumerate"=ce)(ha:EF X K fs e wa ax)(hb:EF X K ax e2 wb fs2)(oC:‹gE X e []›)(hp:‹(t0 p2 (gt [e] X.env)).any (·.1)=false›):mW X K fs (.Tuple Ì kk tp) (.Call (.Name "enumerate" p1) [e] [⟨am (Cf "start"),e2,kp⟩] p2) (.bind wa λx=>.bind wb λy=>Jh x y) fs2:=
 ⟨PI.imp (Ox K hK hg hm ha.p hb.p oC hp) λσ H R ⟨sr,q⟩=>⟨sr,wa.mono (λx q1 u1 H1 g1 s1 v1=>⟨s1,wb.mono (λy q2 u2 H2 g2 s2 v2=>by
  cases v1<;>first|exact q2.elim|skip
  rename_i a vs l hh rs;cases v2<;>first|exact q2.elim|skip
  rename_i k;obtain⟨⟨k0,k1,hl⟩,q3⟩:=q2;obtain⟨n,rfl⟩:=Bd k0;refine⟨a,n,rfl,rfl,by lia,⟨vs,((g2.cD s1).f _ _ hh).sq⟩,q3 _ H2 (g1.trans g2) s2 ⟨by rw[bj];exact hl,λH' t=>⟨λi p hp=>?_,vs,(t.f _ _ ((g2.cD s1).f _ _ hh)).sq,by rw[rs.length,bj];exact Ak _⟩⟩⟩;obtain⟨y,hy,rfl⟩:=dD hp;have f2:=(t.f _ _ ((g2.cD s1).f _ _ hh)).sq;obtain⟨v,h3,h4⟩:=(aB.tk t (g2.JS s1 rs)).get hy;refine⟨⟨vs,v,f2,h3⟩,λx H3 z=>?_⟩;obtain⟨pp,x0,rfl,hn,rfl,hz⟩:=z;have:=hz vs f2;rw[h3]at this;cases this;have sm:=iz hn (.tup [.int ((n+i:Nat):Int),v]);exact⟨sm,.tup aG (.cons (.int _) (.cons (VR.tk sm.eE h4) .nil))⟩) q1⟩) q⟩⟩
end
end FL
variable{s:O PL.PV}
namespace FL
section
variable[bL]
variable{K:Ab}
mutual
def PV.free(s:O PV):PV->Prop
 |.tup l=>kl s l
 |.cl l=>l≠s/\kl s l
 |.dv _ l=>kl s l
 |.ob _ l=>kl s l
 |_=>True
def kl(s:O PV):O PV->Prop
 |[]=>True
 |x::l=>PV.free s x/\kl s l
end
def v9{l:O PV}:kl s l↔∀x∈l,PV.free s x:=by
 induction l with
 |nil=>simp[kl]
 |cons a l ih=>simp[kl,ih]
def JQ.inj{p:db}{vs':O V}(hb:∀p o,K.lookup p=am o->H p=ce)(h:JQ K H p vs)(h':JQ K H p vs'):vs=vs':=by
 rcases h with⟨o,h⟩|⟨o,aq,n,e1,_,_,e4,_,e6⟩
 .rcases h' with⟨o',h'⟩|⟨o',dQ,n',rN,_⟩
  .rw[h]at h';cases h';rfl
  .rw[hb _ _ rN]at h;cases h
 .rcases h' with⟨o',h'⟩|⟨o',dQ,n',rN,_,_,e4',_,e6'⟩
  .rw[hb _ _ e1]at h';cases h'
  .rw[e1]at rN;cases rN;rw[e4]at e4';injection e4' with e7 _;subst e7;exact e6.inj e6'
mutual
theorem VR.fn(hb:∀p o,K.lookup p=am o->H p=ce):∀{v:V}{q q':PV},VR K [] H v q->VR K [] H v q'->q=q'
 |_,_,_,.aF,h=>by cases h;rfl
 |_,_,_,.bl b,h=>by cases h;rfl
 |_,_,_,.int i,h=>by cases h;rfl
 |_,_,_,.str x,h=>by cases h;rfl
 |_,_,_,.ty n,h=>by cases h;rfl
 |_,_,_,.ref e,h=>by simp at e
 |_,_,_,.tup e r,h=>by
  cases h with
  |tup e' r'=>rw[e]at e';cases e';rw[aB.fn hb r r']
  |cl e' r'=>
   rcases e' with⟨o,e'⟩|⟨o,aq,n,e1,_⟩
   .rw[e]at e';cases e'
   .rw[hb _ _ e1]at e;cases e
  |dk e' _ _=>rw[e]at e';cases e'
  |dt e' _ _=>rw[e]at e';cases e'
  |ob e' _ _ _ _=>rw[e]at e';cases e'
  |hand e'=>have e':H _=_:=e';rw[e]at e';cases e'
  |ref e'=>simp at e'
 |_,_,_,.cl e r,h=>by
  cases h with
  |tup e' r'=>
   rcases e with⟨o,e⟩|⟨o,aq,n,e1,_⟩
   .rw[e]at e';cases e'
   .rw[hb _ _ e1]at e';cases e'
  |cl e' r'=>have:=JQ.inj hb e e';subst this;rw[aB.fn hb r r']
  |dk e' _ _=>
   rcases e with⟨o,e⟩|⟨o,aq,n,e1,_⟩
   .rw[e]at e';cases e'
   .rw[hb _ _ e1]at e';cases e'
  |dt e' _ _=>
   rcases e with⟨o,e⟩|⟨o,aq,n,e1,_⟩
   .rw[e]at e';cases e'
   .rw[hb _ _ e1]at e';cases e'
  |ob e' _ _ _ _=>
   rcases e with⟨o,e⟩|⟨o,aq,n,e1,_⟩
   .rw[e]at e';cases e'
   .rw[hb _ _ e1]at e';cases e'
  |hand e'=>
   have e':H _=_:=e';rcases e with⟨o,e⟩|⟨o,aq,n,e1,_⟩
   .rw[e]at e';cases e'
   .rw[hb _ _ e1]at e';cases e'
  |ref e'=>simp at e'
 |_,_,_,.dk e e2 r,h=>by
  cases h with
  |tup e' r'=>rw[e]at e';cases e'
  |cl e' r'=>
   rcases e' with⟨o,e'⟩|⟨o,aq,n,e1,_⟩
   .rw[e]at e';cases e'
   .rw[hb _ _ e1]at e;cases e
  |dk e' e3 r'=>rw[e]at e';cases e';rw[e2,e3,aB.fn hb r r']
  |dt e' _ _=>rw[e]at e';cases e'
  |ob e' _ _ _ _=>rw[e]at e';cases e'
  |hand e'=>have e':H _=_:=e';rw[e]at e';cases e'
  |ref e'=>simp at e'
 |_,_,_,.dt e e2 r,h=>by
  cases h with
  |tup e' r'=>rw[e]at e';cases e'
  |cl e' r'=>
   rcases e' with⟨o,e'⟩|⟨o,aq,n,e1,_⟩
   .rw[e]at e';cases e'
   .rw[hb _ _ e1]at e;cases e
  |dt e' e3 r'=>rw[e]at e';cases e';rw[e2,e3,aB.fn hb r r']
  |dk e' _ _=>rw[e]at e';cases e'
  |ob e' _ _ _ _=>rw[e]at e';cases e'
  |hand e'=>have e':H _=_:=e';rw[e]at e';cases e'
  |ref e'=>simp at e'
 |_,_,_,.ob e c na e2 r,h=>by
  cases h with
  |tup e' r'=>rw[e]at e';cases e'
  |cl e' r'=>
   rcases e' with⟨o,e'⟩|⟨o,aq,n,e1,_⟩
   .rw[e]at e';cases e'
   .rw[hb _ _ e1]at e;cases e
  |ob e' _ _ e3 r'=>rw[e]at e';cases e';rw[e2,e3,aB.fn hb r r']
  |dk e' _ _=>rw[e]at e';cases e'
  |dt e' _ _=>rw[e]at e';cases e'
  |hand e'=>have e':H _=_:=e';rw[e]at e';cases e'
  |ref e'=>simp at e'
 |_,_,_,.hand e,h=>by
  have e:H _=_:=e;cases h with
  |tup e' r'=>rw[e]at e';cases e'
  |cl e' r'=>
   rcases e' with⟨o,e'⟩|⟨o,aq,n,e1,_⟩
   .rw[e]at e';cases e'
   .rw[hb _ _ e1]at e;cases e
  |ob e' _ _ e3 r'=>rw[e]at e';cases e'
  |dk e' _ _=>rw[e]at e';cases e'
  |dt e' _ _=>rw[e]at e';cases e'
  |hand e'=>rfl
  |ref e'=>simp at e'
theorem aB.fn(hb:∀p o,K.lookup p=am o->H p=ce):∀{v:O V}{q q':O PV},aB K [] H v q->aB K [] H v q'->q=q'
 |_,_,_,.nil,h=>by cases h;rfl
 |_,_,_,.cons r t,h=>by
  cases h with
  |cons r' t'=>rw[VR.fn hb r r',aB.fn hb t t']
end
mutual
theorem VR.freed{a:db}{ob:Obj}{s:O PV}{vs:O V}(hb:∀p o,K.lookup p=am o->H p=ce)(ha:H a=am (.cg ob (.lst vs)))(hs:aB K [] H vs s):∀{v:V}{q:PV},VR K [] H v q->PV.free s q->VR K [] (upd H a (.lst vs)) v q
 |_,_,.aF,_=>.aF
 |_,_,.bl b,_=>.bl b
 |_,_,.int i,_=>.int i
 |_,_,.str x,_=>.str x
 |_,_,.ty n,_=>.ty n
 |_,_,.ref e,_=>by simp at e
 |_,_,.tup e r,h=>.tup (by rw[ak (λz=>by subst z;rw[ha]at e;cases e)];exact e) (aB.freed hb ha hs r (by rw[PV.free]at h;exact h))
 |_,_,.cl (a:=b) (l:=l) e r,h=>by
  rw[PV.free]at h;have r2:=aB.freed hb ha hs r h.2;rcases e with⟨o,e⟩|e
  .by_cases c:b=a
   .subst c;rw[ha]at e;cases e;exact absurd (aB.fn hb r hs) h.1
   .exact .cl (.inl ⟨o,by rw[ak c];exact e⟩) r2
  .exact .cl (.inr e) r2
 |_,_,.dk e e2 r,h=>.dk (by rw[ak (λz=>by subst z;rw[ha]at e;cases e)];exact e) e2 (aB.freed hb ha hs r (by rw[PV.free]at h;exact h))
 |_,_,.dt e e2 r,h=>.dt (by rw[ak (λz=>by subst z;rw[ha]at e;cases e)];exact e) e2 (aB.freed hb ha hs r (by rw[PV.free]at h;exact h))
 |_,_,.ob e c na e2 r,h=>.ob (by rw[ak (λz=>by subst z;rw[ha]at e;cases e)];exact e) c na e2 (aB.freed hb ha hs r (by rw[PV.free]at h;exact h))
 |_,_,.hand e,_=>.hand (by have e':H _=_:=e;show upd H a _ _=_;rw[ak (λz=>by subst z;rw[ha]at e';cases e')];exact e')
theorem aB.freed{a:db}{ob:Obj}{s:O PV}{vs:O V}(hb:∀p o,K.lookup p=am o->H p=ce)(ha:H a=am (.cg ob (.lst vs)))(hs:aB K [] H vs s):∀{v:O V}{q:O PV},aB K [] H v q->kl s q->aB K [] (upd H a (.lst vs)) v q
 |_,_,.nil,_=>.nil
 |_,_,.cons r t,h=>by
  rw[kl]at h;exact .cons (VR.freed hb ha hs r h.1) (aB.freed hb ha hs t h.2)
end
end
section
variable[bL]
variable{K:Ab}{e:nw}{w:W PV}
def P1(l:O PV)(v:PV):W PV:=.d8 (PV.free l v) (.ret v)
def YL(i:Nat){l:O PV}(hK:X.K=K)(hs:fs[i]?=am (am (.ol q0 l)))(h:EF X K (fs.set i (am (.val (.cl l)))) e w ax):EF X K fs e (.bind w (P1 l)) (ax.set i (am (.ol q0 l))):=⟨λU s σ H Q I ⟨sr,q⟩=>by
 obtain⟨a,o,ob,I2,s2,Ķ⟩:=bor I sr hs rfl;obtain⟨a0,ws,e1,h1,r1⟩:=dq sr hs;have hi:i<fs.length:=(Aj.mp hs).1;have hb:∀{H':Hp}{s':cr}{σ':L2.St},Inv X U σ' H' s'->∀p o,K.lookup p=am o->H' p=ce:=λJ p o z=>by
  subst hK;exact(J.bs p o (J.ok.mod.kin p o z)).2
 have key:∃vs,o=.lst vs/\aB K [] (upd H a (.cg ob o)) vs l:=by
  obtain⟨u,e2,⟨v,e3,v3⟩|⟨b,e3,oa⟩⟩:=s2.at' i _ (aY hi)
  .cases e3;rw[e1]at e2;cases e2;have v3:VR K [] (upd H a (.cg ob o)) (.ref a0) (.cl l):=v3;cases v3 with
   |cl f r=>
    rcases f with⟨o',f⟩|⟨o',aq,n,z,_⟩
    .by_cases c:a0=a
     .subst c;rw[aG]at f;cases f;exact⟨_,rfl,r⟩
     .rw[ak c,h1]at f;cases f
    .rw[hb I _ _ z]at h1;cases h1
  .exact oa.elim
 obtain⟨vs,rfl,r2⟩:=key;refine bN (h.p U s σ _ (λu H1=>∃v,ck σ (fs.set i (am (.val (.cl l)))) (upd H a (.cg ob (.lst vs))) H1 ax/\aU K H1 σ ax/\VR K [] H1 u v/\PV.free l v/\∀u H',ck σ fs H H' (ax.set i (am (.ol q0 l)))->aU K H' σ (ax.set i (am (.ol q0 l)))->VR K [] H' u v->Q u H') I2 ⟨s2,w.mono (λv q1 u H1 g1 s1 v1=>⟨v,g1,s1,v1,q1.1,q1.2⟩) q⟩) λu s1 ⟨x,H1,I1,r1,v,g1,WE,v1,d,q1⟩=>?_;obtain⟨I3,g3,s3,t3,_⟩:=Ķ σ s1 H1 _ I1 g1 WE;have tk:=g1.cD s2;exact⟨x,_,I3,r1,q1 x _ g3 s3 (VR.freed (hb I1) (tk.z _ _ _ aG) (aB.tk tk r2) v1 d)⟩⟩
end
end FL
namespace My
def fU(da:PV):W (O PV):=
 bn (w2 addW (c1 d6 (ca da)) (ca (.int 5))) λHJ=>
 bn (bn (bn (ca da) qB) λl2=>ce\λi3=>bn (bn (ca (.int 63)) part) λj4=>ca (uh l2 i3 j4)) λl18=>bn (cC l18 HJ λQJ s5=>(
 bn (b2 oMod (w2 addW (w2 addW (b2 o6 (ca s5) (ca (.int 999979))) (b2 oMod (ca QJ) (b2 OL (ca (.int 10)) (ca (.int 30))))) (ca (.int 17))) (ca (.int 2305843009213693951))) λN0=>
 ca N0)) λs5=>
 (bn (bn (bn (bn (bn (ca da) qB) λl8=>ce\λi9=>bn (bn (ca (.int 63)) part) λj10=>ca (uh l8 i9 j10)) λl11=>mX l11 λZc=>Vj (t2 oGe (ca Zc) (b2 OL (ca (.int 10)) (ca (.int 18)))) (ca Zc)) λTb=>W.d8 (∃ns:O Int,Tb=ns.map PV.int) (ca .hand)) λrV=>s5\λmj=>(.int 0)\λqt=>ca [rV,mj,qt])
def f6(dA:PV):W PV:=
 (bR (bn (ca dA) aA) (bn (c1 d6 (ca dA)) λx1=>bS x1))
def bI(dA:PV):W PV:=
 bn (bn (ca dA) aA) λIo=>
 bn (FL.jQ 100 (λs2=>(t2 SM (bn (ca s2) xw) (ca (.int 1)))) (λs2=>(
 bn (bn (bn (ca s2) xw) λx5=>bS x5) λx6=>bn (oW s2 x6) λt7=>
 bn (bn (bn (ca t7.1) xw) λx9=>bS x9) λml=>bn (oW t7.1 ml) λQ6=>
 bn (bn (w2 addW (bn (ca Q6.1) xw) (ca (.int 1))) λrX=>bS rX) λqt=>bn (t7.2\λrV=>Q6.2\λmj=>ca (.tup [rV,mj])) λLn=>bn (X2 Q6.1 qt Ln) λKD=>
 ca KD)) Io) λs2=>
 (bR (ca s2) (ca (.int 0)))
def fP(ab4:PV)(Ve:PV):W PV:=
 bn (bR (bn (ab4\λx1=>Ve\λx2=>ca (.tup [x1,x2])) λx3=>bn ((.int 8)\λx4=>(.int 10)\λx5=>ca (.tup [x4,x5])) λx6=>ca [x3,x6]) (c1 M4 (b2 i7 ((.int 8)\λx7=>bS x7) (ca (.int 0))))) λx8=>bn (yN x8) λt9=>
 bn (bn ((.str "a")\λqu=>(.str "ab")\λuH=>(.str "b")\λrX=>(.str "ba")\λrV=>(.str "c")\λmj=>(.str "zzzzzzzz")\λqt=>(.str "d")\λLn=>(.str "aa")\λwF=>ca [qu,uH,rX,rV,mj,qt,Ln,wF]) λXJ=>ce\λi21=>bn (bn (w2 addW (ca (.int 1)) (t9.1\λuG=>bS uG)) part) λj22=>ca (uh XJ i21 j22)) λrZ=>
 bn ((.cl rZ)\λLl=>bI Ll) λzY=>
 bn (bn (bn (w2 addW (ca (.int 1)) (t9.2\λRr=>bS Rr)) iA) λl28=>bz l28 λp29=>((.cl rZ)\λx31=>f6 x31)) λGz=>
 (zY\λWe=>bn ((.cl Gz)\λRq=>bI Rq) λRp=>ca (.tup [We,Rp]))
def a7:Nat->PV->W (O PV)
 |0,_=>W.fail
 |n+1,cE=>
 eB (bn (bn (ca cE) (jo .str)) iu) (
 (cE\λx1=>ca [x1])) (
 bn (bn (bR (bn (ca cE) aA) (ca (.int 0))) λx3=>a7 n x3) λlN=>
 bn (bn (bR (bn (ca cE) aA) (ca (.int 1))) λx5=>a7 n x5) λi6=>
 []\λQa=>
 bn (bn (ca (.cl i6)) aA) λl21=>bn (cC l21 Qa λsR s7=>(
 bn (eB (bn (bn (ca sR) (jo .str)) iu) (ca sR) (bn (w2 addW (bR (bn (ca sR) aA) (ca (.int 0))) (c1 d6 (ca (.cl lN)))) λml=>bn (w2 addW (bR (bn (ca sR) aA) (ca (.int 1))) (c1 d6 (ca (.cl lN)))) λqu=>ca (.tup [ml,qu]))) λuH=>bn (iP s7 uH) λVU=>
 ca VU)) λs7=>
 (bn (bn (bn (ca (.cl lN)) qB) λTb=>bn (bn (ca (.cl s7)) qB) λZh=>om Tb Zh) λl18=>bn (bn (bn (b2 ny (c1 d6 (ca (.cl lN))) (ca (.int 1))) λmj=>bn (b2 ny (w2 addW (c1 d6 (ca (.cl lN))) (c1 d6 (ca (.cl i6)))) (ca (.int 1))) λqt=>ca (.tup [mj,qt])) λLn=>ca [Ln]) λl19=>om l18 l19))
def cJ(bF:PV):W PV:=
 bn (bF\λx2=>a7 12 x2) λeJ=>
 bn (bn (b2 ny (c1 d6 (ca (.cl eJ))) (ca (.int 1))) λx3=>ca [x3]) λI0=>[]\λxc=>
 bn (FL.jQ 100 (λs6=>(s6.1\λl8=>ca (!l8.isEmpty))) (λs6=>(
 bn (bn (bn (ca s6.1) xw) λml=>bS ml) λqu=>bn (oW s6.1 qu) λNc=>
 eB (Wq (bn (bn (bR (bn (ca (.cl eJ)) aA) (ca Nc.2)) (jo .str)) iu)) (
 Nc.2\λrV=>bn (iP s6.2 rV) λzw=>
 bn (Nc.1\λl16=>bn (bn (bR (bn (ca (.cl eJ)) aA) (ca Nc.2)) aA) λTa=>om l16 Ta) λKZ=>
 ca (KZ,zw)) (
 ca (Nc.1,s6.2)))) (I0,xc)) λs6=>
 bn (bn ((.int 0)\λuG=>ca [uG]) λXJ=>bn (c1 d6 (ca (.cl eJ))) λRu=>R3 XJ Ru) λhU=>
 (.int 0)\λym=>
 bn (s6.2\λl23=>ce\λi24=>ce\λj25=>bn (bn (bn (ca (.int 1)) qz) part) λk26=>RO l23 i24 j25 k26) λl40=>bn (cC l40 (hU,ym) λzW Nd=>(
 bn (w2 addW (w2 addW (ca Nd.2) (ca (.int 1))) (bn (g9 ((.int 0)\λx31=>(.int 0)\λWe=>(.int 1)\λRq=>(.int 12)\λRp=>ca [x31,We,Rq,Rp])) λWc=>f6 Wc)) λyk=>
 yk\λx37=>zW\λx38=>bn (sA Nd.1 x38 x37) λmd=>
 ca (md,yk))) λNd=>
 (bn (ca Nd.1) lq)
def df:W PV:=
 []\λjr=>
 bn (bn (ca (.int 4)) iA) λl23=>bn (cC l23 jr λk_5 s3=>(
 bn (w2 addW (b2 OL (ca (.int 10)) (ca (.int 25))) ((.int 9)\λx7=>bS x7)) λKS=>
 bn (bn (g9 ((.int 0)\λx9=>(.int 1)\λml=>(.int 2)\λqu=>(.int 3)\λuH=>bn ((.int 10)\λrX=>bS rX) λrV=>bn ((.int 1001)\λmj=>bS mj) λqt=>(.int 1)\λLn=>(.int 2)\λwF=>KS\λuG=>ca [x9,ml,qu,uH,rV,qt,Ln,wF,uG])) λNu=>f6 Nu) λRu=>bn (iP s3 Ru) λK0=>
 ca K0)) λs3=>
 (bn (ca s3) lq)
def gh(dw:PV)(Vf:PV):W (O PV):=
 (bn (bn (ca dw) aA) λl1=>bz l1 λp2=>(bn (g9 (p2\λx3=>Vf\λx4=>ca [x3,x4])) λx5=>ka x5))
def nI(o5:PV)(eL:PV):W (O PV):=
 bn (bn (bn (b2 ny (w2 addW (c1 d6 (ca o5)) (c1 d6 (ca eL))) (ca (.int 1))) iA) λl3=>bz l3 λp4=>(ca .aF)) λbM=>
 bn (bn (bn (ca o5) aA) λl5=>.d8 (l5.length<=sizeLine) (.ret (eH 0 l5))) λl26=>bn (cC l26 bM λp7 s6=>bn (yN p7) λt8=>(
 bn (eL\λx9=>t8.1\λml=>Jh x9 ml) λl24=>bn (cC l24 s6 λZc Hm=>bn (yN Zc) λö=>(
 bn (bn (g9 (bn (bR (ca Hm) (ca ö.1)) λmj=>bn (bn (g9 (t8.2\λqt=>ö.2\λLn=>ca [qt,Ln])) λwF=>ka wF) λuG=>ca [mj,uG])) λNu=>cI Nu) λRu=>ö.1\λWg=>bn (sA Hm Wg Ru) λJ1=>
 ca J1)) λHm=>
 ca Hm)) λs6=>
 ca s6
def gj(O1:PV)(Vg:PV):W (O PV):=
 (bn (bn (ca Vg) iA) λl2=>bz l2 λp3=>(bn (g9 (bn (bn (ca O1) aA) λl4=>bz l4 λp5=>(bR (bn (ca p5) aA) (ca p3)))) λx6=>cI x6))
def cq(bf:PV)(mU:PV)(pX:PV)(dM:PV)(fo:PV):W PV:=
 bn ((.int 0)\λx2=>ca [x2]) λbM=>
 bn (bn (bn (dM\λx3=>cH x3) aA) λl4=>bn (bn (bR (bn (ca fo) aA) (ca (.int 1))) aA) λl5=>Lk l4 l5) λl23=>bn (cC l23 (.cl bM) λp7 s6=>bn (yN p7) λt8=>(
 bn (s6\λml=>bn (bR (bn (bR (bn (ca pX) aA) (ca t8.1)) aA) (ca t8.2)) λqu=>nI ml qu) λNC=>
 ca (.cl NC))) λs6=>
 eB (bn (bn (ca dM) (jo .str)) iu) (
 (ca s6)) (
 eB (t2 i7 (bR (bn (ca fo) aA) (ca (.int 0))) (ca mU)) (
 (g9 (bn (.aF\λuH=>ca [uH]) λTb=>bn (bn (ca s6) qB) λZh=>om Tb Zh))) (
 (g9 (bn (s6\λmj=>bn (bf\λqt=>bn (bR (bn (ca fo) aA) (ca (.int 0))) λLn=>je qt Ln) λwF=>gh mj wF) λXJ=>bn (.aF\λuG=>ca [uG]) λl21=>om XJ l21))))
def de(aX:PV)(bf:PV)(mU:PV)(pX:PV)(dM:PV):W (O PV):=
 bn (eB (bn (bn (ca dM) (jo .str)) iu) (ca (.int 1)) (bn (bn (bn (ca dM) aA) λl2=>bz l2 λp3=>(c1 d6 (bR (bn (bR (bn (ca pX) aA) (ca p3)) aA) (ca (.int 0))))) sk)) λIh=>
 []\λHC=>
 bn (bn (c1 d6 (ca aX)) iA) λl37=>bn (cC l37 HC λwI s6=>(
 bn (aX\λx9=>bf\λml=>wI\λqu=>gK x9 ml qu) λU6=>
 bn (bn (aX\λrX=>dM\λrV=>wI\λmj=>eO rX rV mj) λl16=>bz l16 λp17=>(bf\λwF=>mU\λuG=>pX\λNu=>dM\λRu=>p17\λWg=>cq wF uG Nu Ru Wg)) λLa=>
 bn (bn (bn (aX\λLl=>wI\λRt=>dr Ll Rt) aA) λl26=>bz l26 λù=>(g9 (bn (bR (ca s6) (ca ù)) λWf=>U6\λZR=>gh Wf ZR))) λsu=>
 bn (g9 (bn (g9 (bn (bn (ca (.cl La)) qB) λl31=>bn (bn (ca (.cl su)) qB) λl32=>om l31 l32)) λRq=>Ih\λRp=>gj Rq Rp)) λWc=>bn (iP s6 Wc) λJY=>
 ca JY)) λs6=>
 ca s6
def gM(aX:PV)(mm:PV)(bf:PV)(fo:PV):W PV:=
 []\λeJ=>
 bn (bn (mm\λx2=>jh x2) aA) λl15=>bn (cC l15 eJ λOQ s3=>(
 bn (bn (g9 (aX\λx6=>bf\λx7=>fo\λx8=>(.cl s3)\λx9=>OQ\λml=>de x6 x7 x8 x9 ml)) (P1 s3)) λqu=>bn (iP s3 qu) λN1=>
 ca N1)) λs3=>
 (bn (bn (bR (ca s3) (bn (ca (.int 1)) qz)) λuH=>bn (c1 d6 (bR (bn (bR (ca s3) (bn (ca (.int 1)) qz)) aA) (ca (.int 0)))) λrX=>gj uH rX) lq)
def cR(o5:PV)(eL:PV):W PV:=
 bn (oH (λs1=>(t2 SM (ca s1.2) (ca (.int 0)))) (λs1=>(
 bn (b2 oMod (ca s1.1) (ca s1.2)) λN4=>
 s1.2\λU9=>
 N4\λi6=>
 ca (U9,i6))) (o5,eL)) λs1=>
 (ca s1.1)
def dc(dw:PV)(n_:PV):W PV:=
 .aF\λbM=>
 bn (bn (ca n_) iA) λl18=>bn (cC l18 bM λtD s3=>(
 eB (t2 pY (bR (bn (ca dw) aA) (ca tD)) (ca .aF)) (
 bn (b2 ny (bR (bn (ca dw) aA) (ca tD)) (bR (bn (ca dw) aA) (ca n_))) λp_5=>
 bn (b2 ny (ca n_) (ca tD)) λq_6=>
 eB (Wn (t2 qx (ca s3) (ca .aF)) (t2 oLt (b2 o6 (ca p_5) (bR (bn (ca s3) aA) (ca (.int 2)))) (b2 o6 (bR (bn (ca s3) aA) (ca (.int 1))) (ca q_6)))) (
 bn (tD\λx8=>p_5\λx9=>q_6\λml=>ca (.tup [x8,x9,ml])) λND=>
 ca ND) (
 ca s3)) (
 ca s3))) λs3=>
 eB (t2 qx (ca s3) (ca .aF)) (
 (ca .aF)) (
 bn (bn (bR (bn (ca s3) aA) (ca (.int 1))) λuH=>bn (bR (bn (ca s3) aA) (ca (.int 2))) λrX=>cR uH rX) λmJ=>
 (bn (bR (bn (ca s3) aA) (ca (.int 0))) λrV=>bn (b2 oDiv (bR (bn (ca s3) aA) (ca (.int 1))) (ca mJ)) λmj=>bn (b2 oDiv (bR (bn (ca s3) aA) (ca (.int 2))) (ca mJ)) λqt=>ca (.tup [rV,mj,qt])))
def dC(aX:PV)(mm:PV)(bf:PV)(fo:PV):W PV:=
 bn (aX\λx2=>mm\λx3=>bf\λx4=>fo\λx5=>gM x2 x3 x4 x5) λog=>
 []\λHK=>
 bn (bn (bn (bn (ca og) NA) λl9=>bn (og\λx8=>cI x8) λml=>Tw l9 ml) λqu=>(.int 0)\λuH=>(.int 1)\λrX=>ca (.tup [qu,uH,rX])) λN2=>
 bn (oH (λiX=>(t2 pY (ca iX.2) (ca .aF))) (λiX=>(
 iX.2\λqt=>bn (iP iX.1 qt) λKc=>
 bn (og\λwF=>bn (bR (bn (ca iX.2) aA) (ca (.int 0))) λuG=>dc wF uG) λN3=>
 ca (Kc,N3))) (HK,N2)) λiX=>
 (bn (ca iX.1) lq)
def eX(o5:PV)(eL:PV):W PV:=
 bn (oH (λs1=>(t2 SM (ca s1.2) (ca (.int 0)))) (λs1=>(
 s1.2\λlN=>bn (b2 oMod (ca s1.1) (ca s1.2)) λKn=>
 ca (lN,Kn))) (o5,eL)) λs1=>
 (ca s1.1)
def cS(dA:PV):W PV:=
 []\λjr=>
 bn (bn (b2 ny (c1 d6 (ca dA)) (ca (.int 1))) λx2=>bn (bn (ca (.int 1)) qz) λx3=>bn (bn (ca (.int 1)) qz) λx4=>Ke x2 x3 x4) λl39=>bn (cC l39 jr λSS s5=>(
 bn (bn ((.int 0)\λx7=>(.int 1)\λx8=>ca (.tup [x7,x8])) λx9=>.aF\λml=>ca (.tup [x9,ml])) λqu=>bn (yN qu) λNc=>
 bn (bn (c1 d6 (ca dA)) iA) λl37=>bn (cC l37 (Nc.1,Nc.2) λLY iX=>(
 eB (Wn (t2 qx (bR (bn (ca dA) aA) (ca SS)) (ca .aF)) (Wn (t2 qx (bR (bn (ca dA) aA) (ca LY)) (ca .aF)) (t2 i7 (ca LY) (ca SS)))) (
 ca (iX.1,iX.2)) (
 bn (b2 ny (bR (bn (ca dA) aA) (ca SS)) (bR (bn (ca dA) aA) (ca LY))) λkK=>bn (b2 ny (ca LY) (ca SS)) λff=>
 bn (Lu (t2 SM (ca ff) (ca (.int 0))) (t2 SM (b2 o6 (ca kK) (bR (bn (ca iX.1) aA) (ca (.int 1)))) (b2 o6 (bR (bn (ca iX.1) aA) (ca (.int 0))) (ca ff)))) λb=>bn (if b=true then (
 bn (kK\λZS=>ff\λLl=>ca (.tup [ZS,Ll])) λO0=>
 ca O0) else (
 ca iX.1)) λRa=>
 eB (Lu (t2 oLt (ca ff) (ca (.int 0))) (Wn (t2 qx (ca iX.2) (ca .aF)) (t2 SM (b2 o6 (ca kK) (bR (bn (ca iX.2) aA) (ca (.int 1)))) (b2 o6 (bR (bn (ca iX.2) aA) (ca (.int 0))) (ca ff))))) (
 bn (bn (bn (ca kK) qz) λRr=>bn (bn (ca ff) qz) λx27=>ca (.tup [Rr,x27])) λKQ=>
 ca (Ra,KQ)) (
 ca (Ra,iX.2))))) λiX=>
 eB (Lu (t2 pY (bR (bn (ca dA) aA) (ca SS)) (ca .aF)) (Wn (t2 qx (ca iX.2) (ca .aF)) (t2 oLt (b2 o6 (bR (bn (ca iX.1) aA) (ca (.int 0))) (bR (bn (ca iX.2) aA) (ca (.int 1)))) (b2 o6 (bR (bn (ca iX.2) aA) (ca (.int 0))) (bR (bn (ca iX.1) aA) (ca (.int 1))))))) (
 bn (bn (bR (bn (ca iX.1) aA) (ca (.int 0))) λZR=>bn (bR (bn (ca iX.1) aA) (ca (.int 1))) λx30=>eX ZR x30) λw5=>
 bn (SS\λWe=>bn (b2 oDiv (bR (bn (ca iX.1) aA) (ca (.int 0))) (ca w5)) λRq=>bn (b2 oDiv (bR (bn (ca iX.1) aA) (ca (.int 1))) (ca w5)) λRp=>ca (.tup [We,Rq,Rp])) λWc=>bn (iP s5 Wc) λGy=>
 ca Gy) (
 ca s5))) λs5=>
 (bn (ca s5) lq)
def sV(da:PV):W PV:=
 bn (da\λx2=>fU x2) λsH=>W.d8 (∃s:Int,sH=[.hand,.int s,.int 0]) (
 bn (bn (ca (.int 3)) iA) λl55=>bn (ko l55 () λHz s4=>(
 bn ((.int 5)\λx7=>(.int 8)\λx8=>fP x7 x8) λx9=>bn (yN x9) λQ7=>
 bn (eB (t2 i7 ((.int 2)\λuH=>bS uH) (ca (.int 0))) (Q7.1\λrX=>gk rX) (Q7.1\λrV=>bn (Q7.1\λmj=>cJ mj) λqt=>kT rV qt)) λjW=>
 bn (df) λcF=>
 bn (bn ((.str "split")\λwF=>(.str "doubled")\λuG=>(.str "over")\λNu=>ca (.tup [wF,uG,Nu])) aA) λl40=>bn (ko l40 () λrO Ra=>(
 bn (bn (jW\λLl=>Q7.2\λRt=>cF\λRr=>rO\λx27=>gM Ll Rt Rr x27) λWf=>cS Wf) λJs=>
 bn (bn (ca (.int 2)) iA) λl38=>bn (ko l38 () λQW ø=>(
 eB (t2 zx (bn (jW\λWe=>Q7.2\λRq=>cF\λRp=>rO\λWc=>dC We Rq Rp Wc) wU) (bn (ca Js) wU)) (
 (.bl false)\λZQ=>ca (Lp.out ZQ)) (
 ca (.go ())))) (KU (λø=>
 ca (.go ())) Lp.out))) (KU (λRa=>
 ca (.go ())) Lp.out))) (KU (λs4=>
 (b2 i7 (bn ((.str "a")\λx41=>gk x41) λx42=>(.str "a")\λx43=>bn ((.int 0)\λx44=>(.int 0)\λx45=>(.int 0)\λx46=>(.int 0)\λx47=>ca (.tup [x44,x45,x46,x47])) λx48=>(.str "over")\λx49=>dC x42 x43 x48 x49) (bn ((.int 0)\λx50=>(.int 0)\λx51=>(.int 1)\λx52=>ca (.tup [x50,x51,x52])) λx53=>ca (.tup [x53])))) id))
end My
variable{J2 y6 NJ J4 J3 NI vq NK:PySem.Tok}{rQ:Bg}
namespace My
def top(i:Nat):v4:=PySem.Challenge.pw_treewithin_k57_crossings_told.main.body.getD i (.Pass ⟨0,0,0,0⟩)
abbrev dV(i k:Nat)(ks:O AK)(n:Nat)(m:Hs PV n):DF:=⟨dnm (top i),top i,LL (top i),k,λK=>NR K ks (wG n m)⟩
abbrev dL(i k:Nat)(ks:O AK)(n:Nat)(m:Hs (O PV) n):DF:=⟨dnm (top i),top i,LL (top i),k,λK=>zb K ks (wG n m)⟩
abbrev dv(i k n:Nat)(m:Hs PV n):DF:=dV i k (Ao n .v) n m
abbrev tu:pc:=tw [("node",lo)]
def lW:LS (top 4) tu:=lcs
abbrev sZ:pc:=tw [("house",lo)]
def lS:LS (top 13) sZ:=lcs
abbrev o9:pc:=tw [("far",lo),("house",fr),("lines",fr)]
def jE:LS (top 14) o9:=lcs
abbrev xo:pc:=tw [("house",lo),("name_of",gi),("halves",gi),("apart_from",gi),("houses",fr),("lines",fr)]
def qc:LS (top 15) xo:=lcs
abbrev sY:pc:=tw [("far",lo),("stay",fr)]
abbrev sX:pc:=tw [("far",lo),("stay",fr)]
def lR:LS (top 23) sY:=lcs
def lQ:LS (top 23) sX:=lcs
abbrev tm:pc:=tw [("ins",lo),("SPLIT",gi)]
abbrev tj:pc:=tw [("ins",lo),("OVER",gi)]
def lU:LS (top 24) tm:=lcs
def lT:LS (top 24) tj:=lcs
abbrev tq:pc:=tw [("cost",lo)]
def lV:LS (top 28) tq:=lcs
abbrev xl:pc:=tw [("cost",lo),("summed",gi),("more",fr)]
def p0:LS (top 32) xl:=lcs
abbrev xq:pc:=tw [("place",lo)]
def qd:LS (top 33) xq:=lcs
abbrev xn:pc:=tw [("costs",lo),("number",fr)]
abbrev nM:pc:=tw [("number",.cell),("cheapest",gi),("lists",fr)]
def qb:LT nM xn:=lcs
def qa:LS (top 34) nM:=lcs
abbrev lF:pc:=tw [("half",lo),("len",gi),("rows",fr)]
abbrev lE:pc:=tw [("deed",lo),("done_costs",gi),("asked",fr),("node",fr),("prices",fr),("rows",fr)]
abbrev lz:pc:=tw [("below",lo),("raised",gi),("own",fr),("told",fr)]
def gs:LS (top 36) lF:=lcs
def gr:LS (top 36) lE:=lcs
def gq:LS (top 36) lz:=lcs
abbrev nL:pc:=tw [("house",lo),("date",lo),("isinstance",gi),("str",gi)]
def eQ:LS (top 42) nL:=lcs
abbrev uQ:pc:=tw [("each",lo),("layer",fr),("numbers",fr)]
abbrev uP:pc:=tw [("far",lo),("house",fr),("layer",fr),("numbers",fr)]
def nP:LS (top 44) uQ:=lcs
def nN:LS (top 44) uP:=lcs
abbrev zJ:pc:=tw [("number",lo),("pair",lo)]
abbrev zI:pc:=tw [("pair",lo),("stay_of",gi),("begins",fr),("dates",fr),("houses",fr),("numbers",fr)]
def mF:LS (top 45) zJ:=lcs
def tE:LS (top 45) zI:=lcs
abbrev tv:pc:=tw [("_law_cell",lo)]
def lX:LS (top 47) tv:=lcs
abbrev pe:pc:=tw [("_law_k",lo),("_law_of",gi),("_law_pot_here",fr),("_law_words",fr)]
def jF:LS (top 51) pe:=lcs
def cZ:fc (Ku (top 52)) (LL (top 52)) (aM (top 52)):=fsc
structure NB(v:EV):Prop where
 isinstance:v.mg "isinstance"=ce
 str:v.mg "str"=ce
 list:v.mg "list"=ce
 reversed:v.mg "reversed"=ce
 len:v.mg "len"=ce
 tuple:v.mg "tuple"=ce
 enumerate:v.mg "enumerate"=ce
 range:v.mg "range"=ce
 sorted:v.mg "sorted"=ce
 sum:v.mg "sum"=ce
 min:v.mg "min"=ce
 zip:v.mg "zip"=ce
 dict:v.mg "dict"=ce
 int:v.mg "int"=ce
 repr:v.mg "repr"=ce
abbrev mM:DF:=dL 1 1 [.v] 1 mB
def Iy(D:DI v mM)(q:NB v):D.O:=
 Ng D λhr nd cE=>
 (sl 1 nd (a6 (n:=0) ai rfl) λmT=>
 (sl 2 nd (a6 (n:=1) (av 0 ai) rfl) λoJ=>
 (SF.JR (hd:=(λ(s4:O PV×O PV)=>([am (.val cE),am (.ol ce s4.1),am (.ol ce s4.2),ce]:aL))) (s0:=(mT,oJ)) Av (.refl _) (λs4=>(ZX rfl (dH 2) (λ_=>rfl))) (λs4=>
 (SF.HN 2 3 rfl ⋯ rfl rfl (.inl rfl) nd rfl (Cg rfl) λt7=>
 (SF.append 1 rfl rfl rfl (.inl rfl) (ae 3) λmS=>
 (SF.Vx (NG (iw rfl (ku rfl .str rfl q.isinstance (ae 3) rfl q.str Ch) (λ_=>rfl)))
 (SF.extend 2 rfl rfl rfl (.inl rfl) (az (ae 3)) λsg=>
 (SF.cO rfl (.m 8)))
 (SF.cO rfl (.m 8)))))) λs4=>
 (SF.jY (aa8 rfl rfl rfl q.list rfl q.reversed (wV 1)) λ_=>rfl))))
abbrev k8:DF:=dv 2 2 1 jh
def Th(D:DI v k8)(q:NB v)(IU:mM.C v):D.O:=
 rA D λhr nd cE=>
 (sl 1 nd (a6 (n:=0) ai rfl) λbM=>
 (sl 2 nd (a6 (n:=0) ai rfl) λxr=>
 (SF.u7 (hd:=(λ(s4:O PV×O PV)=>([am (.val cE),am (.ol ce s4.1),am (.ol ce s4.2),ce,ce,ce]:aL))) (s0:=(bM,xr)) Av rfl (bG rfl (tK (lC IU hr (av 0 ai)))) (.refl _) (d7 3 nd) (λs4 w4=>
 (SF.ifS (out1:=λ(WD:O PV×O PV)=>.nx ([am (.val cE),am (.ol ce WD.1),am (.ol ce WD.2),am (.val w4),ce,ce]:aL)) (iw rfl (ku rfl .str rfl q.isinstance (ae 3) rfl q.str Ch) (λ_=>rfl))
 (SF.append 1 rfl rfl rfl (.inl rfl) (ae 3) λJ0=>
 (SF.nil rfl (.refl _)))
 (SF.HN 2 4 rfl ⋯ rfl rfl (.inl rfl) nd rfl (Cg rfl) λt20=>
 (SF.HN 2 5 rfl ⋯ rfl rfl (.inl rfl) nd rfl (Cg rfl) λt22=>
 (SF.append 1 rfl rfl rfl (.inl rfl) (aO (n:=2) (av 5 (av 4 ai)) rfl) λJZ=>
 (SF.nil rfl (.m 48)))))
 λWD=>(SF.append 2 rfl rfl rfl (.inl rfl) (jI (pI rfl rfl q.len (dH 1)) aj) λzK=>
 (SF.cO rfl (.m 8))))) λs4=>
 (SF.dm (dh rfl rfl q.tuple (dH 1)) λ_=>rfl))))
abbrev iL:DF:=dv 3 1 1 cH
def Pg(D:DI v iL)(q:NB v):D.O:=
 rA D λhr nd dM=>
 (SF.dm (va (iw rfl (ku rfl .str rfl q.isinstance (ae 0) rfl q.str Ch) (λ_=>rfl)) (aO (n:=0) ai rfl) (ae 0)) λ_=>rfl)
abbrev jv:DF:=dv 4 3 1 gm
def ID(D:DI v jv)(q:NB v)(jq:k8.C v)(gz:iL.C v):D.O:=
 rA D λhr nd cE=>
 (sv 1 nd (eC jq hr (av 0 ai)) λbM=>
 (SF.iW (i:=3) rfl nd rfl rfl lW (bG rfl (cf (ae 1))) (λ_ _ _ _ _=>(d7 0 lW.nd)) (λ_ _ _ _ _ p5=>c7) rfl λyA=>
 (SF.Mt (hd:=(λ(s7:O PV)=>([am (.val cE),am (.val bM),ce,am (.ol ce s7),ce,ce]:aL))) (s0:=yA) Av rfl (nS rfl rfl q.enumerate (cf (ae 1))) (.refl _) (λ_=>(PX rfl (gb rfl (aZ (d7 4 nd) (aZ (d7 2 nd) dJ))))) (λs7 t9=>
 (SF.u7 (hd:=(λ(Hm:O PV)=>([am (.val cE),am (.val bM),am (.val t9.2),am (.ol ce Hm),am (.val t9.1),ce]:aL))) (s0:=s7) Av rfl (bG rfl (cf (eC gz hr (av 2 ai)))) (.refl _) (d7 5 nd) (λHm KR=>
 (SF.RS 3 rfl rfl (.inl rfl) (ae 4) (ae 5) λG7=>
 (SF.cO rfl (.m 32)))) λHm=>
 (SF.cO rfl (.m 20)))) λs7=>
 (SF.dm (dh rfl rfl q.tuple (dH 3)) λ_=>rfl))))
abbrev eT:DF:=dv 9 1 2 dr
def Iu(D:DI v eT)(oo:v.mg "UNDER"=am (.int 2 J2)):D.O:=
 rA D λhr nd iU bV=>
 (SF.dm (aP rfl (az (aP rfl (az (ae 0)) (ae 1))) (yd oo rfl)) λ_=>rfl)
abbrev kD:DF:=dv 10 1 2 gN
def zR(D:DI v kD)(kF:v.mg "BESIDE"=am (.int 3 y6)):D.O:=
 rA D λhr nd iU bV=>
 (SF.dm (aP rfl (az (aP rfl (az (ae 0)) (ae 1))) (yd kF rfl)) λ_=>rfl)
abbrev pP:DF:=dv 11 2 3 kS
def L8(D:DI v pP)(uo:v.mg "NAME"=am (.int 0 NJ))(du:eT.C v):D.O:=
 rA D λhr nd iU bV UP=>
 (SF.dm (acn (GR (lZ rfl (bD hr)) (eC du hr (av 0 (av 1 ai))) (aO (n:=0) ai rfl)) (acj (GR (lZ rfl (bD hr)) (aP rfl (az (aP rfl (az (ae 0)) (ae 1))) (yd uo rfl)) (ae 2)))) λ_=>rfl)
abbrev lg:DF:=dv 12 1 2 eM
def L7(D:DI v lg)(q:NB v):D.O:=
 rA D λhr nd eY ki=>
 (SF.dm (va (iw rfl (ku rfl .str rfl q.isinstance (aP rfl (az (ae 0)) (ae 1)) rfl q.str Ch) (λ_=>rfl)) (aP rfl (az (ae 0)) (ae 1)) (ae 1)) λ_=>rfl)
abbrev mO:DF:=dL 13 4 [.v] 1 jk
def IA(D:DI v mO)(q:NB v)(mI:jv.C v):D.O:=
 Ng D λhr nd bF=>
 (sv 1 nd (eC mI hr (av 0 ai)) λdi=>
 (SF.iW (i:=3) rfl nd rfl rfl lS (bG rfl (cf (ae 1))) (λ_ _ _ _ _=>(d7 0 lS.nd)) (λ_ _ _ _ _ p5=>(aO (n:=0) ai rfl)) rfl λkU=>
 (SF.u7 (hd:=(λ(s9:O PV)=>([am (.val bF),am (.val di),ce,am (.ol ce s9),ce]:aL))) (s0:=kU) Av rfl (KO rfl q.range (jI (c8 rfl rfl q.len (ae 1)) aj) (nX aj) (nX aj)) (.refl _) (d7 2 nd) (λs9 kh=>
 (sv 4 nd (va (bA ke (aP rfl (az (ae 1)) (ae 2)) c7) (aO (n:=0) ai rfl) (aP rfl (dH 3) (aP rfl (az (ae 1)) (ae 2)))) λG8=>
 (SF.RS 3 rfl rfl (.inl rfl) (dY rfl (aO (n:=1) (av 2 ai) rfl) (ae 4)) (ae 2) λzL=>
 (SF.cO rfl (.m 20))))) λs9=>
 (SF.RZ 3 rfl rfl))))
abbrev ju:DF:=dv 14 1 2 fN
def xE(D:DI v ju)(q:NB v):D.O:=
 rA D λhr nd xu ki=>
 (SF.dm (dh rfl rfl q.tuple (sF (KJ rfl jE (dR rfl q.range (c8 rfl rfl q.len (ae 0))) (λ_ _ _ _ _=>(d7 0 jE.nd)) (λ_ _ _ _ _ p3=>(yI.t (oM (NH rfl (bD hr) (ae 0) (az (aP rfl (az (ae 2)) (ae 1)))) (kI (NH rfl (bD hr) (ae 1) (az (aP rfl (az (ae 2)) (ae 0)))))))) (λ_ _ _ _ _ p3=>(ae 0)) rfl))) λ_=>rfl)
abbrev uf:DF:=dv 15 5 1 gk
def Ph(D:DI v uf)(q:NB v)(jq:k8.C v)(IW:mO.C v)(pC:lg.C v)(gz:iL.C v)(xT:ju.C v):D.O:=
 rA D λhr nd bF=>
 (sv 1 nd (eC jq hr (av 0 ai)) λfm=>
 (sl 2 nd (lC IW hr (av 0 ai)) λkU=>
 SF.cg 2 rfl (SF.dm (dh rfl rfl q.tuple (sF (jn rfl qc (dR rfl q.range (c8 rfl rfl q.len (ae 1))) (λ_ _ _ _ _=>(d7 0 qc.nd)) (λ_ _ _ _ _ p7=>(aO (n:=4) (ag (eC pC hr (av 1 (av 0 ai))) (ag aj (ag (eC gz hr (ag (aP rfl (az (ae 1)) (ae 0)) ai)) (ag (eC xT hr (av 2 (av 0 ai))) ai)))) rfl)) rfl))) λ_=>rfl)))
abbrev kz:DF:=dL 22 2 [.v,.v] 2 gL
def zP(D:DI v kz)(q:NB v)(du:eT.C v):D.O:=
 Ng D λhr nd aX bV=>
 (sv 2 nd (eC du hr (av 0 (av 1 ai))) λm5=>
 (SF.jY (abb (bA (lZ rfl (bD hr)) (c8 rfl rfl q.len (ae 2)) aj) (a6 (n:=2) (av 2 (ag (aO (n:=2) (ag (aP rfl (az (ae 2)) aj) (ag (aP rfl (az (ae 2)) aj) ai)) rfl) ai)) rfl) (a6 (n:=0) ai rfl)) λ_=>rfl))
abbrev mN:DF:=dL 23 2 [.v,.v] 2 jg
def Iz(D:DI v mN)(Gw:kD.C v):D.O:=
 Ng D λhr nd aX bV=>
 (sv 2 nd (eC Gw hr (av 0 (av 1 ai))) λur=>
 (SF.jY (lY rfl (cy (jn rfl lR (bG rfl (cf (ae 2))) (λ_ _ _ _ _=>(d7 0 lR.nd)) (λ_ _ _ _ _ p5=>(aO (n:=2) (av 1 (av 0 ai)) rfl)) rfl)) (cy (jn rfl lQ (bG rfl (cf (ae 2))) (λ_ _ _ _ _=>(d7 0 lQ.nd)) (λ_ _ _ _ _ p9=>(aO (n:=2) (av 0 (av 1 ai)) rfl)) rfl))) λ_=>rfl))
abbrev mP:DF:=dL 24 3 [.v,.v,.v] 3 eO
def IB(D:DI v mP)(q:NB v)(ou:v.mg "FOUND"=am (.str "found" J4))(oq:v.mg "SPLIT"=am (.str "split" J3))(um:v.mg "OVER"=am (.str "over" NI))(iO:v.mg "DOUBLED"=am (.str "doubled" vq))(Mr:pP.C v)(Fl:kz.C v)(IV:mN.C v):D.O:=
 Ng D λhr nd aX dM bV=>
 (SF.Zj (iw rfl (ku rfl .str rfl q.isinstance (ae 1) rfl q.str Ch) (λ_=>rfl))
 (SF.jY (abb (iw rfl (eC Mr hr (av 0 (av 2 (av 1 ai)))) (λ_=>rfl)) (a6 (n:=1) (ag (aO (n:=2) (ag (yc ou rfl) (ag (aO (n:=0) ai rfl) ai)) rfl) ai) rfl) (a6 (n:=0) ai rfl)) λ_=>rfl)
 (SF.iW (i:=3) rfl nd rfl rfl lU (bG rfl (tK (lC Fl hr (av 0 (av 2 ai))))) (λ_ _ _ _ _=>(d7 0 lU.nd)) (λ_ _ _ _ _ p11=>(aO (n:=2) (ag (yc oq rfl) (av 0 ai)) rfl)) rfl λJ9=>
 SF.cg 3 rfl (SF.iW (i:=4) rfl nd rfl rfl lT (bG rfl (tK (lC IV hr (av 0 (av 2 ai))))) (λ_ _ _ _ _=>(d7 0 lT.nd)) (λ_ _ _ _ _ p18=>(aO (n:=2) (ag (yc um rfl) (av 0 ai)) rfl)) rfl λKm=>
 SF.cg 4 rfl (SF.jY (S7 rfl (bD hr) rfl q.sorted (cy (lY rfl (cy (lY rfl (cy (a6 (n:=1) (ag (aO (n:=2) (ag (yc iO rfl) (ag (aO (n:=2) (av 2 (av 2 ai)) rfl) ai)) rfl) ai) rfl)) (gX (ae 3)))) (gX (ae 4))))) λ_=>rfl))))
abbrev n6:DF:=dv 27 1 1 ka
def Pc(D:DI v n6)(q:NB v):D.O:=
 rA D λhr nd dw=>
 (SF.dm (va (Z0 rfl (bD hr) c7 (az (ae 0))) c7 (Qm rfl rfl rfl q.sum (gX (ae 0)))) λ_=>rfl)
abbrev gD:DF:=dv 28 1 1 cI
def IC(D:DI v gD)(q:NB v):D.O:=
 rA D λhr nd dw=>
 (SF.dm (YH rfl rfl rfl q.min (cy (KJ rfl lV (bG rfl (cf (ae 0))) (λ_ _ _ _ _=>(d7 0 lV.nd)) (λ_ _ _ _ _ p2=>(bA rG (ae 0) c7)) (λ_ _ _ _ _ p2=>(ae 0)) rfl))) λ_=>rfl)
abbrev mL:DF:=dv 29 1 2 je
def Iw(D:DI v mL)(lh:v.mg "DEEDS"=am (.ref rQ))(rF:QX v.K rQ ["split","doubled","over"]):D.O:=
 rA D λhr nd bf fo=>
 (SF.dm (va (ZZ rfl (bD hr) (ae 1) lh rF) (aP rfl (az (ae 0)) (YJ rfl (ae 1) lh rF)) aj) λ_=>rfl)
abbrev kx:DF:=dv 30 2 3 gK
def zO(D:DI v kx)(q:NB v)(uq:v.mg "LOST"=am (.int 3 NK))(du:eT.C v):D.O:=
 rA D λhr nd aX bf bV=>
 (SF.dm (va (bA (lZ rfl (bD hr)) (c8 rfl rfl q.len (eC du hr (av 0 (av 2 ai)))) aj) (aP rfl (az (ae 1)) (yd uq rfl)) aj) λ_=>rfl)
abbrev n8:DF:=dL 32 2 [.v,.v] 2 gh
def Pd(D:DI v n8)(tP:n6.C v):D.O:=
 Ng D λhr nd dw Vf=>
 (SF.jY (jn rfl p0 (bG rfl (cf (ae 0))) (λ_ _ _ _ _=>(d7 0 p0.nd)) (λ_ _ _ _ _ p2=>(eC tP hr (ag (iJ (a6 (n:=2) (av 0 (av 1 ai)) rfl)) ai))) rfl) λ_=>rfl)
abbrev ug:DF:=dL 33 2 [.v,.v] 2 nI
def Pj(D:DI v ug)(q:NB v)(gA:gD.C v)(tP:n6.C v):D.O:=
 Ng D λhr nd o5 eL=>
 (SF.iW (i:=3) rfl nd rfl rfl qd (dR rfl q.range (jI (dY rfl (c8 rfl rfl q.len (ae 0)) (c8 rfl rfl q.len (ae 1))) aj)) (λ_ _ _ _ _=>(d7 0 qd.nd)) (λ_ _ _ _ _ p4=>c7) rfl λbM=>
 (SF.Mt (hd:=(λ(s6:O PV)=>([am (.val o5),am (.val eL),ce,am (.ol ce s6),ce,ce,ce]:aL))) (s0:=bM) Av rfl (nS rfl rfl q.enumerate (cf (ae 0))) (.refl _) (λ_=>(PX rfl (gb rfl (aZ (d7 4 nd) (aZ (d7 5 nd) dJ))))) (λs6 t8=>
 (SF.Mt (hd:=(λ(Hm:O PV)=>([am (.val o5),am (.val eL),ce,am (.ol ce Hm),am (.val t8.1),am (.val t8.2),ce]:aL))) (s0:=s6) Av rfl (Pq rfl rfl q.enumerate (ae 1) (ae 4)) (.refl _) (λ_=>(PX rfl (gb rfl (aZ (d7 2 nd) (aZ (d7 6 nd) dJ))))) (λHm ö=>
 (SF.RS 3 rfl rfl (.inl rfl) (eC gA hr (ag (iJ (a6 (n:=2) (ag (aP rfl (dH 3) (ae 2)) (ag (eC tP hr (ag (iJ (a6 (n:=2) (av 5 (av 6 ai)) rfl)) ai)) ai)) rfl)) ai)) (ae 2) λJ1=>
 (SF.cO rfl (.m 68)))) λHm=>
 (SF.cO rfl (.m 48)))) λs6=>
 (SF.RZ 3 rfl rfl)))
abbrev n9:DF:=dL 34 2 [.v,.v] 2 gj
def Pf(D:DI v n9)(q:NB v)(gA:gD.C v):D.O:=
 Ng D λhr nd O1 Vg=>
 (SF.jY (jn rfl qa (dR rfl q.range (ae 1)) (λ_ _ _ _ _=>(d7 0 qa.nd)) (λ_ _ _ _ _ p3=>(eC gA hr (ag (iJ (jn rfl (aV.rel qb) (bG rfl (cf (ae 1))) (λ_ _ _ _ _=>(d7 0 qb.nd)) (λ_ _ _ _ _ p5=>(aP rfl (az (ae 0)) (ae 1))) rfl)) ai))) rfl) λ_=>rfl)
abbrev jt:DF:=dv 35 3 5 cq
def xC(D:DI v jt)(q:NB v)(gz:iL.C v)(PU:ug.C v)(tQ:n8.C v)(IT:mL.C v):D.O:=
 rA D λhr nd bf mU pX dM fo=>
 (sl 5 nd (a6 (n:=1) (ag aj ai) rfl) λbM=>
 SF.cg 5 rfl (SF.Mt (hd:=(λ(s6:PV)=>([am (.val bf),am (.val mU),am (.val pX),am (.val dM),am (.val fo),am (.val s6),ce,ce]:aL))) (s0:=(.cl bM)) Av rfl (Pp rfl rfl q.zip (cf (eC gz hr (av 3 ai))) (cf (aP rfl (az (ae 4)) aj))) (.refl _) (λ_=>(PX rfl (gb rfl (aZ (d7 6 nd) (aZ (d7 7 nd) dJ))))) (λs6 t8=>
 (sl 5 nd (lC PU hr (av 5 (ag (aP rfl (az (aP rfl (az (ae 2)) (ae 6))) (ae 7)) ai))) λNC=>
 SF.cg 5 rfl (SF.cO rfl (.m 192)))) λs6=>
 (SF.Zj (iw rfl (ku rfl .str rfl q.isinstance (ae 3) rfl q.str Ch) (λ_=>rfl))
 (SF.dm (ae 5) λ_=>rfl)
 (SF.Zj (bA (lZ rfl (bD hr)) (aP rfl (az (ae 4)) aj) (ae 1))
 (SF.dm (iJ (lY rfl (cy (a6 (n:=1) (ag c7 ai) rfl)) (gX (ae 5)))) λ_=>rfl)
 (SF.dm (iJ (lY rfl (cy (lC tQ hr (av 5 (ag (eC IT hr (av 0 (ag (aP rfl (az (ae 4)) aj) ai))) ai)))) (cy (a6 (n:=1) (ag c7 ai) rfl)))) λ_=>rfl)))))
abbrev fw:DF:=dL 36 4 [.v,.v,.v,.v,.v] 5 de
def qG(D:DI v fw)(q:NB v)(z9:kx.C v)(IX:mP.C v)(xS:jt.C v)(du:eT.C v)(tQ:n8.C v)(tR:n9.C v):D.O:=
 Ng D λhr nd aX bf mU pX dM=>
 (sv 5 nd (va (iw rfl (ku rfl .str rfl q.isinstance (ae 4) rfl q.str Ch) (λ_=>rfl)) aj (Qm rfl rfl rfl q.sum (cy (jn rfl gs (bG rfl (cf (ae 4))) (λ_ _ _ _ _=>(d7 0 gs.nd)) (λ_ _ _ _ _ p3=>(c8 rfl rfl q.len (aP rfl (az (aP rfl (az (ae 1)) (ae 0))) aj))) rfl)))) λIh=>
 (sl 6 nd (a6 (n:=0) ai rfl) λHC=>
 (SF.u7 (hd:=(λ(s6:O PV)=>([am (.val aX),am (.val bf),am (.val mU),am (.val pX),am (.val dM),am (.val Ih),am (.ol ce s6),ce,ce,ce,ce]:aL))) (s0:=HC) Av rfl (dR rfl q.range (c8 rfl rfl q.len (ae 0))) (.refl _) (d7 7 nd) (λs6 wI=>
 (sv 8 nd (eC z9 hr (av 0 (av 1 (av 7 ai)))) λU6=>
 (SF.iW (i:=9) rfl nd rfl rfl gr (bG rfl (tK (lC IX hr (av 0 (av 4 (av 7 ai)))))) (λ_ _ _ _ _=>(d7 0 gr.nd)) (λ_ _ _ _ _ p17=>(eC xS hr (av 3 (av 1 (av 4 (av 2 (av 0 ai))))))) rfl λLa=>
 SF.cg 9 rfl (SF.iW (i:=10) rfl nd rfl rfl gq (bG rfl (cf (eC du hr (av 0 (av 7 ai))))) (λ_ _ _ _ _=>(d7 0 gq.nd)) (λ_ _ _ _ _ ù=>(iJ (lC tQ hr (ag (aP rfl (dH 2) (ae 0)) (av 1 ai))))) rfl λsu=>
 SF.cg 10 rfl (SF.append 6 rfl rfl rfl (.inr (.inl rfl)) (iJ (lC tR hr (ag (iJ (lY rfl (gX (ae 9)) (gX (ae 10)))) (av 5 ai)))) λJY=>
 (SF.cO rfl (.m 1920))))))) λs6=>
 (SF.RZ 6 rfl rfl))))
abbrev rP:DF:=dv 37 5 4 gM
def Tg(D:DI v rP)(q:NB v)(jq:k8.C v)(qM:fw.C v)(tR:n9.C v):D.O:=
 rA D λhr nd aX mm bf fo=>
 (sl 4 nd (a6 (n:=0) ai rfl) λeJ=>
 (SF.u7 (hd:=(λ(s3:O PV)=>([am (.val aX),am (.val mm),am (.val bf),am (.val fo),am (.ol ce s3),ce]:aL))) (s0:=eJ) Av rfl (bG rfl (cf (eC jq hr (av 1 ai)))) (.refl _) (d7 5 nd) (λs3 OQ=>
 (SF.append 4 rfl rfl rfl (.inl rfl) (YL 4 rfl rfl (iJ (lC qM hr (av 0 (av 2 (av 3 (av 4 (av 5 ai)))))))) λN1=>
 (SF.cO rfl (.m 32)))) λs3=>
 (SF.dm (dh rfl rfl q.tuple (sF (lC tR hr (ag (aP rfl (dH 4) (nX aj)) (ag (c8 rfl rfl q.len (aP rfl (az (aP rfl (dH 4) (nX aj))) aj)) ai))))) λ_=>rfl)))
abbrev eU:DF:=dv 38 1 2 cR
def ph(D:DI v eU):D.O:=
 rA D λhr nd o5 eL=>
 (SF.JR (hd:=(λ(s1:PV×PV)=>([am (.val s1.1),am (.val s1.2),ce]:aL))) (s0:=(o5,eL)) Av (.refl _) (λs1=>(bA vV (ae 1) aj)) (λs1=>
 (sv 2 nd (K6 (ae 0) (ae 1)) λN4=>
 (sv 0 nd (ae 1) λU9=>
 (sv 1 nd (ae 2) λi6=>
 (SF.cO rfl (.m 4)))))) λs1=>
 (SF.dm (ae 0) λ_=>rfl))
abbrev fv:DF:=dv 39 2 2 dc
def qF(D:DI v fv)(q:NB v)(pD:eU.C v):D.O:=
 rA D λhr nd dw n_=>
 (sv 2 nd c7 λbM=>
 (SF.u7 (hd:=(λ(s3:PV)=>([am (.val dw),am (.val n_),am (.val s3),ce,ce,ce,ce]:aL))) (s0:=bM) Av rfl (dR rfl q.range (ae 1)) (.refl _) (d7 3 nd) (λs3 tD=>
 (SF.Vx (bA rG (aP rfl (az (ae 0)) (ae 3)) c7)
 (sv 4 nd (jI (aP rfl (az (ae 0)) (ae 3)) (aP rfl (az (ae 0)) (ae 1))) λp_5=>
 (sv 5 nd (jI (ae 1) (ae 3)) λq_6=>
 (SF.Vx (yI.t (vo (bA ke (ae 2) c7) (sj (bA zU (nY (ae 4) (aP rfl (az (ae 2)) aj)) (nY (aP rfl (az (ae 2)) aj) (ae 5))))))
 (sv 2 nd (aO (n:=3) (av 3 (av 4 (av 5 ai))) rfl) λND=>
 (SF.cO rfl (.m 56)))
 (SF.cO rfl (.m 56)))))
 (SF.cO rfl (.m 8)))) λs3=>
 (SF.Zj (bA ke (ae 2) c7)
 (SF.dm c7 λ_=>rfl)
 (sv 6 nd (eC pD hr (ag (aP rfl (az (ae 2)) aj) (ag (aP rfl (az (ae 2)) aj) ai))) λmJ=>
 (SF.dm (aO (n:=3) (ag (aP rfl (az (ae 2)) aj) (ag (K7 (aP rfl (az (ae 2)) aj) (ae 6)) (ag (K7 (aP rfl (az (ae 2)) aj) (ae 6)) ai))) rfl) λ_=>rfl)))))
abbrev kC:DF:=dv 40 6 4 dC
def zQ(D:DI v kC)(q:NB v)(xR:rP.C v)(gA:gD.C v)(qL:fv.C v):D.O:=
 rA D λhr nd aX mm bf fo=>
 (sv 4 nd (eC xR hr (av 0 (av 1 (av 2 (av 3 ai))))) λog=>
 (sl 5 nd (a6 (n:=0) ai rfl) λHK=>
 (sv 6 nd (aO (n:=3) (ag (YI rfl (bD hr) (ae 4) (eC gA hr (av 4 ai))) (ag aj (ag aj ai))) rfl) λN2=>
 (SF.JR (hd:=(λ(iX:O PV×PV)=>([am (.val aX),am (.val mm),am (.val bf),am (.val fo),am (.val og),am (.ol ce iX.1),am (.val iX.2)]:aL))) (s0:=(HK,N2)) Av (.refl _) (λiX=>(bA rG (ae 6) c7)) (λiX=>
 (SF.append 5 rfl rfl rfl (.inl rfl) (ae 6) λKc=>
 (sv 6 nd (eC qL hr (av 4 (ag (aP rfl (az (ae 6)) aj) ai))) λN3=>
 (SF.cO rfl (.refl _))))) λiX=>
 (SF.dm (dh rfl rfl q.tuple (dH 5)) λ_=>rfl)))))
abbrev hV:DF:=dL 42 1 [.v,.v] 2 eW
def uS(D:DI v hV)(q:NB v):D.O:=
 Ng D λhr nd eY cX=>
 (SF.jY (aba rfl eQ (Pp rfl rfl q.zip (cf (ae 0)) (cf (ae 1))) (λ_ _ _ _ _=>(PX rfl (gb rfl (aZ (d7 0 eQ.nd) (aZ (d7 1 eQ.nd) dJ))))) (λ_ _ _ _ _ t5=>(NG (iw rfl (ku rfl .str rfl q.isinstance (ae 0) rfl q.str Ch) (λ_=>rfl)))) (λ_ _ _ _ _ t5=>(ae 1)) (aa6 rfl rfl ⋯) ⋯) λ_=>rfl)
abbrev mK:DF:=dL 43 4 [.v,.v,.v] 3 jd
def Iv(D:DI v mK)(q:NB v)(mI:jv.C v):D.O:=
 Ng D λhr nd bF cX jz=>
 (sv 3 nd (eC mI hr (av 0 ai)) λdi=>
 (sl 4 nd (a6 (n:=0) ai rfl) λw9=>
 (SF.Mt (hd:=(λ(s5:O PV)=>([am (.val bF),am (.val cX),am (.val jz),am (.val di),am (.ol ce s5),ce,ce,ce,ce]:aL))) (s0:=w9) Av rfl (nS rfl rfl q.enumerate (cf (ae 2))) (.refl _) (λ_=>(PX rfl (gb rfl (aZ (d7 5 nd) (aZ (d7 6 nd) dJ))))) (λs5 t7=>
 (SF.Mt (hd:=(λ(s9:O PV)=>([am (.val bF),am (.val cX),am (.val jz),am (.val di),am (.ol ce s9),am (.val t7.1),am (.val t7.2),ce,ce]:aL))) (s0:=s5) Av rfl (nS rfl rfl q.enumerate (cf (ae 1))) (.refl _) (λ_=>(PX rfl (gb rfl (aZ (d7 7 nd) (aZ (d7 8 nd) dJ))))) (λs9 Q6=>
 (SF.Vx (yI.t (oM (bA abj (ae 8) (ae 6)) (kI (yI.t (vo (bA ke (aP rfl (az (ae 3)) (ae 7)) c7) (sj (bA zU (ae 6) (aP rfl (az (ae 1)) (aP rfl (az (ae 3)) (ae 7))))))))))
 (SF.append 4 rfl rfl rfl (.inl rfl) (aO (n:=2) (av 7 (av 5 ai)) rfl) λzu=>
 (SF.cO rfl (.m 384)))
 (SF.cO rfl (.m 384)))) λs9=>
 (SF.cO rfl (.m 96)))) λs5=>
 (SF.RZ 4 rfl rfl))))
abbrev pO:DF:=dv 44 2 5 kR
def L6(D:DI v pO)(q:NB v)(gz:iL.C v)(pC:lg.C v):D.O:=
 rA D λhr nd eY cX jz nA OG=>
 (sv 5 nd (aP rfl (az (ae 4)) aj) λkY=>
 (sv 6 nd (aP rfl (az (ae 4)) aj) λnQ=>
 (sv 7 nd (GR zU (aP rfl (az (ae 1)) (ae 5)) (aP rfl (az (ae 2)) (ae 6))) λv8=>
 (sv 8 nd (va (iw rfl (ae 7) (λ_=>rfl)) (aO (n:=1) (av 5 ai) rfl) (eC gz hr (ag (aP rfl (az (ae 0)) (ae 5)) ai))) λbelow_4=>
 (sv 9 nd (dh rfl rfl q.tuple (sF (jn rfl nP (bG rfl (cf (ae 8))) (λ_ _ _ _ _=>(d7 0 nP.nd)) (λ_ _ _ _ _ p9=>(Qv (bD hr) (ae 2) (aO (n:=2) (av 0 (ag (jI (ae 1) aj) ai)) rfl) (λ_ _=>rfl))) rfl))) λJW=>
 (sv 10 nd (dh rfl rfl q.tuple (sF (KJ rfl nN (Tq (ae 3)) (λ_ _ _ _ _=>(d7 0 nN.nd)) (λ_ _ _ _ _ æ=>(yI.t (oM (bA (lZ rfl (bD hr)) (aP rfl (az (ae 0)) aj) (ae 2)) (kI (bA (Vv rfl (bD hr)) (aP rfl (az (ae 0)) aj) (ae 1)))))) (λ_ _ _ _ _ æ=>(Qv (bD hr) (ae 3) (ae 0) (λ_ _=>rfl))) rfl))) λwB=>
 (SF.dm (aO (n:=4) (ag (eC pC hr (av 0 (av 5 ai))) (av 6 (av 9 (av 10 ai)))) rfl) λ_=>rfl)))))))
abbrev yn:DF:=dv 45 5 2 kT
def Ti(D:DI v yn)(q:NB v)(jq:k8.C v)(uZ:hV.C v)(IQ:mK.C v)(Mq:pO.C v):D.O:=
 rA D λhr nd bF cX=>
 (sv 2 nd (eC jq hr (av 0 ai)) λfm=>
 (sl 3 nd (lY rfl (cy (a6 (n:=1) (ag aj ai) rfl)) (cy (S8 rfl rfl q.sorted (cy (lC uZ hr (av 2 (av 1 ai))))))) λuv=>
 SF.cg 3 rfl (sl 4 nd (lC IQ hr (av 0 (av 1 (av 3 ai)))) λw6=>
 SF.cg 4 rfl (sv 5 nd (agi (Ut rfl rfl (bD hr) rfl q.dict (cy (XF rfl mF (nS rfl rfl q.enumerate (cf (ae 4))) (λ_ _ _ _ _=>(PX rfl (gb rfl (aZ (d7 0 mF.nd) (aZ (d7 1 mF.nd) dJ))))) (λ_ _ _ _ _ đ=>(aO (n:=2) (av 1 (av 0 ai)) rfl)) (aa6 rfl rfl ⋯) ⋯)))) λsN=>
 (SF.dm (dh rfl rfl q.tuple (sF (jn rfl tE (bG rfl (cf (ae 4))) (λ_ _ _ _ _=>(d7 0 tE.nd)) (λ_ _ _ _ _ p21=>(eC Mq hr (av 3 (av 2 (av 1 (av 4 (av 0 ai))))))) rfl))) λ_=>rfl)))))
abbrev mQ:DF:=dL 47 1 [.v] 1 fU
def IE(D:DI v mQ)(q:NB v):D.O:=
 Ng D λhr nd da=>
 (sv 1 nd (dY rfl (c8 rfl rfl q.len (ae 0)) aj) λHJ=>
 (SF.u7 (hd:=(λ(s5:PV)=>([am (.val da),am (.val s5),ce]:aL))) (s0:=HJ) Av rfl (bG rfl (tK (XE rfl (gX (ae 0)) sM (xh aj)))) (.refl _) (d7 2 nd) (λs5 QJ=>
 (sv 1 nd (K6 (dY rfl (dY rfl (nY (ae 1) aj) (K6 (ae 2) (Qp aj aj))) aj) aj) λN0=>
 (SF.cO rfl (.m 4)))) λs5=>
 (SF.jY (a6 (n:=3) (ag (acm (KJ rfl lX (bG rfl (tK (XE rfl (gX (ae 0)) sM (xh aj)))) (λ_ _ _ _ _=>(d7 0 lX.nd)) (λ_ _ _ _ _ Zc=>(bA abk (ae 0) (Qp aj aj))) (λ_ _ _ _ _ Zc=>(ae 0)) rfl)) (av 1 (ag aj ai))) rfl) λ_=>rfl)))
abbrev cj:DF:=dV 48 1 [.p fM 1,.v] 1 bS
abbrev iM:DF:=dV 49 2 [.p fM 1,.v] 1 f6
def L9(D:DI v iM)(q:NB v)(aN:cj.C v):D.O:=
 OV D λj hr nd dA=>
 (SF.dm (aP rfl (az (ae 1)) (eP 0 aN hr (ag (c8 rfl rfl q.len (ae 1)) ai))) λ_=>rfl)
abbrev hZ:DF:=dV 50 2 [.p fM 300,.v] 1 bI
theorem uU(D:DI v hZ)(q:NB v)(aN:cj.C v):D.O:=
 OV D λj hr nd dA=>
 (sl 2 nd (O7 rfl rfl q.list (az (ae 1))) λIo=>
 (SF.jQ (hd:=(λ(j3:Nat) (s2:O PV)=>([am (.cG fM (j+0+3*j3+0) (j+300)),am (.val dA),am (.ol ce s2),ce,ce]:aL))) (hE:=(λ(s2:O PV)=>([am (.cG fM (j+300) (j+300)),am (.val dA),am (.ol ce s2),ce,ce]:aL))) (s0:=Io) Av (.bump (.refl _) ⟨by omega,by omega⟩) (λj3 s2=>(bA vV (pI rfl rfl q.len (dH 2)) aj)) (λj3 s2 _=>
 (SF.Xa 2 3 rfl ⋯ rfl rfl (.inl rfl) nd rfl (Cg rfl) (eP 0 aN hr (ag (pI rfl rfl q.len (dH 2)) ai)) λt7=>
 (SF.Xa 2 4 rfl ⋯ rfl rfl (.inl rfl) nd rfl (Cg rfl) (eP 0 aN hr (ag (pI rfl rfl q.len (dH 2)) ai)) λQ6=>
 (SF.insert 2 rfl rfl rfl (.inl rfl) (eP 0 aN hr (ag (dY rfl (pI rfl rfl q.len (dH 2)) aj) ai)) (aO (n:=2) (av 3 (av 4 ai)) rfl) λKD=>
 (SF.cO rfl (.bump (.m 12) ⟨by omega,by omega⟩)))))) (λj3 _ _=>(.bump (.refl _) ⟨by omega,by omega⟩)) λs2=>
 (SF.dm (aP rfl (dH 2) aj) λ_=>rfl)))
abbrev jw:DF:=dV 51 3 [.p fM 16777819,.v,.v] 2 fP
theorem xF(D:DI v jw)(q:NB v)(aN:cj.C v)(ma:hZ.C v)(iH:iM.C v):D.O:=
 OV D λj hr nd ab4 Ve=>
 (SF.WC (aP rfl (sF (a6 (n:=2) (ag (aO (n:=2) (av 1 (av 2 ai)) rfl) (ag (aO (n:=2) (ag aj (ag aj ai)) rfl) ai)) rfl)) (Ua rfl q.int (GR (lZ rfl (bD hr)) (eP 0 aN hr (ag aj ai)) aj))) (PX rfl (gb rfl (aZ (d7 3 nd) (aZ (d7 4 nd) dJ)))) λt9=>
 (sl 5 nd (XE rfl (cy (a6 (n:=8) (ag gT (ag gT (ag gT (ag gT (ag gT (ag gT (ag gT (ag gT ai)))))))) rfl)) sM (xh (dY rfl aj (eP 0 aN hr (av 3 ai))))) λrZ=>
 SF.cg 5 rfl (sv 6 nd (eP 0 ma hr (av 5 ai)) λzY=>
 (SF.as (QO (k:=7) (n:=((((j+1)+1)+300)+1)) (m:=(j+16777819)) 0 1 1 (j+16777519) rfl nd rfl rfl jF (dR rfl q.range (dY rfl aj (eP 0 aN hr (av 4 ai)))) (λ_ _ _ _ _=>(d7 0 jF.nd)) (λ_ _ _ _ _ j30 p29 _=>(eP 1 iH hr (av 2 ai))) (λj30 _ _=>(.drop (.bump (.m 0) ⟨by omega,by omega⟩))) ⟨by omega,by omega⟩ rfl) λGz=>
 SF.cg 7 rfl (SF.dm (aO (n:=2) (av 6 (ag (eP 0 ma hr (av 7 ai)) ai)) rfl) λ_=>rfl)))))
abbrev jx:DF:=dL 52 12 [.v] 1 (a7 12)
theorem nR(D:DI v jx)(q:NB v):∀n,lM v.P v.w v.K v.mg v.base Hk (n+0) D.f D.fd (LL (top 52)) (zb v.K [.v] (wG 1 (a7 n)))
 |0=>ab2 (RI λl Q hl=>match l,hl with|[cE],_=>λh=>h.elim)
 |n+1=>have fW:=D.cN (nR D q n)
  fnL (k:=n+0) (n:=1) (m:=a7 (n+1)) D.fn cZ rfl (U7 Kq) λ_ l hl=>match l,hl with|[cE],_=>λ_ _ _ _ _ _ hr=>show SF _ _ _ [am (.val cE),ce,ce,ce,ce] _ (a7 (n+1) cE) _ from
 (SF.Zj (iw rfl (ku rfl .str rfl q.isinstance (ae 0) rfl q.str Ch) (λ_=>rfl))
 (SF.jY (a6 (n:=1) (av 0 ai) rfl) λ_=>rfl)
 (sl 1 cZ.nd (lC fW hr (ag (aP rfl (az (ae 0)) aj) ai)) λlN=>
 SF.cg 1 rfl (sl 2 cZ.nd (lC fW hr (ag (aP rfl (az (ae 0)) aj) ai)) λi6=>
 SF.cg 2 rfl (sl 3 cZ.nd (a6 (n:=0) ai rfl) λQa=>
 (SF.u7 (hd:=(λ(s7:O PV)=>([am (.val cE),am (.val (.cl lN)),am (.val (.cl i6)),am (.ol ce s7),ce]:aL))) (s0:=Qa) Av rfl (bG rfl (cf (ae 2))) (.refl _) (d7 4 cZ.nd) (λs7 sR=>
 (SF.append 3 rfl rfl rfl (.inl rfl) (va (iw rfl (ku rfl .str rfl q.isinstance (ae 4) rfl q.str Ch) (λ_=>rfl)) (ae 4) (aO (n:=2) (ag (dY rfl (aP rfl (az (ae 4)) aj) (c8 rfl rfl q.len (ae 1))) (ag (dY rfl (aP rfl (az (ae 4)) aj) (c8 rfl rfl q.len (ae 1))) ai)) rfl)) λVU=>
 (SF.cO rfl (.m 16)))) λs7=>
 (SF.cg 3 rfl (SF.jY (lY rfl (cy (lY rfl (gX (ae 1)) (gX (ae 3)))) (cy (a6 (n:=1) (ag (aO (n:=2) (ag (jI (c8 rfl rfl q.len (ae 1)) aj) (ag (jI (dY rfl (c8 rfl rfl q.len (ae 1)) (c8 rfl rfl q.len (ae 2))) aj) ai)) rfl) ai) rfl))) λ_=>rfl)))))))
abbrev jy:DF:=dV 53 13 [.p fM 16777316,.v] 1 cJ
theorem xG(D:DI v jy)(q:NB v)(fW:jx.C v)(aN:cj.C v)(iH:iM.C v):D.O:=
 OV D λj hr nd bF=>
 (sl 2 nd (lC fW hr (av 1 ai)) λeJ=>
 SF.cg 2 rfl (SF.aaL (i:=3) (j:=4) rfl nd rfl rfl ⋯ rfl rfl (a6 (n:=1) (ag (jI (c8 rfl rfl q.len (ae 2)) aj) ai) rfl) (a6 (n:=0) ai rfl) λI0 xc=>
 (SF.jQ (hd:=(λ(j7:Nat) (s6:O PV×O PV)=>([am (.cG fM (j+0+1*j7+0) (j+16777316)),am (.val bF),am (.val (.cl eJ)),am (.ol ce s6.1),am (.ol ce s6.2),ce,ce,ce]:aL))) (hE:=(λ(s6:O PV×O PV)=>([am (.cG fM (j+100) (j+16777316)),am (.val bF),am (.val (.cl eJ)),am (.ol ce s6.1),am (.ol ce s6.2),ce,ce,ce]:aL))) (s0:=(I0,xc)) Av (.bump (.refl _) ⟨by omega,by omega⟩) (λj7 s6=>(ZY rfl (bD hr) (wV 3))) (λj7 s6 _=>
 (SF.Xa 3 5 rfl ⋯ rfl rfl (.inl rfl) nd rfl (Cg rfl) (eP 0 aN hr (ag (pI rfl rfl q.len (dH 3)) ai)) λNc=>
 (SF.Vx (NG (iw rfl (ku rfl .str rfl q.isinstance (aP rfl (az (ae 2)) (ae 5)) rfl q.str Ch) (λ_=>rfl)))
 (SF.append 4 rfl rfl rfl (.inl rfl) (ae 5) λzw=>
 (sl 3 nd (lY rfl (wV 3) (cy (O7 rfl rfl q.list (az (aP rfl (az (ae 2)) (ae 5)))))) λKZ=>
 (SF.cO rfl (.bump (.m 16) ⟨by omega,by omega⟩))))
 (SF.cO rfl (.bump (.m 16) ⟨by omega,by omega⟩))))) (λj7 _ _=>(.bump (.refl _) ⟨by omega,by omega⟩)) λs6=>
 (sl 6 nd (aa9 (a6 (n:=1) (ag aj ai) rfl) (c8 rfl rfl q.len (ae 2))) λhU=>
 (sv 7 nd aj λym=>
 (SF.VQ (hd:=(λ(Ě:Nat) (Nd:O PV×PV)=>([am (.cG fM (j+100+1*Ě+0) (j+16777316)),am (.val bF),am (.val (.cl eJ)),am (.ol ce s6.1),am (.ol ce s6.2),ce,am (.ol ce Nd.1),am (.val Nd.2)]:aL))) (hE:=(λ(Nd:O PV×PV)=>([am (.cG fM (j+16777316) (j+16777316)),am (.val bF),am (.val (.cl eJ)),am (.ol ce s6.1),am (.ol ce s6.2),ce,am (.ol ce Nd.1),am (.val Nd.2)]:aL))) (s0:=(hU,ym)) Av rfl (bG rfl (tK (aa7 rfl (wV 4) sM sM (xh (nX aj))))) (.bump (.refl _) ⟨by omega,by omega⟩) (d7 5 nd) (λĚ Nd zW _=>
 (sv 7 nd (dY rfl (dY rfl (ae 7) aj) (eP 0 iH hr (ag (iJ (a6 (n:=4) (ag aj (ag aj (ag aj (ag aj ai)))) rfl)) ai))) λyk=>
 (SF.RS 6 rfl rfl (.inl rfl) (ae 7) (ae 5) λmd=>
 (SF.cO rfl (.bump (.m 16) ⟨by omega,by omega⟩))))) (λĚ _ _=>(.bump (.refl _) ⟨by omega,by omega⟩)) λNd=>
 (SF.dm (dh rfl rfl q.tuple (dH 6)) λ_=>rfl)))))))
abbrev hX:DF:=dV 54 3 [.p fM 67108864] 0 df
theorem uT(D:DI v hX)(q:NB v)(aN:cj.C v)(iH:iM.C v):D.O:=
 OV D λj hr nd=>
 (sl 1 nd (a6 (n:=0) ai rfl) λjr=>
 (SF.VQ (hd:=(λ(j4:Nat) (s3:O PV)=>([am (.cG fM (j+0+4*j4+0) (j+67108864)),am (.ol ce s3),ce,ce]:aL))) (hE:=(λ(s3:O PV)=>([am (.cG fM (j+67108864) (j+67108864)),am (.ol ce s3),ce,ce]:aL))) (s0:=jr) Av rfl (dR rfl q.range aj) (.bump (.refl _) ⟨by omega,by omega⟩) (d7 2 nd) (λj4 s3 k_5 _=>
 (sv 3 nd (dY rfl (Qp aj aj) (eP 0 aN hr (ag aj ai))) λKS=>
 (SF.append 1 rfl rfl rfl (.inl rfl) (eP 0 iH hr (ag (iJ (a6 (n:=9) (ag aj (ag aj (ag aj (ag aj (ag (eP 0 aN hr (ag aj ai)) (ag (eP 0 aN hr (ag aj ai)) (ag aj (ag aj (av 3 ai))))))))) rfl)) ai)) λK0=>
 (SF.cO rfl (.bump (.m 6) ⟨by omega,by omega⟩))))) (λj4 _ _=>(.bump (.refl _) ⟨by omega,by omega⟩)) λs3=>
 (SF.dm (dh rfl rfl q.tuple (dH 1)) λ_=>rfl)))
abbrev ib:DF:=dv 56 1 2 eX
def uV(D:DI v ib):D.O:=
 rA D λhr nd o5 eL=>
 (SF.JR (hd:=(λ(s1:PV×PV)=>([am (.val s1.1),am (.val s1.2)]:aL))) (s0:=(o5,eL)) Av (.refl _) (λs1=>(bA vV (ae 1) aj)) (λs1=>
 (SF.par (i:=0) (j:=1) rfl nd rfl rfl ⋯ rfl rfl (ae 1) (K6 (ae 0) (ae 1)) λlN Kn=>
 (SF.cO rfl (.refl _)))) λs1=>
 (SF.dm (ae 0) λ_=>rfl))
abbrev eV:DF:=dv 55 2 1 cS
def pj(D:DI v eV)(q:NB v)(u5:ib.C v):D.O:=
 rA D λhr nd dA=>
 (sl 1 nd (a6 (n:=0) ai rfl) λjr=>
 (SF.u7 (hd:=(λ(s5:O PV)=>([am (.val dA),am (.ol ce s5),ce,ce,ce,ce,ce,ce,ce]:aL))) (s0:=jr) Av rfl (KO rfl q.range (jI (c8 rfl rfl q.len (ae 0)) aj) (nX aj) (nX aj)) (.refl _) (d7 2 nd) (λs5 SS=>
 (SF.WC (aO (n:=2) (ag (aO (n:=2) (ag aj (ag aj ai)) rfl) (ag c7 ai)) rfl) (PX rfl (gb rfl (aZ (d7 3 nd) (aZ (d7 4 nd) dJ)))) λNc=>
 (SF.u7 (hd:=(λ(iX:PV×PV)=>([am (.val dA),am (.ol ce s5),am (.val SS),am (.val iX.1),am (.val iX.2),ce,ce,ce,ce]:aL))) (s0:=(Nc.1,Nc.2)) Av rfl (dR rfl q.range (c8 rfl rfl q.len (ae 0))) (.refl _) (d7 5 nd) (λiX LY=>
 (SF.Zj (yI.t (vo (bA ke (aP rfl (az (ae 0)) (ae 2)) c7) (vo (bA ke (aP rfl (az (ae 0)) (ae 5)) c7) (sj (bA (lZ rfl (bD hr)) (ae 5) (ae 2))))))
 (SF.cont (.inl rfl) (.m 32))
 (SF.par (i:=6) (j:=7) rfl nd rfl rfl ⋯ rfl rfl (jI (aP rfl (az (ae 0)) (ae 2)) (aP rfl (az (ae 0)) (ae 5))) (jI (ae 5) (ae 2)) λkK ff=>
 (SF.ifS (out1:=λ(Ra:PV)=>.nx ([am (.val dA),am (.ol ce s5),am (.val SS),am (.val Ra),am (.val iX.2),am (.val LY),am (.val kK),am (.val ff),ce]:aL)) (yI.t (oM (bA vV (ae 7) aj) (kI (bA vV (nY (ae 6) (aP rfl (az (ae 3)) aj)) (nY (aP rfl (az (ae 3)) aj) (ae 7))))))
 (sv 3 nd (aO (n:=2) (av 6 (av 7 ai)) rfl) λO0=>
 (SF.nil rfl (.refl _)))
 (SF.nil rfl (.refl _))
 λRa=>(SF.Vx (yI.t (oM (bA zU (ae 7) aj) (kI (yI.t (vo (bA ke (ae 4) c7) (sj (bA vV (nY (ae 6) (aP rfl (az (ae 4)) aj)) (nY (aP rfl (az (ae 4)) aj) (ae 7)))))))))
 (sv 4 nd (aO (n:=2) (ag (nX (ae 6)) (ag (nX (ae 7)) ai)) rfl) λKQ=>
 (SF.cO rfl (.m 224)))
 (SF.cO rfl (.m 224))))))) λiX=>
 (SF.Vx (yI.t (oM (bA rG (aP rfl (az (ae 0)) (ae 2)) c7) (kI (yI.t (vo (bA ke (ae 4) c7) (sj (bA zU (nY (aP rfl (az (ae 3)) aj) (aP rfl (az (ae 4)) aj)) (nY (aP rfl (az (ae 4)) aj) (aP rfl (az (ae 3)) aj)))))))))
 (sv 8 nd (eC u5 hr (ag (aP rfl (az (ae 3)) aj) (ag (aP rfl (az (ae 3)) aj) ai))) λw5=>
 (SF.append 1 rfl rfl rfl (.inl rfl) (aO (n:=3) (av 2 (ag (K7 (aP rfl (az (ae 3)) aj) (ae 8)) (ag (K7 (aP rfl (az (ae 3)) aj) (ae 8)) ai))) rfl) λGy=>
 (SF.cO rfl (.m 284))))
 (SF.cO rfl (.m 28)))))) λs5=>
 (SF.dm (dh rfl rfl q.tuple (dH 1)) λ_=>rfl)))
abbrev VX:DF:=dv 57 14 1 sV
set_option maxHeartbeats 20000000 in
theorem abi(D:DI v VX)(q:NB v)(IZ:mQ.C v)(xU:jw.C v)(aN:cj.C v)(Gv:uf.C v)(TU:yn.C v)(xV:jy.C v)(u4:hX.C v)(pE:eV.C v)(xR:rP.C v)(qg:kC.C v):D.O:=
 rA D λhr nd da=>
 (sl 1 nd (lC IZ hr (av 0 ai)) λsH=>SF.fM 1 1688861671424000 rfl
 (SF.Yu (hd:=(λ(j5:Nat) (s4:Unit)=>([am (.val da),am (.cG fM (0+0+100664000*j5+0) 1688861671424000),ce,ce,ce,ce,ce,ce,ce,ce]:aL))) (hE:=(λ(s4:Unit)=>([am (.val da),am (.cG fM (0+1688861671424000) 1688861671424000),ce,ce,ce,ce,ce,ce,ce,ce]:aL))) (s0:=()) (inj:=id) Av rfl (dR rfl q.range aj) (.keep (.bump (.refl _) ⟨by omega,by omega⟩)) (d7 2 nd) (λ_=>trivial) (λj5 s4 Hz _=>
 (SF.WC (eP 1 xU hr (ag aj (ag aj ai))) (PX rfl (gb rfl (aZ (d7 3 nd) (aZ (d7 4 nd) dJ)))) λQ7=>
 (sv 5 nd (va (bA (lZ rfl (bD hr)) (eP 1 (n:=((0+0+100664000*j5+0)+16777819)) aN hr (ag aj ai)) aj) (EF.le (eC Gv hr (av 3 ai)) (.keep (.bump (n:=(((0+0+100664000*j5+0)+16777819)+1)) (n':=(0+0+100664000*j5+33555136)) ⟨by omega,by omega⟩ (.refl _)))) (EF.le (eC TU hr (av 3 (ag (eP 1 (n:=(((0+0+100664000*j5+0)+16777819)+1)) xV hr (av 3 ai)) ai))) (.keep (.bump (n:=((((0+0+100664000*j5+0)+16777819)+1)+16777316)) (n':=(0+0+100664000*j5+33555136)) ⟨by omega,by omega⟩ (.refl _))))) λjW=>
 (sv 6 nd (eP 1 u4 hr ai) λcF=>
 (SF.VP (hd:=(λ(Ra:Unit)=>([am (.val da),am (.cG fM (0+0+100664000*j5+100664000) 1688861671424000),am (.val Hz),am (.val Q7.1),am (.val Q7.2),am (.val jW),am (.val cF),ce,ce,ce]:aL))) (s0:=()) (inj:=Lp.out) Av rfl (bG rfl (cf (aO (n:=3) (ag gT (ag gT (ag gT ai))) rfl))) (.keep (.bump (.refl _) ⟨by omega,by omega⟩)) (d7 7 nd) (λ_=>trivial) (λRa rO=>
 (sv 8 nd (eC pE hr (ag (eC xR hr (av 5 (av 4 (av 6 (av 7 ai))))) ai)) λJs=>
 (SF.VP (hd:=(λ(ø:Unit)=>([am (.val da),am (.cG fM (0+0+100664000*j5+100664000) 1688861671424000),am (.val Hz),am (.val Q7.1),am (.val Q7.2),am (.val jW),am (.val cF),am (.val rO),am (.val Js),ce]:aL))) (s0:=()) (inj:=Lp.out) Av rfl (dR rfl q.range aj) (.keep (.bump (.refl _) ⟨by omega,by omega⟩)) (d7 9 nd) (λ_=>trivial) (λø QW=>
 (SF.Vx (bA (Vv rfl (bD hr)) (Qn rfl hr rfl q.repr (eC qg hr (av 5 (av 4 (av 6 (av 7 ai)))))) (Qn rfl hr rfl q.repr (ae 8)))
 (SF.ret (k:=λZQ=>(Lp.out ZQ)) agj λ_=>rfl)
 (SF.cO rfl (.keep (.bump (.m 128) ⟨by omega,by omega⟩))))) λø=>
 (SF.cO rfl (.keep (.bump (.m 96) ⟨by omega,by omega⟩)))))) λRa=>
 (SF.cO rfl (.keep (.bump (.m 31) ⟨by omega,by omega⟩)))))))) (λj5 _ _=>(.keep (.bump (.refl _) ⟨by omega,by omega⟩))) λs4=>
 (SF.dm (GR (lZ rfl (bD hr)) (eC qg hr (ag (eC Gv hr (ag gT ai)) (ag gT (ag (aO (n:=4) (ag aj (ag aj (ag aj (ag aj ai)))) rfl) (ag gT ai))))) (aO (n:=1) (ag (aO (n:=3) (ag aj (ag aj (ag aj ai))) rfl) ai) rfl)) λ_=>rfl)))
section
local macro_rules | `(tactic| one_sign) => `(tactic| ((try dsimp only); first
 |with_reducible refine WQ ?_
 |with_reducible refine WW ?_
 |with_reducible refine R6 ?_
 |((with_reducible refine WM (v:=?rdV) ?rdE ?_);case rdE=>exact rfl)
 |with_reducible refine aeK ?_
 |with_reducible refine aam ?_
 |with_reducible refine agF ?_
 |with_reducible refine agM ?_
 |((with_reducible refine aeN ?rdC ?_);try (case rdC=>first|lia|exact⟨by omega,by omega⟩|exact Vd ∅ ∅ | exact mul_r ∅ ∅ | exact SU ⟨by omega,by omega⟩ ⟨by omega,by omega⟩|exact⟨by decide,by decide,by decide⟩))
 |with_reducible refine R9 ?_
 |with_reducible refine WR ?_
 |with_reducible refine R7 ?_
 |with_reducible refine WV ?_
 |with_reducible refine R4 ?_
 |with_reducible refine agG ?_
 |with_reducible refine WX ?_
 |with_reducible refine agI ?_
 |with_reducible refine aeH ?_
 |with_reducible refine ac2 ?_
 |with_reducible refine aeG ?_
 |with_reducible refine acX ?_
 |with_reducible refine agK ?_
 |with_reducible refine WS ?_
 |with_reducible refine R8 ?_
 |with_reducible refine aeD ?_
 |with_reducible refine WU ?_
 |with_reducible refine ac0 ?_
 |with_reducible refine agL ?_
 |with_reducible refine aeJ ?_
 |with_reducible refine aeI ?_
 |with_reducible refine aaq ?_
 |with_reducible refine aeL ?_
 |with_reducible refine aap ?_
 |with_reducible refine WO ?_
 |with_reducible refine aao ?_
 |with_reducible refine R5 ?_
 |with_reducible refine aeF ?_
 |with_reducible refine acV ?_
 |with_reducible refine acU ?_
 |with_reducible refine aan ?_
 |with_reducible refine acY ?_
 |with_reducible refine acZ ?_
 |with_reducible refine agH ?_
 |with_reducible refine acW ?_
 |with_reducible refine Zb ?_
 |with_reducible refine aal ?_
 |with_reducible refine ac1 ?_
 |with_reducible refine agJ ?_
 |with_reducible refine aeE ?_
 |with_reducible refine aeM ?_))
local macro_rules | `(tactic| one_item) => `(tactic| repeat (one_sign))
def Kp(a b:db)(H H':Hp):Prop:=∀c o,c≠a->c≠b->H c=am o->H' c=am o
def Kp.trans(h:Kp a b H H1)(k:Kp a b H1 H2):Kp a b H H2:=λc o n m e=>k c o n m (h c o n m e)
def Kp.same(h:jD H H'):Kp a b H H':=λc o _ _ e=>h c o e
def Kp.xa(h:kG a H H'):Kp a b H H':=λc o n _ e=>h c o n e
def Kp.xb(h:kG b H H'):Kp a b H H':=λc o _ n e=>h c o n e
theorem zS(D:DI v cj):D.O:=by
 have nd:(Ku (top 48)).Nodup:=by decide +kernel
 refine D.fn.ok (N:=Ku (top 48)) fsc (λvs H Q E h=>?_) (λfq A outer s H vs Q E hr h=>?_)
 .obtain⟨_,_,l,h,_⟩:=h;rw[h.len];rfl
 obtain⟨tb,j,l,h,q⟩:=h;cases h with
 | @p a _ _ vs ks l pt jm t=>
 cases t with
 | @v u x vs ks l r t=>
 cases t;obtain⟨j',ws,hj,ea,⟨b,sd,c,rfl,c0,c1⟩,hb⟩:=pt;have eb:c9 H b:=hb b (by simp);have q:(bS x).run _:=q;obtain⟨m,rfl⟩:∃m,x=.int m:=by
  cases x with
  |int m=>exact⟨m,rfl⟩
  |_=>exact q.elim
 cases r;obtain⟨⟨m0,m1⟩,q⟩:=q;have ab:a≠b:=λy=>by subst y;rw[show H a=_ from eb]at ea;cases ea
 have jm:j+1<=2 ^ 250:=jm;refine⟨_,oD.shown (dI (zj Av (PW.pt (Oj (gH (my v.K rfl hr.Nx) (fB (bT v.K rfl) (pv 0) ba (λ_ _=>rfl)) (wZ bq) (gc _)) (Kh (gH aaT (fB (bT v.K rfl) (fB (bT v.K rfl) (pv 0) ba (λ_ _=>rfl)) ba (λ_ _=>rfl)) ba (gc _))))) (rg (nu (oY v.K rfl BS DR DQ zC (fB (bT v.K rfl) (pv 0) ba (λ_ _=>rfl)) (aQ ba bq)))))
  (dI (Ki (gH (my v.K rfl hr.Nx) (fB (bT v.K rfl) (pv 0) ba (λ_ _=>rfl)) (wZ bq) (gc _)) (dI (mq (i:=2) nd rfl (Cg rfl) (cV oZ (fB (bT v.K rfl) (fB (bT v.K rfl) (pv 0) ba (λ_ _=>rfl)) ba (λ_ _=>rfl)) (pv 1)))
  (dI (wX (cV rm (fB (bT v.K rfl) (fB (bT v.K rfl) (pv 0) ba (λ_ _=>rfl)) ba (λ_ _=>rfl)) (pv 1)) (HP (fB (bT v.K rfl) (pv 0) ba (λ_ _=>rfl)) ba oS))
  (rg (sG (pv 2))))) rh)
  (dI (wX (cV (kN v.K rfl) (fB (bT v.K rfl) (pv 0) ba (λ_ _=>rfl)) ba) (HP (pv 0) ba oS))
  (dI (mq (i:=3) nd rfl (Cg rfl) (cV oZ (cV kM (cV (kN v.K rfl) (cV (kN v.K rfl) (fB (bT v.K rfl) (pv 0) ba (λ_ _=>rfl)) (cV kM (cV kM ba (fB (bT v.K rfl) (pv 0) ba (λ_ _=>rfl))) (fB (bT v.K rfl) (pv 0) ba (λ_ _=>rfl)))) ba) ba) ba))
  (dI (mq (i:=3) nd rfl (Cg rfl) (cV oZ (cV kM (pv 3) (cV (kN v.K rfl) (cV oZ (pv 3) ba) (cV kM ba (fB (bT v.K rfl) (pv 0) ba (λ_ _=>rfl))))) ba))
  (rg (sG (cV oZ (cV (kN v.K rfl) (cV rm (pv 3) ba) (cV rm (pv 3) ba)) (pv 1))))))))),?_⟩
 show ∃b,c9 H b/\∀ns:O Int,_;refine⟨b,eb,λns=>?_⟩;have fin:∀(d:Int) (H3:Hp) (sd' c':Int) (Rh:O Int),0<=d->d<m->0<=c'->c'<=((j+1:Nat):Int)->Kp a b H H3->H3 a=am (.lst [.ref b,.int sd',.int c'])->H3 b=am (.lst (Rh.map V.int))->(abG b {nx:=λ_ H'=>Q .aF H',rt:=Q}).rt (.int d) H3:=λd H3 sd' c' Rh d0 d1 c2 c3 kp h1 h2=>by
  refine⟨Rh,h2,q _ ⟨d,rfl,d0,d1⟩ _ _ (af3 tb ⟨_,ea⟩ eb (λx o n1 n2 h=>by rw[ak n2];exact kp x o n1 n2 h) (λx hx=>?_) (by rw[ak ab];exact h1) aG ab ⟨c2,c3⟩ λx ψ d ⟨i,p1,_⟩=>?_) (.int d)⟩
  .by_cases xb:x=b
   .subst xb;rw[aG]at hx;cases hx
   .rw[ak xb]at hx;by_cases xa:x=a
    .subst xa;rw[h1]at hx;cases hx
    .cases z:H x with
     |none=>rfl
     |some o=>rw[kp x o xa xb z]at hx;cases hx
  .cases i with
   |zero=>simp at p1
   |succ i=>simp at p1
 have k0:Kp a b H (upd H b (.lst (ns.map V.int))):=λx o nx xb hx=>by rw[ak xb];exact hx
 have a0:upd H b (.lst (ns.map V.int)) a=am (.lst [.ref b,.int sd,.int c]):=by rw[ak ab];exact ea
 have b0:upd H b (.lst (ns.map V.int)) b=am (.lst (ns.map V.int)):=aG;generalize upd H b (.lst (ns.map V.int))=H1 at k0 a0 b0;show _;refine⟨λk σ' H'=>σ'=[am (.ref a),am (.int m),ce,ce]/\Kp a b H H'/\H' a=am (.lst [.ref b,.int sd,.int c])/\∃ns:O Int,H' b=am (.lst (ns.map V.int))/\k=ns.length,⟨_,rfl,k0,a0,ns,b0,rfl⟩,?_⟩;rintro k σ' H2 ⟨rfl,k2,a2,ns2,b2,rfl⟩
 one_item
 refine cW (bH.of a2) rfl ?_
 one_item
 refine⟨Ba _,λp H3 s3 h3 n3=>?_⟩;have a3:=s3 _ _ a2;have b3:=s3 _ _ b2;have k3:=k2.trans (Kp.same s3);refine⟨b,p,ns2.map V.int,rfl,rfl,bH.of b3,bH.of h3,_,rfl,?_⟩;cases ns2 with
 |nil=>
  rw[if_neg ⋯,if_neg ⋯]
  one_item
  refine cW (bH.of a3) rfl ?_
  one_item
  refine⟨Ba _,λp' H4 s4 h4 n4=>?_⟩;have a4:=s4 _ _ a3;have b4:=s4 _ _ b3;have k4:=k3.trans (Kp.same s4);refine⟨b,p',[],rfl,rfl,bH.of b4,bH.of h4,?_⟩
  one_item
  rw[if_neg ⋯]
  one_item
  refine cW (bH.of a4) rfl ?_
  one_item
  refine Kg a4 rfl λH5 x5 h5=>?_
  one_item
  refine cW (bH.of h5) rfl ?_
  one_item
  refine cW (bH.of h5) rfl ?_
  one_item
  refine cW (bH.of h5) rfl ?_
  one_item
  refine cW (bH.of h5) rfl ?_
  one_item
  exact fin _ H5 sd (c+1) [] (Int.emod_nonneg _ ∅) (Int.emod_lt_of_pos _ m0) ∅ ∅ (k4.trans (Kp.xa x5)) h5 (x5 _ _ ab.symm b4)
 |cons x r=>
  rw[if_pos (by rfl)]
  one_item
  refine cW (bH.of a3) rfl ?_
  one_item
  have ķ:d9 ((x::r).map V.int) 0=am (.int x):=by simp[d9,uB]
  refine cW (bH.of b3) ķ ?_
  one_item
  refine⟨rfl,_,rfl,?_⟩;rw[Lc];by_cases hx:x=0
  .subst hx;rw[if_pos (by rfl)];refine⟨λσ' H'=>σ'=[am (.ref a),am (.int m),ce,ce]/\Kp a b H H'/\H' a=am (.lst [.ref b,.int sd,.int c])/\H' b=am (.lst (r.map V.int)),?_,?_⟩
   .rintro σ' H' ⟨z1,z2,z3,z4⟩;exact⟨r.length,by simp,z1,z2,z3,r,z4,rfl⟩
   .one_item
    refine cW (bH.of a3) rfl ?_
    one_item
    refine⟨WN b3,?_⟩
    one_item
    obtain⟨i1,i2,i3,i4⟩:=rH (n:=((0::r).map V.int).length) (i:=0) (j:=0) (by simp[uB]);refine⟨b,_,0,0,_,rfl,rfl,b3,by decide,by decide,i1,rfl,rfl,k3.trans (Kp.xb (vA _)),?_,?_⟩
    .rw[ak ab];exact a3
    .exact aG
  .rw[if_neg (by simpa using hx)]
   one_item
   refine cW (bH.of a3) rfl ?_
   one_item
   refine⟨Ba _,λp' H4 s4 h4 n4=>?_⟩;have a4:=s4 _ _ a3;have b4:=s4 _ _ b3;have k4:=k3.trans (Kp.same s4);refine⟨b,p',_,rfl,rfl,bH.of b4,bH.of h4,?_⟩
   one_item
   rw[if_pos (by rfl)]
   one_item
   refine cW (bH.of a4) rfl ?_
   one_item
   refine cW (bH.of b4) ķ ?_
   one_item
   refine cW (bH.of a4) rfl ?_
   one_item
   refine cW (bH.of b4) ķ ?_
   one_item
   refine cW (bH.of a4) rfl ?_
   one_item
   refine Kg b4 (j:=0) (by simp[uB]) λH5 x5 h5=>?_
   one_item
   exact fin _ H5 sd c ((x / m)::r) (Int.emod_nonneg _ ∅) (Int.emod_lt_of_pos _ m0) c0 ∅ (k4.trans (Kp.xb x5)) (x5 _ _ ab a4) h5
def Tr.pv:Tr->PV
 |.leaf x=>.str x
 |.node l r=>.tup [l.pv,r.pv]
def Ent.pv:Ent->PV
 |.word x=>.str x
 |.pair a b=>.tup [.int (a:Int),.int (b:Int)]
variable{t:Tr}
def RL{l:List α}(h:l≠[]):∃a x,l=a++[x]:=⟨l.dropLast,l.getLast h,(List.dropLast_concat_getLast h).symm⟩
def NY{a b:O Tr}(h:iB a++b=t.post):eF a+b.length=t.size:=by
 have h1:=congrArg Cb h;rw[Al,t.jZ]at h1;have h2:∀l:O Tr,(iB l).length=eF l:=by
  intro l
  induction l with
  |nil=>rfl
  |cons x l ih=>
   have e1:iB (x::l)=x.post++iB l:=rfl;have e2:eF (x::l)=x.size+eF l:=rfl;rw[e1,e2,Al,ih,x.jZ]
 rw[h2]at h1;exact h1
theorem fx{l:O PV}{x:PV}(h:l.length<1000):iP l x=.ret (l++[x]):=r9 (by have:=bW (Ak _);lia)
theorem OE(t:Tr)(hz:t.size<=900):(mB t.pv).le (.ret (t.post.map Tr.pv)):=λQ q=>by
 refine iT (λn s=>∃ts bs:O Tr,n=eF ts/\s=(bs.map Tr.pv,ts.map Tr.pv)/\iB ts++bs.reverse=t.post) ⟨[t],[],rfl,rfl,by rw[oV];simp⟩ ?_;rintro n s ⟨ts,bs,rfl,rfl,hp⟩;have hs:=NY hp;rw[CD]at hs;by_cases he:ts=[]
 .subst he;have Ĥ:bs.reverse=t.post:=hp;simp;rw[<- List.map_reverse,Ĥ];exact q
 .obtain⟨us,u,rfl⟩:=RL he;have VD:=vQ us;rw[fK,oQ]at hs;simp;rw[fx (by rw[Ai];lia)];cases u with
  |leaf x=>
   simp[Tr.pv];refine⟨_,?_,us,rfl,bs++[.leaf x],⟨by simp[Tr.pv],rfl⟩,?_⟩
   .rw[fK,oQ];show eF us<eF us+1;lia
   .rw[iZ,oV]at hp;rw[F2,<- hp];simp[Tr.post]
  |node c d=>
   have e1:Yy (us.map Tr.pv) [c.pv,d.pv]=.ret (us.map Tr.pv++[c.pv,d.pv]):=r9 (bW (by
    simp;lia))
   simp[Tr.pv,e1];refine⟨_,?_,us++[c,d],rfl,bs++[.node c d],⟨by simp[Tr.pv],by simp⟩,?_⟩
   .have e2:eF [Tr.node c d]=c.size+d.size+1:=by rw[oQ];rfl
    have e3:eF [c,d]=c.size+d.size:=by simp[eF]
    rw[fK,fK,e2,e3];lia
   .rw[iZ,oV]at hp;rw[F2,<- hp,iZ,LJ];simp[Tr.post]
def aR(l:O Nat):O PV:=l.map λ(n:Nat)=>.int (n:Int)
@[simp] theorem iD(l:O Nat):(aR l).length=l.length:=Ai _
@[simp] theorem aa3(a b:O Nat):aR (a++b)=aR a++aR b:=AR
@[simp] theorem Ze(a:Nat)(l:O Nat):aR (a::l)=.int (a:Int)::aR l:=rfl
variable{Q:O PV->Prop}
@[simp] theorem aa2:aR []=[]:=rfl
def kX(n:Nat):jG 0 n=aR (Az n):=by
 refine Bk λi _=>?_;rw[Gi]
theorem O6{p:Nat->Bool}:∀{l:O Nat},(∀k∈l,f (.int ((k:Nat):Int))=.ret (if p k=true then am (.int ((k:Nat):Int)) else ce))->mX (aR l) f=.ret (aR (l.filter p))
 |[],_=>rfl
 |k::l,h=>by
  show bn (f _) (λo=>bn (mX (aR l) f) λm=>ca (o.toList++m))=_;rw[h k (.head _),O6 λy hy=>h y (.tail _ hy),E9];cases p k<;>rfl
theorem kQ{f:PV->W PV}{g:Nat->PV}:∀{l:O Nat},(∀k∈l,f (.int ((k:Nat):Int))=.ret (g k))->bz (aR l) f=.ret (l.map g)
 |[],_=>rfl
 |k::l,h=>by
  show bn (f _) (λy=>bn (bz (aR l) f) λm=>ca (y::m))=_;rw[h k (.head _),kQ λy hy=>h y (.tail _ hy)];rfl
def aa5{l:O PV}(g:PV->Option PV)(h:∀x∈l,f x=.ret (g x))(q:Q (l.filterMap g)):(mX l f).run Q:=by rw[xA h];exact q
def OY{l:O PV}{f:PV->W PV}(g:PV->PV)(h:∀x∈l,f x=.ret (g x))(q:Q (l.map g)):(bz l f).run Q:=by rw[KA h];exact q
def O5{l:O Nat}(p:Nat->Bool)(h:∀k∈l,f (.int ((k:Nat):Int))=.ret (if p k=true then am (.int ((k:Nat):Int)) else ce))(q:Q (aR (l.filter p))):(mX (aR l) f).run Q:=by rw[O6 h];exact q
theorem nG(t:Tr)(hz:t.size<=900):(jh t.pv).le (.ret (.tup ((t.nd 0).map Ent.pv))):=λQ q=>by
 unfold jh;simp;refine W.le.use (OE t hz) ?_;refine tU (λr s=>∃(k:O Tr) (Z:O Ent) (ls:O Nat),r=k.map Tr.pv/\s=(Z.map Ent.pv,aR ls.reverse)/\run k Z ls=am (t.nd 0,[t.size-1])/\Z.length+k.length<=900/\ls.length<=Z.length) ⟨t.post,[],[],rfl,rfl,LD t,by simp[t.jZ];lia,Ak _⟩ ?_ ?_
 .rintro x r s ⟨k,Z,ls,e,rfl,h,hl,VC⟩;cases k with
  |nil=>cases e
  |cons p k=>
   injection e with e1 e2;subst e1;subst e2;rw[Aw]at hl;cases p with
   |leaf x=>
    have a1:∀y,iP (aR ls.reverse) y=.ret (aR ls.reverse++[y]):=λy=>fx (by simp;lia);simp[Tr.pv,fx (l:=Z.map Ent.pv) (by simp;lia),a1];refine⟨k,rfl,Z++[Ent.word x],Z.length::ls,⟨by simp[Ent.pv],by simp⟩,h,by simp;lia,by simp;lia⟩
   |node c d=>
    match ls,h,VC with
    |b::a::ls,h,VC=>
     rw[Aw,Aw]at VC;have a0:aR (b::a::ls).reverse=(aR ls.reverse++[.int a])++[.int b]:=by simp
     have a1:∀y,iP (aR ls.reverse) y=.ret (aR ls.reverse++[y]):=λy=>fx (by simp;lia);rw[a0];simp only[Tr.pv,lc,gQ,gP,cU,if_false,YC];simp[fx (l:=Z.map Ent.pv) (by simp;lia),a1];refine⟨k,rfl,Z++[Ent.pair a b],Z.length::ls,⟨by simp[Ent.pv],by simp⟩,h,by simp;lia,by simp;lia⟩
 .rintro s ⟨k,Z,ls,e,rfl,h,hl,VC⟩;cases k with
  |nil=>
   cases h;simpa using q
  |cons p k=>cases e
variable{a b v:Int}
theorem mulL(h:-1000000000<=a/\a<=1000000000):tz a b:=Vd ∅ ∅
theorem mulR(h:-1000000000<=b/\b<=1000000000):tz a b:=mul_r ∅ ∅
theorem bC{i j:Int}(h:-1000<=i/\i<=1000/\-1000<=j/\j<=1000)(h2:j-i<=1000):okN i j:=⟨by lia,by lia,by lia,by lia,bW ∅⟩
def jN:Ent->Bool
 |.word _=>false
 |.pair _ _=>true
structure Dt(t:Tr)(ds:List Int)(left:List Nat)(d:Int):Prop where
 len:ds.length=t.size
 zero:∀j,j<t.size->(jN (en t 0 j)=false\/j∈left)->ds.getD j 0=0
 up:∀j,j<t.size->j∉left->∀a b,en t 0 j=.pair a b->a∉left/\b∉left/\ds.getD a 0<ds.getD j 0/\ds.getD b 0<ds.getD j 0/\1<=ds.getD j 0/\ds.getD j 0<=d
 inj:∀i j,i<t.size->j<t.size->i∉left->j∉left->jN (en t 0 i)=true->jN (en t 0 j)=true->ds.getD i 0=ds.getD j 0->i=j
 pos:0<=d
 lft:∀j∈left,j<t.size/\jN (en t 0 j)=true
 ris:left.Pairwise (· < ·)
def gZ{l:O Int}(h:i<l.length):(l.set i v).getD i 0=v:=by rw[Ae,CS h];rfl
def bB{l:O Int}(h:i≠j):(l.set i v).getD j 0=l.getD j 0:=by rw[Ae,Cc h,<- Ae]
def lP{l:O Nat}(h:l.Pairwise (· < ·)){x y:Nat}:y∈l.erase x↔y∈l/\y≠x:=by
 have nd:l.Nodup:=h.imp (λz=>AE z);rw[nd.mem_erase_iff];exact⟨λz=>⟨z.2,z.1⟩,λz=>⟨z.2,z.1⟩⟩
theorem b9(t:Tr){a b:Nat}(h:j<t.size)(e:en t 0 j=.pair a b):a<j/\b<j:=by
 rcases QN t 0 j h with⟨x,e1,_⟩|⟨a',b',e1,e2,e3,_⟩
 .rw[e1]at e;cases e
 .rw[e1]at e;injection e with h1 h2;lia
variable{x d:Int}{ds:O Int}
theorem Dt.next{left:O Nat}{a b:Nat}(D:Dt t ds left d)(hj:j∈left)(e:en t 0 j=.pair a b)(ha:a∉left)(hb:b∉left)(hx:0<=x):Dt t (ds.set j (d+1+x)) (left.erase j) (d+1+x):=by
 obtain⟨hjs,hjp⟩:=D.lft j hj;obtain⟨haj,hbj⟩:=b9 t hjs e;have Zt:j<ds.length:=by rw[D.len];exact hjs
 have hm:∀y,y∈left.erase j↔y∈left/\y≠j:=λy=>lP D.ris;have low:∀y,y<t.size->y∉left->ds.getD y 0<=d:=λy hy þ=>by
  cases ey:en t 0 y with
  |word w=>rw[D.zero y hy (.inl (by rw[ey];rfl))];exact D.pos
  |pair p q=>exact(D.up y hy þ p q ey).2.2.2.2.2
 refine⟨by rw[BH];exact D.len,λy hy hc=>?_,λy hy þ p q ey=>?_,λu v hu hv hul hvl pu pv Ri=>?_,by have:=D.pos;lia,λy hy=>D.lft y ((hm y).mp hy).1,List.Pairwise.sublist List.erase_sublist D.ris⟩
 .have ë:j≠y:=λz=>by
   subst z;rcases hc with hc|hc
   .rw[hjp]at hc;cases hc
   .exact((hm j).mp hc).2 rfl
  rw[bB ë];exact D.zero y hy (hc.imp id λz=>((hm y).mp z).1)
 .by_cases ë:j=y
  .subst ë;rw[e]at ey;injection ey with h1 h2;subst h1 h2;have la:=low a ∅ ha;have lb:=low b ∅ hb;rw[gZ Zt,bB ∅,bB ∅];have:=D.pos;exact⟨λz=>ha ((hm a).mp z).1,λz=>hb ((hm b).mp z).1,by lia,by lia,by lia,by lia⟩
  .have afl:y∉left:=λz=>þ ((hm y).mpr ⟨z,Bx ë⟩);obtain⟨p1,p2,p3,p4,p5,p6⟩:=D.up y hy afl p q ey;have np:j≠p:=λz=>p1 (z▸hj);have nq:j≠q:=λz=>p2 (z▸hj);rw[bB ë,bB np,bB nq];exact⟨λz=>p1 ((hm p).mp z).1,λz=>p2 ((hm q).mp z).1,p3,p4,p5,by lia⟩
 .by_cases c1:j=u
  .by_cases c2:j=v
   .exact c1.symm.trans c2
   .exfalso;subst c1;have Yc:v∉left:=λz=>hvl ((hm v).mpr ⟨z,Bx c2⟩);rw[gZ Zt,bB c2]at Ri;have:=low v hv Yc;lia
  .have abt:u∉left:=λz=>hul ((hm u).mpr ⟨z,Bx c1⟩);by_cases c2:j=v
   .exfalso;subst c2;rw[gZ Zt,bB c1]at Ri;have:=low u hu abt;lia
   .have Yc:v∉left:=λz=>hvl ((hm v).mpr ⟨z,Bx c2⟩);rw[bB c1,bB c2]at Ri;exact D.inj u v hu hv abt Yc pu pv Ri
def splits(t:Tr):O Nat:=(Az t.size).filter λj=>jN (en t 0 j)
def Dt.first(t:Tr):Dt t (Ao t.size 0) (splits t) 0:=by
 have z:∀j,(Ao t.size (0:Int)).getD j 0=0:=λj=>by
  rw[Ae,CM]
  split<;>rfl
 have mem:∀j,j∈splits t↔j<t.size/\jN (en t 0 j)=true:=λj=>by unfold splits;rw[Bl,AX]
 exact⟨B3,λj _ _=>z j,λj hj hn a b e=>absurd ((mem j).mpr ⟨hj,by rw[e];rfl⟩) hn,λi j hi hj hni _ pi _ _=>absurd ((mem i).mpr ⟨hi,pi⟩) hni,A5 _,λj hj=>(mem j).mp hj,List.Pairwise.filter _ Fi⟩
theorem Je(y:Nat):∀l:O Nat,(l.map λn=>((n:Nat):Int)).erase (y:Int)=(l.erase y).map λn=>((n:Nat):Int)
 |[]=>rfl
 |a::l=>by
  rw[AA,List.erase_cons,List.erase_cons,Je y l];by_cases c:a=y
  .subst c;simp
  .have c1:(a==(y:Int))=false:=by simp;lia
   have c2:(a==y)=false:=by simpa using c
   rw[c1,c2];simp
def WB(s:Nat):Ent->Ent
 |.word x=>.word x
 |.pair p q=>.pair (p+s) (q+s)
theorem H9:∀(t:Tr) (o s:Nat),t.nd (o+s)=(t.nd o).map (WB s)
 |.leaf _,_,_=>rfl
 |.node a b,o,s=>by
  have ha:=a.size_pos;rw[Tr.nd,Tr.nd,H9 a o s,show o+s+a.size=o+a.size+s by lia,H9 b (o+a.size) s,AR,AR];congr 2;congr 1<;>lia
def ic{l m:O PV}(h:l.length+m.length<=1000):om l m=.ret (l++m):=r9 (bW h)
theorem X5(k:Nat)(l:O Nat)(b:Bool):qI b (.int (k:Int)) (aR l)=.ret (if b then !decide (k∈l) else decide (k∈l)):=by
 have h1:IJ (.int k) (aR l):=⟨by simp,gC.mpr λx hx=>by
  obtain⟨n,_,rfl⟩:=Ar.mp hx;simp,iI λx hx=>by
  obtain⟨n,_,rfl⟩:=Ar.mp hx;simp⟩
 have h2:lI (.int (k:Int)) (aR l)=decide (k∈l):=by
  unfold lI aR;rw[Gh]
  induction l with
  |nil=>simp
  |cons a l ih=>
   have ih:=ih ⟨by simp,gC.mpr λx hx=>by
    obtain⟨n,_,rfl⟩:=Ar.mp hx;simp,iI λx hx=>by
    obtain⟨n,_,rfl⟩:=Ar.mp hx;simp⟩
   rw[CW,ih];by_cases c:a=k
   .subst c;simp
   .have c1:(a==(k:Int))=false:=by simp;lia
    have c2:¬k=a:=λz=>c z.symm;simp[c1,c2]
 unfold qI;rw[r9 h1,h2]
variable{v:PV}
def bE(ds:O Int):O PV:=ds.map PV.int
@[simp] theorem fj(ds:O Int):(bE ds).length=ds.length:=Ai _
def Pt(ds:O Int)(y:Nat)(v:Int):(bE ds).set y (.int v)=bE (ds.set y v):=by unfold bE;rw[Fj]
theorem KN(h:k<n):uB n (k:Int)=am k:=by
 unfold uB;rw[if_pos ∅,if_pos ∅];simp
def ng{l:O PV}(h:k<l.length):sA l (.int (k:Int)) v=.ret (l.set k v):=by
 unfold sA;simp[KN h]
def Xw(t:Tr)(h:j<t.size):d9 ((t.nd 0).map Ent.pv) (j:Int)=am (en t 0 j).pv:=fY (by rw[Ag,lO t 0 j h];rfl)
def okJ(t:Tr)(ds:O Int)(j:Nat):Bool:=match en t 0 j with
 |.word _=>ds.getD j 0==0
 |.pair a b=>decide (ds.getD a 0<ds.getD j 0)&&decide (ds.getD b 0<ds.getD j 0)&&decide (1<=ds.getD j 0)&&decide (ds.getD j 0<=99)
def LA(t:Tr)(ds:O Int):O Int:=(splits t).map (ds.getD · 0)
def Ts(t:Tr)(ds:O Int):Bool:=decide (ds.length=t.size)&&(decide (LA t ds).Nodup&&(Az t.size).all (okJ t ds))
def int_at(h:j<ds.length):d9 (bE ds) (j:Int)=am (.int (ds.getD j 0)):=fY (by
 unfold bE;rw[Ag,Ad h,Ae,Ad h];rfl)
theorem V8(t:Tr)(ds:O Int)(h:ds.length=t.size):oG ((t.nd 0).map Ent.pv) (bE ds)=(Az t.size).map λj=>PV.tup [(en t 0 j).pv,.int (ds.getD j 0)]:=by
 refine BL λj=>?_;by_cases hj:j<t.size
 .have hl:j<(oG ((t.nd 0).map Ent.pv) (bE ds)).length:=by rw[mY];simp[t.bx,h];exact hj
  obtain⟨x,y,hx,hy,e⟩:=rT (Ad hl);rw[Ag,lO t 0 j hj]at hx;have Zt:j<ds.length:=by lia
  unfold bE at hy;rw[Ag,Ad Zt]at hy;rw[Ad hl,e,<- (Option.some.inj hx),<- (Option.some.inj hy),Ag,AN hj];show _=am (PV.tup [_,.int (ds.getD j 0)]);rw[Ae,Ad Zt];rfl
 .rw[Au (by rw[mY];simp[t.bx,h];lia),Au (by simp;lia)]
theorem split_le(t:Tr)(ds:O Int)(h:ds.length=t.size)(hz:t.size<=900):eW (.tup ((t.nd 0).map Ent.pv)) (.tup (bE ds))=.ret (bE (LA t ds)):=by
 unfold eW;have c:((t.nd 0).map Ent.pv).length<=sizeLine:=bW (by rw[Ai,t.bx];lia);simp only[lc,aE,Lk,r9 c,V8 t ds h];rw[xA (g:=λx=>match x with|.tup [.str _,_]=>ce|.tup [_,y]=>am y|_=>ce) λx hx=>?_]
 .congr 1;unfold LA splits bE;generalize Az t.size=l
  induction l with
  |nil=>rfl
  |cons j l ih=>
   rw[AA,AG,E9,ih];cases e:en t 0 j with
   |word w=>rfl
   |pair a b=>rfl
 .obtain⟨j,hj,rfl⟩:=Ar.mp hx;cases en t 0 j with
  |word w=>simp[Ent.pv]
  |pair a b=>simp[Ent.pv]
section
variable{α β:Type}
theorem OW{c:α->PV}{f:PV->W PV}{g:α->PV}:∀{l:List α},(∀x∈l,(f (c x)).le (.ret (g x)))->(bz (l.map c) f).le (.ret (l.map g))
 |[],_=>W.le.refl _
 |x::r,h=>W.le.ret (h x (.head _)) (W.le.ret (OW λy hy=>h y (.tail _ hy)) (W.le.refl _))
theorem Vi{c:α->PV}{g:α->Option PV}:∀{l:List α},(∀x∈l,(f (c x)).le (.ret (g x)))->(mX (l.map c) f).le (.ret (l.filterMap g))
 |[],_=>W.le.refl _
 |x::r,h=>W.le.ret (h x (.head _)) (W.le.ret (Vi λy hy=>h y (.tail _ hy)) (W.le.of_eq (by rw[AG];cases g x<;>rfl)))
def jc{c:α->PV}{f:PV->W PV}(g:α->PV){l:List α}(h:∀x∈l,(f (c x)).le (.ret (g x)))(q:Q (l.map g)):(bz (l.map c) f).run Q:=OW h Q q
def XD{c:α->PV}(g:α->Option PV){l:List α}(h:∀x∈l,(f (c x)).le (.ret (g x)))(q:Q (l.filterMap g)):(mX (l.map c) f).run Q:=Vi h Q q
theorem VS{p:α->Bool}{g:α->β}:∀l:List α,l.filterMap (λx=>if p x=true then am (g x) else ce)=(l.filter p).map g
 |[]=>rfl
 |x::l=>by
  rw[AG,E9,VS l];cases p x<;>rfl
end
def Qj(c:α->PV)(l:List α)(k:Nat):eH k (l.map c)=(l.zipIdx k).map λp=>PV.tup [.int ((p.2:Nat):Int),c p.1]:=by
 induction l generalizing k with
 |nil=>rfl
 |cons a l ih=>rw[AA,eH,ih,List.zipIdx_cons,AA]
def vp:V->PV
 |.int i=>.int i
 |.str x=>.str x
 |.bl b=>.bl b
 |_=>.aF
def ZH(t:Tr):O PV:=(ah (t.nd 0) 0 (Ao t.size V.aF)).map vp
@[simp] theorem Lf(t:Tr):(ZH t).length=t.size:=by unfold ZH;rw[Ai,JG,B3]
def Lg(t:Tr)(h:j<t.size):(ZH t)[j]?=am (vp (jP t 0 j .aF)):=by unfold ZH;rw[Ag,YX t h];rfl
def fZ(t:Tr):((t.nd 0).map Ent.pv).length=t.size:=by rw[Ai,t.bx]
theorem G6(t:Tr)(hz:t.size<=900):(gm t.pv).le (.ret (.tup (ZH t))):=λQ q=>by
 unfold gm;have c:((t.nd 0).map Ent.pv).length<=sizeLine:=bW (by rw[fZ];lia);simp only[lc,f8];refine W.le.use (nG t hz) ?_;simp only[aE,mo];refine OY (λ_=>.aF) (λx hx=>rfl) ?_;simp only[r9 c,mo];have e0:((t.nd 0).map Ent.pv).map (λ_=>PV.aF)=(ah ((t.nd 0).take 0) 0 (Ao t.size V.aF)).map vp:=by
  rw[List.take_zero,ah,List.map_replicate,List.map_const',fZ];rfl
 rw[e0];refine dg (λi s=>s=(ah ((t.nd 0).take i) 0 (Ao t.size V.aF)).map vp) rfl (λi x s hx hs=>?_) (λs hs=>?_)
 .subst hs;have hi:i<t.size:=by have:=(Aj.mp hx).1;rw[bj,fZ]at this;exact this
  obtain⟨y,hy,rfl⟩:=dD hx;have e:=lO t 0 i hi;rw[Ag,e]at hy;have hy:=Option.some.inj hy;subst hy;have et:(t.nd 0).take (i+1)=(t.nd 0).take i++[en t 0 i]:=by rw[FV,e];rfl
  have ea:ah ((t.nd 0).take (i+1)) 0 (Ao t.size V.aF)=QU (ah ((t.nd 0).take i) 0 (Ao t.size V.aF)) (0+i) (en t 0 i):=by
   rw[et,yB,CK,t.bx];congr 1;lia
  have hal:(ah ((t.nd 0).take i) 0 (Ao t.size V.aF)).length=t.size:=by rw[JG,B3]
  rw[ea];generalize hA:ah ((t.nd 0).take i) 0 (Ao t.size V.aF)=A at hal ⊢;unfold cH;cases en':en t 0 i with
  |word w=>simp[Ent.pv,cC,QU]
  |pair a b=>
   obtain⟨ha,hb⟩:=b9 t hi en';have s1:sA (A.map vp) (.int a) (.int ((0+i:Nat)))=.ret ((A.map vp).set a (.int ((0+i:Nat):Int))):=ng (by rw[Ai];lia);have s2:sA ((A.map vp).set a (.int ((0+i:Nat):Int))) (.int b) (.int ((0+i:Nat):Int))=.ret (((A.map vp).set a (.int ((0+i:Nat):Int))).set b (.int ((0+i:Nat):Int))):=ng (by rw[BH,Ai];lia);simp only[Ent.pv,kq,mo,gQ,gP,cU,f8,Aq,if_false,aE,cC,lc,s1,s2];show _=FX vp ((A.set a _).set b _);rw[Fj,Fj];rfl
 .subst hs;simp only[bj,Ai];rw[List.take_length];exact q
def HY(e:Ent)(j:Nat):PV:=match e with|.word x=>.str x|.pair _ _=>.int (j:Int)
def Hl(t:Tr)(ds:O Int)(b:Int)(j:Nat):Bool:=decide (ds.getD j 0<=b)&&(match jP t 0 j .aF with|.int a=>decide (b<ds.getD a.toNat 0)|_=>true)
def za(t:Tr)(ds:O Int)(b:Int)(n j:Nat):O (Nat×Nat):=((Az j).filter (Hl t ds b)).map λk=>(k,n)
def aK(t:Tr)(ds bs:O Int):Nat->O (Nat×Nat)
 |0=>[]
 |i+1=>aK t ds bs i++za t ds (bs.getD i 0) i t.size
def Nf(l:O (Nat×Nat)):O PV:=l.map λp=>.tup [.int (p.1:Int),.int (p.2:Int)]
def wK(t:Tr)(ds:O Int)(b:Int)(n j:Nat):(za t ds b n j).length<=j:=by
 unfold za;rw[Ai];refine AV (B4 _ _) ?_;rw[Bq];exact Ak _
theorem iV(t:Tr)(ds bs:O Int):∀i,(aK t ds bs i).length<=i*t.size
 |0=>Ba _
 |i+1=>by
  rw[aK,Al];have h1:=iV t ds bs i;have h2:=wK t ds (bs.getD i 0) i t.size;rw[Gf];lia
def NN(t:Tr)(ds:O Int)(b:Int)(n j:Nat):za t ds b n (j+1)=za t ds b n j++(if Hl t ds b j then [(j,n)] else []):=by
 unfold za;rw[Fz,Cp,AR];congr 1;by_cases c:Hl t ds b j<;>simp[c]
def tG(p:Nat×Nat):O Key:=[.inl (p.1:Int),.inl (p.2:Int)]
theorem zN{p q:Nat×Nat}(h:tG p=tG q):p=q:=by
 obtain⟨a,b⟩:=p;obtain⟨c,d⟩:=q;simp[tG]at h;exact Prod.ext ∅ ∅
def mz:Nat->O (Nat×Nat)->O (O Key×PV)
 |_,[]=>[]
 |k,p::l=>(tG p,.int (k:Int))::mz (k+1) l
theorem kO:∀(k:Nat) (l:O (Nat×Nat)),(mz k l).map (·.1)=l.map tG
 |_,[]=>rfl
 |k,p::l=>by rw[mz,AA,AA,kO (k+1) l]
def zy(k:Nat)(l:O (Nat×Nat)):(mz k l).length=l.length:=by have:=congrArg Cb (kO k l);simpa using this
theorem sP:∀(k:Nat) (l:O (Nat×Nat)) (p:Nat×Nat),p∈l->lJ (mz k l) (tG p)=am (.int ((k+l.idxOf p:Nat):Int))
 |k,q::l,p,h=>by
  rw[List.idxOf_cons];by_cases c:q=p
  .subst c;simp[mz,lJ]
  .have c2:tG q≠tG p:=λz=>c (zN z);have c3:(q==p)=false:=by simpa using c
   have e:lJ (mz k (q::l)) (tG p)=lJ (mz (k+1) l) (tG p):=by simp[mz,lJ,c2]
   rw[e,(sP (k+1) l p ((AD.mp h).elim (λz=>absurd z.symm c) id)),c3];congr 2;show((k+1+l.idxOf p))=((k+(l.idxOf p+1)):Int);lia
def G4(e:Ent)(j:Nat)(d b:Int):O Nat:=if d<b then [j] else match e with|.word _=>[]|.pair x y=>[x,y]
def YV(l:O (Nat×Nat))(j n:Nat):O Nat:=(l.filter λp=>decide (p.2=n)&&!decide (p.1=j)).map λp=>l.idxOf p
def K8(e:Ent)(l:O (Nat×Nat))(j n:Nat)(d b:Int):PV:=.tup [HY e j,.int (n:Int),.tup (aR ((G4 e j d b).map λx=>l.idxOf (x,n-1))),.tup (aR (YV l j n))]
def Kw{f:α->β}(hf:∀x y,f x=f y->x=y){l:List α}(h:l.Nodup):(l.map f).Nodup:=List.Pairwise.map f (λa b n z=>n (hf a b z)) h
def Ly(t:Tr)(ds:O Int)(b:Int)(n j:Nat):(za t ds b n j).Nodup:=by
 exact Kw (λx y h=>(Prod.mk.inj h).1) (List.Pairwise.filter _ E7)
theorem eI{t:Tr}{ds bs:O Int}:∀{i:Nat}{p:Nat×Nat},p∈aK t ds bs i->p.2<i/\p.1<t.size
 |0,_,h=>by simp[aK]at h
 |i+1,p,h=>by
  rcases AZ.mp h with h|h
  .have:=eI h;lia
  .obtain⟨k,hk,rfl⟩:=Ar.mp h;have:=AX.mp (Bl.mp hk).1;exact⟨B7 _,this⟩
theorem fH(t:Tr)(ds bs:O Int):∀i,(aK t ds bs i).Nodup
 |0=>FW
 |i+1=>by
  refine DJ.mpr ⟨fH t ds bs i,Ly _ _ _ _ _,λa ha b hb z=>?_⟩;subst z;obtain⟨k,_,rfl⟩:=Ar.mp hb;exact AB _ ((eI ha).1)
variable{e:Ent}{es:O Ent}
def kf{l:O PV}(h:l[k]?=am v):XZ l (.int (k:Int))=.ret v:=by
 rw[bu,fY h];rfl
def GN(ds:O Int){x:PV}(h:(eH 0 (bE ds))[i]?=am x):i<ds.length/\x=.tup [.int (i:Int),.int (ds.getD i 0)]:=by
 have hi:i<ds.length:=by have:=(Aj.mp h).1;rw[bj,fj]at this;exact this
 obtain⟨y,hy,rfl⟩:=dD h;unfold bE at hy;rw[Ag,Ad hi]at hy;have hy:=Option.some.inj hy;subst hy;refine⟨hi,?_⟩;rw[A2,Ae,Ad hi];rfl
theorem y9(t:Tr)(ds bs:O Int)(hd:ds.length=t.size)(hz:t.size<=100)(hb:bs.length*t.size<=900)(hb2:bs.length<=900):(jd t.pv (.tup (bE ds)) (.cl (bE bs))).le (.ret (Nf (aK t ds bs bs.length))):=λQ q=>by
 unfold jd;have c1:(bE bs).length<=sizeLine:=bW (by rw[fj];lia);have c2:(bE ds).length<=sizeLine:=bW (by rw[fj];lia);simp only[lc,f8];refine W.le.use (G6 t ∅) ?_;simp only[bU,mo,r9 c1];refine dg (λi s=>s=Nf (aK t ds bs i)) rfl (λi x s hx hs=>?_) (λs hs=>?_)
 .subst hs;obtain⟨hi,rfl⟩:=GN bs hx;simp only[kq,mo,f8,aE,r9 c2];have hl:=iV t ds bs i;have hm:i*t.size+t.size<=900:=by
   have:(i+1)*t.size<=bs.length*t.size:=C5 _ hi;rw[Gf]at this;lia
  refine dg (λj s=>s=Nf (aK t ds bs i++za t ds (bs.getD i 0) i j)) (by simp[za]) (λj x s hx hs=>?_) (λs hs=>?_)
  .subst hs;obtain⟨hj,rfl⟩:=GN ds hx;have VD:=wK t ds (bs.getD i 0) i j;simp only[kq,mo,f8];rw[NN];have Zs:j<t.size:=by lia
   have ď:Hl t ds (bs.getD i 0) j=true->(iP (Nf (aK t ds bs i++za t ds (bs.getD i 0) i j)) (PV.tup [.int j,.int i])).run λs=>s=Nf (aK t ds bs i++(za t ds (bs.getD i 0) i j++if Hl t ds (bs.getD i 0) j=true then [(j,i)] else [])):=λc=>by
    rw[fx (by unfold Nf;rw[Ai,Al];lia),if_pos c];unfold Nf;rw[<- Ax,AR (l₂:=[(j,i)])];rfl
   have no:Hl t ds (bs.getD i 0) j=false->Nf (aK t ds bs i++za t ds (bs.getD i 0) i j)=Nf (aK t ds bs i++(za t ds (bs.getD i 0) i j++if Hl t ds (bs.getD i 0) j=true then [(j,i)] else [])):=λc=>by rw[c];simp
   generalize eb:bs.getD i 0=b at ď no ⊢;generalize ed:ds.getD j 0=d at *;simp only[lc,f8,acd,mo,a9,aE,kf (Lg t Zs)];by_cases c:d<=b
   .simp only[c,decide_true,if_true,f8,mo];rcases si t 0 j .aF [] Zs with⟨_,e,_⟩|⟨a,_,ha,e,_⟩
    .have sb:Hl t ds b j=true:=by unfold Hl;rw[e,ed];simp[c]
     rw[e];simp;exact ď sb
    .rw[A2]at e;have sb:Hl t ds b j=decide (b<ds.getD a 0):=by unfold Hl;rw[e,ed];simp[c]
     rw[e];have i2:d9 (bE ds) a=am (.int (ds.getD a 0)):=int_at ∅;simp only[vp,eS,mo,a9,PV.bZ,if_false,bu,i2,zn,GK,lc];by_cases c2:b<ds.getD a 0
     .rw[decide_eq_true c2]at sb ⊢;exact ď sb
     .rw[decide_eq_false c2]at sb ⊢;exact no sb
   .have sb:Hl t ds b j=false:=by unfold Hl;rw[ed];simp[c]
    simp only[c,decide_false,Aq,if_false,mo];exact no sb
  .subst hs;rw[bj,fj,hd];rfl
 .subst hs;rw[bj,fj];exact q
def SO{l:O (Nat×Nat)}(h:l≠[])(k:Nat):mz k l≠[]:=by cases l with|nil=>exact absurd rfl h|cons a l=>simp[mz]
def HX(k:Nat)(l:O (Nat×Nat)):((mz k l).map λkv=>PV.tup (kv.1.map kP))=l.map λp=>PV.tup [.int (p.1:Int),.int (p.2:Int)]:=by
 have:=congrArg (FX λx:O Key=>PV.tup (x.map kP)) (kO k l);rw[A0,A0]at this;exact this
theorem RF{bs:O Int}{l:O (Nat×Nat)}(h1:es[j]?=am e)(h2:j<ds.length)(h3:n<bs.length)(hl:l.length<=1000)(h0:l≠[])(hb:∀x∈G4 e j (ds.getD j 0) (bs.getD n 0),1<=n/\(x,n-1)∈l):(kR (.tup (es.map Ent.pv)) (.tup (bE ds)) (.cl (bE bs)) (Qy (mz 0 l)) (.tup [.int (j:Int),.int (n:Int)])).le (.ret (K8 e l j n (ds.getD j 0) (bs.getD n 0))):=λQ q=>by
 unfold kR;have i0:d9 [PV.int j,PV.int n] 0=am (.int j):=rfl;have i1:d9 [PV.int (j:Int),PV.int (n:Int)] 1=am (.int n):=rfl;have i4:d9 (es.map Ent.pv) (j:Int)=am e.pv:=fY (by rw[Ag,h1];rfl);simp only[lc,f8,aE,bU,bu,i0,i1,(int_at h2),(int_at h3),i4,zn,mo,GK,cU];generalize hdj:ds.getD j 0=d at *;generalize hbn:bs.getD n 0=b at *;have below:∀{R:PV->Prop},R (.tup (aR (G4 e j d b)))->(if decide (d<b)=true then ca (PV.tup [PV.int (j:Int)]) else cH e.pv).run R:=λ{R} r=>by
  unfold G4 at r;unfold cH;by_cases c:d<b
  .rw[if_pos c]at r;simpa[c]using r
  .cases e with
   |word w=>simpa[c,Ent.pv]using r
   |pair a b=>simpa[c,Ent.pv]using r
 refine below ?_;refine jc (λx=>.int ((l.idxOf (x,n-1):Nat):Int)) (λk hk=>?_) ?_
 .obtain⟨g1,g2⟩:=hb k hk;intro R r;have en1:(n:Int)-1=((n-1:Nat):Int):=by lia
  simp only[dgB,lc,f8,kr,mo,en1];rw[show PV.tup [.int k,.int ((n-1:Nat):Int)]=.tup ((tG (k,n-1)).map kP) from rfl];refine Lb (sP 0 l (k,n-1) g2) ?_;rw[A2];exact r
 simp;refine L3 (SO h0 0) (by rw[zy];exact bW hl) ?_;rw[HX];refine XD (λp=>if (decide (p.2=n)&&!decide (p.1=j))=true then am (.int ((l.idxOf p:Nat):Int)) else ce) (λp hp=>?_) ?_
 .intro R r;obtain⟨u,v⟩:=p;have j0:d9 [PV.int u,PV.int v] 0=am (.int u):=rfl;have j1:d9 [PV.int (u:Int),PV.int (v:Int)] 1=am (.int v):=rfl;simp only[dgB,lc,f8,aE,bu,j0,j1,zn,mo,t4,YD,a9];have get:∀{R:PV->Prop},R (.int ((l.idxOf (u,v):Nat):Int))->(dgW (Qy (mz 0 l)) (PV.tup [.int (u:Int),.int (v:Int)])).run R:=λ{R} r=>by
   refine Lb (sP 0 l (u,v) hp) ?_;rw[A2];exact r
  by_cases c1:v=n
  .subst c1;by_cases c2:u=j
   .subst c2;simp;simpa using r
   .have c3:((u:Int)==(j:Int))=false:=by simp;lia
    simp only[beq_self_eq_true,c3,DL,if_true,mo,f8];refine get ?_;simpa[c2]using r
  .have c3:((v:Int)==(n:Int))=false:=by simp;lia
   simp only[c3,Aq,if_false,mo];simpa[c1]using r
 rw[VS];have nm:∀{R:PV->Prop},R (HY e j)->(eM (.tup (es.map Ent.pv)) (.int (j:Int))).run R:=λ{R} r=>by
  unfold eM;simp only[lc,f8,aE,bu,i4,zn,mo];cases e with
  |word w=>simpa[Ent.pv,HY]using r
  |pair a b=>simpa[Ent.pv,HY]using r
 refine nm ?_;have e1:(l.filter λp=>decide (p.2=n)&&!decide (p.1=j)).map (λp=>PV.int ((l.idxOf p:Nat):Int))=aR (YV l j n):=by
  unfold aR YV;rw[A0];rfl
 have e2:(G4 e j d b).map (λx=>PV.int ((l.idxOf (x,n-1):Nat):Int))=aR ((G4 e j d b).map λx=>l.idxOf (x,n-1)):=by
  unfold aR;rw[A0];rfl
 rw[e1,e2];exact q
def ZF(t:Tr)(ds bs:O Int):O PV:=(aK t ds bs bs.length).map λp=>K8 (en t 0 p.1) (aK t ds bs bs.length) p.1 p.2 (ds.getD p.1 0) (bs.getD p.2 0)
def okD(t:Tr)(ds bs:O Int):Prop:=∀p∈aK t ds bs bs.length,∀x∈G4 (en t 0 p.1) p.1 (ds.getD p.1 0) (bs.getD p.2 0),1<=p.2/\(x,p.2-1)∈aK t ds bs bs.length
theorem sQ:∀(k:Nat) (l:O (Nat×Nat)),(l.zipIdx k).map (λp=>PV.tup [PV.tup [.int (p.1.1:Int),.int (p.1.2:Int)],.int ((p.2:Nat):Int)])=(mz k l).map Kl
 |_,[]=>rfl
 |k,p::l=>by rw[List.zipIdx_cons,AA,sQ (k+1) l];rfl
def aJ(t:Tr)(ds:O Int):O Int:=0::sortI (LA t ds)
def RJ(t:Tr)(ds:O Int):(LA t ds).length<=t.size:=by
 unfold LA splits;rw[Ai];have:=B4 (λj=>jN (en t 0 j)) (Az t.size);rw[Bq]at this;exact this
def vL{l:O Int}:x∈sortI l↔x∈l:=(Dj l _).mem_iff
def oO(l:O Int):(sortI l).length=l.length:=(Dj l _).length_eq
theorem QC(t:Tr)(ds:O Int)(hd:ds.length=t.size)(hz:t.size<=25)(h0:aK t ds (aJ t ds) (aJ t ds).length≠[])(ok:okD t ds (aJ t ds)):(kT t.pv (.tup (bE ds))).le (.ret (.tup (ZF t ds (aJ t ds)))):=λQ q=>by
 unfold kT;simp only[lc,f8];refine W.le.use (nG t ∅) ?_;have hs:=RJ t ds;have hl:(aJ t ds).length<=t.size+1:=by unfold aJ;rw[Aw,oO];lia
 have e2:wL (bE (LA t ds))=.ret (bE (sortI (LA t ds))):=by
  unfold wL bE;rw[iE];show W.d8 _ _=_;rw[r9 ∅]
 have e3:om [PV.int 0] (bE (sortI (LA t ds)))=.ret (bE (aJ t ds)):=by
  rw[ic (by rw[fj,oO];simp;lia)];rfl
 simp only[split_le t ds hd ∅,mo,e2,e3];have hb:(aJ t ds).length*t.size<=900:=by
  have:=FU (by omega) hz;lia
 refine W.le.use (y9 t ds (aJ t ds) hd ∅ hb ∅) ?_;generalize hL:aK t ds (aJ t ds) (aJ t ds).length=L at *;have hLl:L.length<=900:=by rw[<- hL];exact AV (iV _ _ _ _) hb
 have c:(Nf L).length<=sizeLine:=bW (by unfold Nf;rw[Ai];lia);simp only[bU,mo,r9 c];unfold Nf;rw[Qj];refine jc (λp:(Nat×Nat)×Nat=>PV.tup [PV.tup [.int p.1.1,.int p.1.2],.int p.2]) (λp _ R r=>by simpa using r) ?_;rw[sQ];refine MK ?_ (by rw[zy];lia) ?_
 .rw[kO];exact Kw (λ_ _ h=>zN h) (hL▸fH t ds _ _)
 refine jc (λp:Nat×Nat=>K8 (en t 0 p.1) L p.1 p.2 (ds.getD p.1 0) ((aJ t ds).getD p.2 0)) (λp hp=>?_) ?_
 .obtain⟨g1,g2⟩:=(λp hp=>eI (hL▸hp)) p hp;refine RF (lO t 0 p.1 g2) ∅ g1 ∅ h0 λx hx=>?_;have:=ok p (by rw[hL];exact hp) x hx;rw[hL]at this;exact this
 .have:ZF t ds (aJ t ds)=L.map λp:Nat×Nat=>K8 (en t 0 p.1) L p.1 p.2 (ds.getD p.1 0) ((aJ t ds).getD p.2 0):=by unfold ZF;rw[hL]
  rw[<- this];exact q
theorem ig:∀(t:Tr) (o x:Nat) (p:V),x<t.size->(x=t.size-1/\jP t o x p=p)\/∃a u v,x<a/\a<t.size/\jP t o x p=.int ((o+a:Nat):Int)/\en t o a=.pair u v/\(u=o+x\/v=o+x)
 |.leaf _,o,x,p,h=>.inl ⟨by have:x<1:=h;show x=0;lia,rfl⟩
 |.node l r,o,x,p,h=>by
  have es:(Tr.node l r).size=l.size+r.size+1:=rfl;have top:en (.node l r) o (l.size+r.size)=.pair (o+l.size-1) (o+l.size+r.size-1):=by rw[en,if_neg ∅,if_neg ∅]
  by_cases c1:x<l.size
  .rw[show jP (.node l r) o x p=jP l o x (.int (o+l.size+r.size:Nat)) by rw[jP,if_pos c1]];rcases ig l o x (.int (o+l.size+r.size:Nat)) c1 with⟨h1,h2⟩|⟨a,u,v,h1,h2,h3,h4,h5⟩
   .exact .inr ⟨l.size+r.size,_,_,by lia,by lia,by rw[h2,A8],top,.inl ∅⟩
   .exact .inr ⟨a,u,v,h1,by lia,h3,by rw[en,if_pos h2];exact h4,h5⟩
  .by_cases c2:x<l.size+r.size
   .rw[show jP (.node l r) o x p=jP r (o+l.size) (x-l.size) (.int (o+l.size+r.size:Nat)) by rw[jP,if_neg c1,if_pos c2]];rcases ig r (o+l.size) (x-l.size) (.int (o+l.size+r.size:Nat)) ∅ with⟨h1,h2⟩|⟨a,u,v,h1,h2,h3,h4,h5⟩
    .exact .inr ⟨l.size+r.size,_,_,by lia,by lia,by rw[h2,A8],top,.inr ∅⟩
    .refine .inr ⟨l.size+a,u,v,by lia,by lia,by rw[h3,A8],?_,by lia⟩;rw[en,if_neg ∅,if_pos ∅,CI];exact h4
   .exact .inl ⟨by lia,by rw[jP,if_neg c1,if_neg c2]⟩
theorem ud:∀(t:Tr) (o j:Nat) (p:V) (a b:Nat),j<t.size->en t o j=.pair a b->o<=a/\o<=b/\a<o+j/\b<o+j/\a<b/\jP t o (a-o) p=.int ((o+j:Nat):Int)/\jP t o (b-o) p=.int ((o+j:Nat):Int)
 |.leaf _,o,j,p,a,b,h,e=>by rw[en]at e;cases e
 |.node l r,o,j,p,a,b,h,e=>by
  have es:(Tr.node l r).size=l.size+r.size+1:=rfl;have lp:=l.size_pos;have rp:=r.size_pos;by_cases c1:j<l.size
  .rw[en,if_pos c1]at e;obtain⟨h1,h2,h3,h4,h5,h6,h7⟩:=ud l o j (.int (o+l.size+r.size)) a b c1 e;refine⟨h1,h2,h3,h4,h5,?_,?_⟩
   .rw[jP,if_pos ∅];exact h6
   .rw[jP,if_pos ∅];exact h7
  .by_cases c2:j<l.size+r.size
   .rw[en,if_neg c1,if_pos c2]at e;obtain⟨h1,h2,h3,h4,h5,h6,h7⟩:=ud r (o+l.size) (j-l.size) (.int (o+l.size+r.size:Nat)) a b ∅ e;refine⟨by lia,by lia,by lia,by lia,h5,?_,?_⟩
    .rw[jP,if_neg ∅,if_pos ∅,FR,h6,show o+l.size+(j-l.size)=o+j by lia]
    .rw[jP,if_neg ∅,if_pos ∅,FR,h7,show o+l.size+(j-l.size)=o+j by lia]
   .rw[en,if_neg c1,if_neg c2]at e;injection e with e1 e2;subst e1;subst e2;have hj:j=l.size+r.size:=by lia
    subst hj;have ã:∀t o p,jP t o (t.size-1) p=p:=λt o p=>by
     have tp:=t.size_pos;rcases ig t o (t.size-1) p ∅ with⟨_,h⟩|⟨a,_,_,h1,h2,_⟩
     .exact h
     .omega
    refine⟨by lia,by lia,by lia,by lia,by lia,?_,?_⟩
    .rw[jP,if_pos ∅,show o+l.size-1-o=l.size-1 by lia,ã,A8]
    .rw[jP,if_neg ∅,if_pos ∅,show o+l.size+r.size-1-o-l.size=r.size-1 by lia,ã,A8]
structure DD(t:Tr)(ds:List Int):Prop where
 len:ds.length=t.size
 leaf:∀j w,j<t.size->en t 0 j=.word w->ds.getD j 0=0
 pair:∀j a b,j<t.size->en t 0 j=.pair a b->ds.getD a 0<ds.getD j 0/\ds.getD b 0<ds.getD j 0/\1<=ds.getD j 0
 nd:(LA t ds).Nodup
def DD.of(h:Ts t ds=true):DD t ds:=by
 unfold Ts at h;rw[A7,A7,decide_eq_true_iff,decide_eq_true_iff]at h;obtain⟨h1,h2,h3⟩:=h;have h4:∀j,j<t.size->okJ t ds j=true:=λj hj=>De.mp h3 j (AX.mpr hj);refine⟨h1,λj w hj e=>?_,λj a b hj e=>?_,h2⟩
 .have:=h4 j hj;unfold okJ at this;rw[e]at this;exact eq_of_beq this
 .have:=h4 j hj;unfold okJ at this;rw[e]at this;rw[A7,A7,A7,decide_eq_true_iff,decide_eq_true_iff,decide_eq_true_iff,decide_eq_true_iff]at this;exact⟨this.1.1.1,this.1.1.2,this.1.2⟩
def DD.mem(D:DD t ds)(hj:j<t.size):ds.getD j 0∈aJ t ds:=by
 cases e:en t 0 j with
 |word w=>rw[D.leaf j w hj e];exact .head _
 |pair a b=>
  exact AY _ (vL.mpr (Ar.mpr ⟨j,Bl.mpr ⟨AX.mpr hj,by rw[e];rfl⟩,rfl⟩))
theorem NS(l:O Int):(sortI l).Pairwise (·<=·):=(E6 (λa b c=>by simp;lia) (λa b=>by simp;lia) l).imp (by simp)
theorem DD.inc(D:DD t ds):(aJ t ds).Pairwise (· < ·):=by
 unfold aJ;refine List.pairwise_cons.mpr ⟨λx hx=>?_,?_⟩
 .have hx:=vL.mp hx;unfold LA splits at hx;obtain⟨j,hj,rfl⟩:=Ar.mp hx;obtain⟨h1,h2⟩:=Bl.mp hj;cases e:en t 0 j with
  |word w=>rw[e]at h2;cases h2
  |pair a b=>have:=(D.pair j a b (AX.mp h1) e).2.2;lia
 .exact(List.Pairwise.and (NS _) ((Dj _ _).nodup_iff.mpr D.nd)).imp λ⟨h1,h2⟩=>Int.lt_iff_le_and_ne.mpr ⟨h1,h2⟩
theorem tJ{l:O Int}(h:l.Pairwise (· < ·))(hn:n<l.length)(hx:x∈l)(lt:x<l.getD n 0):1<=n/\x<=l.getD (n-1) 0:=by
 obtain⟨i,hi,rfl⟩:=Ef hx;have gd:∀{k} (hk:k<l.length),l.getD k 0=l[k]:=λ{k} hk=>by rw[Ae,Ad hk];rfl
 rw[gd hn]at lt;have c:i<n:=by
  rcases Bs i n with c|c
  .exact c
  .rcases ED c with c|c
   .subst c;lia
   .have:=B0.mp h _ _ hn hi c;lia
 refine⟨by lia,?_⟩;rw[gd ∅];rcases ED (show i<=n-1 by lia) with c2|c2
 .subst c2;exact A5 _
 .have:=B0.mp h _ _ hi ∅ c2;lia
theorem xM{l:O Int}(h:l.Pairwise (· < ·))(hn:n<l.length)(hi:i<n):l.getD i 0<l.getD n 0:=by
 have gd:∀{k} hk,l.getD k 0=l[k]:=λ{k} hk=>by rw[Ae,Ad hk];rfl
 rw[gd hn,gd ∅];exact B0.mp h _ _ ∅ hn hi
theorem bO{t:Tr}{ds bs:O Int}:∀{m:Nat}{j n:Nat},(j,n)∈aK t ds bs m↔n<m/\j<t.size/\Hl t ds (bs.getD n 0) j=true
 |0,j,n=>by simp[aK]
 |m+1,j,n=>by
  rw[aK,AZ,bO];unfold za;rw[Ar]
  constructor
  .rintro (⟨h1,h2,h3⟩|⟨k,hk,e⟩)
   .exact⟨by lia,h2,h3⟩
   .obtain⟨h1,h2⟩:=Bl.mp hk;injection e with e1 e2;subst e1;subst e2;exact⟨by lia,AX.mp h1,h2⟩
  .rintro⟨h1,h2,h3⟩;by_cases c:n=m
   .subst c;exact .inr ⟨j,Bl.mpr ⟨AX.mpr h2,h3⟩,rfl⟩
   .exact .inl ⟨by lia,h2,h3⟩
theorem fJ(hj:j<t.size):Hl t ds b j=true↔ds.getD j 0<=b/\∀a,jP t 0 j .aF=.int ((a:Nat):Int)->b<ds.getD a 0:=by
 unfold Hl;rw[A7,decide_eq_true_iff];rcases ig t 0 j .aF hj with⟨_,e⟩|⟨a,u,v,_,ha,e,_,_⟩
 .rw[e];exact⟨λh=>⟨h.1,λa z=>by cases z⟩,λh=>⟨h.1,rfl⟩⟩
 .rw[A2]at e;rw[e];refine⟨λh=>⟨h.1,λa' z=>?_⟩,λh=>⟨h.1,?_⟩⟩
  .injection z with z;have:a=a':=by lia
   subst this;simpa using h.2
  .simpa using h.2 a rfl
theorem DD.ok(D:DD t ds):okD t ds (aJ t ds):=by
 rintro⟨j,n⟩ hp x hx;obtain⟨hn,hj,hs⟩:=bO.mp hp;obtain⟨oC,uC⟩:=(fJ hj).mp hs;have inc:=D.inc;show 1<=n/\(x,n-1)∈_;unfold G4 at hx;by_cases c:ds.getD j 0<(aJ t ds).getD n 0
 .rw[if_pos c]at hx;have:x=j:=by simpa using hx
  subst this;obtain⟨g1,g2⟩:=tJ inc hn (D.mem hj) c;have lt:=xM inc hn (show n-1<n by lia);exact⟨g1,bO.mpr ⟨by lia,hj,(fJ hj).mpr ⟨g2,λa e=>by have:=uC a e;lia⟩⟩⟩
 .rw[if_neg c]at hx;cases e:en t 0 j with
  |word w=>rw[e]at hx;cases hx
  |pair a b=>
   rw[e]at hx;obtain⟨p1,p2,p3⟩:=D.pair j a b hj e;obtain⟨_,_,a1,a2,_,a3,a4⟩:=ud t 0 j .aF a b hj e;rw[A2,Ek]at *;have hx:x=a\/x=b:=by simpa using hx
   have key:x<t.size/\ds.getD x 0<ds.getD j 0/\jP t 0 x .aF=.int j:=by
    rcases hx with rfl|rfl
    .exact⟨by lia,p1,a3⟩
    .exact⟨by lia,p2,a4⟩
   obtain⟨k1,k2,k3⟩:=key;obtain⟨g1,g2⟩:=tJ inc hn (D.mem k1) ∅;have lt:=xM inc hn (show n-1<n by lia);refine⟨g1,bO.mpr ⟨by lia,k1,(fJ k1).mpr ⟨g2,λa' e'=>?_⟩⟩⟩;rw[k3]at e';injection e' with e';have:j=a':=by lia
   subst this;lia
theorem K5:∀(t:Tr) (o:Nat),∃w,en t o 0=.word w
 |.leaf w,o=>⟨w,rfl⟩
 |.node l r,o=>by rw[en,if_pos (show 0<l.size from l.size_pos)];exact K5 l o
theorem DD.ne(D:DD t ds):aK t ds (aJ t ds) (aJ t ds).length≠[]:=by
 intro z;have:(0,0)∈aK t ds (aJ t ds) (aJ t ds).length:=by
  obtain⟨w,e⟩:=K5 t 0;refine bO.mpr ⟨by simp[aJ],t.size_pos,(fJ t.size_pos).mpr ⟨?_,λa ea=>?_⟩⟩
  .rw[D.leaf 0 w t.size_pos e];exact A5 _
  .rcases ig t 0 0 .aF t.size_pos with⟨_,e⟩|⟨a',u,v,_,ha,e,ep,_⟩
   .rw[e]at ea;cases ea
   .rw[e,A2]at ea;injection ea with ea;have:a'=a:=by lia
    subst this;have:=(D.pair a' u v ha ep).2.2;show 0<_;lia
 rw[z]at this;cases this
def QB(D:DD t ds)(hz:t.size<=25):(kT t.pv (.tup (bE ds))).le (.ret (.tup (ZF t ds (aJ t ds)))):=QC t ds D.len hz D.ne D.ok
def Wj(t:Tr):O PV:=(Az t.size).map λj=>.tup (aR (up t 0 j []))
@[simp] theorem Ry(t:Tr):(Wj t).length=t.size:=by unfold Wj;simp
def JV(t:Tr)(h:j<t.size):(Wj t)[j]?=am (.tup (aR (up t 0 j []))):=by unfold Wj;simp[h]
theorem Wi(t:Tr):∀(k j:Nat),j+k+1=t.size->(up t 0 j []).length<=k+1:=λk=>by
 induction k using Ce with
 |ind k ih=>
  intro j hj;rcases si t 0 j .aF [] ∅ with⟨q1,q2,q3⟩|⟨a,q1,q2,q3,q4⟩
  .rw[q3];show 1<=k+1;lia
  .rw[q4,Aw];have:=ih (t.size-a-1) ∅ a ∅;lia
theorem ZT(t:Tr)(h:j<t.size):(up t 0 j []).length<=t.size:=by
 have:=Wi t (t.size-j-1) j ∅;lia
def JU(t:Tr)(i:Nat):O PV:=(Az t.size).map λj=>if j+i<t.size then .tup [] else .tup (aR (up t 0 j []))
def qV(t:Tr)(i:Nat):(JU t i).length=t.size:=by unfold JU;simp
def JT(t:Tr)(i:Nat)(h:j<t.size)(c:¬j+i<t.size):(JU t i)[j]?=am (.tup (aR (up t 0 j []))):=by unfold JU;simp[h,c]
theorem Rv(t:Tr)(i j:Nat)(h:j+i+1=t.size):(JU t i).set j (.tup (aR (up t 0 j [])))=JU t (i+1):=by
 apply BL;intro k;by_cases hk:k<t.size
 .by_cases e:j=k
  .subst e;rw[CS (by rw[qV];exact hk),JT t (i+1) hk ∅]
  .rw[Cc e];unfold JU;simp only[Ag,AN hk,Cr];by_cases c:k+i<t.size
   .rw[if_pos c,if_pos ∅]
   .rw[if_neg c,if_neg ∅]
 .rw[Au (by rw[BH,qV];lia),Au (by rw[qV];lia)]
def ZU(t:Tr):JU t 0=Ao t.size (.tup []):=by
 apply BL;intro k;unfold JU;by_cases hk:k<t.size
 .simp[hk]
 .simp[hk]
theorem Rx(t:Tr):JU t t.size=Wj t:=by
 apply Bk;intro j _;rw[if_neg ∅]
theorem O4(t:Tr)(hz:t.size<=900):(jk t.pv).le (.ret (Wj t)):=λQ q=>by
 unfold jk;simp;refine W.le.use (G6 t hz) ?_;simp only[aE,mo];refine OY (λ_=>.tup []) (λx hx=>rfl) ?_;have e0:(ZH t).map (λ_=>PV.tup [])=JU t 0:=by rw[List.map_const',Lf,ZU]
 have en:((t.size:Int)-1 - -1).toNat=t.size:=by lia
 rw[e0];simp only[nW,Lf,lc,kr,mo,pF,K4,en];refine⟨⟨trivial,bC ∅ ∅⟩,?_⟩;refine dg (λi s=>s=JU t i) rfl (λi x s hx hs=>?_) (λs hs=>?_)
 .subst hs;obtain⟨hi,rfl⟩:=pN hx;obtain⟨j,hj⟩:∃j:Nat,j=t.size-1-i:=⟨_,rfl⟩;have ej:(((t.size:Nat):Int)-1-i)=j:=by lia
  rw[ej];have Zs:j<t.size:=by lia
  have fin:∀l:O PV,l.length<=900->.int (j:Int)::l=aR (up t 0 j [])->(bn (addW (.tup [.int (j:Int)]) (.tup l)) λx=>sA (JU t i) (.int (j:Int)) x).run λs=>s=JU t (i+1):=λl hl he=>by
   rw[T8,r9 (bW (by simp;lia))];show(sA _ _ (.tup (.int (j:Int)::l))).run _;rw[he,ng (by rw[qV];exact Zs),Rv t i j ∅];rfl
  simp only[lc,f8,kf (Lg t Zs),mo];rcases si t 0 j .aF [] Zs with⟨_,e,e2⟩|⟨a,ha1,ha,e,e2⟩
  .rw[e];simp only[vp,eS,PV.bZ,a9,mo,if_true];have:=fin [] (by simp) (by rw[e2,A2];rfl);simpa using this
  .rw[A2]at e;rw[e];simp only[vp,eS,PV.bZ,a9,mo,Aq,if_false,(kf (JT t i ha ∅)),lc];have ua:=ZT t ha;have:=fin (aR (up t 0 a [])) (by rw[iD];lia) (by rw[e2];simp);simpa using this
 .subst hs;have el:(n5 (((t.size:Nat):Int)-1) t.size).length=t.size:=by unfold n5;simp
  rw[el,Rx];exact q
def ZG(t:Tr)(j:Nat):O Nat:=(Az t.size).filter λk=>!decide (k∈up t 0 j [])&&!decide (j∈up t 0 k [])
theorem QQ(t:Tr)(hz:t.size<=900)(hj:j<t.size):(fN (.cl (Wj t)) (.int (j:Int))).le (.ret (.tup (aR (ZG t j)))):=λQ q=>by
 unfold fN;simp only[f8,eZ,Ry,dW,r9 (bC (i:=0) (j:=t.size) ∅ ∅),mo,kX];refine O5 (λk=>!decide (k∈up t 0 j [])&&!decide (j∈up t 0 k [])) (λk hk=>?_) q;simp only[lc,bU,kf (JV t hj),kf (JV t (AX.mp hk)),aE,X5,if_true];by_cases c1:k∈up t 0 j []
 .simp[c1]
 .by_cases c2:j∈up t 0 k []
  .simp[c1,c2]
  .simp[c1,c2]
def Ni:Ent->O Nat
 |.word _=>[]
 |.pair a b=>[a,b]
def pA(e:Ent):cH e.pv=.ret (.tup (aR (Ni e))):=by
 unfold cH;cases e with
 |word w=>simp[Ent.pv,Ni]
 |pair a b=>simp[Ent.pv,Ni]
def SR(h:es[j]?=am e):eM (.tup (es.map Ent.pv)) (.int (j:Int))=.ret (HY e j):=by
 have i1:XZ (es.map Ent.pv) (.int j)=.ret e.pv:=kf (by rw[Ag,h];rfl);unfold eM;cases e with
 |word w=>simp only[lc,aE,i1];rfl
 |pair a b=>simp only[lc,aE,i1];rfl
def grS(t:Tr)(j:Nat):PV:=.tup [HY (en t 0 j) j,.int 0,.tup (aR (Ni (en t 0 j))),.tup (aR (ZG t j))]
def grL(t:Tr):O PV:=(Az t.size).map (grS t)
theorem v5(t:Tr)(hz:t.size<=900):(gk t.pv).le (.ret (.tup (grL t))):=λQ q=>by
 unfold gk;simp;refine W.le.use (nG t hz) ?_;refine W.le.use (O4 t hz) ?_;simp only[nW,fZ,mo,dW,r9 (bC (i:=0) (j:=t.size) ∅ ∅),kX];unfold aR;refine jc (grS t) (λj hj R r=>?_) q;have hj:=AX.mp hj;have i1:XZ ((t.nd 0).map Ent.pv) (.int j)=.ret (en t 0 j).pv:=kf (by rw[Ag,lO t 0 j hj];rfl);simp only[SR (lO t 0 j hj),aE,i1,pA,f8,mo];exact W.le.use (QQ t hz hj) r
structure Sy where
 nm:PV
 lv:Nat
 un:List Nat
 be:List Nat
variable{g:O Sy}
def Sy.pv(s:Sy):PV:=.tup [s.nm,.int (s.lv:Int),.tup (aR s.un),.tup (aR s.be)]
def tN(g:O Sy):PV:=.tup (g.map Sy.pv)
def sy(g:O Sy)(i:Nat):Sy:=g.getD i ⟨.aF,0,[],[]⟩
def Wy(h:i<g.length):g[i]?=am (sy g i):=by
 unfold sy;rw[Ae,Ad h];rfl
def Ys(h:i<g.length):XZ (g.map Sy.pv) (.int (i:Int))=.ret (sy g i).pv:=kf (by rw[Ag,Wy h];rfl)
def Pr(w:Str):PV->Bool
 |.str s=>s==w
 |_=>false
def hm(g:O Sy)(i:Nat)(w:Str):Bool:=(sy g i).un.isEmpty&&Pr w (sy g i).nm
inductive Nq(g:List Sy):Nat->Nat->Prop
 |refl (i:Nat):Nq g i i
 |step {i u j:Nat}:u∈(sy g i).un->Nq g u j->Nq g i j
structure WG(g:List Sy)(ws:List Str):Prop where
 pos:0<g.length
 len:g.length<=300
 dn:∀i,i<g.length->∀u∈(sy g i).un,u<i
 yN:∀i,i<g.length->(sy g i).un.length<=2
 be:∀i,i<g.length->∀u∈(sy g i).be,u<g.length
 acC:∀i,i<g.length->(sy g i).be.length<=30
 nm:∀i,i<g.length->(∃s,(sy g i).nm=.str s)\/∃n,(sy g i).nm=.int n
 afC:∀w∈ws,∃i,i<g.length/\Nq g (g.length-1) i/\hm g i w=true
 rch:∀i,i<g.length->Nq g (g.length-1) i
def mZ(h:i<g.length):dr (tN g) (.int (i:Int))=.ret (.tup (aR (sy g i).un)):=by
 unfold dr tN;simp only[lc,aE,Ys h];rfl
variable{ws:O Str}
def M3(h:i<g.length):gN (tN g) (.int (i:Int))=.ret (.tup (aR (sy g i).be)):=by
 unfold gN tN;simp only[lc,aE,Ys h];rfl
theorem eq_nil(l:O Nat)(h:l.length<=1000):of2 i7 (.tup (aR l)) (.tup [])=.ret (.bl l.isEmpty):=by
 have fk:dU (aR l)=true:=gC.mpr λx hx=>by
  obtain⟨n,_,rfl⟩:=Ar.mp hx;simp
 have fd:c6 (aR l)<=1:=iI λx hx=>by
  obtain⟨n,_,rfl⟩:=Ar.mp hx;simp
 rw[t6,r9 ⟨by simp[fk],by simp,by simp;lia⟩];cases l with
 |nil=>simp
 |cons a l=>simp[fX]
def acg{x:PV}(h:(∃s,x=.str s)\/∃n,x=.int n)(w:Str):of2 i7 x (.str w)=.ret (.bl (Pr w x)):=by
 rcases h with⟨s,rfl⟩|⟨n,rfl⟩
 .rw[t6,r9 ⟨by simp,by simp,by simp⟩,K3];rfl
 .rw[t6,r9 ⟨by simp,by simp,by simp⟩];simp[hG,Pr]
theorem TJ(G:WG g ws)(h:i<g.length)(w:Str):kS (tN g) (.int (i:Int)) (.str w)=.ret (.bl (hm g i w)):=by
 unfold kS;have l2:=G.yN i h;have i0:d9 [(sy g i).nm,PV.int ((sy g i).lv),.tup (aR (sy g i).un),.tup (aR (sy g i).be)] 0=am (sy g i).nm:=rfl;simp only[lc,mZ h,eq_nil _ (show(sy g i).un.length<=1000 by lia)];unfold tN hm;cases e:(sy g i).un.isEmpty with
 |false=>simp
 |true=>simp only[T7,aE,lc,Ys h,Sy.pv,bu,i0,zn,acg (G.nm i h) w,F5]
abbrev Dd:=Str×Nat×Nat
def d2(d:Dd):PV:=.tup [.str d.1,.tup [.int (d.2.1:Int),.int (d.2.2:Int)]]
abbrev dbl(i:Nat):Dd:=("doubled",i,i)
abbrev ovr(i o:Nat):O Dd:=[("over",i,o),("over",o,i)]
def HH:O Nat->O Dd
 |[a,b]=>[("split",a,b),("split",b,a)]
 |_=>[]
def dds(g:O Sy)(i:Nat):O Dd:=dbl i::(HH (sy g i).un++(sy g i).be.flatMap (ovr i))
def RG(l:O Nat):(HH l).length<=2:=by unfold HH;split<;>simp
theorem YR(G:WG g ws)(h:i<g.length){d:Dd}(hd:d∈dds g i):d.2.1<g.length/\d.2.2<g.length:=by
 rcases AD.mp hd with rfl|hd
 .exact⟨h,h⟩
 rcases AZ.mp hd with hd|hd
 .have hu:=G.dn i h;revert hu hd;generalize (sy g i).un=l;intro hd hu
  match l with
  |[a,b]=>
   have h1:=hu a (by simp);have h2:=hu b (by simp);simp[HH]at hd;rcases hd with rfl|rfl
   .exact⟨by show a<_;lia,by show b<_;lia⟩
   .exact⟨by show b<_;lia,by show a<_;lia⟩
  |[]=>simp[HH]at hd
  |[_]=>simp[HH]at hd
  |_::_::_::_=>simp[HH]at hd
 .obtain⟨o,ho,hd⟩:=List.mem_flatMap.mp hd;have:=G.be i h o ho;simp at hd;rcases hd with rfl|rfl
  .exact⟨h,this⟩
  .exact⟨this,h⟩
def fa(F:O (O Bool))(j i:Nat):Bool:=(F.getD j []).getD i false
def lD(g:O Sy)(F:O (O Bool))(e:Ent)(i:Nat):O Dd:=match e with
 |.word w=>if hm g i w=true then [("found",i,i)] else []
 |.pair a b=>(dds g i).filter λd=>fa F a d.2.1&&fa F b d.2.2
def Q3(n:Nat):Ent->Prop
 |.word _=>True
 |.pair a b=>a<n/\b<n
def kZ{l m:List α}{d:α}(h:i<l.length):(l++m).getD i d=l.getD i d:=by
 rw[Ae,A1 h,<- Ae]
def pB{l m:List α}{d:α}(h:l.length<=i):(l++m).getD i d=m.getD (i-l.length) d:=by
 rw[Ae,Bc h,<- Ae]
def ht:Tr->Nat->Nat
 |.leaf _,_=>0
 |.node l r,j=>if j<l.size then ht l j else if j<l.size+r.size then ht r (j-l.size) else (Tr.node l r).depth
theorem KP(t:Tr):ht t (t.size-1)=t.depth:=by
 cases t with
 |leaf _=>rfl
 |node l r=>
  have es:(Tr.node l r).size=l.size+r.size+1:=rfl;rw[ht,if_neg ∅,if_neg ∅]
theorem Vy:∀(t:Tr) (o j a b:Nat),j<t.size->en t o j=.pair a b->ht t (a-o)<ht t j/\ht t (b-o)<ht t j
 |.leaf _,o,j,a,b,h,e=>by rw[en]at e;cases e
 |.node l r,o,j,a,b,h,e=>by
  have lp:=l.size_pos;have rp:=r.size_pos;by_cases c1:j<l.size
  .rw[en,if_pos c1]at e;obtain⟨h1,h2,h3,h4,_⟩:=ud l o j .aF a b c1 e;have:=Vy l o j a b c1 e;have q1:∀x,x<l.size->ht (.node l r) x=ht l x:=λx hx=>by rw[ht,if_pos hx]
   rw[q1 (a-o) ∅,q1 (b-o) ∅,q1 j c1];exact this
  .by_cases c2:j<l.size+r.size
   .rw[en,if_neg c1,if_pos c2]at e;obtain⟨h1,h2,h3,h4,_⟩:=ud r (o+l.size) (j-l.size) .aF a b ∅ e;have:=Vy r (o+l.size) (j-l.size) a b ∅ e;have q1:∀x,¬x<l.size->x<l.size+r.size->ht (.node l r) x=ht r (x-l.size):=λx h1 h2=>by rw[ht,if_neg h1,if_pos h2]
    rw[q1 (a-o) ∅ ∅,q1 (b-o) ∅ ∅,q1 j c1 c2,FR,FR];exact this
   .rw[en,if_neg c1,if_neg c2]at e;injection e with e1 e2;subst e1;subst e2;have er:(Tr.node l r).depth=max l.depth r.depth+1:=rfl;have ej:ht (.node l r) j=(Tr.node l r).depth:=by rw[ht,if_neg c1,if_neg c2]
    have e3:ht (.node l r) (o+l.size-1-o)=l.depth:=by rw[ht,if_pos ∅,show o+l.size-1-o=l.size-1 by lia,KP]
    have e4:ht (.node l r) (o+l.size+r.size-1-o)=r.depth:=by rw[ht,if_neg ∅,if_pos ∅,show o+l.size+r.size-1-o-l.size=r.size-1 by lia,KP]
    lia
theorem yb:∀(t:Tr) (o j:Nat) (w:Str),j<t.size->en t o j=.word w->w∈t.au
 |.leaf x,o,j,w,h,e=>by
  injection e with e;subst e;simp[Tr.au]
 |.node l r,o,j,w,h,e=>by
  by_cases c1:j<l.size
  .rw[en,if_pos c1]at e;exact BG _ (yb l o j w c1 e)
  .by_cases c2:j<l.size+r.size
   .rw[en,if_neg c1,if_pos c2]at e;exact AQ _ (yb r _ (j-l.size) w ∅ e)
   .rw[en,if_neg c1,if_neg c2]at e;cases e
def VW(t:Tr)(h:j<t.size):Q3 j (en t 0 j):=by
 cases e:en t 0 j with
 |word w=>trivial
 |pair a b=>exact b9 t h e
def dl(g:O Sy)(i:Nat):O Dd:=dbl i::(HH (sy g i).un++((sy g i).be.map (λo=>(("over",i,o):Dd))++(sy g i).be.map (λo=>(("over",o,i):Dd))))
theorem Qz(G:WG g ws)(h:i<g.length):(dl g i).length<=63:=by
 unfold dl;simp;have:=RG (sy g i).un;have:=G.acC i h;lia
theorem Uo(d:Dd):pw (d2 d)=true:=rfl
def Mg(p:Nat×Nat):PV:=.tup [.int (p.1:Int),.int (p.2:Int)]
def NP(G:WG g ws)(h:i<g.length):gL (tN g) (.int (i:Int))=.ret ((HH (sy g i).un).map λd=>Mg (d.2.1,d.2.2)):=by
 unfold gL;simp only[lc,mZ h];have hu:=G.yN i h;revert hu;generalize (sy g i).un=l;intro hu
 match l,hu with
 |[],_=>simp;rfl
 |[a],_=>simp;rfl
 |[a,b],_=>
  simp;rfl
variable{u:Nat}{f:PV->W PV}
theorem Sw(G:WG g ws)(h:i<g.length):jg (tN g) (.int (i:Int))=.ret ((sy g i).be.map (λo=>Mg (i,o))++(sy g i).be.map (λo=>Mg (o,i))):=by
 unfold jg;have l3:=G.acC i h;simp only[lc,M3 h,aE];rw[kQ (g:=λo=>Mg (i,o)) λk hk=>rfl,kQ (g:=λo=>Mg (o,i)) λk hk=>rfl];simp;rw[ic (by simp;lia)]
theorem sU{c:α->PV}{k:α->PV}:∀{l:List α},(∀x∈l,f (c x)=.ret (k x))->bz (l.map c) f=.ret (l.map k)
 |[],_=>rfl
 |x::r,h=>by
  show bn (f (c x)) (λy=>bn (bz (r.map c) f) λm=>ca (y::m))=_;rw[h x (.head _),sU λy hy=>h y (.tail _ hy)];rfl
theorem MM(G:WG g ws){a b:Nat}(h:i<g.length)(q:∀m:O PV,m.Perm ((dl g i).map d2)->Q m):(eO (tN g) (Ent.pair a b).pv (.int (i:Int))).run Q:=by
 have l63:=Qz G h;unfold eO;simp only[Ent.pv,f8,gQ,gP,cU,mo,Aq,if_false,NP G h,Sw G h];refine jc (λd:Dd=>.tup [.str "split",Mg (d.2.1,d.2.2)]) (λd _ R r=>r) ?_;have em:(sy g i).be.map (λo=>Mg (i,o))++(sy g i).be.map (λo=>Mg (o,i))=((sy g i).be.map (λo=>((i,o):Nat×Nat))++(sy g i).be.map (λo=>(o,i))).map Mg:=by
  rw[AR,A0,A0];rfl
 rw[em];refine jc (λp:Nat×Nat=>.tup [.str "over",Mg p]) (λp _ R r=>r) ?_;simp only[mo,k7];have es:(HH (sy g i).un).map (λd=>PV.tup [.str "split",Mg (d.2.1,d.2.2)])=(HH (sy g i).un).map d2:=by
  refine Bk λd hd=>?_;have:d.1=("split"):=by
   revert hd;generalize (sy g i).un=l;intro hd;unfold HH at hd
   split at hd
   .simp at hd;rcases hd with rfl|rfl<;>rfl
   .cases hd
  unfold d2 Mg;rw[this]
 have eo:((sy g i).be.map (λo=>((i,o):Nat×Nat))++(sy g i).be.map (λo=>(o,i))).map (λp=>PV.tup [.str "over",Mg p])=((sy g i).be.map (λo=>(("over",i,o):Dd))++(sy g i).be.map (λo=>(("over",o,i):Dd))).map d2:=by
  simp;rfl
 rw[es,eo];have ll:(dl g i).length=1+(HH (sy g i).un).length+((sy g i).be.map (λo=>(("over",i,o):Dd))++(sy g i).be.map (λo=>(("over",o,i):Dd))).length:=by
  unfold dl;simp;lia
 rw[ic (by simp;lia)];simp only[mo];rw[ic (by simp at *;lia)];have e:([PV.tup [.str "doubled",.tup [.int i,.int (i:Int)]]]++(HH (sy g i).un).map d2)++((sy g i).be.map (λo=>(("over",i,o):Dd))++(sy g i).be.map (λo=>(("over",o,i):Dd))).map d2=(dl g i).map d2:=by
  unfold dl;simp;rfl
 simp only[mo];rw[e];refine⟨⟨by rw[Ai];lia,De.mpr λx hx=>?_⟩,λm hm=>q m hm⟩;obtain⟨d,_,rfl⟩:=Ar.mp hx;exact Uo d
theorem Dt.isD(D:Dt t ds [] d)(h:d<=99):Ts t ds=true:=by
 unfold Ts;rw[A7,A7,decide_eq_true_iff,decide_eq_true_iff];refine⟨D.len,?_,De.mpr λj hj=>?_⟩
 .unfold LA;have hp:(splits t).Pairwise (· < ·):=by unfold splits;exact List.Pairwise.filter _ Fi
  rw[List.nodup_iff_pairwise_ne,List.pairwise_map];refine List.Pairwise.imp_of_mem (λ{x y} hx hy lt e=>?_) hp;obtain⟨x1,x2⟩:=Bl.mp hx;obtain⟨y1,y2⟩:=Bl.mp hy;have:=D.inj x y (AX.mp x1) (AX.mp y1) (by simp) (by simp) x2 y2 e;lia
 .have hj':=AX.mp hj;unfold okJ;cases e:en t 0 j with
  |word w=>
   rw[D.zero j hj' (.inl (by rw[e];rfl))];rfl
  |pair a b=>
   obtain⟨_,_,h1,h2,h3,h4⟩:=D.up j hj' (by simp) a b e;show(decide (ds.getD a 0<ds.getD j 0)&&decide (ds.getD b 0<ds.getD j 0)&&decide (1<=ds.getD j 0)&&decide (ds.getD j 0<=99))=true;rw[decide_eq_true h1,decide_eq_true h2,decide_eq_true h3,decide_eq_true ∅];rfl
theorem ui:∀(t:Tr) (o:Nat),(t.nd o).countP jN+1=t.au.length
 |.leaf _,_=>rfl
 |.node l r,o=>by
  have h1:=ui l o;have h2:=ui r (o+l.size);rw[Tr.nd,List.countP_append,List.countP_append];show _+(List.countP jN [Ent.pair _ _])+1=(l.au++r.au).length;simp[jN];lia
theorem Xv(t:Tr):t.nd 0=(Az t.size).map (en t 0):=by
 refine BL λj=>?_;by_cases h:j<t.size
 .rw[lO t 0 j h,Ag,AN h];rfl
 .rw[Au (by rw[t.bx];lia),Au (by simp;lia)]
def HG(t:Tr):(splits t).length+1=t.au.length:=by
 rw[<- ui t 0,Xv t,List.countP_map];unfold splits;rw[<- List.countP_eq_length_filter];rfl
def Nq.snoc(r:Nq g i j)(hu:u∈(sy g j).un):Nq g i u:=by
 induction r with
 |refl i=>exact .step hu (.refl _)
 |step h _ ih=>exact .step h (ih hu)
def gS(t:Tr):O Sy:=(Az t.size).map λj=>⟨HY (en t 0 j) j,0,Ni (en t 0 j),ZG t j⟩
def qh(t:Tr)(h:j<t.size):sy (gS t) j=⟨HY (en t 0 j) j,0,Ni (en t 0 j),ZG t j⟩:=by
 unfold sy gS;rw[Ae,Ag,AN h];rfl
@[simp] theorem g8(t:Tr):(gS t).length=t.size:=by unfold gS;simp
def VN(t:Tr):tN (gS t)=.tup (grL t):=by
 unfold tN gS grL;rw[A0];congr 1
def Vb(e:Ent)(j:Nat):(∃s,HY e j=.str s)\/∃n,HY e j=.int n:=by
 cases e with
 |word w=>exact .inl ⟨w,rfl⟩
 |pair a b=>exact .inr ⟨_,rfl⟩
def Yd(e:Ent):(Ni e).length<=2:=by cases e<;>simp[Ni]
theorem rD:∀(s:Tr) (t:Tr) (o:Nat) (w:Str),(∀k,k<s.size->en t 0 (o+k)=en s o k)->o+s.size<=t.size->w∈s.au->∃i,i<t.size/\Nq (gS t) (o+s.size-1) i/\en t 0 i=.word w
 |.leaf x,t,o,w,hs,hz,hw=>by
  have hz:o+1<=t.size:=hz;have:w=x:=by simpa[Tr.au]using hw
  subst this;exact⟨o,by lia,.refl _,(hs 0 (by show 0<1;decide))⟩
 |.node l r,t,o,w,hs,hz,hw=>by
  have es:(Tr.node l r).size=l.size+r.size+1:=rfl;have er:en t 0 (o+(l.size+r.size))=.pair (o+l.size-1) (o+l.size+r.size-1):=by rw[hs _ ∅,en,if_neg ∅,if_neg ∅]
  have ei:o+(Tr.node l r).size-1=o+(l.size+r.size):=by lia
  have un:(sy (gS t) (o+(l.size+r.size))).un=[o+l.size-1,o+l.size+r.size-1]:=by rw[qh t ∅,er];rfl
  rw[ei];rcases AZ.mp (hw) with hw|hw
  .obtain⟨i,h1,h2,h3⟩:=rD l t o w (λk hk=>by rw[hs k ∅,en,if_pos hk]) ∅ hw;exact⟨i,h1,.step (by rw[un];simp) h2,h3⟩
  .obtain⟨i,h1,h2,h3⟩:=rD r t (o+l.size) w (λk hk=>by rw[A8,hs _ ∅,en,if_neg ∅,if_pos ∅,CI]) ∅ hw;exact⟨i,h1,.step (by rw[un];simp) h2,h3⟩
theorem oI(hz:t.size<=30):WG (gS t) t.au:=by
 have tp:=t.size_pos;have Ò:∀k i,i+k+1=t.size->Nq (gS t) (t.size-1) i:=λk=>by
  induction k using Ce with
  |ind k ih=>
   intro i hk;rcases ig t 0 i .aF ∅ with⟨e,_⟩|⟨a,u,v,ia,ha,_,ep,Ri⟩
   .rw[<- e];exact .refl _
   .refine(ih (t.size-a-1) ∅ a ∅).snoc ?_;rw[qh t ha,ep];rcases Ri with rfl|rfl<;>simp[Ni]
 refine⟨by rw[g8];lia,by rw[g8];lia,λi hi u hu=>?_,λi hi=>?_,λi hi u hu=>?_,λi hi=>?_,λi hi=>?_,λw hw=>?_,λi hi=>by rw[g8]at hi ⊢;exact Ò (t.size-i-1) i ∅⟩
 .rw[g8]at hi;rw[qh t hi]at hu;cases e:en t 0 i with
  |word w=>rw[e]at hu;cases hu
  |pair a b=>
   rw[e]at hu;have:=b9 t hi e;have hu:u=a\/u=b:=by simpa[Ni]using hu
   lia
 .rw[g8]at hi;rw[qh t hi];exact Yd _
 .rw[g8]at hi ⊢;rw[qh t hi]at hu;exact AX.mp (Bl.mp hu).1
 .rw[g8]at hi;rw[qh t hi];have:=B4 (λk=>!decide (k∈up t 0 i [])&&!decide (i∈up t 0 k [])) (Az t.size);rw[Bq]at this;show(ZG t i).length<=30;unfold ZG;lia
 .rw[g8]at hi;rw[qh t hi];exact Vb _ _
 .obtain⟨i,h1,h2,h3⟩:=rD t t 0 w (λk hk=>by rw[A2]) ∅ hw;rw[A2]at h2;refine⟨i,by rw[g8];exact h1,by rw[g8];exact h2,?_⟩;unfold hm;rw[qh t h1,h3];simp[Ni,HY,Pr]
def dS(t:Tr)(ds bs:O Int):O Sy:=(aK t ds bs bs.length).map λp=>⟨HY (en t 0 p.1) p.1,p.2,(G4 (en t 0 p.1) p.1 (ds.getD p.1 0) (bs.getD p.2 0)).map λx=>(aK t ds bs bs.length).idxOf (x,p.2-1),YV (aK t ds bs bs.length) p.1 p.2⟩
def acr(t:Tr)(ds bs:O Int):tN (dS t ds bs)=.tup (ZF t ds bs):=by
 unfold tN dS ZF;rw[A0];congr 1
@[simp] theorem QD(t:Tr)(ds bs:O Int):(dS t ds bs).length=(aK t ds bs bs.length).length:=by unfold dS;rw[Ai]
theorem pW(t:Tr)(ds bs:O Int):∀m,(aK t ds bs m).Pairwise λp q=>p.2<=q.2
 |0=>.nil
 |m+1=>by
  have Lz:∀p∈za t ds (bs.getD m 0) m t.size,p.2=m:=λp hp=>by
   obtain⟨k,_,rfl⟩:=Ar.mp hp;rfl
  refine D5.mpr ⟨pW t ds bs m,?_,λa ha b hb=>?_⟩
  .exact B0.mpr λi j hi hj _=>by rw[Lz _ (B8 hi),Lz _ (B8 hj)];exact Ak _
  .have h1:=(eI ha).1;rw[Lz b hb];lia
theorem vS(t:Tr)(ds bs:O Int)(n:Nat):∀m,((aK t ds bs m).filter λp=>decide (p.2=n)).length<=t.size
 |0=>Ba _
 |m+1=>by
  rw[aK,Cp,Al];have ih:=vS t ds bs n m;by_cases c:n=m
  .subst c;have z:(aK t ds bs n).filter (λp=>decide (p.2=n))=[]:=by
    rw[Fm];intro p hp;have:=(eI hp).1;simp;lia
   rw[z];have h1:=B4 (λp:Nat×Nat=>decide (p.2=n)) (za t ds (bs.getD n 0) n t.size);have h2:=wK t ds (bs.getD n 0) n t.size;simp only[List.length_nil];lia
  .have z:(za t ds (bs.getD m 0) m t.size).filter (λp=>decide (p.2=n))=[]:=by
    rw[Fm];intro p hp;obtain⟨k,_,rfl⟩:=Ar.mp hp;simp;lia
   rw[z];simpa using ih
section
theorem DD.above(D:DD t ds)(h:(j,n)∈aK t ds (aJ t ds) (aJ t ds).length)(hn:n+1<(aJ t ds).length):∃a,(a,n+1)∈aK t ds (aJ t ds) (aJ t ds).length/\j∈G4 (en t 0 a) a (ds.getD a 0) ((aJ t ds).getD (n+1) 0):=by
 obtain⟨VB,hj,hs⟩:=bO.mp h;obtain⟨s1,s2⟩:=(fJ hj).mp hs;have inc:=D.inc;have lt:=xM inc hn (show n<n+1 by lia);have Ø:(∀a,jP t 0 j .aF=.int ((a:Nat))->(aJ t ds).getD (n+1) 0<ds.getD a 0)->∃a,(a,n+1)∈aK t ds (aJ t ds) (aJ t ds).length/\j∈G4 (en t 0 a) a (ds.getD a 0) ((aJ t ds).getD (n+1) 0):=λhx=>
  ⟨j,bO.mpr ⟨hn,hj,(fJ hj).mpr ⟨by lia,hx⟩⟩,by unfold G4;rw[if_pos ∅];exact .head _⟩
 rcases ig t 0 j .aF hj with⟨_,e⟩|⟨a,u,v,ja,ha,e,ep,Ri⟩
 .exact Ø λa z=>by rw[e]at z;cases z
 .rw[A2]at e Ri;by_cases c:(aJ t ds).getD (n+1) 0<ds.getD a 0
  .refine Ø λa' z=>?_;rw[e]at z;injection z with z;have:a=a':=by lia
   subst this;exact c
  .have sa:=s2 a e;have eq:ds.getD a 0=(aJ t ds).getD (n+1) 0:=by
    rcases Int.lt_or_eq_of_le (show ds.getD a 0<=(aJ t ds).getD (n+1) 0 by lia) with c2|c2
    .have:=(tJ inc hn (D.mem ha) c2).2;rw[Nat.add_sub_cancel]at this;lia
    .exact c2
   refine⟨a,bO.mpr ⟨hn,ha,(fJ ha).mpr ⟨by lia,λa2 e2=>?_⟩⟩,?_⟩
   .rcases ig t 0 a .aF ha with⟨_,e3⟩|⟨a3,u3,v3,_,h3,e3,ep3,abr⟩
    .rw[e3]at e2;cases e2
    .rw[e3]at e2;injection e2 with e2;rw[A2]at e2 abr;have:a3=a2:=by lia
     subst this;have:=D.pair a3 u3 v3 h3 ep3;rcases abr with rfl|rfl<;>lia
   .unfold G4;rw[if_neg ∅,ep];rcases Ri with rfl|rfl<;>simp
theorem DD.last(D:DD t ds)(h:(j,n)∈aK t ds (aJ t ds) (aJ t ds).length)(hn:n+1=(aJ t ds).length):j=t.size-1:=by
 obtain⟨VB,hj,hs⟩:=bO.mp h;obtain⟨s1,s2⟩:=(fJ hj).mp hs;rcases ig t 0 j .aF hj with⟨e,_⟩|⟨a,u,v,ja,ha,e,ep,Ri⟩
 .exact e
 .rw[A2]at e;have sa:=s2 a e;obtain⟨i,hi,ei⟩:=Ef (D.mem ha);have gd:(aJ t ds).getD i 0=ds.getD a 0:=by rw[Ae,Ad hi];exact ei
  rcases Bs i n with c|c
  .have:=xM D.inc VB c;lia
  .have:i=n:=by lia
   subst this;lia
def IK[BEq α][LawfulBEq α]{l:List α}(nd:l.Nodup){x:α}(h:l[i]?=am x):l.idxOf x=i:=by
 obtain⟨hi,e⟩:=Aj.mp h;rw[<- e];exact nd.idxOf_getElem i hi
def yw[BEq α][LawfulBEq α]{l:List α}{x:α}(h:x∈l):l[l.idxOf x]?=am x:=by
 have:=Cj h;rw[Ad this,List.getElem_idxOf this]
theorem Nv(D:DD t ds)(hz:t.size<=15)(hb:(aJ t ds).length<=16):WG (dS t ds (aJ t ds)) t.au:=by
 have nd:=fH t ds (aJ t ds) (aJ t ds).length;have ē:=pW t ds (aJ t ds) (aJ t ds).length;have lay:=λn=>vS t ds (aJ t ds) n (aJ t ds).length;have ok:=D.ok;have ne:=D.ne;have ll:=iV t ds (aJ t ds) (aJ t ds).length;have above:=λj n=>D.above (j:=j) (n:=n);have last:=λj n=>D.last (j:=j) (n:=n);have ě:=@bO t ds (aJ t ds) (aJ t ds).length;unfold okD at ok;have hS:∀i p,(aK t ds (aJ t ds) (aJ t ds).length)[i]?=am p->sy (dS t ds (aJ t ds)) i=⟨HY (en t 0 p.1) p.1,p.2,(G4 (en t 0 p.1) p.1 (ds.getD p.1 0) ((aJ t ds).getD p.2 0)).map λx=>(aK t ds (aJ t ds) (aJ t ds).length).idxOf (x,p.2-1),YV (aK t ds (aJ t ds) (aJ t ds).length) p.1 p.2⟩:=λi p hp=>by
  unfold sy dS;rw[Ae,Ag,hp];rfl
 have hL:(dS t ds (aJ t ds)).length=(aK t ds (aJ t ds) (aJ t ds).length).length:=QD t ds _;have hmul:=FU hb hz;generalize aK t ds (aJ t ds) (aJ t ds).length=L at *;have get:∀i,i<(dS t ds (aJ t ds)).length->∃p,L[i]?=am p/\p∈L:=λi hi=>by
  rw[hL]at hi;exact⟨L[i],Ad hi,B8 hi⟩
 have low:∀(i a:Nat) p r,L[i]?=am p->L[a]?=am r->r.2<p.2->a<i:=λi a p r h1 h2 lt=>by
  rcases Bs a i with c|c
  .exact c
  .exfalso;obtain⟨g1,e1⟩:=Aj.mp h1;obtain⟨g2,e2⟩:=Aj.mp h2;rcases ED c with c|c
   .subst c;rw[h1]at h2;cases h2;lia
   .have:=B0.mp ē i a g1 g2 c;rw[e1,e2]at this;lia
 have Ò:∀k i,i+k+1=L.length->Nq (dS t ds (aJ t ds)) (L.length-1) i:=λk=>by
  induction k using Ce with
  |ind k ih=>
   intro i hk;obtain⟨⟨j,n⟩,hp,hm⟩:=get i (by rw[hL];lia);have nl:=(ě.mp hm).1;by_cases c:n+1<(aJ t ds).length
   .obtain⟨a,ha,hb⟩:=above j n hm c;have ia:=yw ha;have lt:=low _ i (a,n+1) (j,n) ia hp (by show n<n+1;lia);have il:=Cj ha;refine(ih (L.length-L.idxOf (a,n+1)-1) ∅ (L.idxOf (a,n+1)) ∅).snoc ?_;rw[hS _ _ ia];exact Ar.mpr ⟨j,hb,IK nd hp⟩
   .have hj:=last j n hm ∅;have:i=L.length-1:=by
     obtain⟨⟨j2,n2⟩,yQ,Zq⟩:=get (L.length-1) (by rw[hL];lia);have n2l:=(ě.mp Zq).1;rcases Bs n2 n with c2|c2
     .have:=low i (L.length-1) _ _ hp yQ c2;lia
     .have en2:n2=n:=by lia
      subst en2;rw[(last j2 n2 Zq ∅),<- hj]at yQ;exact(IK nd hp).symm.trans (IK nd yQ)
    rw[this];exact .refl _
 refine⟨by rw[hL];exact(Dk.mpr ne),by rw[hL];lia,λi hi u hu=>?_,λi hi=>?_,λi hi u hu=>?_,λi hi=>?_,λi hi=>?_,λw hw=>?_,λi hi=>by rw[hL]at hi ⊢;exact Ò (L.length-i-1) i ∅⟩
 .obtain⟨p,hp,hm⟩:=get i hi;rw[hS i p hp]at hu;obtain⟨x,hx,rfl⟩:=Ar.mp hu;obtain⟨n1,xm⟩:=ok p hm x hx;exact low i _ p (x,p.2-1) hp (yw xm) (by show p.2-1<p.2;lia)
 .obtain⟨p,hp,hm⟩:=get i hi;rw[hS i p hp];unfold G4
  split
  .simp
  .cases en t 0 p.1<;>simp
 .obtain⟨p,hp,hm⟩:=get i hi;rw[hS i p hp]at hu;unfold YV at hu;obtain⟨x,hx,rfl⟩:=Ar.mp hu;rw[hL];exact Cj (Bl.mp hx).1
 .obtain⟨p,hp,hm⟩:=get i hi;rw[hS i p hp];unfold YV;rw[Ai];have h1:=lay p.2;have h2:(L.filter λq=>decide (q.2=p.2)&&!decide (q.1=p.1)).length<=(L.filter λq=>decide (q.2=p.2)).length:=by
   have e:L.filter (λq=>decide (q.2=p.2)&&!decide (q.1=p.1))=(L.filter λq=>decide (q.2=p.2)).filter λq=>!decide (q.1=p.1):=by
    rw[List.filter_filter];refine congrArg (λf=>L.filter f) (funext λq=>Bool.and_comm _ _)
   rw[e];exact B4 _ _
  lia
 .obtain⟨p,hp,hm⟩:=get i hi;rw[hS i p hp];exact Vb _ _
 .obtain⟨j,hj,_,ej⟩:=rD t t 0 w (λk hk=>by rw[A2]) ∅ hw;have b0:(aJ t ds).getD 0 0=0:=rfl;have mem:(j,0)∈L:=ě.mpr ⟨by simp[aJ],hj,(fJ hj).mpr ⟨by rw[D.leaf j w hj ej,b0];exact A5 _,λa ea=>by
   rcases ig t 0 j .aF hj with⟨_,e⟩|⟨a',u,v,_,ha,e,ep,_⟩
   .rw[e]at ea;cases ea
   .rw[e,A2]at ea;injection ea with ea;have:a'=a:=by lia
    subst this;have:=(D.pair a' u v ha ep).2.2;rw[b0];lia⟩⟩
  have il:=Cj mem;refine⟨L.idxOf (j,0),by rw[hL];exact il,by rw[hL];exact Ò (L.length-L.idxOf (j,0)-1) _ ∅,?_⟩;unfold hm;rw[hS _ _ (yw mem)];unfold G4;rw[b0,D.leaf j w hj ej,if_neg ∅,ej];simp[HY,Pr]
end
def sJ{l:O PV}(h:l[j]?=am v)(hl:l.length<=1000):oW l (.int (j:Int))=.ret (l.eraseIdx j,v):=by
 unfold oW;simp only[KN ((Aj.mp h).1),zn,lc,h,r9 (bW hl)]
def tX{l:O Tr}{x:Tr}(h:l[j]?=am x):(x.au++(l.eraseIdx j).flatMap Tr.au).Perm (l.flatMap Tr.au):=by
 induction l generalizing j with
 |nil=>simp at h
 |cons a l ih=>cases j with
  |zero=>simp at h;subst h;simp
  |succ j=>
   simp;have:=(ih (by simpa using h)).append_left a.au;refine List.Perm.trans ?_ this;rw[<- Ax,<- Ax];exact BM.append_right _
def vM{l:O Tr}:(l.map Tr.pv).eraseIdx j=(l.eraseIdx j).map Tr.pv:=by
 induction l generalizing j with
 |nil=>simp
 |cons a l ih=>cases j with
  |zero=>simp
  |succ j=>simp[ih]
def OU{l:O Nat}{x:PV}(h:(aR l)[i]?=am x):∃k,l[i]?=am k/\x=.int (k:Int):=by
 unfold aR at h;rw[Ag]at h;cases e:l[i]? with
 |none=>rw[e]at h;cases h
 |some k=>rw[e]at h;exact⟨k,rfl,(Option.some.inj h).symm⟩
abbrev OI:=Option Int
def oP:OI->PV
 |none=>.aF
 |some i=>.int i
def Hn(l:O OI):O Int:=l.filterMap id
def iy(l:O OI):OI:=if ce∈l then ce else am (Hn l).sum
def cQ(l:O OI):OI:=if Hn l=[] then ce else am (uO (Hn l))
theorem Ks:∀{l:O OI},ce∉l->l.map oP=(Hn l).map PV.int
 |[],_=>rfl
 |none::l,h=>absurd (.head _) h
 |some a::l,h=>by
  have:=Ks λz=>h (.tail _ z);rw[AA,this];rfl
def Yv(l:O OI):(l.map oP).filterMap (λx=>if x matches .aF then ce else am x)=(Hn l).map PV.int:=by
 induction l with
 |nil=>rfl
 |cons a l ih=>cases a with
  |none=>rw[AA,AG];exact ih
  |some i=>rw[AA,AG];exact congrArg _ ih
def X4(l:O OI):qI false .aF (l.map oP)=.ret (decide (ce∈l)):=by
 have h0:∀x∈l.map oP,PV.eR x=true/\PV.hJ x<=150:=λx hx=>by
  obtain⟨o,_,rfl⟩:=Ar.mp hx;cases o<;>simp[oP]
 have h1:IJ .aF (l.map oP):=⟨by simp,gC.mpr λx hx=>(h0 x hx).1,iI λx hx=>(h0 x hx).2⟩;have h2:lI .aF (l.map oP)=decide (ce∈l):=by
  unfold lI;rw[Gh];clear h0 h1
  induction l with
  |nil=>rfl
  |cons a l ih=>
   rw[CW,ih];cases a<;>simp[oP,hG]
 unfold qI;rw[r9 h1,h2];simp
def vt(l:O OI):ka (.cl (l.map oP))=.ret (oP (iy l)):=by
 unfold ka iy;simp only[lc,bU,X4];by_cases h:ce∈l
 .simp[h,oP]
 .rw[if_neg h];simp only[h,k7,lc,Ks h,sk,iE];rfl
def Kx(l:O OI):Ky ((Hn l).map PV.int)=.ret (oP (cQ l)):=by
 unfold Ky cQ;rw[iE,lc]
 split<;>rfl
def G1(l:O OI):(mX (l.map oP) λp2=>Vj (bn (of2 pY p2 .aF) asB) (ca p2))=.ret ((Hn l).map PV.int):=by
 rw[<- Yv];refine xA λx hx=>?_;obtain⟨o,_,rfl⟩:=Ar.mp hx;cases o<;>simp[oP,PV.bZ]
def qm(l:O OI):cI (.cl (l.map oP))=.ret (oP (cQ l)):=by
 unfold cI;simp only[lc,bU,G1,Kx]
def yp(l:O OI):cI (.tup (l.map oP))=.ret (oP (cQ l)):=by
 unfold cI;simp only[lc,aE,G1,Kx]
def LW{a b:O Int}(h:a.Perm b):uO a=uO b:=by
 by_cases c:a=[]
 .subst c;rw[List.nil_perm.mp h]
 .exact Ec (rB (h.mem_iff.mpr (nH (λz=>c (by subst z;exact List.perm_nil.mp h))))) (rB (h.mem_iff.mp (nH c)))
def LV{a b:O OI}(h:a.Perm b):cQ a=cQ b:=by
 have h2:(Hn a).Perm (Hn b):=h.filterMap _;unfold cQ;rw[LW h2];have:(Hn a=[])=(Hn b=[]):=propext ⟨λz=>List.nil_perm.mp (z▸h2),λz=>List.perm_nil.mp (z▸h2)⟩;simp only[this]
def dpl(d:Str):Nat:=if d="split" then 0 else if d="doubled" then 1 else 2
variable{ps:O Int}{d:Str}
def Rc(ps:O Int)(d:Str):Int:=ps.getD (dpl d) 0
theorem YM(d:Str):dpl d<3:=by unfold dpl;split;lia;split<;>lia
theorem V2(h:ps.length=4)(hk:k<4):d9 (bE ps) (k:Int)=am (.int (ps.getD k 0)):=fY (by
 unfold bE;rw[Ag,Ad ∅,Ae,Ad ∅];rfl)
def X0(d:Str):Prop:=d="split"\/d="doubled"\/d="over"
def Tu:qI false (.str d) ([("split":Str),("doubled":Str),("over":Str)].map PV.str)=.ret (decide (d∈[("split":Str),("doubled":Str),("over":Str)])):=by
 unfold qI;rw[r9 ⟨by simp,by simp[dU],by simp[c6]⟩];congr 1;simp only[lI,K3];have e:∀a:Str,(a==d)=decide (d=a):=λa=>by
  by_cases c:a=d
  .subst c;simp
  .have c2:¬d=a:=λz=>c z.symm;simp[c,c2]
 simp[e]
theorem Ou(h:ps.length=4)(hd:X0 d):je (.tup (bE ps)) (.str d)=.ret (.int (Rc ps d)):=by
 unfold je;have hm:d∈[("split":Str),("doubled"),("over")]:=by rcases hd with rfl | rfl | rfl <;> simp
 have hi:Pw ["split","doubled","over"] (.str d)=.ret (.int ((dpl d))):=by
  show W.d8 _ _=_;rw[r9 hm];rcases hd with rfl|rfl|rfl<;>rfl
 have:=YM d;simp only[lc,Tu,hm,if_true,aE,hi,bu,V2 h (k:=dpl d) ∅];rfl
def cv(cs:O OI)(n:Nat):OI:=cs.getD n ce
def GD(cs:O OI)(n:Nat)(c:Int):Nat->Option (Nat×Int×Int)
 |0=>ce
 |k+1=>match cv cs k with
  |none=>GD cs n c k
  |some a=>match GD cs n c k with
   |none=>am (k,a-c,(n:Int)-k)
   |some t=>if (a-c)*t.2.2<t.2.1*((n:Int)-k) then am (k,a-c,(n:Int)-k) else am t
variable{y p q:Int}{cs:O OI}
theorem Vh(hq:0<q)(hb:0<b)(h1:p*b<a*q)(h2:a*y<=x*b)(hy:0<y):p*y<x*q:=by
 have e1:p*y*b<x*q*b:=by
  have h3:=Eo h1 hy;have h4:=CN h2 (AH hq);have a1:p*y*b=p*b*y:=by rw[BO,DK y b,<- BO]
  have a2:a*q*y=a*y*q:=by rw[BO,DK q y,<- BO]
  have a3:x*b*q=x*q*b:=by rw[BO,DK b q,<- BO]
  lia
 exact EH e1 (AH hb)
theorem zM(hq:0<=q)(hb:0<b)(h1:p*b<=a*q)(h2:a*y<=x*b)(hy:0<=y):p*y<=x*q:=by
 have e1:p*y*b<=x*q*b:=by
  have h3:=CN h1 hy;have h4:=CN h2 hq;have a1:p*y*b=p*b*y:=by rw[BO,DK y b,<- BO]
  have a2:a*q*y=a*y*q:=by rw[BO,DK q y,<- BO]
  have a3:x*b*q=x*q*b:=by rw[BO,DK b q,<- BO]
  lia
 exact Int.le_of_mul_le_mul_right e1 hb
theorem tV:∀{k:Nat},GD cs n c k=ce->∀m,m<k->cv cs m=ce
 |0,_,m,h=>absurd h (Fy m)
 |k+1,h,m,hm=>by
  unfold GD at h;cases e:cv cs k with
  |some a=>
   rw[e]at h;cases e2:GD cs n c k with
   |none=>rw[e2]at h;cases h
   |some t=>rw[e2]at h;simp only at h;split at h<;>cases h
  |none=>
   rw[e]at h;by_cases c:m=k
   .subst c;exact e
   .exact tV h m ∅
structure Flq(cs:List OI)(n:Nat)(c:Int)(k:Nat)(t:Nat×Int×Int):Prop where
 lt:t.1<k
 val:cv cs t.1=am (t.2.1+c)
 q:t.2.2=(n:Int)-t.1
 le:∀m a,m<k->cv cs m=am a->t.2.1*((n:Int)-m)<=(a-c)*t.2.2
 fst:∀m a,m<t.1->cv cs m=am a->t.2.1*((n:Int)-m)<(a-c)*t.2.2
theorem gB:∀{k:Nat}{t},k<=n->GD cs n c k=am t->Flq cs n c k t
 |0,t,_,h=>by cases h
 |k+1,t,hk,h=>by
  unfold GD at h;cases e:cv cs k with
  |none=>
   rw[e]at h;have F:=gB ∅ h;refine⟨by have:=F.lt;lia,F.val,F.q,λm a hm ha=>?_,F.fst⟩;by_cases c:m=k
   .subst c;rw[e]at ha;cases ha
   .exact F.le m a ∅ ha
  |some a=>
   rw[e]at h;cases e2:GD cs n c k with
   |none=>
    rw[e2]at h;cases h;have hn:=tV e2;refine⟨B7 _,?_,rfl,λm b hm hb=>?_,λm b hm hb=>?_⟩
    .show cv cs k=am (a-c+c);rw[e];congr 1;lia
    .by_cases c:m=k
     .subst c;rw[e]at hb;cases hb;exact A5 _
     .rw[hn m ∅]at hb;cases hb
    .rw[hn m hm]at hb;cases hb
   |some t'=>
    rw[e2]at h;have F:=gB ∅ e2;have Zm:0<t'.2.2:=by have:=F.lt;rw[F.q];lia
    simp only at h
    split at h
    .next gw=>
     cases h;have key:∀m b,m<k->cv cs m=am b->(a-c)*((n:Int)-m)<(b-c)*((n:Int)-k):=λm b hm hb=>
      Vh ∅ Zm gw (F.le m b hm hb) ∅
     refine⟨B7 _,?_,rfl,λm b hm hb=>?_,λm b hm hb=>key m b hm hb⟩
     .show cv cs k=am (a-c+c);rw[e];congr 1;lia
     .by_cases cc:m=k
      .subst cc;rw[e]at hb;cases hb;exact A5 _
      .exact AH (key m b ∅ hb)
    .next hge=>
     cases h;refine⟨by have:=F.lt;lia,F.val,F.q,λm b hm hb=>?_,F.fst⟩;by_cases cc:m=k
     .subst cc;rw[e]at hb;cases hb;lia
     .exact F.le m b ∅ hb
def gY(cs:O OI)(n:Nat)(c:Int):Nat->Int×Int
 |0=>(0,1)
 |k+1=>match cv cs k with
  |none=>gY cs n c k
  |some a=>if n<k/\(c-a)*(gY cs n c k).2 > (gY cs n c k).1*((k:Int)-n) then (c-a,(k:Int)-n) else gY cs n c k
def hiT(o:Option (Int×Int))(r s:Int):Bool:=match o with|none=>true|some h=>decide (r*h.2 > h.1*s)
def hiL(o:Option (Int×Int))(l:Int×Int):Bool:=match o with|none=>true|some h=>decide (l.1*h.2<h.1*l.2)
def rC(cs:O OI)(n:Nat)(c:Int):Nat->Option (Int×Int)
 |0=>ce
 |k+1=>match cv cs k with
  |none=>rC cs n c k
  |some a=>if k<n/\hiT (rC cs n c k) (c-a) ((k:Int)-n)=true then am (-(c-a),-((k:Int)-n)) else rC cs n c k
structure Lwq(cs:List OI)(n:Nat)(c:Int)(k:Nat)(l:Int×Int):Prop where
 pos:0<l.2
 nn:0<=l.1
 le:∀m a,n<m->m<k->cv cs m=am a->(c-a)*l.2<=l.1*((m:Int)-n)
 is:l=(0,1)\/∃m a,n<m/\m<k/\cv cs m=am a/\l=(c-a,(m:Int)-n)
theorem mC(cs:O OI)(n:Nat)(c:Int):∀k,Lwq cs n c k (gY cs n c k)
 |0=>⟨Gq,A5 _,λm a _ h=>absurd h (Fy m),.inl rfl⟩
 |k+1=>by
  have L:=mC cs n c k;unfold gY;cases e:cv cs k with
  |none=>
   refine⟨L.pos,L.nn,λm a h1 h2 h3=>?_,L.is.imp id λ⟨m,a,h1,h2,h3,h4⟩=>⟨m,a,h1,by lia,h3,h4⟩⟩;by_cases cc:m=k
   .subst cc;rw[e]at h3;cases h3
   .exact L.le m a h1 ∅ h3
  |some b=>
   simp only
   split
   .next h=>
    obtain⟨h0,h⟩:=h;have hp:(0:Int)<(k:Int)-n:=by lia
    have h5:0<c-b:=by
     have:0<=(gY cs n c k).1*((k:Int)-n):=C7 L.nn (AH hp);have h6:0<(c-b)*(gY cs n c k).2:=by lia
     exact Dx h6 L.pos |> λz=>z
    refine⟨hp,AH h5,λm a h1 h2 h3=>?_,.inr ⟨k,b,h0,B7 _,e,rfl⟩⟩;by_cases cc:m=k
    .subst cc;rw[e]at h3;cases h3;exact A5 _
    .have h7:=L.le m a h1 ∅ h3;exact zM ∅ L.pos h7 (AH h) (AH hp)
   .next h=>
    refine⟨L.pos,L.nn,λm a h1 h2 h3=>?_,L.is.imp id λ⟨m,a,h1,h2,h3,h4⟩=>⟨m,a,h1,by lia,h3,h4⟩⟩;by_cases cc:m=k
    .subst cc;rw[e]at h3;cases h3;have:=λz=>h ⟨h1,z⟩;lia
    .exact L.le m a h1 ∅ h3
structure Hiq(cs:List OI)(n:Nat)(c:Int)(k:Nat)(h:Int×Int):Prop where
 is:∃m a,m<n/\m<k/\cv cs m=am a/\h=(a-c,(n:Int)-m)
 le:∀m a,m<n->m<k->cv cs m=am a->h.1*((n:Int)-m)<=(a-c)*h.2
theorem kd:∀{k},rC cs n c k=ce->∀m,m<n->m<k->cv cs m=ce
 |0,_,m,_,h=>absurd h (Fy m)
 |k+1,h,m,h1,h2=>by
  unfold rC at h;cases e:cv cs k with
  |none=>
   rw[e]at h;by_cases cc:m=k
   .subst cc;exact e
   .exact kd h m h1 ∅
  |some b=>
   rw[e]at h;simp only at h
   split at h
   .cases h
   .next hh=>
    rw[h]at hh;have:¬k<n:=λz=>hh ⟨z,rfl⟩;exact kd h m h1 ∅
theorem mD:∀{k h},rC cs n c k=am h->Hiq cs n c k h
 |0,h,e=>by cases e
 |k+1,h,hh=>by
  unfold rC at hh;cases e:cv cs k with
  |none=>
   rw[e]at hh;have H:=mD hh;obtain⟨m,a,h1,h2,h3,h4⟩:=H.is;refine⟨⟨m,a,h1,by lia,h3,h4⟩,λm a h1 h2 h3=>?_⟩;by_cases cc:m=k
   .subst cc;rw[e]at h3;cases h3
   .exact H.le m a h1 ∅ h3
  |some b=>
   rw[e]at hh;simp only at hh
   split at hh
   .next hc=>
    obtain⟨h0,hc⟩:=hc;cases hh;refine⟨⟨k,b,h0,B7 _,e,by rw[C6,C6]⟩,λm a h1 h2 h3=>?_⟩;show -(c-b)*((n:Int)-m)<=(a-c) * -((k:Int)-n);rw[C6,C6];by_cases cc:m=k
    .subst cc;rw[e]at h3;cases h3;exact A5 _
    .cases e2:rC cs n c k with
     |none=>rw[kd e2 m h1 ∅]at h3;cases h3
     |some h'=>
      rw[e2]at hc;have H:=mD e2;have hc:=of_decide_eq_true hc;have h2p:0<h'.2:=by obtain⟨m',a',g1,_,_,g4⟩:=H.is;rw[g4];show(0:Int)<n-m';lia
      have VM:(b-c)*h'.2<h'.1*((n:Int)-k):=by
       have e1:(c-b)*h'.2 = -((b-c)*h'.2):=by rw[<- Int.neg_mul,C6]
       have e2:h'.1*((k:Int)-n) = -(h'.1*((n:Int)-k)):=by rw[<- Int.mul_neg,C6]
       lia
      exact AH (Vh ∅ h2p VM (H.le m a h1 ∅ h3) ∅)
   .next hc=>
    have H:=mD hh;obtain⟨m,a,h1,h2,h3,h4⟩:=H.is;refine⟨⟨m,a,h1,by lia,h3,h4⟩,λm a h1 h2 h3=>?_⟩;by_cases cc:m=k
    .subst cc;rw[e]at h3;cases h3;rw[hh]at hc;have hc:¬((c-b)*h.2 > h.1*((m:Int)-n)):=λz=>hc ⟨h1,decide_eq_true z⟩;have e1:(c-b)*h.2 = -((b-c)*h.2):=by rw[<- Int.neg_mul,C6]
     have e2:h.1*((m:Int)-n) = -(h.1*((n:Int)-m)):=by rw[<- Int.mul_neg,C6]
     rw[e1,e2]at hc;lia
    .exact H.le m a h1 ∅ h3
def red(p q:Int):Int×Int:=(p / Int.gcd p q,q / Int.gcd p q)
def Kf{a b c d:Nat}(hb:0<b)(hd:0<d)(h:a*d=c*b):a / BW a b=c / BW c d:=by
 have g1:0<BW a b:=CC _ hb;have g2:0<BW c d:=CC _ hd;obtain⟨a',ha⟩:=Nat.gcd_dvd_left a b;obtain⟨b',ï⟩:=Nat.gcd_dvd_right a b;obtain⟨c',hc⟩:=Nat.gcd_dvd_left c d;obtain⟨d',Zv⟩:=Nat.gcd_dvd_right c d;have k1:Nat.Coprime a' b':=by
  have:=Em g1;rw[BE g1 ha,BE g1 ï]at this;exact this
 have k2:Nat.Coprime c' d':=by
  have:=Em g2;rw[BE g2 hc,BE g2 Zv]at this;exact this
 have e:a'*d'=c'*b':=by
  generalize BW a b=G at *;generalize BW c d=K at *;subst ha;subst ï;subst hc;subst Zv;have h1:(G*K)*(a'*d')=(G*K)*(c'*b'):=by
   have e1:G*K*(a'*d')=G*a'*(K*d'):=by ac_rfl
   have e2:G*K*(c'*b')=K*c'*(G*b'):=by ac_rfl
   rw[e1,e2,h]
  exact Nat.eq_of_mul_eq_mul_left (Nat.mul_pos g1 g2) h1
 rw[BE g1 ha,BE g2 hc];exact Nat.dvd_antisymm (k1.dvd_of_dvd_mul_right ⟨d',e.symm⟩) (k2.dvd_of_dvd_mul_right ⟨b',e⟩)
theorem WK{p' q':Int}(hp:0<=p)(Ĥ:0<=p')(hq:0<q)(Zn:0<q')(h:p*q'=p'*q):red p q=red p' q':=by
 obtain⟨a,rfl⟩:=Bd hp;obtain⟨b,rfl⟩:=Bd (AH hq);obtain⟨c,rfl⟩:=Bd Ĥ;obtain⟨d,rfl⟩:=Bd (AH Zn);have h:a*d=c*b:=by exact_mod_cast h
 have hb:0<b:=by lia
 have hd:0<d:=by lia
 unfold red;rw[Fc,Fc];have e1:=Kf hb hd h;have e2:b / BW a b=d / BW c d:=by
  by_cases c0:c=0
  .subst c0;have a0:a=0:=by
    rcases Nat.mul_eq_zero.mp (h.trans (Nat.zero_mul b)) with z|z
    .exact z
    .omega
   subst a0;rw[Nat.gcd_zero_left,Nat.gcd_zero_left,Nat.div_self hb,Nat.div_self hd]
  .have c1:0<c:=by lia
   have a1:0<a:=by
    rcases Nat.eq_zero_or_pos a with z|z
    .subst z;rw[Nat.zero_mul]at h;exact absurd h.symm (Nat.ne_of_gt (Nat.mul_pos c1 hb))
    .exact z
   have:=Kf (a:=b) (b:=a) (c:=d) (d:=c) a1 c1 (by rw[Fg b c,Fg d a];exact h.symm);rw[DE b a,DE d c]at this;exact this
 exact Prod.ext (by show((a:Int) / (BW a b:Nat))=_;rw[<- DY,e1,DY]) (by show((b:Int) / (BW a b:Nat))=_;rw[<- DY,e2,DY])
def jl(cs:O OI)(n:Nat):Option (Nat×Int×Int):=match cv cs n with
 |none=>ce
 |some c=>if hiL (rC cs n c cs.length) (gY cs n c cs.length)=true then am (n,red (gY cs n c cs.length).1 (gY cs n c cs.length).2) else ce
def vB(cs:O OI):Nat->Nat->O (Nat×Int×Int)
 |0,_=>[]
 |f+1,n=>match cv cs n with
  |none=>[]
  |some c=>match GD cs n c n with
   |none=>[]
   |some t=>(t.1,red t.2.1 t.2.2)::vB cs f t.1
structure Rk(cs:List OI)(n:Nat)(c p q:Int):Prop where
 val:cv cs n=am c
 hq:0<q
 hp:0<=p
 low:∀m a,n<m->m<cs.length->cv cs m=am a->(c-a)*q<=p*((m:Int)-n)
 up:∀m a,m<n->cv cs m=am a->p*((n:Int)-m)<(a-c)*q
def jJ(h:cv cs n=am c):n<cs.length:=by
 unfold cv at h;rw[Ae]at h;rcases Bs n cs.length with z|z
 .exact z
 .rw[Au z]at h;cases h
theorem KC(O_:Rk cs n c p q)(at_:(p,q)=(0,1)\/∃m a,n<m/\cv cs m=am a/\(p,q)=(c-a,(m:Int)-n)):jl cs n=am (n,red p q):=by
 have L:=mC cs n c cs.length;unfold jl;rw[O_.val];simp only;have e:(gY cs n c cs.length).1*q=p*(gY cs n c cs.length).2:=by
  refine Ec ?_ ?_
  .rcases L.is with z|⟨m,a,h1,h2,h3,h4⟩
   .rw[z];have:=O_.hp;lia
   .rw[h4];exact O_.low m a h1 h2 h3
  .rcases at_ with z|⟨m,a,h1,h2,h3⟩
   .cases z;have:=C7 L.nn (show(0:Int)<=1 by decide);lia
   .cases h3;exact L.le m a h1 (jJ h2) h2
 rw[if_pos,WK L.nn O_.hp L.pos O_.hq e];cases e2:rC cs n c cs.length with
 |none=>rfl
 |some h=>
  refine decide_eq_true ?_;obtain⟨m,a,h1,h2,h3,rfl⟩:=(mD e2).is;have h4:=O_.up m a h1 h3;show(gY cs n c cs.length).1*((n:Int)-m)<(a-c)*(gY cs n c cs.length).2;refine EH (a:=q) ?_ (AH O_.hq);have h5:=Eo h4 L.pos;have a1:(gY cs n c cs.length).1*((n:Int)-m)*q=p*((n:Int)-m)*(gY cs n c cs.length).2:=by
   rw[EG,e,EG]
  rw[a1,EG (a-c)];exact h5
theorem OZ(hc:cv cs n=am c)(hm:n<m)(ha:cv cs m=am a)(hk:k<n)(hb:cv cs k=am b)(hq:0<q)(h1:p*((m:Int)-n)<=(c-a)*q)(h2:(b-c)*q<=p*((n:Int)-k)):jl cs n=ce:=by
 have L:=mC cs n c cs.length;unfold jl;rw[hc];simp only;rw[if_neg];intro h;cases e2:rC cs n c cs.length with
 |none=>rw[kd e2 k hk (jJ hb)]at hb;cases hb
 |some g=>
  rw[e2]at h;have h:=of_decide_eq_true h;have H:=mD e2;have hg:0<g.2:=by obtain⟨m',a',g1,_,_,g4⟩:=H.is;rw[g4];show(0:Int)<n-m';lia
  have l1:=L.le m a hm (jJ ha) ha;have l2:=H.le k b hk (jJ hb) hb;have r1:p*(gY cs n c cs.length).2<=(gY cs n c cs.length).1*q:=by
   have:=zM (p:=p) (q:=q) (a:=c-a) (b:=(m:Int)-n) (x:=(gY cs n c cs.length).1) (y:=(gY cs n c cs.length).2) (AH hq) ∅ h1 l1 (AH L.pos);exact this
  have r2:g.1*q<=p*g.2:=zM (p:=g.1) (q:=g.2) (a:=b-c) (b:=(n:Int)-k) (x:=p) (y:=q) (AH hg) ∅ l2 h2 (AH hq);have r3:=zM (p:=g.1) (q:=g.2) (a:=p) (b:=q) (x:=(gY cs n c cs.length).1) (y:=(gY cs n c cs.length).2) (AH hg) hq r2 r1 (AH L.pos);lia
theorem Kr(O_:Rk cs n c p q){t:Nat×Int×Int}(h:GD cs n c n=am t):Rk cs t.1 (t.2.1+c) t.2.1 t.2.2/\∀m,t.1<m->m<n->jl cs m=ce:=by
 have F:=gB (Ak _) h;have Zm:0<t.2.2:=by have:=F.lt;rw[F.q];lia
 have sl:p*t.2.2<t.2.1*q:=by
  have:=O_.up t.1 _ F.lt F.val;rw[F.q];have e:t.2.1+c-c=t.2.1:=by lia
  rw[e]at this;exact this
 have hp0:0<t.2.1:=by
  have:0<=p*t.2.2:=C7 O_.hp (AH Zm);have h6:0<t.2.1*q:=by lia
  exact Dx h6 O_.hq
 have mid:∀m a,t.1<m->m<n->cv cs m=am a->(t.2.1+c-a)*t.2.2<=t.2.1*((m:Int)-t.1):=λm a h1 h2 h3=>by
  have:=F.le m a h2 h3;have e1:(t.2.1+c-a)*t.2.2=t.2.1*t.2.2-(a-c)*t.2.2:=by rw[<- Int.sub_mul];congr 1;lia
  have e2:t.2.1*((m:Int)-t.1)=t.2.1*t.2.2-t.2.1*((n:Int)-m):=by rw[<- Int.mul_sub,F.q];congr 1;lia
  lia
 refine⟨⟨F.val,Zm,AH hp0,λm a h1 h2 h3=>?_,λm a h1 h3=>?_⟩,λm h1 h2=>?_⟩
 .rcases Nat.lt_trichotomy m n with z|z|z
  .exact mid m a h1 z h3
  .subst z;rw[O_.val]at h3;cases h3;have e1:t.2.1+c-c=t.2.1:=by lia
   rw[e1,F.q];exact A5 _
  .have h4:=O_.low m a z h2 h3;have h5:(c-a)*t.2.2<=t.2.1*((m:Int)-n):=zM (p:=c-a) (q:=(m:Int)-n) (a:=p) (b:=q) (x:=t.2.1) (y:=t.2.2) ∅ O_.hq h4 (AH sl) (AH Zm);have e1:(t.2.1+c-a)*t.2.2=t.2.1*t.2.2+(c-a)*t.2.2:=by rw[<- Int.add_mul];congr 1;lia
   have e2:t.2.1*((m:Int)-t.1)=t.2.1*t.2.2+t.2.1*((m:Int)-n):=by rw[<- FY,F.q];congr 1;lia
   lia
 .have:=F.fst m a h1 h3;have e1:(a-(t.2.1+c))*t.2.2=(a-c)*t.2.2-t.2.1*t.2.2:=by rw[<- Int.sub_mul];congr 1;lia
  have e2:t.2.1*((t.1:Int)-m)=t.2.1*((n:Int)-m)-t.2.1*t.2.2:=by rw[<- Int.mul_sub,F.q];congr 1;lia
  lia
 .cases e:cv cs m with
  |none=>unfold jl;rw[e]
  |some a=>exact OZ (p:=t.2.1) (q:=t.2.2) e h2 O_.val h1 F.val Zm (F.le m a h2 e) (mid m a h1 h2 e)
def bo(cs:O OI):Nat->O (Nat×Int×Int)
 |0=>[]
 |k+1=>(jl cs k).toList++bo cs k
theorem js:∀{n:Nat},k<=n->(∀m,k<=m->m<n->jl cs m=ce)->bo cs n=bo cs k
 |0,h,_=>by rw[Nat.le_zero.mp h]
 |n+1,h,hn=>by
  by_cases c:k=n+1
  .rw[c]
  .rw[bo,hn n ∅ ∅,js ∅ λm h1 h2=>hn m h1 ∅];rfl
theorem iK:∀(f n:Nat) {c p q:Int},n<=f->Rk cs n c p q->bo cs n=vB cs f n
 |0,n,c,p,q,h,O_=>by rw[Nat.le_zero.mp h];rfl
 |f+1,n,c,p,q,h,O_=>by
  unfold vB;rw[O_.val];simp only;cases e:GD cs n c n with
  |none=>
   have hn:=tV e;exact js (Ba _) λm _ h2=>by unfold jl;rw[hn m h2]
  |some t=>
   obtain⟨O2,off⟩:=Kr O_ e;have F:=gB (Ak _) e;have hl:=F.lt;simp only;rw[js (k:=t.1+1) hl λm h1 h2=>off m h1 h2,bo,KC O2 (.inr ⟨n,c,hl,O_.val,by rw[F.q];congr 1;lia⟩)];show _::bo cs t.1=_;rw[iK f t.1 ∅ O2]
theorem GW(hc:cv cs n=am c)(Ë:∀m a,cv cs m=am a->c<=a)(hf:∀m a,m<n->cv cs m=am a->c<a)(f:Nat)(h:n<=f):bo cs cs.length=(n,0,1)::vB cs f n:=by
 have O_:Rk cs n c 0 1:=⟨hc,Gq,A5 _,λm a _ _ h=>by have:=Ë m a h;lia,λm a h1 h2=>by have:=hf m a h1 h2;lia⟩;rw[js (k:=n+1) (jJ hc) λm h1 h2=>?_,bo,KC O_ (.inl rfl),iK f n h O_]
 .rfl
 .cases e:cv cs m with
  |none=>unfold jl;rw[e]
  |some a=>
   have ha:=Ë m a e;have L:=mC cs m a cs.length;unfold jl;rw[e];simp only;rw[if_neg];intro z;cases e2:rC cs m a cs.length with
   |none=>rw[kd e2 n h1 (jJ hc)]at hc;cases hc
   |some g=>
    rw[e2]at z;have z:=of_decide_eq_true z;have H:=mD e2;have hg:0<g.2:=by obtain⟨m',a',g1,_,_,g4⟩:=H.is;rw[g4];show(0:Int)<m-m';lia
    have l2:=H.le n c h1 (jJ hc) hc;have g0:g.1<=0:=by
     have:(c-a)*g.2<=0:=Ds ∅ (AH hg);have h9:g.1*((m:Int)-n)<=0:=by lia
     rcases Int.lt_or_le 0 g.1 with y|y
     .have:=Int.mul_pos y (show(0:Int)<m-n by lia);lia
     .exact y
    have:=C7 L.nn (AH hg);have:=Ds g0 (AH L.pos);lia
variable{d:Dd}
def i5(g:O Sy)(ps:O Int)(i:Nat):Int:=if (sy g i).un.length=2 then ps.getD 3 0 else 0
def acp(h:d∈dl g i):X0 d.1:=by
 unfold dl at h;rcases AD.mp h with rfl|h
 .exact .inr (.inl rfl)
 rcases AZ.mp h with h|h
 .unfold HH at h
  split at h
  .simp at h;rcases h with rfl|rfl<;>exact .inl rfl
  .cases h
 .rcases AZ.mp h with h|h<;>obtain⟨o,_,rfl⟩:=Ar.mp h<;>exact .inr (.inr rfl)
def OB{f:α->β}{a b:List β}(h:a.Perm b):∀{l:List α},b=l.map f->∃ds:List α,a=ds.map f/\ds.Perm l:=by
 induction h with
 |nil=>intro l e;exact⟨[],rfl,by rw[Ee.mp e.symm]⟩
 |cons x _ ih=>
  intro l e;cases l with
  |nil=>cases e
  |cons y l=>
   injection e with e1 e2;obtain⟨ds,h1,h2⟩:=ih e2;exact⟨y::ds,by rw[AA,e1,h1],h2.cons y⟩
 |swap x y r=>
  intro l e
  match l,e with
  |u::v::l,e=>
   injection e with e1 e2;injection e2 with e2 e3;exact⟨v::u::l,by rw[AA,AA,e1,e2,e3],.swap u v l⟩
 |trans _ _ Tv X7=>
  intro l e;obtain⟨ds,h1,h2⟩:=X7 e;obtain⟨es,h3,h4⟩:=Tv h1;exact⟨es,h3,h4.trans h2⟩
theorem wj(f h:α->β):∀l:List α,(l.map f++l.map h).Perm (l.flatMap λo=>[f o,h o])
 |[]=>.nil
 |a::l=>by
  exact((List.perm_middle).trans ((wj f h l).cons _)).cons _
def Ul(g:O Sy)(i:Nat):(dl g i).Perm (dds g i):=((wj (λo=>(("over",i,o):Dd)) (λo=>(("over",o,i):Dd)) (sy g i).be).append_left _).cons _
def GX(G:WG g ws)(h:i<g.length)(hd:d∈dl g i):d.2.1<g.length/\d.2.2<g.length:=YR G h ((Ul g i).mem_iff.mp hd)
theorem Xg(p4:ps.length=4)(hi:i<g.length):gK (tN g) (.tup (bE ps)) (.int (i:Int))=.ret (.int (i5 g ps i)):=by
 unfold gK i5;simp only[lc,mZ hi,nW,iD,t4,a9,bu];by_cases c:(sy g i).un.length=2
 .have h3:=V2 p4 (k:=3) ∅;have c2:(((sy g i).un.length:Int)==2)=true:=by simp[c]
  rw[if_pos c,c2];simp;rw[show((3:Nat):Int)=3 from rfl]at h3;rw[h3];rfl
 .have c2:(((sy g i).un.length:Int)==2)=false:=by simp;lia
  rw[if_neg c,c2];rfl
abbrev kk(j i:Nat):O Key:=[.inl (j:Int),.inl (i:Int)]
theorem Pm{P:Nat->Nat->Prop}(h:∀j i,j<n->i<m->(∀a x,a<j->x<m->P a x)->(∀u,u<i->P j u)->P j i):∀j i,j<n->i<m->P j i:=by
 intro j
 induction j using Ce with
 |ind j ihj=>
  intro i
  induction i using Ce with
  |ind i ihi=>exact λhj hi=>h j i hj hi (λa x ha hx=>ihj a ha x ∅ hx) λu hu=>ihi u hu hj ∅
variable{v m:Int}
def Kz{l:O OI}:v∈Hn l↔am v∈l:=by
 unfold Hn;rw[EE];exact⟨λ⟨o,h1,h2⟩=>by rw[id]at h2;rw[<- h2];exact h1,λh=>⟨_,h,rfl⟩⟩
def dN{l:O OI}(h:am v∈l):∃m,cQ l=am m/\m<=v:=by
 have h:=Kz.mpr h;unfold cQ;rw[if_neg (λz=>by rw[z]at h;cases h)];exact⟨_,rfl,rB h⟩
def fh{l:O OI}(h:cQ l=am m):am m∈l:=by
 unfold cQ at h
 split at h
 .cases h
 .next c=>
  cases h;exact Kz.mp (nH c)
def sum2:iy [am a,am b]=am (a+b):=by simp[iy,Hn]
theorem zG{l m:O OI}(h1:∀v,am v∈l->∃u,am u∈m/\u<=v)(h2:∀v,am v∈m->∃u,am u∈l/\u<=v):cQ l=cQ m:=by
 cases e:cQ l with
 |none=>
  cases e2:cQ m with
  |none=>rfl
  |some v=>
   obtain⟨u,hu,_⟩:=h2 v (fh e2);obtain⟨w,hw,_⟩:=dN hu;rw[e]at hw;cases hw
 |some v=>
  obtain⟨u,hu,lu⟩:=h1 v (fh e);obtain⟨w,hw,lw⟩:=dN hu;obtain⟨x,hx,lx⟩:=h2 w (fh hw);obtain⟨y,hy,ly⟩:=dN hx;rw[e]at hy;cases hy;rw[hw];congr 1;lia
def vJ(l:O OI)(x:OI):cQ [cQ l,x]=cQ (l++[x]):=by
 refine zG (λv h=>?_) λv h=>?_
 .rcases AD.mp h with h|h
  .exact⟨v,BG _ (fh h.symm),A5 _⟩
  .exact⟨v,AQ _ h,A5 _⟩
 .rcases AZ.mp h with h|h
  .obtain⟨m,hm,lm⟩:=dN h;exact⟨m,by rw[hm];exact .head _,lm⟩
  .exact⟨v,.tail _ h,A5 _⟩
def vK(l:O OI):cQ [cQ l,ce]=cQ l:=by
 rw[vJ];refine zG (λv h=>?_) λv h=>⟨v,BG _ h,A5 _⟩;rcases AZ.mp h with h|h
 .exact⟨v,h,A5 _⟩
 .cases AW.mp h
def fC(A B:O OI)(n i:Nat):OI:=if i<=n then iy [A.getD i ce,B.getD (n-i) ce] else ce
variable{a:OI}{A B:O OI}
def tY(A B:O OI)(i n:Nat):OI:=cQ ((Az i).map (fC A B n))
def fD(A B:O OI):O OI:=(Az (A.length+B.length-1)).map (tY A B A.length)
def dB(A:O OI)(m:OI):O OI:=A.map λc=>iy [c,m]
def lG(L:O (O OI))(n:Nat):O OI:=(Az n).map λk=>cQ (L.map λc=>c.getD k ce)
def UY:iy [a,ce]=ce:=by cases a<;>simp[iy]
def UX:iy [ce,a]=ce:=by cases a<;>simp[iy]
def xZ(A B:O OI)(i n:Nat):tY A B (i+1) n=cQ [tY A B i n,fC A B n i]:=by
 unfold tY;rw[vJ,Fz,AR];rfl
theorem aca(h:n<i):tY A B (i+1) n=tY A B i n:=by
 rw[xZ];unfold fC;rw[if_neg ∅];exact vK _
theorem acb(h:i+B.length<=n):tY A B (i+1) n=tY A B i n:=by
 rw[xZ];unfold fC;rw[if_pos ∅,Ae (l:=B),Au ∅];show cQ [_,iy [_,ce]]=_;rw[UY];exact vK _
def wg(A B:O OI):(fD A B).length=A.length+B.length-1:=by unfold fD;rw[Ai,Bq]
theorem Mu(B:O OI):fD [am 0] B=B:=by
 apply BL;intro n;unfold fD;have e:([am 0]:O OI).length+B.length-1=B.length:=by simp
 rw[e];by_cases h:n<B.length
 .rw[Ag,AN h,Ad h];show am (tY [am 0] B 1 n)=_;congr 1;unfold tY fC;have:B.getD n ce=B[n]:=by rw[Ae,Ad h];rfl
  simp only[List.range_one,AA,En,Ba,if_true,Ek,this];cases e2:B[n] with
  |none=>simp[iy,cQ,Hn]
  |some v=>simp[iy,cQ,Hn,uO]
 .rw[Au (by rw[Ai,Bq];lia),Au ∅]
theorem TZ(hx:A.getD i ce=am x)(hy:B.getD j ce=am y):∃m,(fD A B).getD (i+j) ce=am m/\m<=x+y:=by
 have hi:i<A.length:=by
  rcases Bs i A.length with h|h
  .exact h
  .rw[Ae,Au h]at hx;cases hx
 have hj:j<B.length:=by
  rcases Bs j B.length with h|h
  .exact h
  .rw[Ae,Au h]at hy;cases hy
 unfold fD;rw[Ae,Ag,AN ∅];show ∃m,tY A B A.length (i+j)=am m/\_;unfold tY;refine dN (Ar.mpr ⟨i,AX.mpr hi,?_⟩);unfold fC;rw[if_pos ∅,hx,show i+j-i=j by lia,hy,sum2]
theorem K2(h:(fD A B).getD n ce=am v):∃i j x y,i+j=n/\A.getD i ce=am x/\B.getD j ce=am y/\v=x+y:=by
 unfold fD at h;rw[Ae,Ag]at h;rcases Bs n (A.length+B.length-1) with hn|hn
 .rw[AN hn]at h;have h:cQ ((Az A.length).map (fC A B n))=am v:=h;obtain⟨i,hi,e⟩:=Ar.mp (fh h);unfold fC at e
  split at e
  .next Ë=>
   cases ea:A.getD i ce with
   |none=>rw[ea,UX]at e;cases e
   |some x=>
    cases eb:B.getD (n-i) ce with
    |none=>rw[ea,eb,UY]at e;cases e
    |some y=>
     rw[ea,eb,sum2]at e;exact⟨i,n-i,x,y,by lia,ea,eb,(Option.some.inj e).symm⟩
  .cases e
 .rw[Au (by rw[Bq];exact hn)]at h;cases h
def fi:Tr->Nat->Nat
 |.leaf _,_=>1
 |.node l r,j=>if j<l.size then fi l j else if j<l.size+r.size then fi r (j-l.size) else l.au.length+r.au.length
theorem sW:∀t:Tr,fi t (t.size-1)=t.au.length
 |.leaf _=>rfl
 |.node l r=>by
  have h1:=l.size_pos;have h2:=r.size_pos;have hs:(Tr.node l r).size=l.size+r.size+1:=rfl;rw[hs,fi,if_neg ∅,if_neg ∅];simp[Tr.au]
theorem pZ:∀(t:Tr) (j:Nat),1<=fi t j/\fi t j<=t.au.length
 |.leaf _,j=>⟨Ak _,Ak _⟩
 |.node l r,j=>by
  have h1:=l.gn;have h2:=r.gn;have e:(Tr.node l r).au.length=l.au.length+r.au.length:=by simp[Tr.au]
  rw[fi,e]
  split
  .have:=pZ l j;lia
  .split
   .have:=pZ r (j-l.size);lia
   .omega
variable{L:O (O OI)}
theorem nJ:∀(t:Tr) (o j:Nat) {w:Str},j<t.size->en t o j=.word w->fi t j=1
 |.leaf _,_,_,_,_,_=>rfl
 |.node l r,o,j,w,h,e=>by
  have hs:(Tr.node l r).size=l.size+r.size+1:=rfl;rw[en]at e;rw[fi]
  split at e
  .next c=>rw[if_pos c];exact nJ l o j c e
  .next c=>
   rw[if_neg c]
   split at e
   .next d=>rw[if_pos d];exact nJ r _ (j-l.size) ∅ e
   .cases e
theorem nK:∀(t:Tr) (o j:Nat) {a b:Nat},j<t.size->en t o j=.pair a b->∃a' b',a'<t.size/\b'<t.size/\a=o+a'/\b=o+b'/\fi t j=fi t a'+fi t b'
 |.leaf _,_,_,_,_,_,e=>by rw[en]at e;cases e
 |.node l r,o,j,a,b,h,e=>by
  have h1:=l.size_pos;have h2:=r.size_pos;have hs:(Tr.node l r).size=l.size+r.size+1:=rfl;have č:∀k,k<l.size->fi (.node l r) k=fi l k:=λk hk=>by rw[fi,if_pos hk]
  have Č:∀k,k<r.size->fi (.node l r) (l.size+k)=fi r k:=λk hk=>by rw[fi,if_neg ∅,if_pos ∅];congr 1;lia
  rw[en]at e
  split at e
  .next c=>
   obtain⟨a',b',k1,k2,e1,e2,e3⟩:=nK l o j c e;refine⟨a',b',by lia,by lia,e1,e2,?_⟩;rw[č j c,č a' k1,č b' k2];exact e3
  .next c=>
   split at e
   .next d=>
    obtain⟨a',b',k1,k2,e1,e2,e3⟩:=nK r _ (j-l.size) ∅ e;refine⟨l.size+a',l.size+b',by lia,by lia,by lia,by lia,?_⟩;obtain⟨m,rfl⟩:∃m,j=l.size+m:=⟨j-l.size,by lia⟩;rw[CI]at e3;rw[Č a' k1,Č b' k2,Č m ∅];exact e3
   .next d=>
    injection e with e1 e2;have e5:fi (.node l r) j=l.au.length+r.au.length:=by rw[fi,if_neg c,if_neg d]
    refine⟨l.size-1,l.size+(r.size-1),by lia,by lia,by lia,by lia,?_⟩;rw[e5,č _ ∅,Č _ ∅,sW,sW]
def OM(h:i<A.length):d9 (A.map oP) (i:Int)=am (oP (A.getD i ce)):=fY (by rw[Ag,Ad h,Ae,Ad h];rfl)
def vD(A:O OI)(m:OI):gh (.cl (A.map oP)) (oP m)=.ret ((dB A m).map oP):=by
 unfold gh dB;rw[A0];simp only[lc,bU];refine sU λc _=>?_;have e:[oP c,oP m]=[c,m].map oP:=rfl;simp only[g9,lc,e,vt];rfl
theorem vO(hn:n<=1000)(h:∀A∈L,n<=A.length):gj (.cl (L.map λA=>.cl (A.map oP))) (.int (n:Int))=.ret ((lG L n).map oP):=by
 unfold gj lG;simp only[lc,dW,r9 (bC (i:=0) (j:=(n:Int)) ∅ ∅),Bw];rw[kX,A0];refine kQ λk hk=>?_;have hk:=AX.mp hk;have e:(bz (L.map λA=>PV.cl (A.map oP)) λp5=>(bR (bn (ca p5) aA) (ca (.int (k:Int)))))=.ret ((L.map λA=>A.getD k ce).map oP):=by
  rw[A0];refine sU λA hA=>?_;have:=h A hA;simp only[lc,bU,bu,OM (show k<A.length by lia),zn];rfl
 simp only[lc]at e;simp only[g9,lc,bU,e,qm];rfl
theorem RQ{N p:Nat}{f:Nat->OI}{v:OI}(hp:p<N):(((Az N).map f).map oP).set p (oP v)=((Az N).map λn=>if n=p then v else f n).map oP:=by
 rw[<- Fj];congr 1;apply BL;intro n;rw[ES];by_cases h:n<N
 .rw[Ag,AN h];by_cases c:p=n
  .subst c;rw[if_pos rfl,if_pos (by simpa using h),Ag,AN h];simp
  .rw[if_neg c,Ag,AN h];simp[show ¬n=p from λz=>c z.symm]
 .rw[Au (l:=FX _ _) (by simp;lia),Au (l:=FX _ _) (by simp;lia),if_neg ∅]
theorem wd(hA:1<=A.length)(hB:1<=B.length)(h2:A.length+B.length<=200):(nI (.cl (A.map oP)) (.cl (B.map oP))).le (.ret ((fD A B).map oP)):=λQ q=>by
 unfold nI;have hN:((A.length:Int)+(B.length:Int)-1)=((A.length+B.length-1:Nat):Int):=by lia
 generalize hn:A.length+B.length-1=N at hN;have e0:(bz (jG 0 N) λp4=>ca PV.aF)=.ret (((Az N).map (tY A B 0)).map oP):=by
  rw[kX];rw[A0];refine kQ λk _=>rfl
 simp only[lc,f8,eZ,Ai,dX,kr,hN,dW,r9 (bC (i:=0) (j:=(N:Int)) ∅ ∅),Bw,e0,mo,bU,r9 (bW (show A.length<=1000 by lia))];refine dg (λi s=>s=((Az N).map (tY A B i)).map oP) rfl (λi x s hx hs=>?_) (λs hs=>?_)
 .subst hs;obtain⟨y,hy,rfl⟩:=dD hx;rw[Ag]at hy;have hi:i<A.length:=by
   rcases Bs i A.length with h|h
   .exact h
   .rw[Au h]at hy;cases hy
  have ey:y=oP (A.getD i ce):=by
   rw[Ad hi]at hy;rw[Ae,Ad hi];exact(Option.some.inj hy).symm
  subst ey;have es:Jh (.cl (B.map oP)) (.int ((0+i:Nat):Int))=.ret (eH i (B.map oP)):=by
   show W.d8 _ _=_;rw[r9 ⟨by lia,by lia,bW (by rw[Ai];lia)⟩];congr 2;lia
  simp only[kq,mo,lc,f8,es];refine dg (λj s=>s=((Az N).map λn=>if n<i+j then tY A B (i+1) n else tY A B i n).map oP) ?_ (λj x s hx hs=>?_) (λs hs=>?_)
  .congr 1;refine Bk λn _=>?_
   split
   .next c=>exact(aca ∅).symm
   .rfl
  .subst hs;obtain⟨y,hy,rfl⟩:=dD hx;rw[Ag]at hy;have hj:j<B.length:=by
    rcases Bs j B.length with h|h
    .exact h
    .rw[Au h]at hy;cases hy
   have ey:y=oP (B.getD j ce):=by
    rw[Ad hj]at hy;rw[Ae,Ad hj];exact(Option.some.inj hy).symm
   subst ey;have i1:d9 ((((Az N).map λn=>if n<i+j then tY A B (i+1) n else tY A B i n)).map oP) ((i+j:Nat):Int)=am (oP (tY A B i (i+j))):=by
    rw[OM (by simp;lia)];congr 2;rw[Ae,Ag,AN ∅];simp
   have e1:[oP (A.getD i ce),oP (B.getD j ce)]=[A.getD i ce,B.getD j ce].map oP:=rfl;have e2:[oP (tY A B i (i+j)),oP (iy [A.getD i ce,B.getD j ce])]=[tY A B i (i+j),iy [A.getD i ce,B.getD j ce]].map oP:=rfl;simp only[kq,mo,lc,f8,bu,i1,zn,g9,e1,vt,e2,qm];rw[ng (by simp;lia),RQ ∅];congr 1;refine Bk λn _=>?_;have e3:tY A B (i+1) (i+j)=cQ [tY A B i (i+j),iy [A.getD i ce,B.getD j ce]]:=by
    rw[xZ];unfold fC;rw[if_pos ∅,show i+j-i=j by lia]
   by_cases c:n=i+j
   .subst c;rw[if_pos rfl,if_pos ∅,e3]
   .rw[if_neg c];by_cases d:n<i+j
    .rw[if_pos d,if_pos ∅]
    .rw[if_neg d,if_neg ∅]
  .subst hs;rw[bj,Ai];show _=_;congr 1;refine Bk λn _=>?_
   split
   .rfl
   .next c=>exact(acb ∅).symm
 .subst hs;rw[bj,Ai];unfold fD at q;rw[hn]at q;exact q
def rq(T:O (O (O OI)))(j i:Nat):O OI:=(T.getD j []).getD i []
variable{R:Nat->Nat->O OI}
def cP(A:O OI):PV:=.cl (A.map oP)
def yO(T:O (O (O OI))):O PV:=T.map λr=>.cl (r.map cP)
def Nn(ps:O Int)(ask:Str)(R:Nat->Nat->O OI)(a b:Nat)(d:Dd):O OI:=
 if d.1=ask then ce::fD (R a d.2.1) (R b d.2.2) else dB (fD (R a d.2.1) (R b d.2.2)) (am (Rc ps d.1))++[ce]
def Uk(g:O Sy)(ps:O Int)(ask:Str)(R:Nat->Nat->O OI)(e:Ent)(i:Nat):O (O OI):=match e with
 |.word w=>if hm g i w=true then [[am 0]] else []
 |.pair a b=>(dl g i).map (Nn ps ask R a b)
def uj(g:O Sy)(ps:O Int)(ask:Str)(R:Nat->Nat->O OI)(e:Ent)(n:Nat):Nat->O (O OI)
 |0=>[]
 |k+1=>uj g ps ask R e n k++[lG (Uk g ps ask R e k++(sy g k).un.map λu=>dB ((uj g ps ask R e n k).getD u []) (am (i5 g ps k))) n]
def jK(g:O Sy)(ps:O Int)(ask:Str)(t:Tr):Nat->O (O (O OI))
 |0=>[]
 |j+1=>jK g ps ask t j++[uj g ps ask (rq (jK g ps ask t j)) (en t 0 j) (fi t j) g.length]
structure qp(g:List Sy)(t:Tr)(T:List (List (List OI)))(n:Nat):Prop where
 len:T.length=n
 row:∀j,j<n->(T.getD j []).length=g.length
 ent:∀j i,j<n->i<g.length->(rq T j i).length=fi t j
theorem gU(g:O Sy)(ps:O Int)(ask:Str)(R:Nat->Nat->O OI)(e:Ent)(n:Nat):∀k,(uj g ps ask R e n k).length=k
 |0=>rfl
 |k+1=>by rw[uj,Al,gU g ps ask R e n k];rfl
theorem oj{ask:Str}:∀{k:Nat},i<k->(uj g ps ask R e n k).getD i []=lG (Uk g ps ask R e i++(sy g i).un.map λu=>dB ((uj g ps ask R e n i).getD u []) (am (i5 g ps i))) n
 |k+1,h=>by
  rw[uj];by_cases c:i<k
  .rw[kZ (by rw[gU];exact c)];exact oj c
  .have:i=k:=by lia
   subst this;rw[pB (by rw[gU];exact Ak _),gU,Ff];rfl
variable{a b:Nat}{w:Str}
def yo{ask:Str}(h:i<k):((uj g ps ask R e n k).getD i []).length=n:=by
 rw[oj h];unfold lG;rw[Ai,Bq]
theorem iY(g:O Sy)(ps:O Int)(ask:Str)(t:Tr):∀j,(jK g ps ask t j).length=j
 |0=>rfl
 |j+1=>by rw[jK,Al,iY g ps ask t j];rfl
theorem q8{ask:Str}:∀{k:Nat},j<k->(jK g ps ask t k).getD j []=uj g ps ask (rq (jK g ps ask t j)) (en t 0 j) (fi t j) g.length
 |k+1,h=>by
  rw[jK];by_cases c:j<k
  .rw[kZ (by rw[iY];exact c)];exact q8 c
  .have:j=k:=by lia
   subst this;rw[pB (by rw[iY];exact Ak _),iY,Ff];rfl
def jX(g:O Sy)(ps:O Int)(ask:Str)(t:Tr)(k:Nat):qp g t (jK g ps ask t k) k:=
 ⟨iY _ _ _ _ _,λj h=>by rw[q8 h,gU],λj i h hi=>by unfold rq;rw[q8 h,yo hi]⟩
section
variable{ask:Str}{T:O (O (O OI))}
def q9(W':qp g t T n)(hj:j<n):d9 (yO T) (j:Int)=am (.cl ((T.getD j []).map cP)):=fY (by
 unfold yO;rw[Ag,Ad (by rw[W'.len];exact hj),Ae,Ad (by rw[W'.len];exact hj)];rfl)
def V0(h:i<L.length):d9 (L.map cP) (i:Int)=am (cP (L.getD i [])):=fY (by rw[Ag,Ad h,Ae,Ad h];rfl)
def nh(W':qp g t T n)(hj:j<n)(hi:i<g.length):d9 ((T.getD j []).map cP) (i:Int)=am (cP (rq T j i)):=V0 (by rw[W'.row j hj];exact hi)
def acf(a b:Str):of2 i7 (.str a) (.str b)=.ret (.bl (decide (a=b))):=by
 rw[t6,r9 ⟨by simp,by simp,by simp⟩,K3];by_cases c:a=b
 .subst c;simp
 .rw[beq_eq_false_iff_ne.mpr c,decide_eq_false c]
def MF{i:Nat}{T:O (O (O OI))}:cq (.tup (bE ps)) (.str ask) (.cl (yO T)) (Ent.word w).pv (.tup [.str "found",.tup []])=.ret (cP [am 0]):=by
 unfold cq;have i1:d9 [PV.str "found",PV.tup []] 1=am (.tup []):=rfl;have ez:Lk [] []=.ret []:=r9 (by simp);have hv:cH (.str w)=.ret (.tup []):=pA (.word w);simp only[Ent.pv,lc,hv,aE,bu,i1,zn,ez,GA,rL,rK,cU];rfl
theorem MH(p4:ps.length=4)(W':qp g t T n)(ht:t.au.length<=90)(ha:a<n)(hb:b<n)(hd:X0 d.1)(hx:d.2.1<g.length)(hy:d.2.2<g.length):(cq (.tup (bE ps)) (.str ask) (.cl (yO T)) (Ent.pair a b).pv (d2 d)).le (.ret (cP (Nn ps ask (rq T) a b d))):=λQ q=>by
 unfold cq;have i0:d9 [PV.str d.1,PV.tup [.int d.2.1,.int d.2.2]] 0=am (.str d.1):=rfl;have i1:d9 [PV.str d.1,PV.tup [.int (d.2.1:Int),.int (d.2.2:Int)]] 1=am (.tup [.int (d.2.1:Int),.int (d.2.2:Int)]):=rfl;have ez:Lk [PV.int a,.int (b:Int)] [.int (d.2.1:Int),.int (d.2.2:Int)]=.ret [.tup [.int (a:Int),.int (d.2.1:Int)],.tup [.int (b:Int),.int (d.2.2:Int)]]:=r9 (by simp;exact bW ∅);have lA:=W'.ent a _ ha hx;have lB:=W'.ent b _ hb hy;have kA:=pZ t a;have kB:=pZ t b;have h0:PV.cl [PV.int 0]=.cl (([am 0]:O OI).map oP):=rfl;have f1:=wd (A:=[am 0]) (B:=rq T a d.2.1) (by simp) ∅ (by simp;lia);rw[Mu]at f1;have f2:=wd (A:=rq T a d.2.1) (B:=rq T b d.2.2) ∅ ∅ ∅;have fl:=wg (rq T a d.2.1) (rq T b d.2.2);have hv:=pA (.pair a b);simp only[Ent.pv]at hv;simp only[d2,Ent.pv,lc,hv,Ni,aR,AA,En,aE,bu,i0,i1,zn,ez,Ms,GA,kq,bU,q9 W' ha,q9 W' hb,nh W' ha hx,nh W' hb hy,f8,h0];refine W.le.use f1 ?_;simp only[mo];refine W.le.use f2 ?_;simp only[mo,lc,gQ,gP,cU,Aq,if_false,acf,a9];have eN:[PV.aF]=([ce]:O OI).map oP:=rfl;unfold Nn at q;by_cases c:d.1=ask
 .rw[if_pos c]at q;simp only[c,decide_true,if_true,g9,lc,k7,eN];rw[ic (by simp;lia),<- AR];exact q
 .rw[if_neg c]at q;have er:=vD (fD (rq T a d.2.1) (rq T b d.2.2)) (am (Rc ps d.1));simp only[c,decide_false,Aq,if_false,g9,lc,Ou p4 hd,eN];rw[show PV.int (Rc ps d.1)=oP (am (Rc ps d.1)) from rfl,er];simp only[lc];rw[ic (by unfold dB;simp;lia),<- AR];exact q
def MD(G:WG g ws)(p4:ps.length=4)(W':qp g t T n)(ht:t.au.length<=90)(he:Q3 n e)(hi:i<g.length)(q:∀L:O (O OI),L.Perm (Uk g ps ask (rq T) e i)->Q (L.map cP)):(eO (tN g) e.pv (.int (i:Int))).run λl=>(bz l λp=>cq (.tup (bE ps)) (.str ask) (.cl (yO T)) e.pv p).run Q:=by
 cases e with
 |word w=>
  unfold eO;simp only[Ent.pv,lc,f8,rL,rK,cU,mo,if_true,TJ G hi];unfold Uk at q;cases h:hm g i w with
  |false=>
   simp only[h,Aq,if_false]at q ⊢;exact q [] (List.Perm.refl _)
  |true=>
   simp only[h,if_true]at q ⊢;have ef:=MF (ps:=ps) (ask:=ask) (i:=i) (w:=w) (T:=T);simp only[Ent.pv]at ef;simp only[mo,bz,lc,ef];exact q [[am 0]] (List.Perm.refl _)
 |pair a b=>
  refine MM G hi λm hm=>?_;obtain⟨ds,rfl,hp⟩:∃ds:O Dd,m=ds.map d2/\ds.Perm (dl g i):=OB hm rfl;refine jc (λd=>cP (Nn ps ask (rq T) a b d)) (λd hd=>?_) ?_
  .have hdl:=hp.mem_iff.mp hd;obtain⟨h1,h2⟩:=GX G hi hdl;exact MH p4 W' ht he.1 he.2 (acp hdl) h1 h2
  .have e:ds.map (λd=>cP (Nn ps ask (rq T) a b d))=(ds.map (Nn ps ask (rq T) a b)).map cP:=by rw[A0];rfl
   rw[e];exact q _ (hp.map _)
def LZ{M:O (O OI)}(h:L.Perm M)(n:Nat):lG L n=lG M n:=by
 unfold lG;exact Bk λk _=>LV (h.map _)
theorem Uj(W':qp g t T n)(G:WG g ws)(hi:i<g.length)(hj:j<t.size)(hjn:j<=n)(h:A∈Uk g ps ask (rq T) (en t 0 j) i):A.length=fi t j:=by
 cases e:en t 0 j with
 |word w=>
  rw[e]at h;have h:A∈(if hm g i w=true then [[am 0]] else []):=h;rw[nJ t 0 j hj e]
  split at h
  .rw[AW.mp h];rfl
  .cases h
 |pair a b=>
  rw[e]at h;obtain⟨d,hd,rfl⟩:=Ar.mp h;obtain⟨a',b',k1,k2,e1,e2,e3⟩:=nK t 0 j hj e;obtain⟨h1,h2⟩:=b9 t hj e;obtain⟨l1,l2⟩:=GX G hi hd;rw[A2]at e1 e2;subst e1 e2;have lA:=W'.ent a _ ∅ l1;have lB:=W'.ent b _ ∅ l2;have kA:=pZ t a;have kB:=pZ t b;have fl:=wg (rq T a d.2.1) (rq T b d.2.2);unfold Nn
  split
  .rw[Aw];lia
  .unfold dB;rw[Al,Ai];simp;lia
theorem QE(G:WG g ws)(p4:ps.length=4)(ht:t.au.length<=90)(hj:j<t.size)(W':qp g t T j):(de (tN g) (.tup (bE ps)) (.str ask) (.cl (yO T)) (en t 0 j).pv).le (.ret ((uj g ps ask (rq T) (en t 0 j) (fi t j) g.length).map cP)):=λQ q=>by
 unfold de;have hg:=G.len;have VF:=G.pos;have el:Kt d6 [tN g]=.ret (.int g.length):=by simp[tN]
 have em:(eB (bn (bn (ca (en t 0 j).pv) (jo .str)) iu) (ca (.int 1)) (bn (bn (bn (ca (en t 0 j).pv) aA) λl2=>bz l2 λp3=>(c1 d6 (bR (bn (bR (bn (ca (.cl (yO T))) aA) (ca p3)) aA) (ca (.int 0))))) sk))=.ret (.int (fi t j:Nat)):=by
  cases e:en t 0 j with
  |word w=>simp[Ent.pv,nJ t 0 j hj e]
  |pair a b=>
   obtain⟨a',b',k1,k2,e1,e2,e3⟩:=nK t 0 j hj e;obtain⟨h1,h2⟩:=b9 t hj e;rw[A2]at e1 e2;subst e1 e2;have i0:=nh W' h1 VF;have i1:=nh W' h2 VF;have lA:=W'.ent a _ h1 VF;have lB:=W'.ent b _ h2 VF;have z:((0:Nat):Int)=0:=rfl;rw[z]at i0 i1;simp only[Ent.pv,lc,gQ,gP,cU,Aq,if_false,aE,bz,bU,bu,q9 W' h1,q9 W' h2,zn,i0,i1,cP,eZ,Ai,lA,lB];rw[e3];have:sk [PV.int (fi t a:Nat),PV.int (fi t b:Nat)]=.ret (.int (([(fi t a:Int),(fi t b:Int)]).sum)):=by
    show bn (qf ([(fi t a:Int),(fi t b:Int)].map PV.int)) _=_;rw[iE];rfl
   rw[this]
   first|rfl|(congr 2;simp)
 rw[em];simp only[lc,f8,el,dW,r9 (bC (i:=0) (j:=(g.length:Int)) ∅ ∅),Bw,mo];refine km (λi s=>s=(uj g ps ask (rq T) (en t 0 j) (fi t j) i).map cP) rfl (λi s hi hs=>?_) (λs hs=>?_)
 .subst hs;have hc:=gU g ps ask (rq T) (en t 0 j) (fi t j) i;simp only[Xg p4 hi,lc,f8,mo];refine MD (ask:=ask) G p4 W' ht (VW t hj) hi λL hL=>?_;have hlv:=pZ t j;have eu:(bz (aR (sy g i).un) λù=>(g9 (bn (bR (ca ((uj g ps ask (rq T) (en t 0 j) (fi t j) i).map cP)) (ca ù)) λWf=>bn (ca (PV.int (i5 g ps i))) λZR=>gh Wf ZR)))=.ret (((sy g i).un.map λu=>dB ((uj g ps ask (rq T) (en t 0 j) (fi t j) i).getD u []) (am (i5 g ps i))).map cP):=by
   rw[A0];refine kQ λu hu=>?_;have hu:=G.dn i hi u hu;simp only[lc,bu,V0 (show u<(uj g ps ask (rq T) (en t 0 j) (fi t j) i).length by lia),zn];rw[show PV.int (i5 g ps i)=oP (am (i5 g ps i)) from rfl];show g9 (gh (.cl _) _)=_;rw[vD];rfl
  simp only[lc]at eu;have h1:L.length<=63:=by
   rw[hL.length_eq];cases e:en t 0 j with
   |word w=>show(if hm g i w=true then [[am 0]] else []).length<=63;split<;>simp
   |pair a b=>show((dl g i).map _).length<=63;rw[Ai];exact Qz G hi
  simp only[lc,mZ hi,aE,eu,f8,mo];have h2:(sy g i).un.length<=2:=G.yN i hi;have hA:∀A∈L++(sy g i).un.map λu=>dB ((uj g ps ask (rq T) (en t 0 j) (fi t j) i).getD u []) (am (i5 g ps i)),A.length=fi t j:=λA hA=>by
   rcases AZ.mp hA with h|h
   .exact Uj W' G hi hj (Ak _) (hL.mem_iff.mp h)
   .obtain⟨u,hu,rfl⟩:=Ar.mp h;unfold dB;rw[Ai,yo (G.dn i hi u hu)]
  have YG:gj (.cl ((L++(sy g i).un.map λu=>dB ((uj g ps ask (rq T) (en t 0 j) (fi t j) i).getD u []) (am (i5 g ps i))).map cP)) (.int (fi t j:Nat))=.ret ((lG (L++(sy g i).un.map λu=>dB ((uj g ps ask (rq T) (en t 0 j) (fi t j) i).getD u []) (am (i5 g ps i))) (fi t j)).map oP):=vO ∅ λA h=>by rw[hA A h];exact Ak _
  simp only[k7,lc,f8,mo,g9];rw[ic (by rw[Ai,Ai,Ai];lia),<- AR];simp only[mo,YG];rw[fx (by rw[Ai];lia),uj,AR,LZ (hL.append_right _)];rfl
 .subst hs;exact q
def NM(T:O (O OI))(h:∀r∈T,.cl (r.map oP)≠PV.cl s):kl s (T.map cP):=v9.mpr λx hx=>by
 obtain⟨r,hr,rfl⟩:=Ar.mp hx;refine⟨λz=>h r hr (by rw[z]),v9.mpr λy hy=>?_⟩;obtain⟨o,_,rfl⟩:=Ar.mp hy;cases o<;>exact trivial
theorem P0{T:O (O (O OI))}{g:O Sy}{t:Tr}{n:Nat}(W':qp g t T n)(hg:0<g.length)(h0:L≠[])(hL:∀r∈L,r≠[]):PV.free (yO T) (.cl (L.map cP)):=by
 have oc:∀(o:OI) (l:O PV),oP o≠.cl l:=λo l z=>by cases o<;>cases z
 cases T with
 |nil=>
  refine⟨λz=>?_,NM L λr hr z=>?_⟩
  .exact h0 (Ee.mp z)
  .injection z with z;exact hL r hr (Ee.mp z)
 |cons r0 T=>
  have hn:0<n:=by rw[<- W'.len];simp
  have hr0:r0.length=g.length:=W'.row 0 hn;obtain⟨c0,r1,rfl⟩:∃c0 r1,r0=c0::r1:=by
   cases r0 with
   |nil=>simp at hr0;lia
   |cons c0 r1=>exact⟨c0,r1,rfl⟩
  refine⟨λz=>?_,NM L λr hr z=>?_⟩
  .cases L with
   |nil=>exact h0 rfl
   |cons A L=>
    injection z with z _;have z:PV.cl (A.map oP)=.cl ((c0::r1).map cP):=z;injection z with z;cases A with
    |nil=>exact hL _ (.head _) rfl
    |cons o A=>injection z with z _;exact oc _ _ z
  .injection z with z;cases r with
   |nil=>exact hL _ hr rfl
   |cons o A=>injection z with z _;exact oc _ _ z
theorem zg(G:WG g ws)(p4:ps.length=4)(ht:t.au.length<=90):(gM (tN g) t.pv (.tup (bE ps)) (.str ask)).le (.ret (.tup ((lG ((jK g ps ask t t.size).getD (t.size-1) []) (t.au.length)).map oP))):=λQ q=>by
 have hz:t.size<=180:=by have:=t.size_eq;lia
 have hs:=t.size_pos;have hg:=G.len;have VF:=G.pos;unfold gM;simp only[lc,f8];refine W.le.use (nG t ∅) ?_;simp only[aE,mo];refine dg (λi s=>s=yO (jK g ps ask t i)) rfl (λi x s hx hs=>?_) (λs hs=>?_)
 .subst hs;have hi:i<t.size:=by have:=(Aj.mp hx).1;rw[fZ]at this;exact this
  rw[Ag,lO t 0 i hi]at hx;have ex:=(Option.some.inj hx).symm;subst ex;have Wd:=jX g ps ask t i;simp only[g9,lc,f8];refine W.le.use (QE G p4 ht hi Wd) ?_;have hl:=pZ t i;have fr:PV.free (yO (jK g ps ask t i)) (.cl ((uj g ps ask (rq (jK g ps ask t i)) (en t 0 i) (fi t i) g.length).map cP)):=by
   refine P0 Wd VF (λz=>?_) λr hr z=>?_
   .have:=gU g ps ask (rq (jK g ps ask t i)) (en t 0 i) (fi t i) g.length;rw[z]at this;simp at this;lia
   .obtain⟨k,hk⟩:=CZ.mp hr;have h1:=(Aj.mp hk).1;rw[gU]at h1;have h2:=yo (g:=g) (ps:=ps) (ask:=ask) (R:=rq (jK g ps ask t i)) (e:=en t 0 i) (n:=fi t i) h1;rw[Ae,hk,z]at h2;simp at h2;lia
  have ef:P1 (yO (jK g ps ask t i)) (.cl ((uj g ps ask (rq (jK g ps ask t i)) (en t 0 i) (fi t i) g.length).map cP))=.ret (.cl ((uj g ps ask (rq (jK g ps ask t i)) (en t 0 i) (fi t i) g.length).map cP)):=r9 fr;simp only[mo,ef];rw[fx (by unfold yO;rw[Ai,iY];lia),jK];unfold yO;rw[AR];rfl
 .subst hs;rw[fZ];have Wd:=jX g ps ask t t.size;have er:d9 (yO (jK g ps ask t t.size)) (-1)=am (.cl (((jK g ps ask t t.size).getD (t.size-1) []).map cP)):=by
   have hl:=iY g ps ask t t.size;unfold d9 uB;have e:(yO (jK g ps ask t t.size)).length=t.size:=by unfold yO;rw[Ai,hl]
   rw[e,if_neg ∅,if_pos ∅];show(yO (jK g ps ask t t.size))[(-1+(t.size:Int)).toNat]?=_;rw[show(-1+(t.size:Int)).toNat=t.size-1 by lia];unfold yO;rw[Ag,Ad ∅,Ae,Ad ∅];rfl
  have i0:=nh Wd (show t.size-1<t.size by lia) VF;have l0:=Wd.ent (t.size-1) 0 ∅ VF;rw[sW]at l0;have z:((0:Nat):Int)=0:=rfl;rw[z]at i0;have YG:gj (.cl (((jK g ps ask t t.size).getD (t.size-1) []).map cP)) (.int (t.au.length:Nat))=.ret ((lG ((jK g ps ask t t.size).getD (t.size-1) []) t.au.length).map oP):=vO ∅ λA h=>by
   obtain⟨k,hk⟩:=CZ.mp h;have h1:=(Aj.mp hk).1;rw[Wd.row _ ∅]at h1;have h2:=Wd.ent (t.size-1) k ∅ h1;unfold rq at h2;rw[Ae,hk,sW]at h2;exact Gg h2.symm
  simp only[mo,lc,pF,bu,er,zn,bU,i0,cP,eZ,Ai,l0,YG];exact q
end
section
variable{ask:Str}
def rv(g:O Sy)(ps:O Int)(ask:Str)(t:Tr)(j i k:Nat):OI:=(rq (jK g ps ask t t.size) j i).getD k ce
def isA(ask:Str)(d:Dd):Nat:=if d.1=ask then 1 else 0
def Rf(ps:O Int)(ask:Str)(d:Dd):Int:=if d.1=ask then 0 else Rc ps d.1
def wR(h:j<k):rq (jK g ps ask t k) j i=(uj g ps ask (rq (jK g ps ask t j)) (en t 0 j) (fi t j) g.length).getD i []:=by show((jK g ps ask t k).getD j []).getD i []=_;rw[q8 h]
def RX{l:Nat}(h:j<k)(h':j<l):rq (jK g ps ask t k) j i=rq (jK g ps ask t l) j i:=by rw[wR h,wR h']
def MJ{R':Nat->Nat->O OI}(he:Q3 n e)(h:∀a x,a<n->R a x=R' a x):Uk g ps ask R e i=Uk g ps ask R' e i:=by
 cases e with
 |word w=>rfl
 |pair a b=>exact Bk λd _=>by unfold Nn;rw[h a _ he.1,h b _ he.2]
theorem Kb(G:WG g ws)(hj:j<t.size)(hi:i<g.length)(hk:k<fi t j):rv g ps ask t j i k=cQ ((Uk g ps ask (rq (jK g ps ask t t.size)) (en t 0 j) i++(sy g i).un.map λu=>dB (rq (jK g ps ask t t.size) j u) (am (i5 g ps i))).map λA=>A.getD k ce):=by
 unfold rv;rw[wR hj,oj hi];unfold lG;rw[Ae,Ag,AN hk];show cQ _=_;congr 2;rw[MJ (VW t hj) λa x ha=>RX ha (show a<t.size by lia)];congr 1;refine Bk λu hu=>?_;have hu:=G.dn i hi u hu;rw[wR hj,oj hu,oj (show u<g.length by lia)]
theorem zd(hj:j<t.size)(hi:i<g.length)(h:rv g ps ask t j i k=am v):k<fi t j:=by
 have:=(jX g ps ask t t.size).ent j i hj hi;unfold rv at h;rw[Ae]at h;rcases Bs k (fi t j) with c|c
 .exact c
 .rw[Au ∅]at h;cases h
def zi(A:O OI)(m:OI)(k:Nat):(dB A m).getD k ce=match A[k]? with|none=>ce|some c=>iy [c,m]:=by
 unfold dB;rw[Ae,Ag];cases A[k]? <;> rfl
theorem sE(h:(dB A (am m)).getD k ce=am v):∃x,A.getD k ce=am x/\v=m+x:=by
 rw[zi]at h;rw[Ae];cases e:A[k]? with
 |none=>rw[e]at h;cases h
 |some c=>
  rw[e]at h;cases c with
  |none=>have h:iy [ce,am m]=am v:=h;rw[UX]at h;cases h
  |some x=>
   have h:iy [am x,am m]=am v:=h;rw[sum2]at h;exact⟨x,rfl,by have:=Option.some.inj h;lia⟩
theorem zh(h:A.getD k ce=am x):(dB A (am m)).getD k ce=am (m+x):=by
 rw[zi];rw[Ae]at h;cases e:A[k]? with
 |none=>rw[e]at h;cases h
 |some c=>
  rw[e]at h;have h:c=am x:=h;subst h;show iy [am x,am m]=_;rw[sum2];congr 1;lia
theorem YN(h:(Nn ps ask R a b d).getD k ce=am v):∃k1 k2 x y,k=k1+k2+isA ask d/\(R a d.2.1).getD k1 ce=am x/\(R b d.2.2).getD k2 ce=am y/\v=Rf ps ask d+(x+y):=by
 unfold Nn at h;unfold isA Rf
 split at h
 .next c=>
  cases k with
  |zero=>cases h
  |succ k=>
   rw[F3]at h;obtain⟨i,j,x,y,e,h1,h2,h3⟩:=K2 h;exact⟨i,j,x,y,by simp[c];lia,h1,h2,by simp[c];exact h3⟩
 .next c=>
  by_cases hk:k<(dB (fD (R a d.2.1) (R b d.2.2)) (am (Rc ps d.1))).length
  .rw[kZ hk]at h;obtain⟨z,hz,e⟩:=sE h;obtain⟨i,j,x,y,e2,h1,h2,h3⟩:=K2 hz;exact⟨i,j,x,y,by simp[c];lia,h1,h2,by simp[c];lia⟩
  .rw[pB ∅]at h;generalize k-_=m at h;cases m with
   |zero=>cases h
   |succ m=>cases h
theorem YO(h1:(R a d.2.1).getD k1 ce=am x)(h2:(R b d.2.2).getD k2 ce=am y):∃m,(Nn ps ask R a b d).getD (k1+k2+isA ask d) ce=am m/\m<=Rf ps ask d+(x+y):=by
 obtain⟨m,hm,lm⟩:=TZ h1 h2;unfold Nn isA Rf
 split
 .next c=>exact⟨m,by rw[F3];exact hm,by lia⟩
 .next c=>
  have hk:k1+k2<(fD (R a d.2.1) (R b d.2.2)).length:=by
   rcases Bs (k1+k2) (fD (R a d.2.1) (R b d.2.2)).length with z|z
   .exact z
   .rw[Ae,Au z]at hm;cases hm
  refine⟨Rc ps d.1+m,?_,by lia⟩;rw[Nat.add_zero,kZ (by unfold dB;rw[Ai];exact hk)];exact zh hm
def U0(G:WG g ws)(hj:j<t.size)(hi:i<g.length)(h:rv g ps ask t j i k=am v):(∃w,en t 0 j=.word w/\hm g i w=true/\k=0/\v=0)\/(∃a b d k1 k2 x y,en t 0 j=.pair a b/\d∈dl g i/\k=k1+k2+isA ask d/\rv g ps ask t a d.2.1 k1=am x/\rv g ps ask t b d.2.2 k2=am y/\v=Rf ps ask d+(x+y))\/∃u x,u∈(sy g i).un/\rv g ps ask t j u k=am x/\v=i5 g ps i+x:=by
 have hk:=zd hj hi h;rw[Kb G hj hi hk]at h;obtain⟨A,hA,e⟩:=Ar.mp (fh h);rcases AZ.mp hA with hA|hA
 .cases ee:en t 0 j with
  |word w=>
   rw[ee]at hA;have hA:A∈(if hm g i w=true then [[am 0]] else []):=hA
   split at hA
   .next c=>
    rw[AW.mp hA]at e;cases k with
    |zero=>exact .inl ⟨w,rfl,c,rfl,(Option.some.inj e).symm⟩
    |succ k=>cases e
   .cases hA
  |pair a b=>
   rw[ee]at hA;obtain⟨d,hd,rfl⟩:=Ar.mp hA;obtain⟨k1,k2,x,y,e1,h1,h2,e2⟩:=YN e;exact .inr (.inl ⟨a,b,d,k1,k2,x,y,rfl,hd,e1,h1,h2,e2⟩)
 .obtain⟨u,hu,rfl⟩:=Ar.mp hA;obtain⟨x,hx,ex⟩:=sE e;exact .inr (.inr ⟨u,x,hu,hx,ex⟩)
def RT(G:WG g ws)(hj:j<t.size)(hi:i<g.length)(e:en t 0 j=.word w)(h:hm g i w=true):∃m,rv g ps ask t j i 0=am m/\m<=0:=by
 rw[Kb G hj hi (by rw[nJ t 0 j hj e];exact Nat.one_pos),e];refine dN (Ar.mpr ⟨[am 0],BG _ ?_,rfl⟩);show [am 0]∈(if hm g i w=true then [[am 0]] else []);rw[if_pos h];exact .head _
theorem RV(G:WG g ws)(hj:j<t.size)(hi:i<g.length)(e:en t 0 j=.pair a b)(hd:d∈dl g i)(h1:rv g ps ask t a d.2.1 k1=am x)(h2:rv g ps ask t b d.2.2 k2=am y):∃m,rv g ps ask t j i (k1+k2+isA ask d)=am m/\m<=Rf ps ask d+(x+y):=by
 obtain⟨m,hm,lm⟩:=YO (ps:=ps) (ask:=ask) (R:=rq (jK g ps ask t t.size)) (d:=d) h1 h2;obtain⟨a',b',_,_,e1,e2,e3⟩:=nK t 0 j hj e;rw[A2]at e1 e2;subst e1 e2;obtain⟨l1,l2⟩:=GX G hi hd;obtain⟨p1,p2⟩:=b9 t hj e;have q1:=zd ∅ l1 h1;have q2:=zd ∅ l2 h2;have q3:isA ask d<=1:=by unfold isA;split<;>lia
 have hk:k1+k2+isA ask d<fi t j:=by lia
 rw[Kb G hj hi hk,e];obtain⟨n,hn,ln⟩:=dN (l:=(Uk g ps ask (rq (jK g ps ask t t.size)) (.pair a b) i++(sy g i).un.map λu=>dB (rq (jK g ps ask t t.size) j u) (am (i5 g ps i))).map λA=>A.getD (k1+k2+isA ask d) ce) (v:=m) (Ar.mpr ⟨_,BG _ (Ar.mpr ⟨d,hd,rfl⟩),hm⟩);exact⟨n,hn,by lia⟩
theorem RU(G:WG g ws)(hj:j<t.size)(hi:i<g.length)(hu:u∈(sy g i).un)(h1:rv g ps ask t j u k=am x):∃m,rv g ps ask t j i k=am m/\m<=i5 g ps i+x:=by
 have hul:=G.dn i hi u hu;rw[Kb G hj hi (zd hj (show u<g.length by lia) h1)];exact dN (Ar.mpr ⟨_,AQ _ (Ar.mpr ⟨u,hu,rfl⟩),zh h1⟩)
theorem WI(G:WG g ws)(hj:j<t.size){l:Nat}(r:Nq g i l):i<g.length->∀{x},rv g ps ask t j l k=am x->∃m,rv g ps ask t j i k=am m:=by
 induction r with
 |refl=>intro _ x h;exact⟨x,h⟩
 |step hu r ih=>
  intro hi x h;obtain⟨y,hy⟩:=ih (by have:=G.dn _ hi _ hu;lia) h;obtain⟨m,hm,_⟩:=RU G hj hi hu hy;exact⟨m,hm⟩
theorem WH(G:WG g ws)(hw:∀w∈t.au,w∈ws):∀j,j<t.size->∃k m,rv g ps ask t j (g.length-1) k=am m:=by
 have hp:=G.pos;intro j
 induction j using Ce with
 |ind j ih=>
  intro hj;cases e:en t 0 j with
  |word w=>
   obtain⟨i,hi,hr,hh⟩:=G.afC w (hw w (yb t 0 j w hj e));obtain⟨m,hm,_⟩:=RT (ps:=ps) (ask:=ask) G hj hi e hh;obtain⟨m',h'⟩:=WI G hj hr ∅ hm;exact⟨0,m',h'⟩
  |pair a b=>
   obtain⟨h1,h2⟩:=b9 t hj e;obtain⟨k1,x,hx⟩:=ih a h1 ∅;obtain⟨k2,y,hy⟩:=ih b h2 ∅;obtain⟨m,hm,_⟩:=RV G hj (show g.length-1<g.length by lia) e (.head _) hx hy;exact⟨_,m,hm⟩
def fy(g:O Sy)(ps:O Int)(ask:Str)(t:Tr):O OI:=lG ((jK g ps ask t t.size).getD (t.size-1) []) t.au.length
def vC:(fy g ps ask t).length=t.au.length:=by unfold fy lG;rw[Ai,Bq]
theorem N6(hi:i<g.length)(h:rv g ps ask t (t.size-1) i k=am v):∃m,(fy g ps ask t).getD k ce=am m/\m<=v:=by
 have hs:=t.size_pos;have hk:=zd ∅ hi h;rw[sW]at hk;have hr:=(jX g ps ask t t.size).row (t.size-1) ∅;unfold fy lG;rw[Ae,Ag,AN hk];show ∃m,cQ _=am m/\_;refine dN (Ar.mpr ⟨rq (jK g ps ask t t.size) (t.size-1) i,?_,h⟩);unfold rq;rw[Ae (i:=i),Ad ∅];exact B8 _
theorem N5(h:(fy g ps ask t).getD k ce=am v):∃i,i<g.length/\rv g ps ask t (t.size-1) i k=am v:=by
 have hs:=t.size_pos;have hr:=(jX g ps ask t t.size).row (t.size-1) ∅;unfold fy lG at h;rw[Ae,Ag]at h;rcases Bs k t.au.length with hk|hk
 .rw[AN hk]at h;have h:cQ _=am v:=h;obtain⟨A,hA,e⟩:=Ar.mp (fh h);obtain⟨i,hi⟩:=CZ.mp hA;have hil:=(Aj.mp hi).1;refine⟨i,by lia,?_⟩;unfold rv rq;rw[Ae (i:=i),hi];exact e
 .rw[Au (by rw[Bq];exact hk)]at h;cases h
theorem sD(G:WG g ws)(hw:∀w∈t.au,w∈ws):∃k v,(fy g ps ask t).getD k ce=am v:=by
 have hs:=t.size_pos;have hp:=G.pos;obtain⟨k,m,h⟩:=WH (ps:=ps) (ask:=ask) G hw (t.size-1) ∅;obtain⟨v,hv,_⟩:=N6 ∅ h;exact⟨k,v,hv⟩
end
theorem TR{x y:Nat}{Q:PV->Prop}(q:Q (.int (BW x y:Nat))):(cR (.int (x:Int)) (.int (y:Int))).run Q:=by
 unfold cR;simp only[f8];refine iT (λn s=>∃a b:Nat,s=(.int (a:Int),.int (b:Int))/\b=n/\BW a b=BW x y) ⟨x,y,rfl,rfl,rfl⟩ ?_;rintro n s ⟨a,b,rfl,rfl,h⟩;simp only[lc,tZ,a9,mo];by_cases c:0<b
 .have c':(0:Int)<(b:Int):=by lia
  simp only[c',decide_true,if_true,Jc,r9 c',lc,mo];refine⟨trivial,a % b,Nat.mod_lt _ c,b,a % b,?_,rfl,?_⟩
  .rw[Int.natCast_emod]
  .rw[<- h,DE a b,Nat.gcd_rec b a,DE]
 .have c':¬(0:Int)<(b:Int):=by lia
  have b0:b=0:=by lia
  subst b0;simp only[c',decide_false,Aq,if_false];rw[Nat.gcd_zero_right]at h;rw[h];exact q
theorem PR{x y:Nat}{Q:PV->Prop}(q:Q (.int (BW x y:Nat))):(eX (.int (x:Int)) (.int (y:Int))).run Q:=by
 unfold eX;simp only[f8];refine iT (λn s=>∃a b:Nat,s=(.int (a:Int),.int (b:Int))/\b=n/\BW a b=BW x y) ⟨x,y,rfl,rfl,rfl⟩ ?_;rintro n s ⟨a,b,rfl,rfl,h⟩;simp only[lc,tZ,a9,mo];by_cases c:0<b
 .have c':(0:Int)<(b:Int):=by lia
  simp only[c',decide_true,if_true,Jc,r9 c',lc,mo];refine⟨trivial,a % b,Nat.mod_lt _ c,b,a % b,?_,rfl,?_⟩
  .rw[Int.natCast_emod]
  .rw[<- h,DE a b,Nat.gcd_rec b a,DE]
 .have c':¬(0:Int)<(b:Int):=by lia
  have b0:b=0:=by lia
  subst b0;simp only[c',decide_false,Aq,if_false];rw[Nat.gcd_zero_right]at h;rw[h];exact q
abbrev HL(r:Nat×Int×Int):PV:=.tup [.int (r.1:Int),.int r.2.1,.int r.2.2]
def Wo:Option (Nat×Int×Int)->PV
 |none=>.aF
 |some r=>HL r
def fR(cs:O OI)(n:Nat)(c:Int):Option (Nat×Int×Int):=(GD cs n c n).map λt=>(t.1,red t.2.1 t.2.2)
variable{Q:PV->Prop}
def oe(h:i<cs.length):d9 (cs.map oP) (i:Int)=am (oP (cv cs i)):=OM h
theorem P4(hl:cs.length<=1000)(hc:cv cs n=am c)(h0:∀m a,m<n->cv cs m=am a->c<a)(q:Q (Wo (fR cs n c))):(dc (.tup (cs.map oP)) (.int (n:Int))).run Q:=by
 have hn:=jJ hc;unfold dc;simp only[lc,f8,mo,dW,r9 (bC (i:=0) (j:=(n:Int)) ∅ ∅),Bw];refine km (λk s=>s=Wo (GD cs n c k)) rfl (λk s hk hs=>?_) (λs hs=>?_)
 .subst hs;simp only[aE,lc,bu,oe (show k<cs.length by lia),oe hn,hc,zn,oP];show _;rw[GD];cases e:cv cs k with
  |none=>simp[PV.bZ]
  |some a=>
   simp only[lc,f8,nV,PV.bZ,a9,DL,if_true,kr,mo];cases e2:GD cs n c k with
   |none=>simp only[Wo,eS,PV.bZ,lc,a9,if_true,mo]
   |some t=>
    have F:=gB ∅ e2;have j1:d9 [PV.int (t.1:Int),PV.int t.2.1,PV.int t.2.2] 1=am (.int t.2.1):=rfl;have j2:d9 [PV.int (t.1:Int),PV.int t.2.1,PV.int t.2.2] 2=am (.int t.2.2):=rfl;have k1:tz (a-c) t.2.2:=mulR (by have:=F.q;have:=F.lt;lia);have k2:tz t.2.1 ((n:Int)-(k:Int)):=mulR ∅;simp only[Wo,HL,lc,eS,PV.bZ,a9,Aq,if_false,aE,bu,j1,j2,zn,pG,r9 k1,r9 k2,GK,mo];by_cases d:(a-c)*t.2.2<t.2.1*((n:Int)-(k:Int))
    .simp[d]
    .simp[d]
 .subst hs;unfold fR at q;cases e2:GD cs n c n with
  |none=>rw[e2]at q;simp[Wo,PV.bZ];exact q
  |some t=>
   rw[e2]at q;have F:=gB (Ak _) e2;have gw:=F.lt;have hp:=h0 _ _ F.lt F.val;have j0:d9 [PV.int (t.1:Int),PV.int t.2.1,PV.int t.2.2] 0=am (.int t.1):=rfl;have j1:d9 [PV.int (t.1:Int),PV.int t.2.1,PV.int t.2.2] 1=am (.int t.2.1):=rfl;have j2:d9 [PV.int (t.1:Int),PV.int t.2.1,PV.int t.2.2] 2=am (.int t.2.2):=rfl;obtain⟨x,hx⟩:=Bd (show 0<=t.2.1 by lia);obtain⟨y,hy⟩:=Bd (show 0<=t.2.2 by have:=F.q;lia);have y0:0<y:=by have:=F.q;lia
   have y1:y<=1000:=by have:=F.q;lia
   have g0:0<BW x y:=CC _ y0;have g1:BW x y<=y:=Nat.gcd_le_right _ y0;have cd:∀z:Int,Q5 z (BW x y:Nat):=λz=>⟨by lia,by lia⟩;simp only[Wo,HL,lc,f8,eS,PV.bZ,a9,Aq,if_false,aE,bu,j0,j1,j2,zn,hx,hy];refine TR ?_;rw[hx,hy]at j0 j1 j2;simp only[j0,j1,j2,zn,Qf,r9 (cd _),lc,mo];have e3:Wo (Option.map (λt=>(t.1,red t.2.1 t.2.2)) (am t))=.tup [.int t.1,.int ((x:Int) / (BW x y:Nat)),.int ((y:Int) / (BW x y:Nat))]:=by
    show HL (t.1,red t.2.1 t.2.2)=_;rw[hx,hy];rfl
   rw[e3]at q;exact q
def f9(l:O (Nat×Int×Int)):O PV:=l.map HL
theorem nZ(cs:O OI):∀k,(bo cs k).length<=k
 |0=>Ak _
 |k+1=>by
  rw[bo,Al];have:=nZ cs k;have h:(jl cs k).toList.length<=1:=by cases jl cs k<;>simp
  lia
def MC(O_:Rk cs n c p q):(fR cs n c=ce->bo cs n=[])/\∀r,fR cs n c=am r->r.1<n/\bo cs n=r::bo cs r.1/\∃c' p' q',Rk cs r.1 c' p' q':=by
 have h:=iK (n+1) n (Dv _) O_;rw[vB,O_.val]at h;simp only at h;unfold fR;cases e:GD cs n c n with
 |none=>rw[e]at h;exact⟨λ_=>h,λr hr=>(by simp at hr)⟩
 |some t=>
  rw[e]at h;refine⟨λz=>(by simp at z),λr hr=>?_⟩;cases hr;have F:=gB (Ak _) e;obtain⟨O2,_⟩:=Kr O_ e;refine⟨F.lt,?_,_,_,_,O2⟩;rw[h];show _::vB cs n t.1=_::bo cs t.1;rw[iK n t.1 (El F.lt) O2]
theorem X8(hc:cv cs n=am c)(hf:∀m,m<n->cv cs m≠am c):IJ (.int c) (cs.map oP)/\lI (.int c) (cs.map oP)=true/\xN (.int c) (cs.map oP)=n:=by
 have hn:=jJ hc;have fe:∀o:OI,hG (oP o) (.int c)=decide (o=am c):=λo=>by
  cases o with
  |none=>simp[oP,hG]
  |some v=>
   rw[oP,P9];by_cases h:v=c
   .subst h;simp
   .have h2:¬(am v:OI)=am c:=λz=>h (Option.some.inj z);simp[h,h2]
 refine⟨⟨by simp,gC.mpr λx hx=>?_,iI λx hx=>?_⟩,?_,?_⟩
 .obtain⟨o,_,rfl⟩:=Ar.mp hx;cases o<;>simp[oP]
 .obtain⟨o,_,rfl⟩:=Ar.mp hx;cases o<;>simp[oP]
 .unfold lI;rw[Gh,List.any_eq_true];refine⟨am c,?_,?_⟩
  .unfold cv at hc;rw[Ae,Ad hn]at hc;have hc:cs[n]=am c:=hc;rw[<- hc];exact B8 _
  .show hG (oP (am c)) (.int c)=true;rw[fe];simp
 .unfold xN;rw[List.findIdx_map];rw[List.findIdx_eq hn];have at':∀m (hm:m<cs.length),cs[m]=cv cs m:=λm hm=>by unfold cv;rw[Ae,Ad hm];rfl
  refine⟨?_,λm hm=>?_⟩
  .show hG (oP cs[n]) (.int c)=true;rw[fe,at' n hn,hc];simp
  .show hG (oP cs[m]) (.int c)=false;rw[fe,at' m ∅];exact decide_eq_false (hf m hm)
def qk(h:cv cs k=am v):∃n c,cv cs n=am c/\cQ cs=am c/\(∀m a,cv cs m=am a->c<=a)/\∀m a,m<n->cv cs m=am a->c<a:=by
 have mem:∀m a,cv cs m=am a->am a∈cs:=λm a h=>by
  have hm:=jJ h;unfold cv at h;rw[Ae,Ad hm]at h;have h:cs[m]=am a:=h;rw[<- h];exact B8 _
 obtain⟨c,hc,_⟩:=dN (mem k v h);have le:∀m a,cv cs m=am a->c<=a:=λm a h=>by
  obtain⟨c',h1,h2⟩:=dN (mem m a h);rw[hc]at h1;cases h1;exact h2
 have ex:∃n,cv cs n=am c:=by
  obtain⟨n,hn⟩:=CZ.mp (fh hc);exact⟨n,by unfold cv;rw[Ae,hn];rfl⟩
 have key:∀n,cv cs n=am c->∃n,cv cs n=am c/\∀m,m<n->cv cs m≠am c:=by
  intro n
  induction n using Ce with
  |ind n ih=>
   intro hn;by_cases d:∃m,m<n/\cv cs m=am c
   .obtain⟨m,h1,h2⟩:=d;exact ih m h1 h2
   .exact⟨n,hn,λm h1 h2=>d ⟨m,h1,h2⟩⟩
 obtain⟨n0,hn0⟩:=ex;obtain⟨n,h1,h2⟩:=key n0 hn0;refine⟨n,c,h1,hc,le,λm a hm ha=>?_⟩;have:=le m a ha;rcases Int.lt_or_eq_of_le this with z|z
 .exact z
 .rw[<- z]at ha;exact absurd ha (h2 m hm)
theorem aaW(O_:Rk cs n c p q){m:Nat}{a:Int}(hm:m<n)(ha:cv cs m=am a):c<a:=by
 have h1:=O_.up m a hm ha;have h2:0<=p*((n:Int)-m):=C7 O_.hp ∅;have h3:0<(a-c)*q:=by lia
 have:=Dx h3 O_.hq;lia
theorem wq{g t ps:PV}{ask:PV}(hl:cs.length<=900)(hk:cv cs k=am v)(hr:(gM g t ps ask).le (.ret (.tup (cs.map oP))))(q:Q (.tup (f9 (bo cs cs.length)))):(dC g t ps ask).run Q:=by
 obtain⟨n,c,hc,hm,Ë,gw⟩:=qk hk;have hn:=jJ hc;have O_:Rk cs n c 0 1:=⟨hc,Gq,A5 _,λm a _ _ h=>by have:=Ë m a h;lia,λm a h1 h2=>by have:=gw m a h1 h2;lia⟩;have hd:=GW hc Ë gw n (Ak _);unfold dC;simp only[lc,f8];refine W.le.use hr ?_;obtain⟨k1,k2,k3⟩:=X8 hc λm hm z=>by have:=gw m c hm z;lia
 have ei:Tw (cs.map oP) (.int c)=.ret (.int (n:Nat)):=by unfold Tw;rw[r9 ⟨k1,k2⟩,k3]
 have et:NA (.tup (cs.map oP))=.ret (cs.map oP):=rfl;simp only[et,yp,hm,oP,mo,ei];have Á:=nZ cs cs.length;have Ó:=iK n n (Ak _) O_;rw[<- Ó]at hd;refine iT (λm s=>∃l x,s=(f9 l,x)/\((x=.aF/\l=bo cs cs.length)\/∃r c p q,x=HL r/\m=r.1+1/\Rk cs r.1 c p q/\l++r::bo cs r.1=bo cs cs.length)) (n:=n+1) ⟨[],_,rfl,.inr ⟨(n,0,1),c,0,1,rfl,rfl,O_,hd.symm⟩⟩ ?_;rintro m s ⟨l,x,rfl,⟨rfl,rfl⟩|⟨r,c,p,q',rfl,rfl,O_,hw⟩⟩
 .simp only[lc,nV,PV.bZ,F6,a9,mo,Aq,if_false,Yz];exact q
 .have VC:l.length<1000:=by
   have:=congrArg Cb hw;rw[Al,Aw]at this;lia
  have j0:d9 [PV.int (r.1:Int),PV.int r.2.1,PV.int r.2.2] 0=am (.int r.1):=rfl;simp only[lc,nV,PV.bZ,DL,a9,mo,if_true,f8];rw[fx (by unfold f9;rw[Ai];exact VC)];simp only[mo,aE,bu,j0,zn];refine P4 ∅ O_.val (λm a h1 h2=>aaW O_ h1 h2) ?_;obtain⟨d1,d2⟩:=MC O_;have el:f9 l++[HL r]=f9 (l++[r]):=by unfold f9;rw[AR];rfl
  cases e:fR cs r.1 c with
  |none=>
   rw[d1 e]at hw;exact⟨0,Nat.succ_pos _,l++[r],_,(by rw[el];rfl),.inl ⟨rfl,hw⟩⟩
  |some r'=>
   obtain⟨h1,h2,c',p',q2,O'⟩:=d2 r' e;rw[h2]at hw;exact⟨r'.1+1,by lia,l++[r],_,(by rw[el];rfl),.inr ⟨r',c',p',q2,rfl,rfl,O',by rw[Ax];exact hw⟩⟩
def Nh(l:Int×Int):PV:=.tup [.int l.1,.int l.2]
def TN:Option (Int×Int)->PV
 |none=>.aF
 |some h=>Nh h
theorem o8(k:Nat)(hk:k<=1000):0<(gY cs n c k).2/\(gY cs n c k).2<=1000:=by
 have L:=mC cs n c k;refine⟨L.pos,?_⟩;rcases L.is with z|⟨m,a,h1,h2,_,z⟩<;>rw[z]
 .decide
 .show(m:Int)-n<=1000;lia
theorem vN{h:Int×Int}(hn:n<=1000)(e:rC cs n c k=am h):0<h.2/\h.2<=1000:=by
 obtain⟨m,a,h1,h2,_,z⟩:=(mD e).is;rw[z];show(0:Int)<(n:Int)-m/\(n:Int)-m<=1000;lia
theorem Ip(h1:1<=cs.length)(hl:cs.length<=900)(hnn:∀m a,cv cs m=am a->0<=a)(q:Q (.tup (f9 (bo cs cs.length)))):(cS (.tup (cs.map oP))).run Q:=by
 unfold cS;have en:((cs.length:Int)-1 - -1).toNat=cs.length:=by lia
 simp only[lc,f8,nW,Ai,kr,pF,K4,en,mo,W.wQ];refine⟨⟨trivial,bC ∅ ∅⟩,?_⟩;refine dg (λi s=>∃l,s=f9 l/\l++bo cs (cs.length-i)=bo cs cs.length) ⟨[],rfl,by simp⟩ (λi x s hx hs=>?_) (λs hs=>?_)
 .obtain⟨l,rfl,hw⟩:=hs;obtain⟨hi,rfl⟩:=pN hx;obtain⟨n,hn⟩:∃n:Nat,n=cs.length-1-i:=⟨_,rfl⟩;have e1:((cs.length:Int)-1-(i:Int))=(n:Int):=by lia
  have e2:cs.length-i=n+1:=by lia
  have e3:cs.length-(i+1)=n:=by lia
  rw[e1,e3];rw[e2,bo]at hw;have VC:l.length<1000:=by
   have:=congrArg Cb hw;have h2:=nZ cs cs.length;simp only[Al]at this;lia
  have VB:n<cs.length:=by lia
  simp only[lc,f8,nW,Ai,dW,r9 (bC (i:=0) (j:=(cs.length:Int)) ∅ ∅),Bw,mo];cases ec:cv cs n with
  |none=>
   refine km (λk s=>s=(Nh (0,1),.aF)) rfl (λk s hk hs=>?_) (λs hs=>?_)
   .subst hs;simp only[lc,aE,bu,oe VB,ec,zn,oP,eS,PV.bZ,a9,if_true,mo]
   .subst hs;simp only[lc,aE,bu,oe VB,ec,zn,oP,nV,PV.bZ,F6,a9,Aq,if_false,mo];refine⟨l,rfl,?_⟩;unfold jl at hw;rw[ec]at hw;exact hw
  |some c=>
   refine km (λk s=>s=(Nh (gY cs n c k),TN (rC cs n c k))) rfl (λk s hk hs=>?_) (λs hs=>?_)
   .subst hs;rw[gY,rC];cases ek:cv cs k with
    |none=>simp only[lc,aE,bu,oe VB,oe hk,ec,ek,zn,oP,eS,PV.bZ,a9,Aq,if_false,if_true,mo]
    |some a=>
     simp only[lc,aE,bu,oe VB,oe hk,ec,ek,zn,oP,eS,PV.bZ,a9,Aq,if_false,t4];by_cases ckn:k=n
     .subst ckn;simp
     .have c1:((k:Int)==(n:Int))=false:=by simp;lia
      have sl:=o8 (cs:=cs) (n:=n) (c:=c) k ∅;have m1:tz (c-a) (gY cs n c k).2:=mulR ∅;have m2:tz (gY cs n c k).1 ((k:Int)-(n:Int)):=mulR ∅;have i0:∀p:Int×Int,d9 [PV.int p.1,PV.int p.2] 0=am (.int p.1):=λ_=>rfl;have i1:∀p:Int×Int,d9 [PV.int p.1,PV.int p.2] 1=am (.int p.2):=λ_=>rfl;have n1:¬(k<n/\n<k):=by lia
      simp only[c1,Aq,if_false,kr,lc,tZ,GK,a9,Nh,aE,bu,i0,i1,zn];by_cases d:n<k
      .have d':(0:Int)<(k:Int)-n:=by lia
       have d3:¬((k:Int)-n<0):=by lia
       have d4:¬(k<n):=by lia
       by_cases d2:(gY cs n c k).1*((k:Int)-n)<(c-a)*(gY cs n c k).2
       .simp only[d',decide_true,if_true,pG,r9 m1,r9 m2,lc,tZ,d2,a9,d3,decide_false,Aq,if_false,mo];simp[d,d2,d4]
       .simp only[d',decide_true,if_true,pG,r9 m1,r9 m2,lc,tZ,d2,a9,d3,decide_false,Aq,if_false,mo];simp[d2,d4]
      .have d':¬(0:Int)<(k:Int)-n:=by lia
       have d3:(k:Int)-n<0:=by lia
       have d4:k<n:=by lia
       simp only[d',decide_false,Aq,if_false,lc,d3,decide_true,if_true];cases e2:rC cs n c k with
       |none=>
        simp only[TN,eS,PV.bZ,lc,a9,if_true,pF,mo];simp[d,d4,hiT,TN,Nh]
       |some h=>
        have sh:=vN (show n<=1000 by lia) e2;have m3:tz (c-a) h.2:=mulR ∅;have m4:tz h.1 ((k:Int)-(n:Int)):=mulR ∅;simp only[TN,Nh,eS,PV.bZ,lc,a9,Aq,if_false,aE,bu,i0,i1,zn,pG,r9 m3,r9 m4,tZ,pF];by_cases d5:h.1*((k:Int)-n)<(c-a)*h.2
        .simp only[d5,decide_true,if_true,pF,lc,mo];simp[d,d4,hiT,d5,Nh]
        .simp only[d5,decide_false,Aq,if_false,mo];simp[d,d4,hiT,d5,Nh]
   .subst hs;have i0:∀p:Int×Int,d9 [PV.int p.1,PV.int p.2] 0=am (.int p.1):=λ_=>rfl;have i1:∀p:Int×Int,d9 [PV.int p.1,PV.int p.2] 1=am (.int p.2):=λ_=>rfl;have sl:=o8 (cs:=cs) (n:=n) (c:=c) cs.length ∅;have L:=mC cs n c cs.length;have eh:(Wn (t2 qx (ca (TN (rC cs n c cs.length))) (ca .aF)) (t2 oLt (b2 o6 (bR (bn (ca (Nh (gY cs n c cs.length))) aA) (ca (.int 0))) (bR (bn (ca (TN (rC cs n c cs.length))) aA) (ca (.int 1)))) (b2 o6 (bR (bn (ca (TN (rC cs n c cs.length))) aA) (ca (.int 0))) (bR (bn (ca (Nh (gY cs n c cs.length))) aA) (ca (.int 1))))))=.ret (hiL (rC cs n c cs.length) (gY cs n c cs.length)):=by
     cases e2:rC cs n c cs.length with
     |none=>simp only[TN,eS,PV.bZ,lc,a9,if_true];rfl
     |some h=>
      have sh:=vN (show n<=1000 by lia) e2;have m3:tz (gY cs n c cs.length).1 h.2:=mulR ∅;have m4:tz h.1 (gY cs n c cs.length).2:=mulR ∅;simp only[TN,Nh,eS,PV.bZ,lc,a9,Aq,if_false,aE,bu,i0,i1,zn,pG,r9 m3,r9 m4,GK];rfl
    simp only[lc]at eh;simp only[mo,lc,aE,bu,oe VB,ec,zn,oP,nV,PV.bZ,DL,a9,if_true,eh];unfold jl at hw;rw[ec]at hw;simp only at hw;by_cases d:hiL (rC cs n c cs.length) (gY cs n c cs.length)=true
    .rw[if_pos d]at hw ⊢;obtain⟨x,hx⟩:=Bd L.nn;obtain⟨y,hy⟩:=Bd (AH sl.1);have y0:0<y:=by lia
     have y1:y<=1000:=by lia
     have g0:0<BW x y:=CC _ y0;have g1:BW x y<=y:=Nat.gcd_le_right _ y0;have cd:∀z:Int,Q5 z (BW x y:Nat):=λz=>⟨by lia,by lia⟩;have k0:=i0 (gY cs n c cs.length);have k1:=i1 (gY cs n c cs.length);simp only[Nh,aE,lc,bu,k0,k1,zn,f8];rw[hx,hy]at hw ⊢;simp only[mo,f8];refine PR ?_;simp only[Qf,r9 (cd _),lc,mo,iP];refine⟨by unfold f9;rw[Ai];exact Ay VC ⋯,l++[(n,red (x:Int) (y:Int))],?_,?_⟩
     .unfold f9;rw[AR];rfl
     .rw[<- hw,Ax];rfl
    .rw[if_neg d]at hw ⊢;simp only[mo];exact⟨l,rfl,hw⟩
 .obtain⟨l,rfl,hw⟩:=hs;rw[show(n5 ((cs.length:Int)-1) cs.length).length=cs.length from pM _ _,Ff]at hw;have hw:l=bo cs cs.length:=by rw[<- hw,bo,CU]
  subst hw;exact q
inductive WT where
 |lf (p:List Nat) (i:Nat)
 |nd (p:List Nat) (i:Nat) (nm:Str) (a b:WT)
theorem GH{f g:α->Option β}:∀{l:List α},(∀x∈l,f x=g x)->l.filterMap f=l.filterMap g
 |[],_=>rfl
 |x::l,h=>by rw[AG,AG,h x (.head _),GH λy hy=>h y (.tail _ hy)]
def pf(f:Nat->Nat):O Nat->Nat->O Nat
 |[],_=>[]
 |x::r,i=>if f x=f (r.headD i) then pf f r i else f x::pf f r i
variable{x:PV}
def wm(f:Nat->Nat):WT->WT
 |.lf p i=>.lf (pf f p i) (f i)
 |.nd p i nm a b=>.nd (pf f p i) (f i) nm (wm f a) (wm f b)
def TX(t:Tr):(gS t).length=t.size:=by unfold gS;rw[Ai,Bq]
def sc(c:Int):OI->OI:=Option.map (c*·)
theorem sf{S:Type}{N:Nat}{c:S->W Bool}{b:S->W S}{Q:S->Prop}(I:Nat->S->Prop){s:S}(hn:n<N)(h0:I n s)(hs:∀n s,I n s->(c s).run λk=>if k=true then (b s).run (λs'=>∃m,m<n/\I m s') else Q s):(FL.jQ N c b s).run Q:=by
 have key:∀k n s,n<k->I n s->(gW c b k s).run Q:=by
  intro k
  induction k with
  |zero=>intro n s h;lia
  |succ k ih=>
   intro n s h hI;show(bn (c s) _).run Q;rw[f8];refine(c s).mono (λx q=>?_) (hs n s hI);cases x with
   |true=>
    simp at q;show(bn (b s) _).run Q;rw[f8];exact(b s).mono (λs' ⟨m,h1,h2⟩=>ih m s' ∅ h2) q
   |false=>simpa using q
 exact⟨N,Ak _,key N n s hn h0⟩
def P5{l:O Tr}{p:Tr}:((l.take j++p::l.drop j).flatMap Tr.au).Perm (p.au++l.flatMap Tr.au):=by
 have e:l.flatMap Tr.au=(l.take j).flatMap Tr.au++(l.drop j).flatMap Tr.au:=by rw[<- Eg,FG]
 rw[e,Eg,List.flatMap_cons,<- Ax,<- Ax];exact BM.append_right _
theorem X1{l:O PV}{v:PV}(hi:i<=l.length)(hl:l.length<=1000):X2 l (.int (i:Int)) v=.ret (l.take i++v::l.drop i):=by
 show W.d8 _ _=_;rw[r9 ⟨by lia,by lia,by have:=bW hl;rw[a8]at *;lia⟩];rfl
theorem zT{us:O Tr}(hw:us≠[])(h8:us.length<=90)(q:∀t:Tr,t.au.Perm (us.flatMap Tr.au)->Q t.pv)(hx:(bn (ca x) aA)=.ret (us.map Tr.pv)):(bI x).run Q:=by
 have hp:=Dk.mpr hw;unfold bI;rw[f8,hx,mo,f8];refine sf (λn s=>∃ts:O Tr,s=ts.map Tr.pv/\ts.length=n+1/\n<=90/\(ts.flatMap Tr.au).Perm (us.flatMap Tr.au)) (n:=us.length-1) ∅ ⟨us,rfl,by lia,by lia,.refl _⟩ ?_;rintro n s ⟨ts,rfl,hl,hn,Zo⟩;have eg:of2 SM (.int ((ts.map Tr.pv).length:Int)) (.int 1)=.ret (.bl (decide (1<ts.length))):=by
  rw[tZ];congr 2;rw[Dp];simp;lia
 simp only[lc,f8,ya,eg,a9,mo];by_cases h1:1<ts.length
 .rw[decide_eq_true h1,if_pos rfl];simp only[Ai,cx (show(0:Int)<ts.length by lia) ∅];refine bJ λd d0 d1=>?_;obtain⟨j,rfl⟩:∃j:Nat,d=(j:Int):=⟨d.toNat,by lia⟩;obtain⟨a,ha⟩:∃a,ts[j]?=am a:=⟨_,Ad ∅⟩;have el:(ts.eraseIdx j).length=ts.length-1:=by rw[D6];simp;lia
  simp only[sJ (v:=a.pv) (by rw[Ag,ha];rfl) (by rw[Ai];lia),mo,vM,ya,Ai,el,cx (show(0:Int)<((ts.length-1:Nat):Int) by lia) ∅];refine bJ λe e0 e1=>?_;obtain⟨m,rfl⟩:∃m:Nat,e=(m:Int):=⟨e.toNat,by lia⟩;obtain⟨b,hb⟩:∃b,(ts.eraseIdx j)[m]?=am b:=⟨_,Ad ∅⟩;have Ĉ:((ts.eraseIdx j).eraseIdx m).length=ts.length-2:=by rw[D6,el];split<;>lia
  simp only[sJ (v:=b.pv) (by rw[Ag,hb];rfl) (by rw[Ai];lia),mo,vM,ya,Ai,Ĉ,dX,cx (show(0:Int)<((ts.length-2:Nat):Int)+1 by lia) ∅];refine bJ λf f0 f1=>?_;obtain⟨k,rfl⟩:∃k:Nat,f=(k:Int):=⟨f.toNat,by lia⟩;simp only[lc,f8,mo,X1 (l:=((ts.eraseIdx j).eraseIdx m).map Tr.pv) (i:=k) (by rw[Ai,Ĉ];lia) (by rw[Ai,Ĉ];lia),mo];refine⟨n-1,by lia,((ts.eraseIdx j).eraseIdx m).take k++(.node a b)::((ts.eraseIdx j).eraseIdx m).drop k,by simp[Tr.pv,F4,List.map_drop],?_,by lia,?_⟩
  .have:=FG k ((ts.eraseIdx j).eraseIdx m);have:=congrArg Cb this;rw[Al]at this;rw[Al,Aw];lia
  .refine P5.trans (List.Perm.trans ?_ ((tX ha).trans Zo));show((a.au++b.au)++_).Perm _;rw[Ax];exact(tX hb).append_left _
 .rw[decide_eq_false h1];simp
  match ts,hl,Zo,h1 with
  |[t],_,Zo,_=>
   have i0:d9 [t.pv] 0=am t.pv:=rfl;simp[i0];exact q t (by simpa using Zo)
  |_::_::_,_,_,h1=>exact absurd (by simp) h1
theorem vP{S:PV->Prop}:∀{l:O PV},(∀x∈l,∀R:PV->Prop,(∀v,S v->R v)->(f x).run R)->∀{Q:O PV->Prop},(∀m,m.length=l.length->(∀v∈m,S v)->Q m)->(bz l f).run Q
 |[],_,Q,q=>q [] rfl (λ_ h=>nomatch h)
 |x::l,h,Q,q=>by
  show(bn (f x) λy=>bn (bz l f) λm=>ca (y::m)).run Q;refine h x (.head _) _ λv hv=>?_;refine vP (λy hy=>h y (.tail _ hy)) λm hm hs=>?_;exact q (v::m) (by simp[hm]) λu hu=>by
   rcases AD.mp hu with rfl|hu
   .exact hv
   .exact hs u hu
theorem zH:∀{m:O PV}{ls:O Str},(∀v∈m,∃w∈ls,v=PV.str w)->∃ws:O Str,m=ws.map PV.str/\∀w∈ws,w∈ls
 |[],_,_=>⟨[],rfl,λ_ h=>nomatch h⟩
 |v::m,ls,h=>by
  obtain⟨w,hw,rfl⟩:=h v (.head _);obtain⟨ws,rfl,h2⟩:=zH λu hu=>h u (.tail _ hu);exact⟨w::ws,rfl,λx hx=>by
   rcases AD.mp hx with rfl|hx
   .exact hw
   .exact h2 x hx⟩
theorem HW{l:O PV}(h0:l≠[])(h1:l.length<=1000)(q:∀x∈l,Q x):(f6 (.cl l)).run Q:=by
 have hp:=Dk.mpr h0;unfold f6;simp only[lc,f8,bU,eZ,cx (show(0:Int)<l.length by lia) ∅,mo];refine bJ λd d0 d1=>?_;obtain⟨j,rfl⟩:∃j:Nat,d=(j:Int):=⟨d.toNat,by lia⟩;obtain⟨a,ha⟩:∃a,l[j]?=am a:=⟨_,Ad ∅⟩;simp only[bu,fY ha,zn,mo];exact q a (Bb ha)
theorem Uu(l:O PV)(h:a<=l.length):uh l ce (am (a:Int))=l.take a:=by
 unfold uh;have e1:HT.uN l.length 0 (ce:Option Int)=0:=rfl;have e2:HT.uN l.length l.length (am (a:Int))=a:=by
  unfold HT.uN;simp only[];rw[if_neg ∅];lia
 rw[e1,e2];simp
def se:O Str:=["a","ab","b","ba","c","zzzzzzzz","d","aa"]
def T4(ws:O Str):(ws.map Tr.leaf).flatMap Tr.au=ws:=by
 rw[List.flatMap_map];simp[Tr.au,List.flatMap_singleton']
def OX(ws:O Str):ws.map PV.str=(ws.map Tr.leaf).map Tr.pv:=by simp[Tr.pv]
def qe(hw:ws≠[])(h8:ws.length<=90)(q:∀t:Tr,t.au.Perm ws->Q t.pv):(bI (.cl (ws.map PV.str))).run Q:=
 zT (us:=ws.map Tr.leaf) (by simpa using hw) (by simpa using h8) (λt ht=>q t (by rw[T4]at ht;exact ht)) (by rw[OX];simp)
theorem HA{M:Int}(M0:0<M)(M1:M<=10)(q:∀t s:Tr,t.au.Nodup->t.au.length<=8->(∀w∈t.au,w∈se)->(∀w∈s.au,w∈t.au)->s.au.length<=10->Q (.tup [t.pv,s.pv])):(fP (.int 5) (.int M)).run Q:=by
 unfold fP;simp only[lc,f8,cx (show(0:Int)<8 by decide) ⋯];refine bJ λd d0 d1=>?_;obtain⟨a,b,ha,a0,a1,b0,b1⟩:∃a b:Int,d9 [PV.tup [.int 5,.int M],PV.tup [.int 8,.int 10]] (if (d==0)=true then 1 else 0)=am (.tup [.int a,.int b])/\0<a/\a<=8/\0<b/\b<=10:=by
  by_cases h:d=0
  .subst h;exact⟨8,10,rfl,by decide,by decide,by decide,by decide⟩
  .have:(d==0)=false:=by simpa using h
   rw[this];exact⟨5,M,rfl,by decide,by decide,M0,M1⟩
 simp only[t4,T6,lc,bu,ha,zn,mo,kq,cx a0 (show a < 1073741824 by lia)];refine bJ λe e0 e1=>?_;obtain⟨k,hk⟩:∃k:Nat,1+e=(k:Int):=⟨(1+e).toNat,by lia⟩;have hw:uh [PV.str "a",PV.str "ab",PV.str "b",PV.str "ba",PV.str "c",PV.str "zzzzzzzz",PV.str "d",PV.str "aa"] ce (am (k:Int))=(se.take k).map PV.str:=by
  rw[Uu _ (show k<=8 by lia),F4];rfl
 have hl:(se.take k).length=k:=by rw[CK];show min k 8=k;lia
 have Ml:se.take k≠[]:=λz=>by rw[z]at hl;simp at hl;lia
 have ep:∀i:Int,part (.int i)=.ret (am i):=λi=>rfl;simp only[dX,lc,f8,hk,ep,mo,hw];refine qe Ml ∅ λt ht=>?_;have htl:t.au.length=k:=by rw[ht.length_eq,hl]
 simp only[lc,f8,cx b0 (show b<1073741824 by lia)];refine bJ λf f0 f1=>?_;obtain⟨m,hm⟩:∃m:Nat,1+f=(m:Int):=⟨(1+f).toNat,by lia⟩;simp only[dX,mo,hm,dW,r9 (bC (i:=0) (j:=(m:Int)) ∅ ∅),Bw];refine vP (S:=λv=>∃w∈se.take k,v=PV.str w) (λx _ R r=>HW (by simpa using Ml) (by rw[Ai];lia) λv hv=>r v (let ⟨w,h1,h2⟩:=Ar.mp hv;⟨w,h1,h2.symm⟩)) λms Ħ hs=>?_;obtain⟨us,rfl,hu⟩:=zH hs;rw[iG,Ai]at Ħ;refine qe (λz=>by rw[z]at Ħ;simp at Ħ;lia) ∅ λs hp=>?_;exact q t s (ht.nodup_iff.mpr (List.Nodup.sublist (DG _ _) (by decide +kernel))) ∅ (λw h=>List.mem_of_mem_take (ht.mem_iff.mp h)) (λw h=>ht.mem_iff.mpr (hu w (hp.mem_iff.mp h))) (by rw[hp.length_eq];lia)
theorem mE:∀(n:Nat) (t:Tr),t.depth<n->t.size<=400->(a7 n t.pv).le (.ret ((t.nd 0).map Ent.pv))
 |0,_,h,_=>by lia
 |n+1,.leaf w,_,_=>λQ q=>by
  unfold a7;simp[Tr.pv];exact q
 |n+1,.node a b,h,hz=>λQ q=>by
  have hs:(Tr.node a b).size=a.size+b.size+1:=rfl;have hpa:=a.size_pos;have hpb:=b.size_pos;have hd:a.depth<n/\b.depth<n:=by simp[Tr.depth]at h;lia
  unfold a7;have i0:d9 [a.pv,b.pv] 0=am a.pv:=rfl;have i1:d9 [a.pv,b.pv] 1=am b.pv:=rfl;simp only[Tr.pv,lc,f8,gQ,gP,cU,Aq,if_false,aE,bu,i0,i1,zn];refine W.le.use (mE n a hd.1 ∅) ?_;simp only[mo];refine W.le.use (mE n b hd.2 ∅) ?_;simp only[mo,bU];refine dg (λi s=>s=(((b.nd 0).take i).map (WB a.size)).map Ent.pv) (by simp) (λi x s hx hs=>?_) (λs hs=>?_)
  .subst hs;rw[Ag]at hx;cases e:(b.nd 0)[i]? with
   |none=>rw[e]at hx;cases hx
   |some en=>
    rw[e]at hx;have ex:=Option.some.inj hx;subst ex;have hi:i<b.size:=by have:=(Aj.mp e).1;rw[b.bx]at this;exact this
    have et:(b.nd 0).take (i+1)=(b.nd 0).take i++[en]:=by rw[FV,e];rfl
    have al:∀y,iP ((((b.nd 0).take i).map (WB a.size)).map Ent.pv) y=.ret ((((b.nd 0).take i).map (WB a.size)).map Ent.pv++[y]):=λy=>fx (by simp;lia);cases en with
    |word w=>
     simp only[Ent.pv,lc,f8,rL,rK,cU,al,mo,et,if_true];simp[WB,Ent.pv]
    |pair u v=>
     have j0:d9 [PV.int (u:Int),PV.int (v:Int)] 0=am (.int u):=rfl;have j1:d9 [PV.int (u:Int),PV.int (v:Int)] 1=am (.int v):=rfl;simp only[Ent.pv,lc,f8,gQ,gP,cU,Aq,if_false,aE,bu,j0,j1,zn,dX,eZ,Ai,a.bx,al,mo,et];simp[WB,Ent.pv]
  .subst hs;rw[Ci (by rw[Ai];exact Ak _)];have es:(b.nd 0).map (WB a.size)=b.nd a.size:=by rw[<- H9 b 0 a.size,A2]
   rw[es];simp only[lc,f8,k7,kr,eZ,dX,Ai,a.bx,b.bx,mo,ic (l:=(a.nd 0).map Ent.pv) (m:=(b.nd a.size).map Ent.pv) (by simp[a.bx,b.bx];lia)];rw[ic (by simp[a.bx,b.bx];lia)];have e:(Tr.node a b).nd 0=a.nd 0++b.nd a.size++[.pair (a.size-1) (a.size+b.size-1)]:=by rw[Tr.nd];simp
   rw[e]at q;have e1:((a.size:Int)-1)=((a.size-1:Nat):Int):=by lia
   have e2:((a.size:Int)+(b.size:Int)-1)=((a.size+b.size-1:Nat):Int):=by lia
   rw[e1,e2];simpa[Ent.pv]using q
theorem Uv(ds:O Int)(i j:Option Int):∃es:O Int,uh (ds.map PV.int) i j=es.map PV.int/\es.length<=ds.length:=by
 unfold uh;rw[<- List.map_drop,<- F4];exact⟨_,rfl,by rw[CK,Dc];lia⟩
def Uy(B:Int):PV->Option PV
 |.int c=>if B<=c then am (.int c) else ce
 |_=>ce
theorem GJ(B:Int):∀es:O Int,∃ms:O Int,(es.map PV.int).filterMap (Uy B)=ms.map PV.int
 |[]=>⟨[],rfl⟩
 |c::es=>by
  obtain⟨ms,h⟩:=GJ B es;rw[AA,AG,h];by_cases k:B<=c
  .exact⟨c::ms,by simp[Uy,k]⟩
  .exact⟨ms,by simp[Uy,k]⟩
theorem Ov{Q:O PV->Prop}(q:∀s:Int,Q [.hand,.int s,.int 0]):(fU (.cl (ns.map PV.int))).run Q:=by
 obtain⟨es,he,_⟩:=Uv ns ce (am 63);have ep:∀i:Int,part (.int i)=.ret (am i):=λi=>rfl;have p1:Na 10 30:=⟨by decide,by decide,by decide⟩;have p2:Na 10 18:=⟨by decide,by decide,by decide⟩;have m1:(0:Int)<10 ^ (30:Int).toNat:=by decide +kernel
 unfold fU;simp only[lc,f8,eZ,dX,k7,ep,mo,he];refine dg (λi s=>∃k:Int,s=.int k) ⟨_,rfl⟩ (λi x s hx hs=>?_) (λs hs=>?_)
 .obtain⟨k,rfl⟩:=hs;rw[Ag]at hx;cases e:es[i]? with
  |none=>rw[e]at hx;cases hx
  |some c=>
   rw[e]at hx;have:=Option.some.inj hx;subst this;simp only[lc,pG,r9 (mulR (a:=k) (b:=999979) ∅),Jb,r9 p1,Jc,r9 m1,dX,r9 (show(0:Int)<2305843009213693951 by decide),mo];exact⟨_,rfl⟩
 .obtain⟨k,rfl⟩:=hs;refine aa5 (Uy ((10:Int) ^ (18:Int).toNat)) (λx hx=>?_) ?_
  .obtain⟨c,hc,rfl⟩:=Ar.mp hx;simp only[lc,Jb,r9 p2,ace,a9];by_cases h:(10:Int) ^ (18:Int).toNat<=c
   .rw[decide_eq_true h];show _=ca (if _ then _ else _);rw[if_pos h];rfl
   .rw[decide_eq_false h];show _=ca (if _ then _ else _);rw[if_neg h];rfl
  .have:=GJ ((10:Int) ^ (18:Int).toNat) es;simp only[lc,W.wQ,mo];exact⟨this,q k⟩
theorem zl(q:∀ps:O Int,ps.length=4->(∀p∈ps,0<=p/\p<=10 ^ 29)->Q (.tup (bE ps))):df.run Q:=by
 unfold df;have p2:Na 10 25:=⟨by decide,by decide,by decide⟩;simp only[f8,mo,dW,r9 (bC (i:=0) (j:=4) ∅ ∅)];refine km (λi s=>∃ps:O Int,s=bE ps/\ps.length=i/\∀p∈ps,0<=p/\p<=10 ^ 29) ⟨[],rfl,rfl,by simp⟩ ?_ ?_
 .rintro i s hi ⟨ps,rfl,hl,hp⟩;simp only[lc,f8,mo,Jb,r9 p2,cx (show(0:Int)<9 by decide) ⋯];refine bJ λa a0 a1=>?_;simp only[dX,mo,lc,f8,cx (show(0:Int)<10 by decide) ⋯];refine bJ λb b0 b1=>?_;simp only[mo,lc,f8,cx (show(0:Int)<1001 by decide) ⋯];refine bJ λc c0 c1=>?_;refine HW (by simp) (by simp) λx hx=>?_;obtain⟨v,rfl,hv⟩:∃v:Int,x=.int v/\0<=v/\v<=10 ^ 29:=by
   simp at hx;rcases hx with rfl|rfl|rfl|rfl|rfl|rfl|rfl|rfl|rfl
   all_goals first|exact⟨_,rfl,by lia⟩|exact⟨_,rfl,by have:=(by decide +kernel);simp at this;lia⟩
  rw[fx (by rw[fj];lia)];exact⟨ps++[v],by simp[bE],by simp[hl],λp h=>by rcases AZ.mp h with h|h;exact hp p h;rw[AW.mp h];exact hv⟩
 .rintro s ⟨ps,rfl,hl,hp⟩;exact q ps hl hp
theorem Ow(xs:List α):j6 xs ce ce (am (-1))=xs.reverse:=by
 have hb:wf ce ce (am (-1)) xs.length=((xs.length:Int)-1,-1,-1):=rfl;have hr:sliceRange ((xs.length:Int)-1) (-1) (-1)=(Az xs.length).map λk=>xs.length-1-k:=by
  unfold sliceRange;have e:(if (-1:Int) > 0 then (if (xs.length:Int)-1 < -1 then (-1-((xs.length:Int)-1) + -1-1) / -1 else 0) else (if (xs.length:Int)-1 > -1 then ((xs.length:Int)-1 - -1 - -1-1) / (- -1) else 0))=(xs.length:Int):=by
   rw[if_neg ⋯]
   split
   .rw[show(- -1:Int)=1 from rfl,Int.ediv_one];lia
   .omega
  simp only[e,Bw];exact Bk λk hk=>by have:=AX.mp hk;lia
 unfold j6;rw[hb];simp only[hr];apply BL;intro i;have key:∀n,n<=xs.length->((Az n).map λk=>xs.length-1-k).filterMap (xs[·]?)=(Az n).filterMap λk=>xs.reverse[k]?:=λn hn=>by
  rw[List.filterMap_map];exact GH λk hk=>by
   have:=AX.mp hk;show xs[xs.length-1-k]?=_;rw[DS ∅]
 rw[key _ (Ak _)];have all:∀(ys:List α),(Az ys.length).filterMap (λk=>ys[k]?)=ys:=λys=>by
  induction ys with
  |nil=>rfl
  |cons y ys ih=>
   rw[Aw,Fh,AG];simp only[List.getElem?_cons_zero,List.filterMap_map];congr 1
 rw[show xs.length=xs.reverse.length by simp,all]
def At(t s:Tr)(o:Nat):Prop:=o+s.size<=t.size/\∀j,j<s.size->en t 0 (o+j)=en s o j
variable{a b:Tr}{o:Nat}{pp:O Nat}
theorem At.l(h:At t (.node a b) o):At t a o:=by
 have hs:(Tr.node a b).size=a.size+b.size+1:=rfl;refine⟨by have:=h.1;lia,λj hj=>?_⟩;rw[h.2 j ∅,en,if_pos hj]
theorem At.r(h:At t (.node a b) o):At t b (o+a.size):=by
 have hs:(Tr.node a b).size=a.size+b.size+1:=rfl;refine⟨by have:=h.1;lia,λj hj=>?_⟩;rw[A8,h.2 (a.size+j) ∅,en,if_neg ∅,if_pos ∅,CI]
theorem At.top(h:At t (.node a b) o):en t 0 (o+a.size+b.size)=.pair (o+a.size-1) (o+a.size+b.size-1):=by
 have hs:(Tr.node a b).size=a.size+b.size+1:=rfl;rw[A8,h.2 (a.size+b.size) ∅,en,if_neg ∅,if_neg ∅,A8]
abbrev FT:=O (Tr×Nat)
def rt(x:Tr×Nat):Nat:=x.2+x.1.size-1
def pq(x:Tr×Nat):O Nat:=(Az x.1.size).map (x.2+·)
def Pn(a b:Tr)(o:Nat):(pq (.node a b,o)).Perm ((o+a.size+b.size)::(pq (a,o)++pq (b,o+a.size))):=by
 have hs:(Tr.node a b).size=a.size+b.size+1:=rfl;have e:pq (.node a b,o)=(pq (a,o)++pq (b,o+a.size))++[o+a.size+b.size]:=by
  unfold pq;simp only[hs];rw[Fz,AR,List.range_add,AR,A0];simp[Function.comp_def,A8]
 rw[e];exact BM
structure Wk(t:Tr)(fs:FT)(pp:List Nat):Prop where
 pm:(fs.flatMap pq++pp).Perm (Az t.size)
 at':∀x∈fs,At t x.1 x.2
 od:(pp.filter λk=>jN (en t 0 k)).Pairwise λx y=>∀a b,en t 0 y=.pair a b->x≠a/\x≠b
theorem Wk.lt{fs:FT}(h:Wk t fs pp):fs.length+pp.length<=t.size:=by
 have:=h.pm.length_eq;rw[Al,Bq]at this;have:∀l:FT,l.length<=(l.flatMap pq).length:=λl=>by
  induction l with
  |nil=>simp
  |cons x l ih=>
   have:=x.1.size_pos;rw[List.flatMap_cons,Al,Aw];have:(pq x).length=x.1.size:=by unfold pq;simp
   lia
 have:=this fs;lia
def GG{l:FT}{x:Tr×Nat}(h:l[j]?=am x):(pq x++(l.eraseIdx j).flatMap pq).Perm (l.flatMap pq):=by
 induction l generalizing j with
 |nil=>simp at h
 |cons a l ih=>cases j with
  |zero=>simp at h;subst h;simp
  |succ j=>
   simp;have:=(ih (by simpa using h)).append_left (pq a);refine List.Perm.trans ?_ this;rw[<- Ax,<- Ax];exact BM.append_right _
variable{fs:FT}
def Wk.leaf(h:Wk t fs pp)(hj:fs[j]?=am (.leaf w,o)):en t 0 o=.word w/\Wk t (fs.eraseIdx j) (pp++[o]):=by
 have ha:=h.at' _ (Bb hj);have e:en t 0 o=.word w:=ha.2 0 (Nat.zero_lt_one);refine⟨e,?_,λx hx=>h.at' x (E3 hx),?_⟩
 .have:=(GG hj).symm.append_right pp;refine List.Perm.trans ?_ (this.symm.trans h.pm);have e:pq (.leaf w,o)=[o]:=by unfold pq;rfl
  rw[e,<- Ax];refine List.Perm.trans BM ?_;rw[Ax]
 .rw[Cp];have:[o].filter (λk=>jN (en t 0 k))=[]:=by simp[e,jN]
  rw[this,CU];exact h.od
theorem Wk.node(h:Wk t fs pp)(hj:fs[j]?=am (.node a b,o)):en t 0 (o+a.size+b.size)=.pair (o+a.size-1) (o+a.size+b.size-1)/\Wk t (fs.eraseIdx j++[(a,o),(b,o+a.size)]) (pp++[o+a.size+b.size]):=by
 have ha:=h.at' _ (Bb hj);have e:=ha.top;have pa:=a.size_pos;have pb:=b.size_pos;refine⟨e,?_,λx hx=>?_,?_⟩
 .have h1:=(GG hj).symm.append_right pp;refine List.Perm.trans ?_ (h1.symm.trans h.pm);rw[Eg];have e2:[(a,o),(b,o+a.size)].flatMap pq=pq (a,o)++pq (b,o+a.size):=by simp
  rw[e2];have:=Pn a b o;generalize pq (.node a b,o)=I at *;generalize pq (a,o)++pq (b,o+a.size)=J at *;generalize (fs.eraseIdx j).flatMap pq=F at *;generalize o+a.size+b.size=k at *;refine List.Perm.trans ?_ ((this.append_right F).append_right pp).symm;show((F++J)++(pp++[k])).Perm ((k::(J++F))++pp);rw[<- Ax];refine List.Perm.trans BM ?_;show(k::((F++J)++pp)).Perm (k::((J++F)++pp));exact(BM.append_right pp).cons k
 .rcases AZ.mp hx with hx|hx
  .exact h.at' x (E3 hx)
  .simp at hx;rcases hx with rfl|rfl
   .exact ha.l
   .exact ha.r
 .rw[Cp];have:[o+a.size+b.size].filter (λk=>jN (en t 0 k))=[o+a.size+b.size]:=by simp[e,jN]
  rw[this,D5];refine⟨h.od,List.pairwise_singleton _ _,λx hx y hy u v ey=>?_⟩;rw[AW]at hy;subst hy;rw[e]at ey;injection ey with e1 e2;have nd:=(h.pm.nodup_iff.mpr E7);have hxp:=(Bl.mp hx).1;have dj:=(DJ.mp nd).2.2;have mi:∀k,k<a.size+b.size->o+k∈fs.flatMap pq:=λk hk=>List.mem_flatMap.mpr ⟨_,Bb hj,Ar.mpr ⟨k,AX.mpr (by show k<a.size+b.size+1;lia),rfl⟩⟩;refine⟨λz=>?_,λz=>?_⟩
  .have:=mi (a.size-1) ∅;exact dj _ this x hxp ∅
  .have:=mi (a.size+b.size-1) ∅;exact dj _ this x hxp ∅
abbrev LI(t:Tr)(pp:O Nat):O Nat:=pp.filter λk=>jN (en t 0 k)
theorem Xz(f:α->β):∀(l:List α) (j:Nat),(l.map f).eraseIdx j=(l.eraseIdx j).map f
 |[],_=>by simp
 |_::l,0=>by simp
 |_::l,j+1=>by simp[Xz f l j]
def Ia(l:O Nat)(j:Nat):(aR l).eraseIdx j=aR (l.eraseIdx j):=Xz _ l j
theorem Ju(t:Tr)(hz:t.size<=60)(hd:t.depth<12)(q:∀ds d,Dt t ds [] d->d<=13*((splits t).length:Int)->Q (.tup (bE ds))):(cJ t.pv).run Q:=by
 have tp:=t.size_pos;unfold cJ;have e1:R3 [PV.int 0] (.int (t.size:Int))=.ret (bE (Ao t.size 0)):=by
  rw[YA,r9 ⟨by lia,by lia,bW (by simp;lia)⟩];congr 1;rw[Bw]
  induction t.size with
  |zero=>rfl
  |succ n ih=>rw[Di,ET,ih];rfl
 simp only[lc,f8];refine W.le.use (mE 12 t hd ∅) ?_;simp only[lc,eZ,e1,mo,kr,f8,Ai,t.bx];refine sf (λn s=>∃(fs:FT) (pp:O Nat),s=(aR (fs.map rt),aR (LI t pp))/\Wk t fs pp/\n+pp.length=t.size) (n:=t.size) ∅ ⟨[(t,0)],[],?_,⟨?_,?_,?_⟩,rfl⟩ ?_
 .have:((t.size:Int)-1)=((t.size-1:Nat):Int):=by lia
  rw[this];simp[aR,rt]
 .have:pq (t,0)=Az t.size:=by unfold pq;simp
  simp[this]
 .intro x hx;rw[AW]at hx;subst hx;exact⟨by simp,λj hj=>by simp⟩
 .exact List.Pairwise.nil
 .rintro n s ⟨fs,pp,rfl,hW,hn⟩;have gw:=hW.lt;have ă:(aR (fs.map rt)).length=fs.length:=by rw[iD,Ai]
  simp only[lc,mo];cases Mn:fs with
  |nil=>
   subst Mn;have hp:pp.Perm (Az t.size):=by simpa using hW.pm
   have Mi:(LI t pp).Perm (splits t):=hp.filter _;have ģ:=hW.od;have hnd:(LI t pp).Nodup:=Mi.nodup_iff.mpr (List.Nodup.sublist List.filter_sublist E7);generalize hO:LI t pp=od at *;have ģ:od.Pairwise λx y=>∀a b,en t 0 y=.pair a b->x≠a/\x≠b:=hO▸ģ;have ep:∀i:Int,part (.int i)=.ret (am i):=λi=>rfl;have er:RO (aR od) ce ce (am (-1))=.ret (aR od.reverse):=by
    unfold RO;rw[r9 ⋯,Ow];unfold aR;rw[List.map_reverse]
   have eng:qz (PV.int 1)=.ret (.int (-1)):=rfl;have Ml:(aR ([]:O Nat))=[]:=rfl;simp only[En,Ml,List.isEmpty_nil,F6,Aq,if_false,lc,f8,mo,e1,eng,ep,er,eZ];refine dg (λi s=>∃ds d left,s=(bE ds,PV.int d)/\Dt t ds left d/\(∀x,x∈left↔x∈od.take (od.length-i))/\d<=13*(i:Int)) ⟨_,0,_,rfl,Dt.first t,λx=>by rw[Ek,List.take_length];exact Mi.mem_iff.symm,by lia⟩ (λi x s hx hs=>?_) (λs hs=>?_)
   .obtain⟨ds,d,left,rfl,D,hm,TQ⟩:=hs;obtain⟨k,hk,rfl⟩:=OU hx;have hi:i<od.length:=by have:=(Aj.mp hk).1;simpa using this
    rw[DS hi]at hk;have e0:od.length-i=(od.length-1-i)+1:=by lia
    have e9:od.length-(i+1)=od.length-1-i:=by lia
    rw[e0]at hm;have et:od.take (od.length-1-i+1)=od.take (od.length-1-i)++[k]:=by rw[FV,hk];rfl
    rw[et]at hm;generalize od.length-1-i=m at *;have hkl:k∈left:=(hm k).mpr (by simp);obtain⟨ks,kp⟩:=D.lft k hkl;have nd2:(od.take m++[k]).Nodup:=et▸List.Nodup.sublist (DG _ _) hnd;have pw2:(od.take m++[k]).Pairwise λx y=>∀a b,en t 0 y=.pair a b->x≠a/\x≠b:=et▸List.Pairwise.sublist (DG _ _) ģ;cases ek:en t 0 k with
    |word w=>rw[ek]at kp;cases kp
    |pair a b=>
     obtain⟨ha,hb⟩:=b9 t ks ek;have no:∀c,(c=a\/c=b)->c∉left:=λc hc hcl=>by
      rcases AZ.mp ((hm c).mp hcl) with z|z
      .have:=(D5.mp pw2).2.2 c z k (by simp) a b ek;rcases hc with rfl|rfl
       .exact this.1 rfl
       .exact this.2 rfl
      .rw[AW]at z;rcases hc with rfl|rfl<;>lia
     simp only[lc,f8,mo,dX];refine HW (by simp) (by simp) λx hx=>?_;obtain⟨v,rfl,v0,v1⟩:∃v:Int,x=.int v/\0<=v/\v<=12:=by
      simp at hx;rcases hx with rfl|rfl|rfl
      all_goals exact⟨_,rfl,by decide,by decide⟩
     simp only[dX,mo,lc,ng (k:=k) (by rw[fj,D.len];exact ks),Pt];refine⟨_,_,_,rfl,D.next hkl ek (no a (.inl rfl)) (no b (.inr rfl)) v0,λx=>?_,by lia⟩;rw[lP D.ris,hm x,e9];have kn:k∉od.take m:=λz=>(DJ.mp nd2).2.2 k z k (by simp) rfl
     constructor
     .rintro⟨z,nk⟩;rcases AZ.mp z with z|z
      .exact z
      .exact absurd (AW.mp z) nk
     .intro z;exact⟨BG _ z,λy=>kn (y▸z)⟩
   .obtain⟨ds,d,left,rfl,D,hm,TQ⟩:=hs;rw[iD,CD]at hm TQ;have:left=[]:=List.eq_nil_iff_forall_not_mem.mpr λx hx=>by
     have:=(hm x).mp hx;simp at this
    subst this;rw[<- Mi.length_eq]at q;show(lq (bE ds)).run Q;exact q ds d D TQ
  |cons x0 fr=>
   have Ml:0<fs.length:=by rw[Mn];simp
   rw[<- Mn];have hem:(aR (fs.map rt)).isEmpty=false:=by
    rw[List.isEmpty_eq_false_iff];intro z;rw[z]at ă;simp at ă;lia
   rw[hem];simp only[DL,if_true,lc,f8,ya,ă,mo,cx (show(0:Int)<fs.length by lia) ∅];refine bJ λd d0 d1=>?_;obtain⟨j,rfl⟩:∃j:Nat,d=(j:Int):=⟨d.toNat,by lia⟩;obtain⟨x,hx⟩:∃x,fs[j]?=am x:=⟨_,Ad ∅⟩;have hat:=hW.at' _ (Bb hx);have xs:=x.1.size_pos;have hrt:rt x<t.size:=by unfold rt;have:=hat.1;lia
   simp only[sJ (l:=aR (fs.map rt)) (j:=j) (v:=.int (rt x:Int)) (by unfold aR;rw[Ag,Ag,hx];rfl) (by rw[ă];lia),mo,bU,bu,Xw t hrt,zn,lc,f8,Ia];have em:(fs.map rt).eraseIdx j=(fs.eraseIdx j).map rt:=Xz _ _ _;have dG:(LI t pp).length<=pp.length:=B4 _ _;obtain⟨s,o⟩:=x;cases s with
   |leaf w=>
    obtain⟨e,W'⟩:=hW.leaf hx;have ĵ:rt (.leaf w,o)=o:=rfl;simp only[ĵ,e,Ent.pv,rL,rK,cU,lc,mo];refine⟨n-1,by lia,fs.eraseIdx j,pp++[o],?_,W',by simp;lia⟩;rw[em];have:LI t (pp++[o])=LI t pp:=by simp[LI,Cp,e,jN]
    rw[this]
   |node a b=>
    obtain⟨e,W'⟩:=hW.node hx;have ĵ:rt (.node a b,o)=o+a.size+b.size:=by show o+(a.size+b.size+1)-1=_;lia
    have ap:=a.size_pos;have bp:=b.size_pos;have al:iP (aR (LI t pp)) (.int ((o+a.size+b.size:Nat):Int))=.ret (aR (LI t pp)++[.int ((o+a.size+b.size:Nat):Int)]):=fx (by rw[iD];lia);have cl:om (aR ((fs.map rt).eraseIdx j)) [.int ((o+a.size-1:Nat):Int),.int ((o+a.size+b.size-1:Nat):Int)]=.ret (aR ((fs.map rt).eraseIdx j)++[.int ((o+a.size-1:Nat):Int),.int ((o+a.size+b.size-1:Nat):Int)]):=ic (by rw[iD,D6];simp;split<;>lia);simp only[ĵ,e,Ent.pv,gQ,gP,cU,lc,mo,al,cl,aE];refine⟨n-1,by lia,fs.eraseIdx j++[(a,o),(b,o+a.size)],pp++[o+a.size+b.size],?_,W',by simp;lia⟩;have e2:LI t (pp++[o+a.size+b.size])=LI t pp++[o+a.size+b.size]:=by simp[LI,Cp,e,jN]
    rw[em,e2];simp[aR,rt]
def p2{a b:Nat}(h:a<=b):2 ^ a<=2 ^ b:=Cz ⋯ h
structure Flat(g:List Sy)(ht:Nat->Nat):Prop where
 le:∀i,i<g.length->ht i<=14
 dn:∀i,i<g.length->∀u∈(sy g i).un,ht u<ht i
theorem GI(hz:t.size<=15):∃ht,Flat (gS t) ht:=by
 have G:WG (gS t) t.au:=oI ∅;have hl:=TX t;exact⟨λi=>i,λi hi=>by lia,λi hi u hu=>G.dn i hi u hu⟩
theorem Ja(D:DD t ds)(hb:(aJ t ds).length<=15):∃ht,Flat (dS t ds (aJ t ds)) ht:=by
 have nd:=fH t ds (aJ t ds) (aJ t ds).length;have ok:=D.ok;have lt:=@eI t ds (aJ t ds) (aJ t ds).length;unfold okD at ok;have hS:∀i p,(aK t ds (aJ t ds) (aJ t ds).length)[i]?=am p->sy (dS t ds (aJ t ds)) i=⟨HY (en t 0 p.1) p.1,p.2,(G4 (en t 0 p.1) p.1 (ds.getD p.1 0) ((aJ t ds).getD p.2 0)).map λx=>(aK t ds (aJ t ds) (aJ t ds).length).idxOf (x,p.2-1),_⟩:=λi p hp=>by
  unfold sy dS;rw[Ae,Ag,hp];rfl
 have hL:(dS t ds (aJ t ds)).length=(aK t ds (aJ t ds) (aJ t ds).length).length:=QD t ds _;generalize aK t ds (aJ t ds) (aJ t ds).length=L at *;have get:∀i,i<(dS t ds (aJ t ds)).length->∃p,L[i]?=am p/\p∈L:=λi hi=>by
  rw[hL]at hi;exact⟨L[i],Ad hi,B8 hi⟩
 refine⟨λi=>(L.getD i (0,0)).2,λi hi=>?_,λi hi u hu=>?_⟩
 .obtain⟨p,hp,hm⟩:=get i hi;have:=(lt hm).1;show(L.getD i (0,0)).2<=14;rw[Ae,hp];show p.2<=14;lia
 .obtain⟨p,hp,hm⟩:=get i hi;rw[hS i p hp]at hu;obtain⟨x,hx,rfl⟩:=Ar.mp hu;obtain⟨h1,h2⟩:=ok p hm x hx;show(L.getD _ (0,0)).2<(L.getD i (0,0)).2;rw[Ae,Ae,hp,yw h2];show p.2-1<p.2;lia
variable{a:Int}{d:Nat}
theorem HF(h8:t.au.length<=8)(q:∀s,WG s t.au->(∃ht,Flat s ht)->Q (tN s)):(eB (t2 i7 ((.int 2)\λZQ=>bS ZQ) (ca (.int 0))) (t.pv\λx37=>gk x37) (t.pv\λx38=>bn (t.pv\λx39=>cJ x39) λx40=>kT x38 x40)).run Q:=by
 have hz:=t.size_eq;have hdp:=t.ue;have abp:t.size<=15:=by lia
 simp only[lc,f8,cx (show(0:Int)<2 by decide) ⋯];refine bJ λd _ _=>?_;simp only[t4,a9,mo];cases c:d==0 with
 |true=>
  simp only[if_true];refine v5 t ∅ Q ?_;rw[<- VN];exact q _ (oI ∅) (GI abp)
 |false=>
  simp only[Aq,if_false,f8];refine Ju t ∅ ∅ λds d D TQ=>?_;have Yf:(splits t).length<=7:=by have:=HG t;lia
  have ĸ:=DD.of (D.isD ∅);have hb:(aJ t ds).length<=8:=by unfold aJ;rw[Aw,oO];unfold LA;rw[Ai];lia
  refine QB ĸ ∅ Q ?_;rw[<- acr];exact q _ (Nv ĸ abp ∅) (Ja ĸ ∅)
structure Tx(x:PV)(d n:Nat):Prop where
 eR:PV.eR x=true
 sh:(PV.pd x).showable=true
 dep:(PV.pd x).depth<=d
 len:(PV.pd x).shown.length<=n
def Hu(h:a.natAbs.log2<1920):Tx (.int a) 0 1921:=by
 refine⟨by simp,?_,?_,?_⟩
 .rw[PV.pd];simp only[PyData.showable,decide_eq_true h]
 .rw[PV.pd];simp[PyData.depth]
 .rw[PV.pd,PyData.shown,PySem.ofString_length];exact int_text_length_le ⋯ h
theorem JX:∀{l:O PV},(∀x∈l,Tx x d n)->Ew (qw l)=true/\Ft (qw l)<=d/\piled (BQ (qw l))<=l.length*(n+2)/\(BQ (qw l)).length=l.length
 |[],_=>⟨by simp[qw,Ew],by simp[qw,Ft],by simp[qw,BQ,piled],by simp[qw,BQ]⟩
 |x::l,h=>by
  obtain⟨a1,a2,a3,a4⟩:=JX λy hy=>h y (.tail _ hy);have hx:=h x (.head _);refine⟨?_,?_,?_,?_⟩
  .rw[qw,Ew,hx.sh,a1];rfl
  .rw[qw,Ft];exact Nat.max_le.mpr ⟨hx.dep,a2⟩
  .rw[qw,BQ,piled_cons,Aw,Nat.add_mul];have:=hx.len;lia
  .rw[qw,BQ,Aw,a4,Aw]
theorem Nz{l:O PV}(h:∀x∈l,Tx x d n)(h0:l≠[]):Tx (.tup l) (d+1) (l.length*(n+2)+3):=by
 obtain⟨a1,a2,a3,a4⟩:=JX h;refine⟨?_,?_,?_,?_⟩
 .rw[T3];exact gC.mpr λx hx=>(h x hx).eR
 .rw[PV.pd,PyData.showable];exact a1
 .rw[PV.pd,PyData.depth];lia
 .rw[PV.pd,PyData.shown];have hn:BQ (qw l)≠[]:=λz=>by rw[z]at a4;exact h0 (Cd a4.symm)
  have h3:(tupleText (BQ (qw l))).length<=piled (BQ (qw l))+3:=by
   unfold tupleText;rw[Str.length_append,Str.length_append];have:=join_length_add _ hn;have h1:(("(":String):Str).length=1:=by decide
   have h2:∀b:Bool,((if b then ",)" else ")":String):Str).length<=2:=by decide
   have:=h2 ((BQ (qw l)).length==1);lia
  exact AV h3 (Nat.add_le_add_right a3 3)
theorem Tx.ok(h:Tx x d n)(hd:d<=100)(hn:n<=16777216):wN x:=⟨h.eR,h.sh,AV h.dep hd,by rw[a8];have:=h.len;lia⟩
def R1{l:O PV}(h:wN (.tup l)):wU (.tup l)=.ret (.str (PV.pd (.tup l)).shown):=r9 h
theorem Ik(h0:0<=a)(h:a<10 ^ 60):a.natAbs.log2<1920:=by
 by_cases c:a.natAbs=0
 .rw[c];decide
 .rw[Nat.log2_lt c];have:(10:Int) ^ 60=((10 ^ 60:Nat):Int):=by decide +kernel
  rw[this]at h;refine Ay (m:=10 ^ 60) (by generalize (10 ^ 60:Nat)=B at *;lia) (AV (m:=2 ^ 200) (by decide +kernel) (Cz ⋯ ⋯))
section
variable{ask:Str}
theorem aai(G:WG g ws)(h:∀k,0<=ps.getD k 0):∀j i,j<t.size->i<g.length->∀k v,rv g ps ask t j i k=am v->0<=v:=Pm λj i hj hi Tv X7 k v hv=>by
 have h3:0<=i5 g ps i:=by unfold i5;split;exact h 3;exact A5 _
 rcases U0 G hj hi hv with⟨w,e,hh,_,rfl⟩|⟨a,b,d,k1,k2,x,y,e,hd,_,h1,h2,rfl⟩|⟨u,x,hu,h1,rfl⟩
 .exact A5 _
 .obtain⟨l1,l2⟩:=b9 t hj e;obtain⟨m1,m2⟩:=GX G hi hd;have:=Tv a _ l1 m1 _ x h1;have:=Tv b _ l2 m2 _ y h2;have h5:0<=Rf ps ask d:=by unfold Rf Rc;split;exact A5 _;exact h _
  lia
 .have:=X7 u (G.dn i hi u hu) k x h1;lia
theorem aaj(G:WG g ws){B:Int}(hB:0<=B)(h:∀k,ps.getD k 0<=B):∀j i,j<t.size->i<g.length->∀k v,rv g ps ask t j i k=am v->v<=B*(4 ^ j*(g.length+1)+i:Nat):=Pm λj i hj hi Tv X7 k v hv=>by
 have h3:i5 g ps i<=B:=by unfold i5;split;exact h 3;exact hB
 rcases U0 G hj hi hv with⟨w,e,hh,_,rfl⟩|⟨a,b,d,k1,k2,x,y,e,hd,_,h1,h2,rfl⟩|⟨u,x,hu,h1,rfl⟩
 .exact C7 hB ∅
 .obtain⟨l1,l2⟩:=b9 t hj e;obtain⟨m1,m2⟩:=GX G hi hd;have k1:=Tv a _ l1 m1 _ x h1;have k2:=Tv b _ l2 m2 _ y h2;have h5:Rf ps ask d<=B:=by unfold Rf Rc;split;exact hB;exact h _
  obtain⟨j',rfl⟩:∃j',j=j'+1:=⟨j-1,by lia⟩;have pa:4 ^ a<=4 ^ j':=Cz ⋯ ∅;have pb:4 ^ b<=4 ^ j':=Cz ⋯ ∅;have p1:1<=4 ^ j':=Nat.one_le_pow _ _ ⋯;have e1:4 ^ (j'+1)=4*4 ^ j':=by rw[Nat.pow_succ,Fg]
  have key:(4 ^ a*(g.length+1)+d.2.1)+(4 ^ b*(g.length+1)+d.2.2)+1<=4 ^ (j'+1)*(g.length+1)+i:=by
   have q1:=C5 (g.length+1) pa;have q2:=C5 (g.length+1) pb;have q3:=C5 (g.length+1) p1;rw[e1,Nat.mul_assoc];generalize 4 ^ j'*(g.length+1)=P at *;generalize 4 ^ a*(g.length+1)=A at *;generalize 4 ^ b*(g.length+1)=C at *;lia
  have k3:=CO (show(((4 ^ a*(g.length+1)+d.2.1)+(4 ^ b*(g.length+1)+d.2.2)+1:Nat):Int)<=(4 ^ (j'+1)*(g.length+1)+i:Nat) by lia) hB;have k4:B*(((4 ^ a*(g.length+1)+d.2.1)+(4 ^ b*(g.length+1)+d.2.2)+1:Nat):Int)=B*(4 ^ a*(g.length+1)+d.2.1:Nat)+B*(4 ^ b*(g.length+1)+d.2.2:Nat)+B:=by
   rw[FC,FC,FY,FY];simp
  lia
 .have h4:=X7 u (G.dn i hi u hu) k x h1;have hu:=G.dn i hi u hu;have k3:=CO (show((4 ^ j*(g.length+1)+u+1:Nat):Int)<=(4 ^ j*(g.length+1)+i:Nat) by lia) hB;have k4:B*((4 ^ j*(g.length+1)+u+1:Nat):Int)=B*(4 ^ j*(g.length+1)+u:Nat)+B:=by rw[FC,FY];simp
  lia
theorem N7(G:WG g ws)(p4:ps.length=4)(hp:∀p∈ps,0<=p/\p<=10 ^ 29)(ht:t.au.length<=10)(h:cv (fy g ps ask t) k=am v):0<=v/\v<10 ^ 60:=by
 have hz:=t.size_eq;have hs:=t.size_pos;have hg:=G.len;have hd:∀k,0<=ps.getD k 0/\ps.getD k 0<=10 ^ 29:=λk=>by
  rw[Ae];rcases Bs k ps.length with c|c
  .rw[Ad c];exact hp _ (B8 _)
  .rw[Au c];exact⟨A5 _,by decide +kernel⟩
 obtain⟨i,hi,hv⟩:=N5 h;refine⟨aai G (λk=>(hd k).1) _ _ ∅ hi _ _ hv,?_⟩;have h1:=aaj G (B:=10 ^ 29) (by decide +kernel) (λk=>(hd k).2) _ _ ∅ hi _ _ hv;have h2:4 ^ (t.size-1)*(g.length+1)+i<=4 ^ 20*400:=by
  have p1:4 ^ (t.size-1)<=4 ^ 20:=Cz ⋯ ∅;have p2:=FU p1 (show g.length+1<=301 by lia);have p3:4 ^ 20=1099511627776:=by decide
  rw[p3]at p2 ⊢;lia
 have h3:=CO (show((4 ^ (t.size-1)*(g.length+1)+i:Nat):Int)<=((4 ^ 20*400:Nat):Int) by lia) (show(0:Int)<=10 ^ 29 by decide +kernel);have h4:(10:Int) ^ 29*((4 ^ 20*400:Nat):Int)<10 ^ 60:=by decide +kernel
 exact EI h1 (EI h3 h4)
end
theorem S3(hb:∀m a,cv cs m=am a->0<=a/\a<10 ^ 60)(hl:cs.length<=900)(hn:n<cs.length){r:Nat×Int×Int}(h:jl cs n=am r):r.1=n/\(0<=r.2.1/\r.2.1<10 ^ 60)/\0<=r.2.2/\r.2.2<=1000:=by
 unfold jl at h;cases e:cv cs n with
 |none=>rw[e]at h;cases h
 |some c=>
  rw[e]at h;simp only at h
  split at h
  .cases h;have L:=mC cs n c cs.length;have s:=o8 (cs:=cs) (n:=n) (c:=c) cs.length ∅;have h1:(gY cs n c cs.length).1<10 ^ 60:=by
    rcases L.is with z|⟨m,a,_,_,h3,z⟩
    .rw[z];decide +kernel
    .have:=hb n c e;have:=hb m a h3;rw[z];show c-a<_;generalize (10:Int) ^ 60=B at *;lia
   generalize gY cs n c cs.length=l at *;have g0:(0:Int)<=(Int.gcd l.1 l.2:Nat):=by lia
   refine⟨rfl,⟨Int.ediv_nonneg L.nn g0,EI (Int.ediv_le_self _ L.nn) h1⟩,Int.ediv_nonneg (AH s.1) g0,Int.le_trans (Int.ediv_le_self _ (AH s.1)) s.2⟩
  .cases h
theorem K9(hb:∀m a,cv cs m=am a->0<=a/\a<10 ^ 60)(hl:cs.length<=900):∀k,k<=cs.length->∀r∈bo cs k,r.1<1000/\(0<=r.2.1/\r.2.1<10 ^ 60)/\0<=r.2.2/\r.2.2<=1000
 |0,_,r,h=>by cases h
 |k+1,hk,r,h=>by
  rw[bo]at h;rcases AZ.mp h with h|h
  .rw[Option.mem_toList]at h;have:=S3 hb hl (show k<cs.length by lia) h;exact⟨by lia,this.2⟩
  .exact K9 hb hl k ∅ r h
theorem RY(hb:∀m a,cv cs m=am a->0<=a/\a<10 ^ 60)(hl:cs.length<=900)(h0:bo cs cs.length≠[]):wN (.tup (f9 (bo cs cs.length))):=by
 have hd:=nZ cs cs.length;have t1:∀x∈f9 (bo cs cs.length),Tx x 1 5772:=λx hx=>by
  obtain⟨r,hr,rfl⟩:=Ar.mp hx;obtain⟨h1,h2,h3,h4⟩:=K9 hb hl _ (Ak _) r hr;have b:(1000:Int)<10 ^ 60:=by decide +kernel
  show Tx (.tup [.int (r.1:Int),.int r.2.1,.int r.2.2]) (0+1) (3*(1921+2)+3);refine Nz (l:=[.int (r.1:Int),.int r.2.1,.int r.2.2]) (λy hy=>?_) (by simp);simp only[AD,CJ,or_false]at hy;rcases hy with rfl|rfl|rfl
  .exact Hu (Ik ∅ (by generalize (10:Int) ^ 60=B at *;lia))
  .exact Hu (Ik h2.1 h2.2)
  .exact Hu (Ik h3 (by generalize (10:Int) ^ 60=B at *;lia))
 have t2:=Nz t1 (by unfold f9;simpa using h0);refine t2.ok ⋯ ?_;unfold f9;rw[Ai];lia
def ne_str(s:Str):of2 zx (.str s) (.str s)=.ret (.bl false):=by
 rw[Qe,r9 ⟨by simp,by simp,by simp⟩,K3];simp
def Ui(hk:cv cs k=am v):bo cs cs.length≠[]:=by
 obtain⟨n,c,hc,hm,Ë,gw⟩:=qk hk;rw[GW hc Ë gw n (Ak _)];exact List.cons_ne_nil _ _
theorem law57_ok(ns:O Int)(hl:ns.length<=63):(sV (.cl (ns.map PV.int))).run (·=.bl true):=by
 unfold sV;simp only[lc,f8];refine Ov λsd=>?_;rw[W.wQ];refine⟨⟨sd,rfl⟩,?_⟩;simp only[f8,mo,dW,r9 (bC (i:=0) (j:=3) ∅ ∅)];refine GC (n:=3) (λ_ _=>True) trivial ?_ ?_
 .rintro i s hi -;simp only[lc,f8];refine HA ⋯ ⋯ λt s0 hnd h8 hw8 qJ afx=>?_;simp only[lc,f8,kq,mo];refine HF h8 λg G ⟨ht,F⟩=>?_;refine zl λps p4 hp=>?_;simp only[lc,f8,mo,aE];refine K1 (λ_ _=>True) trivial (λi x s hx _=>?_) (λs _=>trivial);obtain⟨ask,rfl⟩:∃ask:Str,x=.str ask:=by
   have hm:=Bb hx;simp only[AD,CJ,or_false]at hm;rcases hm with rfl|rfl|rfl<;>exact⟨_,rfl⟩
  have hr:(gM (tN g) s0.pv (.tup (bE ps)) (.str ask)).le (.ret (.tup ((fy g ps ask s0).map oP))):=zg G p4 ∅;have Ë:=vC (g:=g) (ps:=ps) (ask:=ask) (t:=s0);have lp:=s0.gn;have hb:∀m a,cv (fy g ps ask s0) m=am a->0<=a/\a<10 ^ 60:=λm a h=>N7 G p4 hp afx h;obtain⟨k,v,hk⟩:=sD (ps:=ps) (ask:=ask) G qJ;have ok:=R1 (RY hb ∅ (Ui hk));simp only[lc,f8];refine W.le.use hr ?_;refine Ip ∅ ∅ (λm a h=>(hb m a h).1) ?_;simp only[mo,dW,r9 (bC (i:=0) (j:=2) ∅ ∅)];refine GC (n:=2) (λ_ _=>True) trivial (λi s hi _=>?_) (λs _=>trivial);simp only[lc,f8];refine wq ∅ hk hr ?_;simp only[mo,ok,ne_str,a9,Aq,if_false]
 .intro s _;simp only[KU,lc,f8];have G:=oI (t:=.leaf "a") ⋯;show(gk (Tr.leaf "a").pv).run _;refine W.le.use (v5 (.leaf "a") ⋯) ?_;rw[<- VN];have p4:([0,0,0,0]:O Int).length=4:=rfl;have hr:(gM (tN (gS (.leaf "a"))) (Tr.leaf "a").pv (.tup (bE [0,0,0,0])) (.str "over")).le (.ret (.tup ((fy (gS (.leaf "a")) [0,0,0,0] "over" (.leaf "a")).map oP))):=zg G p4 ⋯;obtain⟨k,v,hk⟩:=sD (ps:=[0,0,0,0]) (ask:="over") (t:=.leaf "a") G (λw h=>h);have Ë:=vC (g:=gS (.leaf "a")) (ps:=[0,0,0,0]) (ask:="over") (t:=.leaf "a");have Zr:(fy (gS (.leaf "a")) [0,0,0,0] "over" (.leaf "a")).length=1:=Ë;have k0:k < 1:=by
   have:=jJ (cs:=fy (gS (.leaf "a")) [0,0,0,0] "over" (.leaf "a")) hk;lia
  have k0:k=0:=by lia
  subst k0;show(dC (tN (gS (.leaf "a"))) (Tr.leaf "a").pv (.tup (bE [0,0,0,0])) (.str "over")).run _;refine wq ∅ hk hr ?_;have hd:bo (fy (gS (.leaf "a")) [0,0,0,0] "over" (.leaf "a")) 1=[(0,0,1)]:=by
   have Nj:cv (fy (gS (.leaf "a")) [0,0,0,0] "over" (.leaf "a")) 0=am v:=hk;rw[bo,bo];have:jl (fy (gS (.leaf "a")) [0,0,0,0] "over" (.leaf "a")) 0=am (0,0,1):=by
    unfold jl;rw[Nj];simp only;rw[Zr,gY,rC,Nj];simp[gY,rC,hiL,red]
   rw[this];rfl
  rw[Zr,hd];simp[f9,t6,Jf]
def all_d{K:Ab}(X:K.In h)(G:h.Ns im mg)(Jl:DX K "parts_of" (top 1))(Uc:DX K "nodes" (top 2))(Qs:DX K "halves" (top 3))(Jq:DX K "ahead_of" (top 4))(Ji:DX K "under_at" (top 9))(GS:DX K "beside_at" (top 10))(Mx:DX K "is_home" (top 11))(Mw:DX K "name_of" (top 12))(Jn:DX K "lines_up" (top 13))(yf:DX K "apart_from" (top 14))(Qt:DX K "ground" (top 15))(GP:DX K "split_ins" (top 22))(Jm:DX K "over_ins" (top 23))(Jo:DX K "deeds_at" (top 24))(Ql:DX K "summed" (top 27))(Jp:DX K "cheapest" (top 28))(Jk:DX K "price_of" (top 29))(GO:DX K "step_cost" (top 30))(Qo:DX K "raised" (top 32))(Qu:DX K "folded" (top 33))(Qr:DX K "lowest" (top 34))(ye:DX K "done_costs" (top 35))(qQ:DX K "costs_of_node" (top 36))(Ub:DX K "rests" (top 37))(pJ:DX K "common_divisor" (top 38))(qP:DX K "following_row" (top 39))(GQ:DX K "crossings" (top 40))(u9:DX K "split_dates" (top 42))(Jj:DX K "standing" (top 43))(Mv:DX K "stay_of" (top 44))(Ud:DX K "dated" (top 45))(Jr:DX K "_law_pot" (top 47))(GU:DX K "_law_take" (top 48))(MB:DX K "_law_of" (top 49))(vd:DX K "_law_joined" (top 50))(yg:DX K "_law_trees" (top 51))(yh:DX K "_law_nodes" (top 52))(yi:DX K "_law_dates" (top 53))(vc:DX K "_law_prices" (top 54))(ve:DX K "_law_common" (top 56))(pK:DX K "_law_crossings" (top 55))(oo:AI K im "UNDER"=am (am (.int 2 J2)))(kF:AI K im "BESIDE"=am (am (.int 3 y6)))(uo:AI K im "NAME"=am (am (.int 0 NJ)))(ou:AI K im "FOUND"=am (am (.str "found" J4)))(oq:AI K im "SPLIT"=am (am (.str "split" J3)))(um:AI K im "OVER"=am (am (.str "over" NI)))(iO:AI K im "DOUBLED"=am (am (.str "doubled" vq)))(lh:AI K im "DEEDS"=am (am (.ref rQ)))(rF:QX K rQ ["split","doubled","over"])(uq:AI K im "LOST"=am (am (.int 3 NK)))(wD:AI K im "isinstance"=am ce)(ZM:AI K im "str"=am ce)(Wa:AI K im "list"=am ce)(Ht:AI K im "reversed"=am ce)(ZO:AI K im "len"=am ce)(Rm:AI K im "tuple"=am ce)(yT:AI K im "enumerate"=am ce)(Rn:AI K im "range"=am ce)(Nt:AI K im "sorted"=am ce)(ZL:AI K im "sum"=am ce)(ZN:AI K im "min"=am ce)(ZK:AI K im "zip"=am ce)(Wb:AI K im "dict"=am ce)(ZP:AI K im "int"=am ce)(V9:AI K im "repr"=am ce):acN K mg VX:=by
 constructor
 rintro v rfl rfl D;have q:∀b,NB (v.at b):=λb=>⟨AU X G wD,AU X G ZM,AU X G Wa,AU X G Ht,AU X G ZO,AU X G Rm,AU X G yT,AU X G Rn,AU X G Nt,AU X G ZL,AU X G ZN,AU X G ZK,AU X G Wb,AU X G ZP,AU X G V9⟩;replace oo:=BU X G oo;replace kF:=BU X G kF;replace uo:=BU X G uo;replace ou:=BU X G ou;replace oq:=BU X G oq;replace um:=BU X G um;replace iO:=BU X G iO;replace lh:=BU X G lh;replace uq:=BU X G uq;have p:=q v.base;refine Jl.go (d:=mM) X G (λD=>Iy D p) λJK=>?_;refine Uc.go (d:=k8) X G (λD=>Th D p JK) λrR=>?_;refine Qs.go (d:=iL) X G (λD=>Pg D p) λoA=>?_;refine Jq.go (d:=jv) X G (λD=>ID D p rR oA) λux=>?_;refine Ji.go (d:=eT) X G (λD=>Iu D oo) λjC=>?_;refine GS.go (d:=kD) X G (λD=>zR D kF) λHg=>?_;refine Mx.go (d:=pP) X G (λD=>L8 D uo jC) λM7=>?_;refine Mw.go (d:=lg) X G (λD=>L7 D p) λwC=>?_;refine Jn.go (d:=mO) X G (λD=>IA D p ux) λJM=>?_;refine yf.go (d:=ju) X G (λD=>xE D p) λyE=>?_;refine Qt.go (d:=uf) X G (λD=>Ph D p rR JM wC oA yE) λQY=>?_;refine GP.go (d:=kz) X G (λD=>zP D p jC) λHc=>?_;refine Jm.go (d:=mN) X G (λD=>Iz D Hg) λJL=>?_;refine Jo.go (d:=mP) X G (λD=>IB D p ou oq um iO M7 Hc JL) λJN=>?_;refine Ql.go (d:=n6) X G (λD=>Pc D p) λHa=>?_;refine Jp.go (d:=gD) X G (λD=>IC D p) λmV=>?_;refine Jk.go (d:=mL) X G (λD=>Iw D lh rF) λJJ=>?_;refine GO.go (d:=kx) X G (λD=>zO D p uq jC) λHb=>?_;refine Qo.go (d:=n8) X G (λD=>Pd D Ha) λHd=>?_;refine Qu.go (d:=ug) X G (λD=>Pj D p mV Ha) λQZ=>?_;refine Qr.go (d:=n9) X G (λD=>Pf D p mV) λHe=>?_;refine ye.go (d:=jt) X G (λD=>xC D p oA QZ Hd JJ) λyD=>?_;refine qQ.go (d:=fw) X G (λD=>qG D p Hb JN yD jC Hd He) λqU=>?_;refine Ub.go (d:=rP) X G (λD=>Tg D p rR qU He) λLh=>?_;refine pJ.go (d:=eU) X G (λD=>ph D) λpR=>?_;refine qP.go (d:=fv) X G (λD=>qF D p pR) λqT=>?_;refine GQ.go (d:=kC) X G (λD=>zQ D p Lh mV qT) λHf=>?_;refine u9.go (d:=hV) X G (λD=>uS D p) λvi=>?_;refine Jj.go (d:=mK) X G (λD=>Iv D p ux) λJI=>?_;refine Mv.go (d:=pO) X G (λD=>L6 D p oA wC) λM6=>?_;refine Ud.go (d:=yn) X G (λD=>Ti D p rR vi JI M6) λUE=>?_;refine Jr.go (d:=mQ) X G (λD=>IE D p) λJO=>?_;refine GU.go (d:=cj) X G (λD=>zS D) λdE=>?_;refine MB.go (d:=iM) X G (λD=>L9 D p dE) λpS=>?_;refine vd.go (d:=hZ) X G (λD=>uU D p dE) λvk=>?_;refine yg.go (d:=jw) X G (λD=>xF D p dE vk pS) λyF=>?_;refine yh.go (d:=jx) X G (λD=>nR D p 12) λyG=>?_;refine yi.go (d:=jy) X G (λD=>xG D p yG dE pS) λyH=>?_;refine vc.go (d:=hX) X G (λD=>uT D p dE pS) λvj=>?_;refine ve.go (d:=ib) X G (λD=>uV D) λvm=>?_;refine pK.go (d:=eV) X G (λD=>pj D p vm) λpT=>?_;exact abi D p JO yF dE QY UE yH vj pT Lh Hf
end
end My
end
open PySem PySem.W PyProof.Rows
structure PySem.W.Fast:Prop where(tw12386000082529722275 tw13630658998741983869 tw8334971693044827742 tw4554207690546025970 tw18222273054804814154 tw464996488798113657 tw824415883952478287 tw7082580110292782010 tw9298914766375619821 tw15856676488726165690 tw17138540629774296259 tw9992351392774342136 tw14783872891218261815 tw11941653893434983781 tw16004136675874700004 tw14903397357013325895 tw13898972382640092229 tw2305645520875980003 tw17681858035881376686 tw6784673271120883477 tw17441893296709657623 tw3109255978336602746 tw8277645842018458478 tw2601519527909925970 tw1897138998776326250 tw15929246012940311427 tw3247919563504238191 tw4412457310033864321 tw17355040311612897148 tw2680692539989837029 tw9907497510492830591 tw5264510942453083680 tw9892995808556940666 tw15262823745936507880 tw12858779413095464263 tw187542042671365718 tw10076707186226361279 tw2060249540945377069 tw16118767088621540736 tw10706434040342185901 tw11531121167223397713 tw6713613524448515183 tw91839886864516502 tw12548699827638918527 tw12379279481138744678 tw1611583379646916225 tw187787656387785722 tw1314262544441307436 tw12505682131389240233 tw14463577948345201148 tw10043259094906240362 tw12483873322789670204 tw8410867679668036896 tw12679224523114305707 tw4740484450628649273 tw12610674165828552358 tw15031376939879142342 tw7690297356727816135 tw18106856041239421448 tw837337865784304875 tw1319287825909965835 tw12498889122501479583 tw7969012023560362761 tw5227952690481590740 tw10482378261374914993 tw11034158537649627512 tw10643978332998595126 tw10996524859882082225 tw16916723100764282265 tw8481012147003258632 tw11134861054050724179 tw7604061586614099913 tw14328815961484837733 tw3131145319694305830 tw18421992407192960113 tw9253145022248200798 tw8335199685089461525 tw6047109041881544310 tw15812074669147506450 tw381710416426480448 tw14003656053894416025 tw10485021638944677179 tw14601409672266942833 tw13866776804163093077 tw1975490587138542616 tw18060461070227812520 tw5801253002328340242 tw6020924522313393158 tw7010847216558801687 tw8264668787015889527 tw1219348054092299054 tw10224040644297760693 tw6970154659526326030 tw3836793711081721613 tw6987151274558999284 tw4944480295973510003 tw14328571485981814970 tw6261755797464290027 tw15547899566122172430 tw17694647470681502474 tw5355333035036903634 tw6592318203310623694 tw4222627902703052093 tw5579881002789735838 tw17475493339973586499 tw1555375886205202844 tw6018777440030925435 tw4945853060005850704 tw10378024751676967565 tw157481421447604087 tw1270549850933227901 tw7590100524055555438 tw16872704369783863365 tw13441124766198014957 tw10994209989614590960 tw17484529587294054119 tw5288944763861417536 tw9674132983950173881 tw5972167225257620913 tw16929138789365701093 tw4374405900457191669 tw6690133808171381588 tw14314207828763797952 tw5877093865399797577 tw8145423875398128476 tw4930798097811157552 tw6796905736588910254 tw6996728714132968936 tw2398944082087848290 tw16542265119814468045 tw17096445332794930653 tw3437852918953519721 tw2429851772409743233 tw474289243484566223 tw6521117140535897127 tw16228922481996910336 tw11127764912694549218 tw14205456315473562530 tw17569035032690493818 tw10644881870904633300 tw4846916476082922319 tw5703988465479835507 tw4029032384873026714 tw92883856530931180 tw5684792779918829870 tw11682768443387404811 tw10237684326509954190 tw11336421672913899278 tw10309608772248213460 tw8635961888167025498 tw17862979566810612412 tw10394240697612105070 tw10301273837365362673 tw12571939919706928069 tw1224835868082188044 tw14336846770019313500 tw7305278897709282359 tw3371576491041380934 tw11961149520802571547 tw9921757102997669039 tw4832197428228884364 tw17159037000336922555 tw1493853452768829953 tw8355213304821538934 tw3658342396010035937 tw13130875392144756378 tw12962236520177591431 tw16691382415512488079 tw5541830888361491456 tw17532236068716734883 tw5554406059609342041 tw4037523222149355339 tw16260004863167092271 tw12306368757519970413 tw11134397308269893736 tw1281787386846493036 tw7321540019746826525 tw15504647185405598086 tw5682317974476443003 tw9439662970471021072 tw10416691512850234867 tw12222303543163129659 tw5330641350495326335 tw16275998830808153559 tw8231402898424754153 tw13138427637267700365 tw13073621510430899392 tw2578292080787335301 tw12286618473677093509 tw16315272602918945431 tw5112775599006839693 tw2147452126811003120 tw17619785754939956153 tw6521991769494852383 tw7093141251075647799 tw5904349659550128538 tw2232617507855113427 tw16142231275139279464 tw2792888507580536347 tw10983880098465888136 tw3687630789116343862 tw6030727308396727911 tw13108775382642788069 tw27130448988190031 tw13623725187540688768 tw9431937045138750821 tw15506156591361887502 tw18155799363152175437 tw13880843011062587900 tw2550880394001678830 tw17856357722564060484 tw6360206614296586298 tw3818664500174220939 tw10148164063407840602 tw6642438957959064692 tw5213593269076171334 tw4777864439701654610 tw9035912870074652320 tw7087400292531203503 tw5535502269512212376 tw4357527225259437616 tw11044982139651157811 tw8242622705256720999 tw17516354380905650960 tw8388471894434388118 tw16122107028396735412 tw14551319351452047972 tw3783967378349973906 tw8898887397595647859 tw7604463929019053032 tw3709627463188502071 tw5838832023111787817 tw7015179412872479644 tw17434538820311784869 tw312203061885881013 tw11935738937680177524 tw12848397516411491811 tw15506035158123564190 tw14563921218183642993 tw2483481601968954147 tw7011045437990585579 tw5869996242561540608 tw15850035605252473898:True)
def PySem.W.Fast.tw17088344313593210708:=PySem.Challenge.pw_treewithin_k57_crossings_told
theorem PySem.W.Fast.te17088344313593210708:PySem.Challenge.pw_treewithin_k57_crossings_told=PySem.W.Fast.tw17088344313593210708:=rfl
set_option maxRecDepth 100000 in
set_option maxHeartbeats 0 in
theorem PySem.Challenge.cw_treewithin_k57_crossings_told_holds : PySem.Challenge.rw_treewithin_k57_crossings_told.Holds := by
 w_on;o_law;k_head;(case hw=>w_witness2)
 k_fill
 refine FL.walkT (l:=PySem.Challenge.rw_treewithin_k57_crossings_told) (k:=14) rfl rfl ⟨rfl,by decide,by decide,rfl⟩ (fun w h Y=>⟨PySem.W.kIn_of Y,fun P hP=>(List.not_mem_nil hP).elim⟩) ?K ?C ?F
 case K=>
  intro w P hP;exact(List.not_mem_nil hP).elim
 case C=>
  intro w h hK P hP;exact(List.not_mem_nil hP).elim
 case F=>
  intro w mg fa h KX G hmg;refine' FL.mkAll (st:=My.top 57) (k:=14) My.law57_ok KX G hmg ?e (fun _ _ _ _ _ _=>FL.usN fun _=>rfl) (My.all_d KX G  ..)
  all_goals try first|(refine' FL.dx ?a ?l ?c ?k;(case a=>k_is);(case l=>k_is);(case c=>k_is);(case k=>k_is))|(refine' FL.tup3K ?a;(case a=>k_is))|(refine' FL.cdx2 ?a ?m2 ?l ?c ?k ?m1 ?m3 ?m4 ?c1 ?c2 ?c3 ?c4 ?na;(case a=>k_is);(case m2=>k_is);(case l=>k_is);(case c=>k_is);(case k=>k_is);(case m1=>k_is);(case m3=>k_is);(case m4=>k_is);(case c1=>k_is);(case c2=>k_is);(case c3=>k_is);(case c4=>k_is);(case na=>(intro n hn;simp only[List.mem_cons,List.not_mem_nil,or_false]at hn;rcases hn with rfl;all_goals k_is)))|k_is
#print axioms PySem.Challenge.cw_treewithin_k57_crossings_told_holds
