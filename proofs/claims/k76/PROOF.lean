import PyProof.Rows.All
import Wide.All
import OpenK.AllK
import Wide.FinOn
import Lean
import PyProof.EqAt
import PyProof.EqKinds
import PyProof.TupleCall
import PyProof.NeKinds
import PyProof.FactsAll.tuple_2
import PyProof.FactsAll.str_0
import PyProof.FactsAll.str_1
import PyProof.FactsAll.str_2
import PyProof.FactsAll.str_3
import PyProof.Rows.MinMaxN
import PyProof.Rows.SumAny
import PyProof.Rows.SetFrom
import PyProof.ReprRoads
import PyProof.Rows.StrKeys3
import PyProof.CallFns
import KE.KSortTup
import KE.KDictSum
import KE.KIsAll
import KE.KIntText
import PyProof.StrLawsIn
import PyProof.StrLawsTight
import PyProof.StrLawsChain
import PySem.Challenge.RW_treewithin_k76_texts_that_write_no_dates
open PySem.W renaming Frag -> Aa, findIn -> Aw, nsIn -> Ay, mg_none_of -> Az, kitOne -> AJ, keepIn -> AL, Looks -> A3, kia_one -> Bb, mg_of -> Bg, fnOf -> Bj, mroIn -> BF, emptyDict -> BK, clsIn -> BQ, looks_findIn -> BW, callWith_K -> B6, codeIn -> Ce, specialIn -> Cj, hasDictIn -> Ck, instObj -> Co, looks_mroIn -> CH, looks_clsIn -> CI, kitAny -> CK, isFn -> CT, plainGet -> Dh, any_some -> Di, InstAt -> Dy, FnAt -> Dz, methodCall_KW -> DQ, subIn -> DW, plainGet_of -> Eh, typeIn -> Es, lookIn -> Et, callWith_F -> Eu, plainOver -> EM, methodObj -> EN, kitx_list -> EO, kitx_dict -> ER, envX -> Fm, cellsFrom_some -> Fo, takesIn -> FH, takerIn -> FI, makesIn -> FJ, tabObj -> FW, hideAll_size -> FX, hideAll_none -> FY, hideAll_get -> F9, findObj_own -> Ga, excIn -> Gf, of_hideAll -> Gj, looks_find -> Gk, kitx_tuple -> Gm, set_plain -> Gs, handedIn -> GC, InitBack -> GD
open PySem renaming wpAny_bind -> Ab, wpAny_pure -> Ae, wpAny_field -> AG, wpAny_Call_Name_kw -> AM, wpAny_setField_rec -> AU, Addr -> AY, wpAny_callSpecial?_slot -> AZ, Value -> A2, wpAny_holding -> Ba, wpAny_loadPart -> Bc, mem_of_lookup -> Bl, wpAny_truthy_bool -> Br, wpAny_call_entry -> Bw, wpAny_mono -> BD, wpAny_newObj_type -> BM, Str -> BN, Expr -> BV, wpAny_seqItems -> BX, wpAny_standAt -> Cd, wpAny_of_eq -> Cf, wpAny_attempt -> Ct, Pos -> Cv, wpAny_passesOwn -> CA, wpAny_pyIter_enum -> CC, wpAny_call -> CF, wpAny_setField -> CN, wpAny_getItem_str_slice -> CO, wpAny_letGo -> CP, Shared -> CW, wpAny_rule -> CY, wpAny_execs_nil -> C2, wpAny_newTuple -> Dc, wpAny_letOwnedTupleGo_enum -> Dd, intText? -> DH, wpAny_loadPart_at -> DJ, wpAny_bindName -> DK, wpAny_isInstance -> DT, wpAny_onRaise -> DY, wpAny_updateSeq_pair -> D9, wpAny_updateSeq -> Ee, wpAny_isSubtype_exc -> Ej, boot_len -> EG, Heap -> EH, wpAny_pyIter_tuple -> EI, wpAny_pyIter_list -> EW, wpAny_comprehension_free -> E7, wpAny_execs_cons -> Fe, wpAny_specialOf -> FN, intText_digits -> F3, wpAny_listPart -> F4, Obj -> F8, frameOf -> Gg, Program -> Gh, Within -> Gx, Tok -> GK
open PySem.Heap renaming get?_push_of_some -> Ad, lt_size -> Aj, get?_push_size -> Ak, size_push -> Bf, get?_update_ne -> Bk, get?_update_self -> B2, SameBut -> Cc, get?_update_other -> DC, ExtBut -> GN
open List renaming getElem?_eq_getElem -> Af, length_append -> Ag, size_toArray -> Ai, getElem?_eq_some_iff -> Al, length_map -> Am, getElem?_map -> An, length_cons -> Ap, replicate -> Ar, mem_cons -> Au, mem_cons_of_mem -> AH, mem_of_getElem? -> AI, lookup_cons -> AN, mem_map -> AR, range -> AW, getD_eq_getElem?_getD -> AX, getElem?_append_left -> A1, map_cons -> A4, getElem?_append_right -> A5, getElem?_eq_none -> A6, append_nil -> A8, mem_append_right -> Bd, filterMap_cons -> Bm, mem_range -> Bp, all_eq_true -> Bq, drop_eq_getElem_cons -> Bt, mem_cons_self -> Bv, length_pos_iff -> Bx, getElem?_replicate -> BC, mem_filter -> BH, not_mem_nil -> BI, map_map -> BJ, length_set -> BS, map_append -> B1, length_replicate -> B4, length_take -> B9, length_drop -> Ca, getElem?_set_ne -> Cg, eq_nil_of_length_eq_zero -> Ci, mem_append -> Cp, forIn_cons -> Cq, mem_singleton -> Cz, any_cons -> CG, flatMap_append -> CJ, lookup -> CS, take_of_length_le -> CZ, mem_filterMap -> C0, getElem?_set_self -> C1, nodup_cons -> C3, nil_append -> C4, ext_getElem? -> C8, append_assoc -> C9, takeWhile_cons_of_pos -> De, takeWhile_cons_of_neg -> Df, length -> Dg, replicate_succ -> Dl, map_congr_left -> Dm, length_reverse -> Dn, getElem?_range -> Dp, foldl_cons -> Du, reverse_cons -> DL, pairwise_lt_range -> DM, length_singleton -> DR, length_filter_le -> DS, filter_cons -> DV, getElem_toArray -> Ea, getElem?_of_mem -> Eb, of_mem_zip -> Ef, find?_cons -> Eg, getElem?_zip_eq_some -> EL, pairwise_map -> EY, nodup_append -> EZ, length_range -> E1, getElem?_set -> E2, flatten_cons -> E3, set_comm -> E8, length_erase_of_mem -> E9, drop_length -> Fg, cons_append -> Fh, map_nil -> Fy, length_pos_of_mem -> Fz, drop_eq_nil_of_le -> FA, all_map -> FC, length_nil -> FO, singleton_append -> FT, lookup_cons_self -> FU, contains_iff_mem -> FV, mem_of_mem_drop -> F6, mem_append_left -> F7, take_succ_cons -> Gb, reverse_append -> Gd, getElem_of_mem -> Ge
open Nat renaming le_refl -> Ah, lt_of_lt_of_le -> Av, ne_of_lt -> AD, le_trans -> AE, lt_irrefl -> AQ, le_add_right -> Bo, zero_le -> Bs, le_of_ble_eq_true -> BO, lt_succ_self -> Cw, le_of_lt -> Dj, le_of_eq -> Eo, not_lt -> EJ, lt_succ_of_lt -> EX, zero_add -> Fu, ne_of_gt -> Fv, lt_or_ge -> Fw, le_succ -> F5, add_assoc -> Gi, ble -> Gz
open PySem.Value renaming ref -> Ao, none -> AO, int -> Cu, type -> CD, bool -> Dv, str -> Ep
open Bool renaming false_eq_true -> Aq, and_eq_true -> AB, not_true -> Be, false_ne_true -> Bi, not_false -> BZ, not_eq_true' -> DN, true_and -> DZ, and_false -> EK
open PySem.Str renaming length_append -> AA, length -> BU, ofString -> DA, cps_append -> Ew, empty -> GG
open False renaming elim -> AV
open PySem.Calls renaming spliced_cons -> A7, spliced_nil -> BL, callWith_builtin -> DG, Name_function_global -> EE, evalArgs_plain -> F1
open PyProof.Rows renaming callWith_type1 -> A9, callWith_builtin1 -> DU
open PySem.NameKind renaming free -> Bh, cell -> C6
open Ne renaming symm -> Bu
open PySem.F renaming slot_enumerate_next -> Bz, slot_str_ascii_iterator_next -> B7, plainAttrs_list -> Cm, slot_tuple_iterator_next -> Cy, args_enumerate_next_1 -> CM, entry_enumerate_next -> CV, args_tuple_add_2 -> Dr, entry_tuple_add -> Dx, slot_tuple_add -> DD, args_str_ascii_iterator_next_1 -> DE, entry_str_ascii_iterator_next -> DP, args_list_extend_2 -> D7, slot_zip_next -> Ec, args_tuple_iterator_next_1 -> Ed, entry_list_extend -> Ei, entry_tuple_iterator_next -> En, excCall_ValueError -> Ez, excBase_ValueError -> EA, excAttr_ValueError -> EB, slot_list_extend -> EC, args_str_split_2 -> ED, entry_str_split -> ET, type_list_append -> E5, slot_list_append -> E6, slot_str_split -> Fd, plainAttrs_str -> Fp, typeCall_enumerate_1 -> Fq, entry_bexc_ga -> FR, args_bexc_ga -> F0
open Or renaming inl -> BA, inr -> BE
open PySem.PassesOwn renaming never -> BG, leaving -> Gv
open PySem.PyData renaming hasDict -> BR, hasDictAll -> ES, shown -> Gu
open PySem.Challenge renaming pw_treewithin_k76_texts_that_write_no_dates -> B3
open True renaming intro -> B5
open PySem.AutoSeq1 renaming wpAny_loadPart' -> B8, sub_list_tuple -> D8
open Int renaming emod_lt_of_pos -> Cb, toNat_natCast -> Cn, emod_nonneg -> Cr, toNat_of_nonneg -> Ek, eq_ofNat_of_zero_le -> Fj, zero_add -> FE, le_refl -> GO
open PySem.Obj renaming mapFields -> Cs, mapSeq -> CU, data_mapFields -> Dw, isFreed_of_fields -> FQ
open ForInStep renaming yield -> CB
open PySem.Txt renaming split -> C5, slice_le -> Em, slice -> Er
open And renaming right -> C7
open PySem.EntryCells renaming newEntry -> Dk
open Array renaming toList_append -> Dq, length_toList -> El, getElem?_eq_none -> FG, toList -> GB
open Option renaming map_some -> Ds, getD_none -> Ff, isSome_some -> Gp, isSome_map -> Gy
open PySem.Manifest.AttrKind renaming slot -> DB
open PySem.SeqAt.RcNeAt renaming lists_lengths -> Ex, lists -> Gn
open PySem.SeqAt renaming EqAt -> Ey
open PySem.EqBoolInt renaming of_rcne -> EU, of_rc -> FK
open PySem.SeqAt.RcAt renaming lists_lengths -> E4, lists -> GH
open PySem.StrLaws renaming found_one -> Fb, glued_eq_join -> FP
open PySem.Flow renaming ret -> Fc
open PySem.Fin renaming done -> FZ
open PySem.Around renaming frames_deeper -> F2
open PySem.callAny renaming viaDunder -> Gq
open PySem.Within renaming cons -> Gr
open PySem.Data renaming seq -> Gw
open Except renaming error -> GA
open PySem.IsL renaming isList -> GI
open PySem.IntMulOk renaming of_bits -> GJ
open PyProof.Rows.IsTup renaming new -> GL
open Sum renaming inr -> GP, inl -> GQ
set_option compiler.extract_closed false
set_option Elab.async false
set_option linter.all false
set_option maxRecDepth 100000
set_option maxHeartbeats 1000000
open Option renaming some→al,none→bn
open PyProof.Rows renaming envOfC→Db,assignInOrder_cons→Fa,boot_isinstance→FB,boot_str→GT,boot_tuple→Pi,AllBare→Tk,IntsAre→TM
open PySem renaming Value→ce,Addr→db,wpAny→f8,Shared→gt,mainGlobals→ii,model→lf,starEach→lm,Heap→nn,eval→o0,Expr→pc,rawInt→pr,swapsWith→r6,compareOp→r9,attributeBase→sB,holding→sK,Program→tz,Stmt→ut,bootBuiltins→u8,behindInMarks→wn,FuncData→wp,cellsFrom→ww,call_meets→wE,binaryOp→wP,World→wS,Scope→wT,sizeLine_eq→xz,swapsWithSole→xL,swappedStores→zn,Around→BT,PassesOwn→Ch,NameKind→Da,codeAny_mono→EQ,Builtin→Fk,sysModules→FM,sliceBounds→FS,isInstance→Gc,cLine→GE,IntMulOk→GM,standAt→Ix,assignEach→IR,assign→KB,backTo→KM,typeIs_str→Op,checkBuiltinCall→Os,IsEnum→Ps,codeAny→Pv,setField→PP,excClassObj→P3,codeAny_call_builtin→Re,setItem→Rs,builtinsNs→Sc,bindArgs→SB,IsPair→SC,keywordEach→SZ,codeAmong→Tl,post_val_or_str→TW,letOwnedTupleGo→Uf,getAttrByItsOwn→UF
set_option genSizeOf false
local macro_rules | `(command|def $i:declId $s:optDeclSig $v:declVal)=>`(command|noncomputable def $i:declId $s:optDeclSig $v:declVal)
local macro_rules | `(command|abbrev $i:declId $s:optDeclSig $v:declVal)=>`(command|noncomputable abbrev $i:declId $s:optDeclSig $v:declVal)
theorem rTq9(h:0=0:=by rfl):0=0:=h
local macro_rules | `(‹$p›)=>`(autoParam $p rTq9._auto_1)
local macro_rules | `(‹_›)=>`(by assumption)
theorem dTq9(h:0=0:=by decide):0=0:=h
local macro_rules | `(~~~$p)=>`(autoParam $p dTq9._auto_1)
local macro_rules | `(∅)=>`(by lia)
local macro_rules | `(⋯)=>`(by decide)
open PySem PySem.Spec PyProof.Rows
abbrev O.{u}(α:Type u):=List α
namespace L2
end L2
namespace My
end My
namespace PL
end PL
namespace FL
end FL
open L2 My PL FL
namespace L2
abbrev Key:=Sum Int Str
def tV:Key->ce->Bool
 |.inl k,v=>Value.isInt k v
 |.inr x,v=>Value.isStrOf x v
def ado(w:wS):Key->Int
 |.inl k=>hashInt k
 |.inr x=>hashStr w x
def cg:∀{k:Key}{v:ce},tV k v=true->(∃i t,k=GQ i/\v=Cu i t)\/(∃x t,k=GP x/\v=Ep x t)
 |.inl i,v,h=>by
  obtain⟨t,e⟩:=Value.isInt_shape h;exact .inl ⟨i,t,rfl,e⟩
 |.inr x,v,h=>by
  obtain⟨t,e⟩:=Value.isStrOf_shape (v:=v) h;exact .inr ⟨x,t,rfl,e⟩
def KR(i:Int)(t:Tok):tV (.inl i) (.int i t)=true:=by simp[tV,Value.isInt]
def KQ(x:Str)(t:Tok):tV (.inr x) (.str x t)=true:=by simp[tV,Value.isStrOf]
def VU(a b:Int):decide ((GQ a:Key)=GQ b)=(a==b):=by
 by_cases e:a=b
 .subst e;simp
 .rw[decide_eq_false (λq=>e (GQ.inj q))];exact(beq_eq_false_iff_ne.mpr e).symm
def VQ(a b:Str):decide ((GP a:Key)=GP b)=decide (a=b):=by
 by_cases e:a=b
 .simp
 .rw[decide_eq_false (λq=>e (GP.inj q)),decide_eq_false e]
def VT(a:Int)(b:Str):decide ((GQ a:Key)=GP b)=false:=decide_eq_false (λq=>nomatch q)
def VS(a:Str)(b:Int):decide ((GP a:Key)=GQ b)=false:=decide_eq_false (λq=>nomatch q)
def cX(prog:tz)(w:wS):PySem.KeyKind prog w Key where
 is:=tV
 hash:=ado w
 inj:=λv a b ha hb=>by
  rcases cg ha with⟨i,t,rfl,rfl⟩|⟨x,t,rfl,rfl⟩
  .rcases cg hb with⟨j,u,rfl,e⟩|⟨y,u,rfl,e⟩
   .injection e with e1 _;rw[e1]
   .exact nomatch e
  .rcases cg hb with⟨j,u,rfl,e⟩|⟨y,u,rfl,e⟩
   .exact nomatch e
   .injection e with e1 _;rw[e1]
 byValue:=λk v h=>by
  rcases cg h with⟨i,t,rfl,rfl⟩|⟨x,t,rfl,rfl⟩<;>rfl
 pyHash:=λhv h=>by
  rcases cg hv with⟨i,t,rfl,rfl⟩|⟨x,t,rfl,rfl⟩
  .exact wpAny_pyHash_int h
  .exact wpAny_pyHash_str h
 eqBool:=λhu hv h=>by
  rcases cg hu with⟨i,t,rfl,rfl⟩|⟨x,t,rfl,rfl⟩
  .rcases cg hv with⟨j,u,rfl,rfl⟩|⟨y,u,rfl,rfl⟩
   .rw[VU]at h;exact wpAny_eqBool_int h
   .rw[VT]at h;exact Ey.int_str i t y u _ _ _ _ h
  .rcases cg hv with⟨j,u,rfl,rfl⟩|⟨y,u,rfl,rfl⟩
   .rw[VS]at h;exact Ey.str_int x t j u _ _ _ _ h
   .rw[VQ]at h;exact wpAny_eqBool_str h
 «strs»:=λk x t v h=>by
  rcases cg h with⟨i,u,rfl,e⟩|⟨y,u,rfl,e⟩
  .exact nomatch e
  .injection e with e1 _;subst e1;cases v<;>rfl
def xX(prog:tz)(w:wS)(i:Int)(t:Tok):(cX prog w).is (.inl i) (.int i t)=true:=KR i t
def xW(prog:tz)(w:wS)(x:Str)(t:Tok):(cX prog w).is (.inr x) (.str x t)=true:=KQ x t
end L2
variable{us:O A2}{u:A2}{a b e:AY}{P:Gh}{w:PySem.World}{h h':EH}{α β:Type}
namespace L2
inductive V where
 |bx|bl (b:Bool)|int (i:Int)|str (x:Str)|Uh (b:Array UInt8)|Wn (b:UInt64)|ref (a:db)|ty (n:String)
 deriving DecidableEq
def RelV:V->ce->Prop
 |.bx,u=>u=AO
 |.bl b,u=>u=Dv b
 |.int i,u=>∃t,u=Cu i t
 |.str x,u=>∃t,u=Ep x t
 |.Uh b,u=>∃t,u=Value.bytes b t
 |.Wn b,u=>∃t,u=Value.float b t
 |.ref a,u=>u=Ao a
 |.ty n,u=>u=CD n
abbrev Vals:O V->O ce->Prop:=Paired RelV
def Vals.length{xs:O V}(r:Vals xs us):xs.length=us.length:=Paired.length r
theorem Vals.get:∀{xs:O V}{us:O ce}{i:Nat}{x:V},Vals xs us->xs[i]?=al x->∃u,us[i]?=al u/\RelV x u
 |_,_,_,_,.nil,e=>by simp at e
 |_,_,0,_,.cons r _,e=>by simp at e;subst e;exact⟨_,rfl,r⟩
 |_,_,i+1,x,.cons _ t,e=>by
  obtain⟨u,h1,h2⟩:=Vals.get t (by simpa using e);exact⟨u,by simpa using h1,h2⟩
theorem Vals.set{x:V}(r:RelV x u):∀{xs:O V}{us:O ce} (i:Nat),Vals xs us->Vals (xs.set i x) (us.set i u)
 |_,_,_,.nil=>.nil
 |_,_,0,.cons _ t=>.cons r t
 |_,_,i+1,.cons q t=>.cons q (Vals.set r i t)
theorem Vals.append:∀{xs ys:O V}{us ws:O ce},Vals xs us->Vals ys ws->Vals (xs++ys) (us++ws)
 |_,_,_,_,.nil,s=>s
 |_,_,_,_,.cons r t,s=>.cons r (Vals.append t s)
theorem Vals.take:∀{xs:O V}{us:O ce} (n:Nat),Vals xs us->Vals (xs.take n) (us.take n)
 |_,_,0,_=>.nil
 |_,_,_+1,.nil=>.nil
 |_,_,n+1,.cons r t=>.cons r (Vals.take n t)
theorem Vals.drop:∀{xs:O V}{us:O ce} (n:Nat),Vals xs us->Vals (xs.drop n) (us.drop n)
 |_,_,0,r=>r
 |_,_,_+1,.nil=>.nil
 |_,_,n+1,.cons _ t=>Vals.drop n t
def mS:Option V->Option ce->Prop
 |some v,al u=>RelV v u
 |none,bn=>True
 |_,_=>False
def KV{κ:Type}:O (κ×V)->O (κ×ce)->Prop:=Paired λ(p:κ×V) (q:κ×ce)=>p.1=q.1/\RelV p.2 q.2
def kV:Key->V
 |.inl i=>.int i
 |.inr x=>.str x
inductive HO where
 |lst (xs:List V)
 |tup (xs:List V)
 |dK (az:List (Key×V))|dT (az:List (List Key×V))
 |set (S:Int->Bool) (n:Nat)
 |ins (C dx:db) (fs:List (Str×V))
 |own (x:db)
 |xd (fs:List (Str×V))
 |met (f x:db)
 |rng (lo hi:Int)
 |cU (o:Obj) (u:HO)
 |oO (ps:Array ce)
 |ext (φ:nn->Prop)
abbrev Hp:=db->Option HO
def upd(H:Hp)(a:db)(o:HO):Hp:=λb=>if b=a then al o else H b
def aw{H:Hp}{o:HO}:upd H a o a=al o:=by unfold upd;rw[if_pos rfl]
def ah{H:Hp}{o:HO}(h:b≠a):upd H a o b=H b:=by unfold upd;rw[if_neg h]
def xT{H:Hp}{o u:HO}(h:H a=al o)(h':H b=al u)(d:o≠u):a≠b:=by
 intro e;subst e;rw[h]at h';exact d (Option.some.inj h')
def bB{H:Hp}{o:HO}(h:H a=al o)(h':H b=bn):a≠b:=by
 intro e;subst e;rw[h]at h';cases h'
section
variable(P:tz)(w:wS)
def bV(H:Hp)(h:nn)(a:db):HO->Prop
 |.lst xs=>xs.length<=sizeLine/\∃(ax:O ce) (n:Nat),Vals xs ax/\h.get? a=al {cls:=.type "list",data:=.seq ax.toArray n}
 |.tup xs=>xs.length<=sizeLine/\∃ax:O ce,Vals xs ax/\IsTup h a ax.toArray/\∃o,h.get? a=al o/\o.dict=bn
 |.dK az=>az.length<=sizeLine/\(a==FM)=false/\∃vs,KV az vs/\h.DictOf (cX P w) a vs
 |.dT az=>az.length<=sizeLine/\(a==FM)=false/\∃xs:O (O Key×db×ce),
   Paired (λ(p:O Key×V) (q:O Key×db×ce)=>p.1=q.1/\H q.2.1=al (.tup (p.1.map kV))/\RelV p.2 q.2.2) az xs/\
   ∃o es ep,h.get? a=al o/\o.ExactDict/\o.data=.dict es ep/\es.toList=xs.map (entryOfKey (tupleKind (cX P w)))/\(xs.map (·.1)).Nodup
 |.set S n=>h.SetOf (intKind P w) a S n
 |.ins C dx fs=>H dx=al (.own a)/\fs.length<=1000/\dx≠a/\h.get? a=al (Co C dx)/\
   ∃mA,h.Ns1 dx mA/\(∀f,mS (fs.lookup f) (mA f))/\Gx mA (fs.map (·.1))
 |.own _=>∃o,h.get? a=al o
 |.xd fs=>∃mA,h.Ns1 a mA/\∀f,mS (fs.lookup f) (mA f)
 |.rng lo hi=>∃t u v,h.get? a=al {cls:=.type "range",data:=.fields #[.int lo t,.int hi u,.int 1 v]}
 |.cU o u=>h.get? a=al o/\bV H h a u
 |.oO ps=>h.get? a=al {cls:=.none,data:=.fields ps}
 |.met f x=>h.get? a=al (EN (.ref f) (.ref x))
 |.ext φ=>φ h/\(∃o,h.get? a=al o)/\∀h1 h2:nn,φ h1->(∀o,h1.get? a=al o->h2.get? a=al o)->φ h2
def iw(H:Hp)(h:nn):Prop:=∀a o,H a=al o->bV P w H h a o
end
section
variable{H H':Hp}{o:HO}
def bV.lt(x:bV P w H h a o):a<h.objs.size:=by
 cases o with
 |lst xs=>obtain⟨_,_,_,_,e⟩:=x;exact Aj e
 |tup xs=>obtain⟨_,_,_,p,_⟩:=x;exact p.lt
 |dK az=>obtain⟨_,_,_,_,o,_,_,e,_⟩:=x;exact Aj e
 |dT az=>obtain⟨_,_,_,_,o,_,_,e,_⟩:=x;exact Aj e
 |set S n=>obtain⟨o,_,_,_,e,_⟩:=x;exact Aj e
 |ins C dx fs=>obtain⟨_,_,_,e,_⟩:=x;exact Aj e
 |own y=>obtain⟨_,e⟩:=x;exact Aj e
 |xd fs=>obtain⟨_,⟨_,_,_,e,_⟩,_⟩:=x;exact Aj e
 |rng lo hi=>obtain⟨_,_,_,e⟩:=x;exact Aj e
 |cU ob u=>obtain⟨e,_⟩:=x;exact Aj e
 |oO ps=>exact Aj (x)
 |met f y=>exact Aj (show h.get? a=al _ from x)
 |ext φ=>obtain⟨_,⟨_,e⟩,_⟩:=x;exact Aj e
theorem Paired.VF{F G:α->β->Prop}:∀{l₁:List α}{l₂:List β},Paired F l₁ l₂->(∀a b,F a b->G a b)->Paired G l₁ l₂
 |_,_,.nil,_=>.nil
 |_,_,.cons r t,f=>.cons (f _ _ r) (Paired.VF t f)
def bV.mY(x:bV P w H h a o)(k:∀b u,(b=a\/H b=al (.own a))->h.get? b=al u->h'.get? b=al u)(ho:∀b,H b=al (.own a)->H' b=al (.own a))(ht:∀b xs,H b=al (.tup xs)->H' b=al (.tup xs)):bV P w H' h' a o:=by
 induction o with
 |lst xs=>obtain⟨z,ax,n,r,e⟩:=x;exact⟨z,ax,n,r,k _ _ (.inl rfl) e⟩
 |tup xs=>obtain⟨z,ax,r,⟨ob,e,c⟩,od,e2,d⟩:=x;exact⟨z,ax,r,⟨ob,k _ _ (.inl rfl) e,c⟩,od,k _ _ (.inl rfl) e2,d⟩
 |dK az=>obtain⟨z,y,vs,r,ob,es,ep,e,c⟩:=x;exact⟨z,y,vs,r,ob,es,ep,k _ _ (.inl rfl) e,c⟩
 |dT az=>
  obtain⟨z,y,xs,r,ob,es,ep,e,c⟩:=x;exact⟨z,y,xs,Paired.VF r λp q z=>⟨z.1,ht _ _ z.2.1,z.2.2⟩,ob,es,ep,k _ _ (.inl rfl) e,c⟩
 |set S n=>obtain⟨ob,es,ep,t,e,c⟩:=x;exact⟨ob,es,ep,t,k _ _ (.inl rfl) e,c⟩
 |ins C dx fs=>
  obtain⟨d,z,ne,e,mA,⟨od,es,ep,e2,c⟩,r⟩:=x;exact⟨ho _ d,z,ne,k _ _ (.inl rfl) e,mA,⟨od,es,ep,k _ _ (.inr d) e2,c⟩,r⟩
 |own y=>obtain⟨ob,e⟩:=x;exact⟨ob,k _ _ (.inl rfl) e⟩
 |xd fs=>obtain⟨mA,⟨od,es,ep,e,c⟩,r⟩:=x;exact⟨mA,⟨od,es,ep,k _ _ (.inl rfl) e,c⟩,r⟩
 |rng lo hi=>obtain⟨t,u,v,e⟩:=x;exact⟨t,u,v,k _ _ (.inl rfl) e⟩
 |cU ob u ih=>obtain⟨e,q⟩:=x;exact⟨k _ _ (.inl rfl) e,ih q⟩
 |oO ps=>
  have e:h.get? a=al {cls:=.none,data:=.fields ps}:=x;show h'.get? a=al {cls:=.none,data:=.fields ps};exact k a _ (.inl rfl) e
 |met f y=>
  have e:h.get? a=al (EN (.ref f) (.ref y)):=x;show h'.get? a=al (EN (.ref f) (.ref y));exact k a _ (.inl rfl) e
 |ext φ=>obtain⟨p,⟨o,e⟩,st⟩:=x;exact⟨st _ _ p λo q=>k _ _ (.inl rfl) q,⟨o,k _ _ (.inl rfl) e⟩,st⟩
def iw.lt(x:iw P w H h)(e:H a=al o):a<h.objs.size:=(x a o e).lt
def iw.fresh(x:iw P w H h)(e:h.objs.size<=a):H a=bn:=by
 cases q:H a with
 |none=>rfl
 |some u=>exact absurd (Av (x.lt q) e) (AQ _)
def iw.kept(x:iw P w H h)(k:∀b u,h.get? b=al u->h'.get? b=al u):iw P w H h':=λa o e=>
 (x a o e).mY (λb u _ q=>k b u q) (λ_ q=>q) λ_ _ q=>q
def iw.laid(x:iw P w H h)(k:∀b u,h.get? b=al u->h'.get? b=al u)(hp:h.objs.size<=a)(new:bV P w (upd H a o) h' a o):iw P w (upd H a o) h':=λb u e=>by
 have hn:=x.fresh hp;by_cases hb:b=a
 .subst hb;rw[aw]at e;cases e;exact new
 .rw[ah hb]at e;exact(x b u e).mY (λc v _ q=>k c v q) (λc q=>by rw[ah (bB q hn)];exact q) λc xs q=>by rw[ah (bB q hn)];exact q
end
def Rd(H:Hp)(a:db)(u:HO):Prop:=H a=al u\/∃o,H a=al (.cU o u)
def Rd.ok{H:Hp}{u:HO}(r:Rd H a u)(x:iw P w H h):bV P w H h a u:=by
 rcases r with r|⟨o,r⟩
 .exact x a u r
 .obtain⟨_,q⟩:=x a _ r;exact q
def Mut:Option HO->Prop
 |some (.lst _)=>True
 |some (.dK _)=>True
 |some (.dT _)=>True
 |some (.set _ _)=>True
 |some (.ins _ _ _)=>True
 |some (.ext _)=>True
 |_=>False
section
variable{H:Hp}{x:db}{o':HO}
def iw.write(ok:iw P w H h)(mu:Mut (H x))(he:e=x\/H e=al (.own x))(k:∀b u,b≠e->h.get? b=al u->h'.get? b=al u)(Xo:∃u,h'.get? e=al u)(new:bV P w (upd H x o') h' x o'):iw P w (upd H x o') h':=λb u q=>by
 have Rf:∀c y,H c=al (.own y)->c≠x:=λc y r z=>by subst z;rw[r]at mu;exact mu
 have ac2:∀c xs,H c=al (.tup xs)->c≠x:=λc xs r z=>by subst z;rw[r]at mu;exact mu
 by_cases hb:b=x
 .subst hb;rw[aw]at q;cases q;exact new
 .rw[ah hb]at q;by_cases Wi:b=e
  .have q':H b=al (.own x):=by
    rcases he with z|z
    .exact absurd (Wi.trans z) hb
    .rw[Wi];exact z
   rw[q]at q';cases q';obtain⟨v,hv⟩:=Xo;exact⟨v,by rw[Wi];exact hv⟩
  .refine(ok b u q).mY (λc v hc r=>k c v ?_ r) (λc r=>by rw[ah (Rf c b r)];exact r) λc xs r=>by rw[ah (ac2 c xs r)];exact r
   rcases hc with rfl|hc
   .exact Wi
   .rintro rfl;rcases he with z|z
    .exact Rf c b hc z
    .rw[hc]at z;cases z;exact hb rfl
end
structure Un(fs ex:List db)(H H':Hp)(h h':nn):Prop where
 keep:∀b o,h.get? b=al o->H b=bn->b∉fs->b∉ex->h'.get? b=al o
 slot:∀b o,h.get? b=al o->H b=bn->b∈fs->b∉ex->∃sl,h'.get? b=al {o with slots:=sl}
 free:∀b o,h.get? b=al o->H b=bn->b∉ex->H' b=bn
 there:∀b o,h.get? b=al o->b∉ex->∃o',h'.get? b=al o'
 cC:∀b xs,H b=al (.tup xs)->H' b=al (.tup xs)
 mC:∀b o u,H b=al (.cU o u)->H' b=al (.cU o u)
 mX:∀b ps,H b=al (.oO ps)->∃more,H' b=al (.oO (ps++more))
section
variable{fs ex:O db}{H H1:Hp}{h1:nn}{x:db}{o:HO}
def Un.any(u:Un fs ex H H1 h h1){ob:Obj}(q:h.get? b=al ob)(n:H b=bn)(hx:b∉ex):∃sl,h1.get? b=al {ob with slots:=sl}:=by
 by_cases hb:b∈fs
 .exact u.slot b ob q n hb hx
 .exact⟨ob.slots,u.keep b ob q n hb hx⟩
def Un.kept(k:∀b u,h.get? b=al u->h'.get? b=al u):Un fs ex H H h h':=
 ⟨λb ob q _ _ _=>k b ob q,λb ob q _ _ _=>⟨ob.slots,k b ob q⟩,λ_ _ _ n _=>n,λb ob q _=>⟨ob,k b ob q⟩,λ_ _ q=>q,λ_ _ _ q=>q,λ_ ps q=>⟨#[],by rw[q];simp⟩⟩
def Un.refl:Un fs ex H H h h:=Un.kept λ_ _ q=>q
def Un.laid(k:∀b u,h.get? b=al u->h'.get? b=al u)(hp:h.objs.size<=a)(hn:H a=bn):Un fs ex H (upd H a o) h h' where
 keep:=λb u q _ _ _=>k b u q
 slot:=λb u q _ _ _=>⟨u.slots,k b u q⟩
 free:=λb u q n _=>by rw[ah (AD (Av (Aj q) hp))];exact n
 there:=λb u q _=>⟨u,k b u q⟩
 cC:=λb xs q=>by rw[ah (bB q hn)];exact q
 mC:=λb u xs q=>by rw[ah (bB q hn)];exact q
 mX:=λb ps q=>⟨#[],by rw[ah (bB q hn),q];simp⟩
def Un.write(mu:Mut (H x))(he:e=x\/H e=al (.own x))(k:∀b u,b≠e->h.get? b=al u->h'.get? b=al u)(Xo:∃u,h'.get? e=al u):Un fs ex H (upd H x o) h h':=by
 have hx:∀b,H b=bn->b≠x:=λb n z=>by subst z;rw[n]at mu;exact mu
 have hb:∀b,H b=bn->b≠e:=λb n z=>by
  subst z;rcases he with r|r
  .exact hx b n r
  .rw[n]at r;cases r
 have hm:∀b u,H b=al u->¬Mut (al u)->b≠x:=λb u q nm z=>by subst z;rw[q]at mu;exact nm mu
 refine⟨λb u q n _ _=>k b u (hb b n) q,λb u q n _ _=>⟨u.slots,k b u (hb b n) q⟩,λb u q n _=>by rw[ah (hx b n)];exact n,λb u q _=>?_,
  λb xs q=>by rw[ah (hm b _ q λz=>z)];exact q,λb u xs q=>by rw[ah (hm b _ q λz=>z)];exact q,λb ps q=>⟨#[],by rw[ah (hm b _ q λz=>z),q];simp⟩⟩
 by_cases Wi:b=e
 .subst Wi;exact Xo
 .exact⟨u,k b u Wi q⟩
end
def trk(h:nn)(H:Hp):O db:=(AW h.objs.size).filter λa=>(H a).isSome
def vK(h:nn)(H:Hp):nn:=PySem.W.hideAll h (trk h H)
def K4(h:nn)(H:Hp):(vK h H).objs.size=h.objs.size:=FX _ _
def Og{H:Hp}{o:Obj}(e:h.get? b=al o)(n:H b=bn):(vK h H).get? b=al o:=
 F9 _ e λhm=>by
  have q:=(BH.mp hm).2;rw[n]at q;simp at q
def Q6{H:Hp}{o:Obj}(e:(vK h H).get? b=al o):h.get? b=al o/\H b=bn:=by
 have e':=Gj (trk h H) e;refine⟨e',?_⟩;cases q:H b with
 |none=>rfl
 |some x=>
  have z:(vK h H).get? b=bn:=FY (trk h H) (BH.mpr ⟨Bp.mpr (Aj e'),by simp[q]⟩);rw[z]at e;cases e
def So(g h:nn)(L:db):O (db×Obj):=(AW h.objs.size).filterMap λa=>if a=L\/(g.get? a).isSome=true then bn else (h.get? a).map λo=>(a,o)
def rest(g h:nn)(L d:db):O (db×Obj):=(So g h L).filter λp=>decide (p.1≠d)
end L2
variable{H H':L2.Hp}{o:F8}{Z:O (AY×F8)}{s s':CW}{g':Array PySem.GenState}{ch:O AY}{it:AY}{i j:Nat}{M:PySem.Model}{A:PySem.Around}{E:A2->CW->Prop}{v:L2.V}{Q:Unit->CW->Prop}
namespace L2
structure Mod(K:Aa)(mg:Str->Option ce)(base:nn):Prop where
 NV:K.In base
 glob:base.Ns ii mg
 blt:∃mb,base.Ns Sc mb/\∀x:Str,x≠"__name__"->mb x=u8 x
 nolimit:base.NoLimit
 bm:∃bm ob,mg "__builtins__"=al (.ref bm)/\bm≠Sc/\base.get? bm=al ob/\ob.cls=.type "module"/\ob.dict=al Sc/\ob.data=.plain
structure Cx where
 prog:tz
 w:wS
 K:Aa
 mg:Str->Option ce
 base:nn
 A:BT
 N:List Str
 s₀:gt
 H₀:Hp
 env:Env
 outer:List Env
 stack:List Env
 ex:List db
 fn:Str->Bool
 calm:Bool
 pn:List (db×Obj)
 xe:ce->gt->Prop
abbrev d6(x:Str):Prop:=(x==("__debug__":Str))=false
abbrev rP(x:Str):Prop:=(x==("__classdict__":Str))=false
abbrev dY(X:Cx)(e:pc)(es:O pc):Prop:=lm (e::es) X.env=(false,o0 e X.env)::lm es X.env
abbrev gw(X:Cx)(p:Pos)(es:O pc):Prop:=(KM p (lm es X.env)).any (·.1)=false
abbrev rB(X:Cx)(e:pc):Prop:=∀x,foldedSetIterable e X.env x=pure x
abbrev W6(X:Cx)(p:Pos)(l:O pc):Prop:=((KM p (lm l X.env)).all (λx=>!x.1)&&(backToKw p (SZ [] X.env)).all (λx=>x.1.isSome)&&decide (l.length+([]:O Keyword).length+(if ([]:O Keyword).isEmpty then 0 else 1)<30))=true
abbrev P7(p q:Pos):Prop:=(p.endLine==q.line)=true
abbrev Px(X:Cx)(y:Str):Prop:=X.fn y=true\/X.env.scope.names.lookup y=al .local
def o7(l:O Env):O db:=l.filterMap (·.frame)
abbrev Cx.fs(X:Cx):O db:=o7 X.outer
def rN(sc:wT)(x:Str):Prop:=sc.names.lookup x=al .local\/sc.names.lookup x=al .cell\/sc.names.lookup x=al .free
def Loc(sc:wT)(x:Str):Prop:=sc.names.lookup x=al .local\/sc.names.lookup x=al .cell
def Look(env:Env)(h:nn)(m:Str->Option ce)(x:Str)(u:ce):Prop:=
 (env.kindOf x=al .local/\m x=al u)\/((env.kindOf x=al .cell\/env.kindOf x=al .free)/\∃c,env.cells.lookup x=al c/\h.IsCell c (al u))
structure Cx.Ok(X:Cx):Prop where
 mod:Mod X.K X.mg X.base
 kind:X.env.scope.kind=.function
 glob:X.env.globals=ii
 blt:X.env.builtins=Sc
 above:X.s₀.heap.objs.size<=X.env.locals
 inj:∀x y c,X.env.cells.lookup x=al c->X.env.cells.lookup y=al c->x=y
 has:∀x,(X.env.kindOf x=al .cell\/X.env.kindOf x=al .free)->∃c,X.env.cells.lookup x=al c
 WO:∀x c,X.fn x=true->X.env.cells.lookup x=al c->X.s₀.heap.objs.size<=c
 hd:X.calm=true->X.A.handled=bn
 frames:X.A.frames=al X.stack
 Yh:X.stack=X.outer\/(X.stack=X.env::X.outer/\X.env.frame=al X.env.locals)
 exf:∀b∈X.ex,b≠X.env.locals/\∀x c,X.env.cells.lookup x=al c->c≠b
 bs:∀b o,X.base.get? b=al o->X.s₀.heap.get? b=al o/\X.H₀ b=bn
 Pe:X.base.objs.size<=X.s₀.heap.objs.size
 Kz:∀b o,X.base.get? b=al o->b∉X.ex
 La:∀b∈X.ex,b∉X.fs
 jN:X.s₀.heap.FunFrames X.base X.outer
 P1:∀b∈X.fs,X.H₀ b=bn
structure Inv(X:Cx)(Z:List (db×Obj))(σ:List (Option V))(H:Hp)(s:gt):Prop where
 ok:X.Ok
 os:s.os=X.s₀.os
 bare:Tk s.gens
 base:Un X.fs X.ex X.H₀ H X.s₀.heap s.heap
 loc:∃m,s.heap.Ns X.env.locals m/\∀(i:Nat) (x:Str) (v:V),X.N[i]?=al x->σ[i]?=al (al v)->rN X.env.scope x->∃u,RelV v u/\Look X.env s.heap m x u
 cell:∀x c,X.env.cells.lookup x=al c->∃v,s.heap.IsCell c v
 free:H X.env.locals=bn
 fu:∀x c,X.env.cells.lookup x=al c->H c=bn
 pin:∀p∈X.pn++Z,s.heap.get? p.1=al p.2/\H p.1=bn/\p.1≠X.env.locals/\p.1∉X.fs/\∀v,p.2.data≠.cell v
 aX:iw X.prog X.w H s.heap
 len:σ.length=X.N.length
section
variable{X:Cx}{σ:O (Option V)}
def Cx.Ok.ac5(ok:X.Ok)(e:X.base.get? b=al o):b∉X.fs:=λhb=>by
 have:=(ok.jN.mem hb).1;rw[e]at this;cases this
def Inv.bs(I:Inv X Z σ H s):∀b o,X.base.get? b=al o->s.heap.get? b=al o/\H b=bn:=λb o e=>
 ⟨I.base.keep b o (I.ok.bs b o e).1 (I.ok.bs b o e).2 (I.ok.ac5 e) (I.ok.Kz b o e),I.base.free b o (I.ok.bs b o e).1 (I.ok.bs b o e).2 (I.ok.Kz b o e)⟩
def Inv.bk(I:Inv X Z σ H s):∀b o,X.base.get? b=al o->s.heap.get? b=al o:=λb o e=>(I.bs b o e).1
def Inv.mod(I:Inv X Z σ H s):Mod X.K X.mg X.base:=I.ok.mod
def Inv.fm(I:Inv X Z σ H s):X.K.In s.heap:=I.ok.mod.NV.keeps I.bk
def Inv.lt(I:Inv X Z σ H s):X.env.locals<s.heap.objs.size:=let ⟨_,hn,_⟩:=I.loc;hn.lt
def Inv.sz(I:Inv X Z σ H s):X.s₀.heap.objs.size<=s.heap.objs.size:=AE I.ok.above (Dj I.lt)
def Inv.ac4(I:Inv X Z σ H s)(h:s.heap.objs.size<=a):a∉X.fs:=λhb=>by
 obtain⟨_,o,ho,_⟩:=I.ok.jN.mem hb;exact absurd (Av (Aj ho) (AE I.sz h)) (AQ _)
def Inv.LR(I:Inv X Z σ H s):∀x c,X.env.cells.lookup x=al c->c≠X.env.locals:=λx c e z=>by
 obtain⟨v,o,ho,hd⟩:=I.cell x c e;obtain⟨m,⟨o',es,ep,Oc,Ğ,_⟩,_⟩:=I.loc;rw[z,Oc]at ho;cases ho;rw[Ğ]at hd;cases hd
def Inv.jN(I:Inv X Z σ H s):s.heap.FunFrames X.base X.outer:=by
 have all:∀l,(∀b∈o7 l,b∈X.fs)->X.s₀.heap.FunFrames X.base l->s.heap.FunFrames X.base l:=by
  intro l
  induction l with
  |nil=>intro _ _;trivial
  |cons env r ih=>
   intro hs hl;obtain⟨hk,⟨L,o,hf,hn,ho,hd⟩,hr⟩:=hl;have hL:=hs L (by unfold o7;rw[Bm,hf];exact Bv);obtain⟨sl,e⟩:=I.base.slot L o ho (I.ok.P1 L hL) hL λz=>I.ok.La L z hL;exact⟨hk,⟨L,_,hf,hn,e,hd⟩,ih (λb hb=>hs b (by unfold o7;rw[Bm,hf];exact AH _ hb)) hr⟩
 exact all X.outer (λ_ hb=>hb) I.ok.jN
def Inv.stack(I:Inv X Z σ H s):s.heap.FunFrames X.base X.stack:=by
 rcases I.ok.Yh with e|⟨e,hf⟩
 .rw[e];exact I.jN
 .rw[e];obtain⟨m,hn,_⟩:=I.loc;refine .cons (by rw[I.ok.kind];decide) hf hn ?_ I.jN;exact Heap.get?_none_of_le (AE I.ok.Pe I.ok.above)
def Inv.pZ(I:Inv X Z σ H s):∀b∈o7 X.stack,b∈X.env.locals::X.fs:=λb hb=>by
 rcases I.ok.Yh with e|⟨e,hf⟩
 .rw[e]at hb;exact AH _ hb
 .rw[e]at hb;unfold o7 at hb;rw[Bm,hf]at hb;exact hb
def Inv.lO(I:Inv X Z σ H s):∀b∈o7 X.stack,H b=bn:=λb hb=>by
 rcases Au.mp (I.pZ b hb) with e|hb
 .rw[e];exact I.free
 .obtain⟨_,o,ho,_⟩:=I.ok.jN.mem hb;exact I.base.free b o ho (I.ok.P1 b hb) λz=>I.ok.La b z hb
def Inv.step{t':Nat}{d':Drawn}(I:Inv X Z σ H s)(Ol:∀b∈ch,(b∈X.ex\/X.s₀.heap.objs.size<=b)/\b≠X.env.locals/\(∀x c,X.env.cells.lookup x=al c->c≠b)/\∀p∈X.pn++Z,p.1≠b)(keep:∀b o,b≠X.env.locals->b∉X.fs->b∉ch->s.heap.get? b=al o->H b=bn->h'.get? b=al o)(slot:∀b o,b≠X.env.locals->b∈X.fs->b∉ch->s.heap.get? b=al o->H b=bn->∃sl,h'.get? b=al {o with slots:=sl})(free:∀b o,b∉ch->s.heap.get? b=al o->H b=bn->H' b=bn)(there:∀b o,b∉ch->s.heap.get? b=al o->∃o',h'.get? b=al o')(cC:∀b xs,H b=al (.tup xs)->H' b=al (.tup xs))(mC:∀b o u,H b=al (.cU o u)->H' b=al (.cU o u))(mX:∀b ps,H b=al (.oO ps)->∃more,H' b=al (.oO (ps++more)))(ns:∀m,s.heap.Ns X.env.locals m->h'.Ns X.env.locals m)(aX:iw X.prog X.w H' h')(hg:Tk g'):Inv X Z σ H' {s with heap:=h',gens:=g',drawn:=d',toks:=t'}:=by
 have neL:∀b o,X.s₀.heap.get? b=al o->b≠X.env.locals:=λb o e=>AD (Av (Aj e) I.ok.above);have ò:∀b o,X.s₀.heap.get? b=al o->b∉X.ex->b∉ch:=λb o e hx hb=>by
  rcases (Ol b hb).1 with z|z
  .exact hx z
  .exact absurd (Av (Aj e) z) (AQ _)
 have Ù:∀x c,X.env.cells.lookup x=al c->∀v,s.heap.IsCell c v->h'.IsCell c v:=λx c e v ⟨o,ho,hd⟩=>by
  have Y9:c∉ch:=λz=>(Ol c z).2.2.1 x c e rfl;by_cases hc:c∈X.fs
  .obtain⟨sl,q⟩:=slot c o (I.LR x c e) hc Y9 ho (I.fu x c e);exact⟨_,q,hd⟩
  .exact⟨o,keep c o (I.LR x c e) hc Y9 ho (I.fu x c e),hd⟩
 refine⟨I.ok,I.os,hg,⟨λb o e n hb hx=>?_,λb o e n hb hx=>?_,λb o e n hx=>?_,λb o e hx=>?_,λb xs e=>cC b xs (I.base.cC b xs e),λb o xs e=>mC b o xs (I.base.mC b o xs e),λb ps e=>?_⟩,?_,λx c e=>?_,?_,λx c e=>?_,λp hp=>?_,aX,I.len⟩
 .exact keep b o (neL b o e) hb (ò b o e hx) (I.base.keep b o e n hb hx) (I.base.free b o e n hx)
 .obtain⟨sl,e1⟩:=I.base.slot b o e n hb hx;obtain⟨Qv,e2⟩:=slot b _ (neL b o e) hb (ò b o e hx) e1 (I.base.free b o e n hx);exact⟨Qv,e2⟩
 .obtain⟨o',e1⟩:=I.base.there b o e hx;exact free b o' (ò b o e hx) e1 (I.base.free b o e n hx)
 .obtain⟨o',e1⟩:=I.base.there b o e hx;exact there b o' (ò b o e hx) e1
 .obtain⟨m1,e1⟩:=I.base.mX b ps e;obtain⟨m2,e2⟩:=mX b _ e1;exact⟨m1++m2,by rw[e2,Array.append_assoc]⟩
 .obtain⟨m,hn,hl⟩:=I.loc;refine⟨m,ns m hn,λi x v e1 e2 e3=>?_⟩;obtain⟨u,r,l⟩:=hl i x v e1 e2 e3;refine⟨u,r,?_⟩;rcases l with l|⟨k,c,e,z⟩
  .exact .inl l
  .exact .inr ⟨k,c,e,Ù x c e _ z⟩
 .obtain⟨v,z⟩:=I.cell x c e;exact⟨v,Ù x c e v z⟩
 .obtain⟨m,⟨o,_,_,ho,_⟩,_⟩:=I.loc;exact free _ o (λz=>(Ol _ z).2.1 rfl) ho I.free
 .obtain⟨v,o,ho,hd⟩:=I.cell x c e;exact free c o (λz=>(Ol c z).2.2.1 x c e rfl) ho (I.fu x c e)
 .obtain⟨e,n,ne,nf,d⟩:=I.pin p hp;have Y9:p.1∉ch:=λz=>(Ol p.1 z).2.2.2 p hp rfl;exact⟨keep p.1 p.2 ne nf Y9 e n,free p.1 p.2 Y9 e n,ne,nf,d⟩
def Inv.un{t':Nat}(I:Inv X Z σ H s)(u:Un X.fs [] H H' s.heap h')(aX:iw X.prog X.w H' h'):Inv X Z σ H' {s with heap:=h',toks:=t'}:=by
 obtain⟨m,⟨o,es,ep,ho,r⟩,_⟩:=id I.loc;obtain⟨sl,hL⟩:=u.any ho I.free (by simp);exact I.step (g':=s.gens) (d':=s.drawn) (ch:=[]) (λ_ z=>nomatch z) (λb o _ hb _ e n=>u.keep b o e n hb (by simp)) (λb o _ hb _ e n=>u.slot b o e n hb (by simp)) (λb o _ e n=>u.free b o e n (by simp)) (λb o _ e=>u.there b o e (by simp)) u.cC u.mC u.mX (λm' hm=>by
  obtain⟨o',ī,Ĭ,Oc,r'⟩:=hm;rw[ho]at Oc;cases Oc;exact⟨_,ī,Ĭ,hL,r'⟩) aX I.bare
def Inv.call{t':Nat}{d':Drawn}(I:Inv X Z σ H s)(u:Un (o7 X.stack) ch H H' s.heap h')(aX:iw X.prog X.w H' h')(hg:Tk g')(Ol:∀b∈ch,(b∈X.ex\/X.s₀.heap.objs.size<=b)/\b≠X.env.locals/\(∀x c,X.env.cells.lookup x=al c->c≠b)/\∀p∈X.pn++Z,p.1≠b):Inv X Z σ H' {s with heap:=h',gens:=g',drawn:=d',toks:=t'}:=by
 obtain⟨m,⟨o,es,ep,ho,r⟩,_⟩:=id I.loc;obtain⟨sl,hL⟩:=u.any ho I.free λz=>(Ol _ z).2.1 rfl;exact I.step (ch:=ch) Ol (λb o hL hb hc e n=>u.keep b o e n (λz=>(Au.mp (I.pZ b z)).elim hL hb) hc) (λb o _ _ hc e n=>u.any e n hc) (λb o hc e n=>u.free b o e n hc) (λb o hc e=>u.there b o e hc) u.cC u.mC u.mX (λm' hm=>by
  obtain⟨o',ī,Ĭ,Oc,r'⟩:=hm;rw[ho]at Oc;cases Oc;exact⟨_,ī,Ĭ,hL,r'⟩) aX hg
def Inv.turned{t':Nat}(I:Inv X Z σ H s)(k:∀b o,b≠it->s.heap.get? b=al o->h'.get? b=al o)(hn:H it=bn)(hL:it≠X.env.locals)(h1:it∈X.ex\/X.s₀.heap.objs.size<=it)(h2:∀x c,X.env.cells.lookup x=al c->c≠it)(h3:∀p∈X.pn++Z,p.1≠it):Inv X Z σ H {s with heap:=h',toks:=t'}:=by
 have Te:∀b u,H b=al u->b≠it:=λb u e z=>by rw[z,hn]at e;cases e
 refine I.step (g':=s.gens) (d':=s.drawn) (ch:=[it]) (λb hb=>?_) (λb o _ _ hc e _=>k b o (λz=>hc (by simp[z])) e) (λb o _ _ hc e _=>⟨o.slots,k b o (λz=>hc (by simp[z])) e⟩) (λ_ _ _ _ n=>n)
  (λb o hc e=>⟨o,k b o (λz=>hc (by simp[z])) e⟩) (λ_ _ e=>e) (λ_ _ _ e=>e) (λb ps e=>⟨#[],by rw[e];simp⟩) (λm hm=>?_) (λb u e=>?_) I.bare
 .have e:b=it:=by simpa using hb
  subst e;exact⟨h1,hL,h2,h3⟩
 .obtain⟨o,es,ep,ho,r⟩:=hm;exact⟨o,es,ep,k _ o (Bu hL) ho,r⟩
 .refine(I.aX b u e).mY (λc v hc q=>k c v ?_ q) (λ_ q=>q) λ_ _ q=>q;rcases hc with z|z
  .rw[z];exact Te b u e
  .exact Te c _ z
def Inv.tok(I:Inv X Z σ H s)(t:Nat):Inv X Z σ H {s with toks:=t}:=I.un Un.refl I.aX
def Inv.kept{t':Nat}(I:Inv X Z σ H s)(k:∀b u,s.heap.get? b=al u->h'.get? b=al u):Inv X Z σ H {s with heap:=h',toks:=t'}:=I.un (Un.kept k) (I.aX.kept k)
def Inv.laid{o:HO}{t':Nat}(I:Inv X Z σ H s)(k:∀b u,s.heap.get? b=al u->h'.get? b=al u)(hp:s.heap.objs.size<=a)(new:bV X.prog X.w (upd H a o) h' a o):Inv X Z σ (upd H a o) {s with heap:=h',toks:=t'}:=I.un (Un.laid k hp (I.aX.fresh hp)) (I.aX.laid k hp new)
def Inv.write{x:db}{o:HO}{t':Nat}(I:Inv X Z σ H s)(mu:Mut (H x))(he:e=x\/H e=al (.own x))(k:∀b u,b≠e->s.heap.get? b=al u->h'.get? b=al u)(Xo:∃u,h'.get? e=al u)(new:bV X.prog X.w (upd H x o) h' x o):Inv X Z σ (upd H x o) {s with heap:=h',toks:=t'}:=I.un (Un.write mu he k Xo) (I.aX.write mu he k Xo new)
def Inv.Je{xM:O (db×Obj)}(I:Inv X Z σ H s)(h:∀p∈xM,s.heap.get? p.1=al p.2/\H p.1=bn/\p.1≠X.env.locals/\p.1∉X.fs/\∀v,p.2.data≠.cell v):Inv X xM σ H s:=
 ⟨I.ok,I.os,I.bare,I.base,I.loc,I.cell,I.free,I.fu,λp hp=>(Cp.mp hp).elim (λz=>I.pin p (F7 _ z)) (h p),I.aX,I.len⟩
def qm{N:O Str}(hN:N.Nodup){x:Str}(a:N[i]?=al x)(b:N[j]?=al x):i=j:=by
 obtain⟨h1,e1⟩:=Al.mp a;obtain⟨h2,e2⟩:=Al.mp b;exact(List.getElem_inj hN).mp (e1.trans e2.symm)
def tD{x:Str}(I:Inv X Z σ H s)(hN:X.N.Nodup)(hi:X.N[i]?=al x)(hx:Loc X.env.scope x)(r:RelV v u)(h:∀s',Inv X Z (σ.set i (al v)) H s'->(∃a,Cc a s.heap s'.heap/\(a=X.env.locals\/X.env.cells.lookup x=al a))->Q () s')(hf:Px X x:=by first|exact .inl rfl|exact .inr rfl|assumption):f8 M A (storeName X.env x u) Q E s:=by
 obtain⟨m,hn,hl⟩:=id I.loc;have Oj:(X.env.scope.kind==.class||(X.env.scope.kind==.module&&X.env.locals != X.env.globals))=false:=by rw[I.ok.kind];rfl
 have ZM:i < σ.length:=by rw[I.len];exact(Al.mp hi).1
 have LR:=I.LR;have Ì:∀{a:db}{h':nn},(∃o,s.heap.get? a=al o/\H a=bn)->Cc a s.heap h'->iw X.prog X.w H h':=λ{a h'} ha hs b ob e=>by
  obtain⟨_,_,TR⟩:=ha;refine(I.aX b ob e).mY (λc w' hc q=>(hs.2 c ?_).trans q) (λ_ q=>q) λ_ _ q=>q;rintro rfl;rcases hc with rfl|hc
  .rw[TR]at e;cases e
  .rw[TR]at hc;cases hc
 rcases hx with hk|hk
 .refine wpAny_storeName_local hk hn (λh' ZI hs=>?_) Oj;obtain⟨oL,_,_,hoL,_⟩:=id hn;refine h _ ⟨I.ok,I.os,I.bare,⟨λb o e n hb hx=>?_,λb o e n hb hx=>?_,I.base.free,λb o e hx=>?_,I.base.cC,I.base.mC,I.base.mX⟩,⟨_,ZI,λj y v' e1 e2 e3=>?_⟩,λy c e=>?_,I.free,I.fu,λp hp=>?_,Ì ⟨oL,hoL,I.free⟩ hs,by simpa using I.len⟩ ⟨_,hs,.inl rfl⟩
  .exact(hs.2 b (AD (Av (Aj e) I.ok.above))).trans (I.base.keep b o e n hb hx)
  .obtain⟨sl,e1⟩:=I.base.slot b o e n hb hx;exact⟨sl,(hs.2 b (AD (Av (Aj e) I.ok.above))).trans e1⟩
  .obtain⟨o',e1⟩:=I.base.there b o e hx;exact⟨o',(hs.2 b (AD (Av (Aj e) I.ok.above))).trans e1⟩
  .by_cases hj:j=i
   .subst hj;rw[hi]at e1;cases e1;rw[C1 ZM]at e2;cases e2;exact⟨u,r,.inl ⟨hk,by simp⟩⟩
   .rw[Cg (Bu hj)]at e2;obtain⟨u',r',q⟩:=hl j y v' e1 e2 e3;refine⟨u',r',?_⟩;rcases q with⟨k,e⟩|⟨k,c,e,z⟩
    .refine .inl ⟨k,?_⟩;have:y≠x:=λe=>hj (qm hN e1 (e▸hi));simp[this,e]
    .exact .inr ⟨k,c,e,z.sameBut hs (LR y c e)⟩
  .obtain⟨w',z⟩:=I.cell y c e;exact⟨w',z.sameBut hs (LR y c e)⟩
  .obtain⟨e,n,ne,nf,d⟩:=I.pin p hp;exact⟨(hs.2 p.1 ne).trans e,n,ne,nf,d⟩
 .have We:X.fn x=true:=by
   rcases hf with z|z
   .exact z
   .rw[z]at hk;cases hk
  obtain⟨c,hc⟩:=I.ok.has x (.inl hk);obtain⟨w',z⟩:=I.cell x c hc;refine wpAny_storeName_cell I.ok.kind hk hc z (λh' xn hs=>?_);obtain⟨oc,ĕ,adG⟩:=id z;refine h {s with heap:=h'} ⟨I.ok,I.os,I.bare,⟨λb o e n hb hx=>?_,λb o e n hb hx=>?_,I.base.free,λb o e hx=>?_,I.base.cC,I.base.mC,I.base.mX⟩,⟨m,hn.sameBut hs (Bu (LR x c hc)),λj y v' e1 e2 e3=>?_⟩,λy c' e=>?_,I.free,I.fu,λp hp=>?_,Ì ⟨oc,ĕ,I.fu x c hc⟩ hs,by simpa using I.len⟩ ⟨c,hs,.inr hc⟩
  .exact(hs.2 b (AD (Av (Aj e) (I.ok.WO x c We hc)))).trans (I.base.keep b o e n hb hx)
  .obtain⟨sl,e1⟩:=I.base.slot b o e n hb hx;exact⟨sl,(hs.2 b (AD (Av (Aj e) (I.ok.WO x c We hc)))).trans e1⟩
  .obtain⟨o',e1⟩:=I.base.there b o e hx;exact⟨o',(hs.2 b (AD (Av (Aj e) (I.ok.WO x c We hc)))).trans e1⟩
  .by_cases hj:j=i
   .subst hj;rw[hi]at e1;cases e1;rw[C1 ZM]at e2;cases e2;exact⟨u,r,.inr ⟨.inl hk,c,hc,xn⟩⟩
   .rw[Cg (Bu hj)]at e2;obtain⟨u',r',q⟩:=hl j y v' e1 e2 e3;refine⟨u',r',?_⟩;rcases q with q|⟨k,c',e,z'⟩
    .exact .inl q
    .refine .inr ⟨k,c',e,z'.sameBut hs ?_⟩;rintro rfl;exact hj (qm hN e1 (I.ok.inj _ _ _ e hc▸hi))
  .by_cases RN:c'=c
   .subst RN;exact⟨_,xn⟩
   .obtain⟨w2,z2⟩:=I.cell y c' e;exact⟨w2,z2.sameBut hs RN⟩
  .obtain⟨e,n,ne,nf,d⟩:=I.pin p hp;refine⟨(hs.2 p.1 ?_).trans e,n,ne,nf,d⟩;intro q;rw[q,ĕ]at e;have q':oc=p.2:=Option.some.inj e;exact d w' (by rw[<- q'];exact adG)
def eW{x:Str}(I:Inv X Z σ H s)(hN:X.N.Nodup)(hi:X.N[i]?=al x)(hx:Loc X.env.scope x)(r:RelV v u)(h:∀s',Inv X Z (σ.set i (al v)) H s'->Q () s')(hf:Px X x:=by first|exact .inl rfl|exact .inr rfl|assumption):f8 M A (storeName X.env x u) Q E s:=
 tD I hN hi hx r (λs' I' _=>h s' I') hf
def Inv.aaw(I:Inv X Z σ H s)(ho:s'.os=s.os)(u:Un (o7 X.stack) ch H H' s.heap s'.heap)(aX:iw X.prog X.w H' s'.heap)(hg:Tk s'.gens)(Ol:∀b∈ch,(b∈X.ex\/X.s₀.heap.objs.size<=b)/\b≠X.env.locals/\(∀x c,X.env.cells.lookup x=al c->c≠b)/\∀p∈X.pn++Z,p.1≠b):Inv X Z σ H' s':=by
 obtain⟨h',g',d',t',o'⟩:=s';have e:o'=s.os:=ho;subst e;exact I.call (g':=g') (t':=t') (d':=d') u aX hg Ol
end
abbrev XK:=ce->Option db->Hp->Prop
abbrev St:=O (Option V)
abbrev VK:=V->Hp->Prop
abbrev TE:=St->Hp->VK->Prop
abbrev TT:=St->Hp->(Bool->Hp->Prop)->Prop
abbrev TA:=St->Hp->(O V->Hp->Prop)->Prop
structure Ends where
 nx:St->Hp->Prop
 rt:VK
 bk:St->Hp->Prop:=λ_ _=>False
 ct:St->Hp->Prop:=λ_ _=>False
abbrev TS:=Ends->St->Hp->Prop
def EP(X:Cx)(Z:O (db×Obj))(σ:St)(Q:VK)(u:ce)(s':gt):Prop:=∃v H',Inv X Z σ H' s'/\RelV v u/\Q v H'
def TP(X:Cx)(Z:O (db×Obj))(σ:St)(Q:Bool->Hp->Prop)(b:Bool)(s':gt):Prop:=∃H',Inv X Z σ H' s'/\Q b H'
def AP(X:Cx)(Z:O (db×Obj))(σ:St)(Q:O V->Hp->Prop)(us:O ce)(s':gt):Prop:=∃vs H',Inv X Z σ H' s'/\Vals vs us/\Q vs H'
def SP(X:Cx)(Z:O (db×Obj))(D:Ends)(f:Flow)(s':gt):Prop:=
 match f with
 |.next=>∃σ' H',Inv X Z σ' H' s'/\D.nx σ' H'
 |.brk=>∃σ' H',Inv X Z σ' H' s'/\D.bk σ' H'
 |.cont=>∃σ' H',Inv X Z σ' H' s'/\D.ct σ' H'
 |.ret u=>∃v σ' H',Inv X Z σ' H' s'/\RelV v u/\D.rt v H'
def PE(X:Cx)(e:pc)(t:TE):Prop:=
 ∀(Z:O (db×Obj)) (s:gt) (σ:St) (H:Hp) (Q:VK),Inv X Z σ H s->t σ H Q->f8 (lf X.prog X.w) X.A (o0 e X.env) (EP X Z σ Q) X.xe s
def PT(X:Cx)(e:pc)(t:TT):Prop:=
 ∀(Z:O (db×Obj)) (s:gt) (σ:St) (H:Hp) (Q:Bool->Hp->Prop),Inv X Z σ H s->t σ H Q->f8 (lf X.prog X.w) X.A (isTrue e X.env (o0 e X.env)) (TP X Z σ Q) X.xe s
def PW(X:Cx)(e:pc)(t:TT):Prop:=
 ∀(Ä:Sem ce) (Z:O (db×Obj)) (s:gt) (σ:St) (H:Hp) (Q:Bool->Hp->Prop),Inv X Z σ H s->t σ H Q->f8 (lf X.prog X.w) X.A (isTrue e X.env Ä) (TP X Z σ Q) X.xe s
def PW.pt{X:Cx}{e:pc}{t:TT}(h:PW X e t):PT X e t:=h _
def PA(X:Cx)(es:O pc)(t:TA):Prop:=
 ∀(pos:Pos) (Z:O (db×Obj)) (s:gt) (σ:St) (H:Hp) (Q:O V->Hp->Prop),Inv X Z σ H s->t σ H Q->f8 (lf X.prog X.w) X.A (spliced (KM pos (lm es X.env))) (AP X Z σ Q) X.xe s
def PS(X:Cx)(st:ut)(t:TS):Prop:=
 ∀(Z:O (db×Obj)) (s:gt) (σ:St) (H:Hp) (D:Ends),Inv X Z σ H s->t D σ H->f8 (lf X.prog X.w) X.A (exec st X.env) (SP X Z D) X.xe s
def nY(X:Cx)(st:O ut)(t:TS):Prop:=
 ∀(Z:O (db×Obj)) (s:gt) (σ:St) (H:Hp) (D:Ends),Inv X Z σ H s->t D σ H->f8 (lf X.prog X.w) X.A (execs st X.env) (SP X Z D) X.xe s
def bp{t:Sem α}{Q Q':α->gt->Prop}(h:f8 M A t Q E s)(hQ:∀a s,Q a s->Q' a s):f8 M A t Q' E s:=BD h hQ λ_ _ x=>x
end L2
variable{a e:BV}{X:L2.Cx}{σ:L2.St}{Q:A2->CW->Prop}{ta tb:L2.TE}{R:L2.V->L2.V->L2.Hp->Prop}{pos:Cv}{op:PySem.CmpOp}
namespace L2
section
def bin{b:pc}(ha:PE X a ta)(hb:PE X b tb)(I:Inv X Z σ H s)(h:ta σ H λx H1=>tb σ H1 λy H2=>R x y H2){Q:α->gt->Prop}{f:ce->ce->Sem α}(hf:∀v u s2 x y H2,Inv X Z σ H2 s2->RelV x v->RelV y u->R x y H2->f8 (lf X.prog X.w) X.A (f v u) Q X.xe s2):f8 (lf X.prog X.w) X.A (o0 a X.env) (λv s₁=>f8 (lf X.prog X.w) X.A (o0 b X.env) (λu s₂=>f8 (lf X.prog X.w) X.A (f v u) Q X.xe s₂) X.xe s₁) X.xe s:=by
 refine bp (ha Z s σ H _ I h) λv s1 ⟨x,H1,I1,r1,q1⟩=>?_;refine bp (hb Z s1 σ H1 _ I1 q1) λu s2 ⟨y,H2,I2,r2,q2⟩=>?_;exact hf v u s2 x y H2 I2 r1 r2 q2
def UB(i:Nat):TE:=λσ H Q=>∃v,σ[i]?=al (al v)/\Q v H
def tC(v:V):TE:=λ_ H Q=>Q v H
def cO{x:Str}(hN:X.N[i]?=al x)(hv:rN X.env.scope x)(hd: ~~~(d6 x))(dr: ~~~(rP x)):PE X (.Name x pos) (UB i):=by
 intro Z s σ H Q I h;obtain⟨v,e,h⟩:=h;obtain⟨m,hn,hl⟩:=I.loc;obtain⟨u,r,l⟩:=hl i x v hN e hv;have fin:EP X Z σ Q u s:=⟨v,H,I,r,h⟩;rcases l with⟨hk,hm⟩|⟨hk,c,hc,yp⟩
 .exact wpAny_Name (wpAny_loadName_local I.ok.kind hk hn hm fin) hd
 .rcases hk with hk|hk
  .exact wpAny_Name (wpAny_loadName_cell I.ok.kind hk hc yp fin) hd
  .exact wpAny_Name (wpAny_loadName_free I.ok.kind hk hc yp fin dr) hd
def jA{i j pos}:PE X (.Constant (.int i) j pos) (tC (.int i)):=λ_ _ _ H _ I h=>wpAny_Constant_int ⟨.int i,H,I.tok _,⟨_,rfl⟩,h⟩
def YS{b j pos}:PE X (.Constant (.bool b) j pos) (tC (.bl b)):=λ_ _ _ H _ I h=>Constant_bool ⟨.bl b,H,I,rfl,h⟩
def vc{j pos}:PE X (.Constant .none j pos) (tC .bx):=λ_ _ _ H _ I h=>Constant_none ⟨.bx,H,I,rfl,h⟩
def zY{x j pos}:PE X (.Constant (.str x) j pos) (tC (.str x)):=λ_ _ _ H _ I h=>Calls.Constant_str ⟨.str x,H,I.tok _,⟨_,rfl⟩,h⟩
def Gl(X:Cx)(x:Str):Prop:=X.env.kindOf x=al .globalImplicit
def fH{x:Str}(I:Inv X Z σ H s)(hg:Gl X x)(hm:X.mg x=al u)(h:Q u s)(hd: ~~~(d6 x)):f8 (lf X.prog X.w) X.A (o0 (.Name x pos) X.env) Q E s:=
 EE I.ok.kind hg (Calls.loadGlobal_global (by rw[I.ok.glob];exact I.mod.glob.keeps I.bk) hm h) hd
def gc{x:Str}(I:Inv X Z σ H s)(hg:Gl X x)(hm:X.mg x=bn)(hv:u8 x=al u)(h:Q u s)(hn: ~~~(x≠"__name__"))(hd: ~~~(d6 x)):f8 (lf X.prog X.w) X.A (o0 (.Name x pos) X.env) Q E s:=by
 obtain⟨mb,h1,h2⟩:=I.mod.blt;exact EE I.ok.kind hg (Calls.loadGlobal_builtin (by rw[I.ok.glob];exact I.mod.glob.keeps I.bk) hm (by rw[I.ok.blt];exact h1.keeps I.bk) ((h2 x hn).trans hv) h) hd
def eM{x:Str}(hg:Gl X x)(hm:X.mg x=al u)(r:RelV v u)(hd: ~~~(d6 x)):PE X (.Name x pos) (tC v):=
 λ_ _ _ H _ I h=>fH I hg hm ⟨v,H,I,r,h⟩ hd
def lY{x:Str}(hg:Gl X x)(hm:X.mg x=bn)(hv:u8 x=al u)(r:RelV v u)(hn: ~~~(x≠"__name__"))(hd: ~~~(d6 x)):PE X (.Name x pos) (tC v):=
 λ_ _ _ H _ I h=>gc I hg hm hv ⟨v,H,I,r,h⟩ hn hd
variable{b:pc}
def PC(X:Cx)(op:CmpOp)(a b:pc)(t:TE):Prop:=
 ∀(Z:O (db×Obj)) (s:gt) (σ:St) (H:Hp) (Q:VK),Inv X Z σ H s->t σ H Q->
  f8 (lf X.prog X.w) X.A (o0 a X.env) (λv s₁=>f8 (lf X.prog X.w) X.A (o0 b X.env) (λu s₂=>f8 (lf X.prog X.w) X.A (r9 op v u) (EP X Z σ Q) X.xe s₂) X.xe s₁) X.xe s
def tB(t:TE):TT:=λσ H Q=>t σ H λx H1=>∃c,x=.bl c/\Q c H1
def Va{t:TE}(h:PC X op a b t)(h1:wn op b=false:=by first|exact Y7 _ ⋯ ⋯ | rfl):PT X (.Compare a [op] [b] pos) (tB t):=by
 intro Z s σ H Q I hw;refine wpAny_isTrue_Compare1 (bp (h Z s σ H _ I hw) λv s1 h1=>bp h1 λu s2 h2=>bp h2 λc s3 ⟨x,H1,I1,r1,q1⟩=>?_) h1;obtain⟨d,rfl,q⟩:=q1;cases r1;exact Br ⟨H1,I1,q⟩
def gM{t:TE}(h:PE X e t)(he:∀Ä,isTrue e X.env Ä=(do let v <- Ä;Ix e.pos;sK [v] (truthy v)):=by intro _;rfl):PT X e (tB t):=by
 intro Z s σ H Q I hw;refine isTrue_plain (bp (h Z s σ H _ I hw) λv s1 ⟨x,H1,I1,r1,q1⟩=>?_) (he _);obtain⟨d,rfl,q⟩:=q1;cases r1;exact Br ⟨H1,I1,q⟩
variable{tA è:TT}{rest:O pc}
def acD(t u:TT):TT:=λσ H Q=>t σ H λc H1=>if c=true then u σ H1 Q else Q false H1
def tOr(t u:TT):TT:=λσ H Q=>t σ H λc H1=>if c=true then Q true H1 else u σ H1 Q
def acw(t:TT):TT:=λσ H Q=>t σ H λc H1=>Q (!c) H1
def Jc(ha:PT X a tA):PW X (.BoolOp .And [a] pos) tA:=by
 intro wh Z s σ H Q I h;refine isTrue_and (bp (ha Z s σ H Q I h) λc s1 e=>?_);cases c with
 |true=>exact isTrue_and_nil e
 |false=>exact e
def zS(ha:PT X a tA):PW X (.BoolOp .Or [a] pos) tA:=by
 intro wh Z s σ H Q I h;refine isTrue_or (bp (ha Z s σ H Q I h) λc s1 e=>?_);cases c with
 |false=>exact isTrue_or_nil e
 |true=>exact e
def MN(ha:PT X a tA)(hb:PW X (.BoolOp .And (b::rest) pos) è):PW X (.BoolOp .And (a::b::rest) pos) (acD tA è):=by
 intro wh Z s σ H Q I h;refine isTrue_and (bp (ha Z s σ H _ I h) λc s1 ⟨H1,I1,q1⟩=>?_);cases c with
 |true=>exact hb wh Z s1 σ H1 Q I1 q1
 |false=>exact⟨H1,I1,q1⟩
def MM(ha:PT X a tA)(hb:PW X (.BoolOp .Or (b::rest) pos) è):PW X (.BoolOp .Or (a::b::rest) pos) (tOr tA è):=by
 intro wh Z s σ H Q I h;refine isTrue_or (bp (ha Z s σ H _ I h) λc s1 ⟨H1,I1,q1⟩=>?_);cases c with
 |true=>exact⟨H1,I1,q1⟩
 |false=>exact hb wh Z s1 σ H1 Q I1 q1
def m9(ha:PT X a tA):PT X (.UnaryOp .Not a pos) (acw tA):=by
 intro Z s σ H Q I h;exact isTrue_not (ha Z s σ H (λc H1=>Q (!c) H1) I h)
def Yf(ta tb:TE):TE:=λσ H Q=>ta σ H λx H1=>∃c,x=.bl c/\if c=true then tb σ H1 Q else Q (.bl false) H1
def acv(ta tb:TE):TE:=λσ H Q=>ta σ H λx H1=>∃c,x=.bl c/\if c=true then Q (.bl true) H1 else tb σ H1 Q
def X3(ta:TE):TE:=λσ H Q=>ta σ H λx H1=>∃c,x=.bl c/\Q (.bl (!c)) H1
def zZ{op}{t:TE}(h:PE X a t):PE X (.BoolOp op [a] pos) t:=λZ s σ H Q I hw=>BoolOp_one (h Z s σ H Q I hw)
def Nc(ha:PE X a ta)(hb:PE X (.BoolOp .And (b::rest) pos) tb):PE X (.BoolOp .And (a::b::rest) pos) (Yf ta tb):=by
 intro Z s σ H Q I h;refine BoolOp_and (bp (ha Z s σ H _ I h) λv s1 ⟨x,H1,I1,r1,q1⟩=>?_);obtain⟨c,rfl,q1⟩:=q1;cases r1;refine Br ?_;cases c with
 |true=>exact hb Z s1 σ H1 Q I1 q1
 |false=>exact⟨.bl false,H1,I1,rfl,q1⟩
def S9(ha:PE X a ta)(hb:PE X (.BoolOp .Or (b::rest) pos) tb):PE X (.BoolOp .Or (a::b::rest) pos) (acv ta tb):=by
 intro Z s σ H Q I h;refine BoolOp_or (bp (ha Z s σ H _ I h) λv s1 ⟨x,H1,I1,r1,q1⟩=>?_);obtain⟨c,rfl,q1⟩:=q1;cases r1;refine Br ?_;cases c with
 |false=>exact hb Z s1 σ H1 Q I1 q1
 |true=>exact⟨.bl true,H1,I1,rfl,q1⟩
def M7(ha:PE X a ta):PE X (.UnaryOp .Not a pos) (X3 ta):=by
 intro Z s σ H Q I h;refine UnaryOp_ (bp (ha Z s σ H _ I h) λv s1 ⟨x,H1,I1,r1,q1⟩=>?_);obtain⟨c,rfl,q1⟩:=q1;cases r1;exact not_of (Br ⟨.bl (!c),H1,I1,rfl,q1⟩)
def tIf(t:TT)(ta tb:TE):TE:=λσ H Q=>t σ H λc H1=>if c=true then ta σ H1 Q else tb σ H1 Q
def M8{c:pc}(hc:PT X c tA)(ha:PE X a ta)(hb:PE X b tb):PE X (.IfExp c a b pos) (tIf tA ta tb):=by
 intro Z s σ H Q I h;refine wpAny_IfExp (bp (hc Z s σ H _ I h) λd s1 ⟨H1,I1,q1⟩=>?_);cases d with
 |true=>exact ha Z s1 σ H1 Q I1 q1
 |false=>exact hb Z s1 σ H1 Q I1 q1
end
end L2
variable{xs ys:O L2.V}{y:L2.V}{D:L2.Ends}{te to:L2.TE}{es:O BV}{n:Nat}{tg:BV}{È px py pt:Cv}{body:O PySem.Stmt}
namespace L2
def du(K:Aa)(H:Hp)(a:db)(xs:O V):Prop:=
 Rd H a (.lst xs)\/
  ∃(o:Obj) (ax:Array ce) (n:Nat),K.lookup a=al o/\o.cls=.type "list"/\o.dict=bn/\o.data=.seq ax n/\ax.size<=sizeLine/\Vals xs ax.toList
def dX(K:Aa)(H:Hp)(a:db)(xs:O V):Prop:=
 Rd H a (.tup xs)\/
  ∃(o:Obj) (ax:Array ce) (n:Nat),K.lookup a=al o/\o.cls=.type "tuple"/\o.data=.seq ax n/\ax.size<=sizeLine/\Vals xs ax.toList
def aeC:ce->Option V
 |.none=>al .bx
 |.bool b=>al (.bl b)
 |.int i _=>al (.int i)
 |.str x _=>al (.str x)
 |.bytes b _=>al (.Uh b)
 |.float b _=>al (.Wn b)
 |.ref a=>al (.ref a)
 |.type n=>al (.ty n)
 |_=>bn
def RelV.abs{x:V}(r:RelV x u):aeC u=al x:=by
 cases x with
 |bx=>cases r;rfl
 |bl _=>cases r;rfl
 |int _=>obtain⟨t,rfl⟩:=r;rfl
 |str _=>obtain⟨t,rfl⟩:=r;rfl
 |Uh _=>obtain⟨t,rfl⟩:=r;rfl
 |Wn _=>obtain⟨t,rfl⟩:=r;rfl
 |ref _=>cases r;rfl
 |ty _=>cases r;rfl
def RelV.inj{x:V}(r:RelV x u)(q:RelV y u):x=y:=Option.some.inj (r.abs.symm.trans q.abs)
theorem Vals.inj:∀{xs ys:O V}{us:O ce},Vals xs us->Vals ys us->xs=ys
 |_,_,_,.nil,.nil=>rfl
 |_,_,_,.cons r t,.cons r' t'=>by rw[r.inj r',Vals.inj t t']
section
variable{a:db}
def du.of{K:Aa}(h:H a=al (.lst xs)):du K H a xs:=.inl (.inl h)
def dX.of{K:Aa}(h:H a=al (.tup xs)):dX K H a xs:=.inl (.inl h)
theorem Inv.list(I:Inv X Z σ H s)(h:du X.K H a xs):∃ax:O ce,Vals xs ax/\PlainL s.heap a ax.toArray/\xs.length<=sizeLine:=by
 rcases h with h|⟨o,ax,n,hk,hc,hd,hs,hz,r⟩
 .obtain⟨z,ax,n,r,e⟩:=h.ok I.aX;exact⟨ax,r,⟨_,n,e,rfl,rfl,rfl⟩,z⟩
 .refine⟨ax.toList,r,⟨o,n,I.fm a o hk,hc,hd,by simpa using hs⟩,?_⟩;have e:=r.length;simp at e;lia
theorem Inv.tuple(I:Inv X Z σ H s)(h:dX X.K H a xs):∃ax:O ce,Vals xs ax/\IsTup s.heap a ax.toArray/\xs.length<=sizeLine:=by
 rcases h with h|⟨o,ax,n,hk,hc,hs,hz,r⟩
 .obtain⟨z,ax,r,p,_⟩:=h.ok I.aX;exact⟨ax,r,p,z⟩
 .refine⟨ax.toList,r,⟨o,I.fm a o hk,hc,n,by simpa using hs⟩,?_⟩;have e:=r.length;simp at e;lia
def Inv.yb(I:Inv X Z σ H s)(h:du X.K H a xs)(h':du X.K H a ys):xs=ys:=by
 obtain⟨ax,r,⟨o,n,e,_,_,d⟩,_⟩:=I.list h;obtain⟨its',r',⟨o',n',e',_,_,d'⟩,_⟩:=I.list h';rw[e]at e';cases e';rw[d]at d';injection d' with d1 _;have:ax=its':=by simpa using congrArg GB d1
 subst this;exact r.inj r'
def Inv.jX(I:Inv X Z σ H s)(h:dX X.K H a xs)(h':dX X.K H a ys):xs=ys:=by
 obtain⟨ax,r,⟨o,e,_,n,d⟩,_⟩:=I.tuple h;obtain⟨its',r',⟨o',e',_,n',d'⟩,_⟩:=I.tuple h';rw[e]at e';cases e';rw[d]at d';injection d' with d1 _;have:ax=its':=by simpa using congrArg GB d1
 subst this;exact r.inj r'
end
abbrev Cx.mV(X:Cx)(E:ce->gt->Prop):Cx:={X with xe:=E}
abbrev Cx.Ky(X:Cx):Cx:=X.mV λ_ _=>False
def Cx.Ok.mV(ok:X.Ok)(E:ce->gt->Prop):(X.mV E).Ok:=
 ⟨ok.mod,ok.kind,ok.glob,ok.blt,ok.above,ok.inj,ok.has,ok.WO,ok.hd,ok.frames,ok.Yh,ok.exf,ok.bs,ok.Pe,ok.Kz,ok.La,ok.jN,ok.P1⟩
def Cx.Ok.iA(ok:(X.mV E).Ok):X.Ok:=
 ⟨ok.mod,ok.kind,ok.glob,ok.blt,ok.above,ok.inj,ok.has,ok.WO,ok.hd,ok.frames,ok.Yh,ok.exf,ok.bs,ok.Pe,ok.Kz,ok.La,ok.jN,ok.P1⟩
section
def Inv.mV(I:Inv X Z σ H s)(E:ce->gt->Prop):Inv (X.mV E) Z σ H s:=⟨I.ok.mV E,I.os,I.bare,I.base,I.loc,I.cell,I.free,I.fu,I.pin,I.aX,I.len⟩
def Inv.iA(I:Inv (X.mV E) Z σ H s):Inv X Z σ H s:=⟨I.ok.iA,I.os,I.bare,I.base,I.loc,I.cell,I.free,I.fu,I.pin,I.aX,I.len⟩
def SP.iA{f:Flow}(h:SP (X.mV E) Z D f s'):SP X Z D f s':=by
 cases f with
 |next=>obtain⟨σ',H',I,q⟩:=h;exact⟨σ',H',I.iA,q⟩
 |brk=>obtain⟨σ',H',I,q⟩:=h;exact⟨σ',H',I.iA,q⟩
 |cont=>obtain⟨σ',H',I,q⟩:=h;exact⟨σ',H',I.iA,q⟩
 |ret u=>obtain⟨v,σ',H',I,r,q⟩:=h;exact⟨v,σ',H',I.iA,r,q⟩
def nY.Ky{st:O ut}{t:TS}(h:nY X.Ky st t):nY X st t:=λZ s σ H D I hw=>
 BD (h Z s σ H D (I.mV _) hw) (λ_ _ q=>q.iA) λ_ _ z=>AV z
end
section
variable{st:ut}{rest:O ut}{t u:TS}
def X5:TS:=λD σ H=>D.nx σ H
def acr(t u:TS):TS:=λD σ H=>t {D with nx:=u D} σ H
def dH:nY X [] X5:=λ_ _ σ H _ I h=>C2 ⟨σ,H,I,h⟩
def aW(h1:PS X st t)(h2:nY X rest u):nY X (st::rest) (acr t u):=by
 intro Z s σ H D I h;refine Fe (bp (h1 Z s σ H {D with nx:=u D} I h) λf s1 q=>?_);cases f with
 |next=>
  obtain⟨σ',H',I',q⟩:=q;exact h2 Z s1 σ' H' D I' q
 |ret v=>exact q
 |brk=>exact q
 |cont=>exact q
def bu(h1:PS X st t):nY X [st] t:=by
 intro Z s σ H D I h;refine Fe (bp (h1 Z s σ H D I h) λf s1 q=>?_);cases f with
 |next=>exact C2 q
 |ret v=>exact q
 |brk=>exact q
 |cont=>exact q
def Yb:TS:=λD σ H=>D.ct σ H
def xJ:PS X (.Continue pos) Yb:=λ_ _ σ H _ I h=>wpAny_Continue ⟨σ,H,I,h⟩
def Inv.quiet(I:Inv X Z σ H s):interactive X.env=false:=by simp[interactive,I.ok.kind]
def Ya(te:TE):TS:=λD σ H=>te σ H λ_ H1=>D.nx σ H1
def iH(he:PE X e te)(hs:‹r6 e bn pos.line X.env=pure false›):PS X (.Expr e pos) (Ya te):=by
 intro Z s σ H D I h;exact wpAny_Expr_any (bp (he Z s σ H _ I h) λv s1 ⟨x,H1,I1,r1,q1⟩=>⟨σ,H1,I1,q1⟩) I.quiet hs
def acs(te:TE):TS:=λD σ H=>te σ H D.rt
def dq(he:PE X e te):PS X (.Return (al e) pos) (acs te):=by
 intro Z s σ H D I h;exact wpAny_Return_some (bp (he Z s σ H _ I h) λv s1 ⟨x,H1,I1,r1,q1⟩=>⟨x,σ,H1,I1,r1,q1⟩)
def acy(c:TT)(t u:TS):TS:=λD σ H=>c σ H λb H1=>if b=true then t D σ H1 else u D σ H1
def jy{c:pc}{a b:O ut}{tc:TT}(hc:PT X c tc)(ha:nY X a t)(hb:nY X b u):PS X (.If c a b pos) (acy tc t u):=by
 intro Z s σ H D I h;refine wpAny_If (bp (hc Z s σ H _ I h) λd s1 ⟨H1,I1,q1⟩=>?_);cases d with
 |true=>exact ha Z s1 σ H1 D I1 q1
 |false=>exact hb Z s1 σ H1 D I1 q1
def UE:TS:=λ_ _ _=>False
end
abbrev TG:=V->St->Hp->(St->Hp->Prop)->Prop
abbrev WZ:=O V->St->Hp->(St->Hp->Prop)->Prop
def PG(X:Cx)(Î:pc)(t:TG):Prop:=
 ∀(Z:O (db×Obj)) (s:gt) (σ:St) (H:Hp) (v:V) (u:ce) (Q:St->Hp->Prop),Inv X Z σ H s->RelV v u->t v σ H Q->
  f8 (lf X.prog X.w) X.A (KB Î X.env u) (λ_ s'=>∃σ' H',Inv X Z σ' H' s'/\Q σ' H') X.xe s
def PGs(X:Cx)(ts:O pc)(t:WZ):Prop:=
 ∀(Z:O (db×Obj)) (s:gt) (σ:St) (H:Hp) (vs:O V) (us:O ce) (Q:St->Hp->Prop),Inv X Z σ H s->Vals vs us->t vs σ H Q->
  f8 (lf X.prog X.w) X.A (assignInOrder ((IR ts X.env).map (·.2)) us) (λ_ s'=>∃σ' H',Inv X Z σ' H' s'/\Q σ' H') X.xe s
abbrev Pw:=V->V->V->Hp->(Hp->Prop)->Prop
def LC(X:Cx)(t:Pw):Prop:=
 ∀(Z:O (db×Obj)) (s:gt) (σ:St) (H:Hp) (o i v:V) (ov iv u:ce) (Q:Hp->Prop),Inv X Z σ H s->RelV o ov->RelV i iv->RelV v u->t o i v H Q->
  f8 (lf X.prog X.w) X.A (Rs ov iv u) (λ_ s'=>∃H',Inv X Z σ H' s'/\Q H') X.xe s
section
def ig(i:Nat):TG:=λv σ H Q=>Q (σ.set i (al v)) H
def QM{x:Str}(hN:X.N.Nodup)(hi:X.N[i]?=al x)(hx:Loc X.env.scope x)(hf:Px X x:=by first|exact .inl rfl|exact .inr rfl|assumption):PG X (.Name x pos) (ig i):=by
 intro Z s σ H v u Q I r h;exact wpAny_assign_Name (eW I hN hi hx r (λs' I'=>⟨_,H,I',h⟩) hf)
def ZY:WZ:=λvs σ H Q=>vs=[]/\Q σ H
def Ou(t:TG)(u:WZ):WZ:=λvs σ H Q=>∃v r,vs=v::r/\t v σ H λσ' H'=>u r σ' H' Q
def iJ:PGs X [] ZY:=by
 intro Z s σ H vs us Q I r h;obtain⟨e,h⟩:=h;subst e;cases r;exact assignInOrder_nil ⟨σ,H,I,h⟩
def cf{t:TG}{u:WZ}(h1:PG X e t)(h2:PGs X es u)(hs:‹(IR (e::es) X.env).map (·.2)=KB e X.env::(IR es X.env).map (·.2)›):PGs X (e::es) (Ou t u):=by
 intro Z s σ H vs us Q I r h;obtain⟨v,vr,e1,h⟩:=h;subst e1;cases r with
 |cons r rr=>
  rw[hs];exact Fa (bp (h1 Z s σ H _ _ _ I r h) λ_ s1 ⟨σ1,H1,I1,q1⟩=>h2 Z s1 σ1 H1 _ _ Q I1 rr q1)
def ZX(K:Aa)(n:Nat)(t:WZ):TG:=λv σ H Q=>∃a xs,v=.ref a/\dX K H a xs/\xs.length=n/\t xs σ H Q
def kU{k:Nat}{t:WZ}(hc:X.calm=true)(h:PGs X es t)(hn:‹(IR es X.env).length=n›)(k6:‹(IR es X.env).findIdx? (·.1)=bn›):PG X (.Tuple es k pos) (ZX X.K n t):=by
 intro Z s σ H v u Q I r hw;obtain⟨a,xs,e1,hq,hl,hw⟩:=hw;subst e1;cases r;obtain⟨ax,rv,ht,hz⟩:=I.tuple hq;exact assign_Tuple_tuple (I.ok.hd hc) ht (by simp[hn,<- hl,rv.length]) k6 λh' hx=>h Z _ σ H xs _ Q (I.kept λb o e=>hx b o (AD (Aj e)) e) (by simpa using rv) hw
def ad6(to ti:TE)(t:Pw):TG:=λv σ H Q=>to σ H λo H1=>ti σ H1 λi H2=>t o i v H2 λH3=>Q σ H3
def zX{o i:pc}{ti:TE}{t:Pw}(ho:PE X o to)(hi:PE X i ti)(hs:LC X t)(ha:∀v,KB (.Subscript o i pos) X.env v=(do
   let ov <- sK [v] (o0 o X.env)
   let iv <- sK [v,ov] (o0 i X.env)
   Ix pos
   sK [v,ov,iv] (Rs ov iv v)
   release [v,ov,iv] []):=by intro _;rfl):PG X (.Subscript o i pos) (ad6 to ti t):=by
 intro Z s σ H v u Q I r h;exact Ab (Ba (bp (ho Z s σ H _ I h) λov s1 ⟨x,H1,I1,r1,q1⟩=>Ab (Ba (bp (hi Z s1 σ H1 _ I1 q1) λiv s2 ⟨y,H2,I2,r2,q2⟩=>Ab (Cd (Ab (Ba (bp (hs Z s2 σ H2 x y v ov iv u _ I2 r1 r2 r q2) λ_ s3 ⟨H3,I3,q3⟩=>wpAny_release ⟨σ,H3,I3,q3⟩))))))))
def UI(te:TE)(g:TG):TS:=λD σ H=>te σ H λx H1=>g x σ H1 D.nx
def zV{g:TG}(he:PE X e te)(hg:PG X tg g)(hs:‹xL [tg] e pos.line X.env=pure false›)(hw:‹zn [tg] e X.env=pure bn›)(h1:‹(IR [tg] X.env).map (·.2)=[KB tg X.env]›):PS X (.Assign [tg] e pos) (UI te g):=by
 intro Z s σ H D I h;refine wpAny_Assign_stores (bp (he Z s σ H _ I h) λv s1 ⟨x,H1,I1,r1,q1⟩=>?_) hs hw;rw[h1];exact bp (hg Z s1 σ H1 x v _ I1 r1 q1) λ_ s2 q=>q
def dI{x:Str}(hN:X.N.Nodup)(hi:X.N[i]?=al x)(hx:Loc X.env.scope x)(he:PE X e te)(hs:‹r6 e (al (.Name x È)) pos.line X.env=pure false›)(hf:Px X x:=by first|exact .inl rfl|exact .inr rfl|assumption):PS X (.Assign [.Name x È] e pos) (UI te (ig i)):=by
 intro Z s σ H D I h;refine wpAny_Assign_Name (bp (he Z s σ H _ I h) λv s1 ⟨y,H1,I1,r1,q1⟩=>?_) hs;exact eW I1 hN hi hx r1 (λs2 I2=>⟨_,H1,I2,q1⟩) hf
def acu(i j:Nat)(ta:TA):TS:=λD σ H=>ta σ H λvs H1=>∃v w,vs=[v,w]/\D.nx ((σ.set i (al v)).set j (al w)) H1
def MW{x y:Str}{b:pc}{ta:TA}{kt k2 xI}(hc:X.calm=true)(hN:X.N.Nodup)(hi:X.N[i]?=al x)(hj:X.N[j]?=al y)(PZ:i≠j)(hx:X.env.scope.names.lookup x=al .local)(hy:X.env.scope.names.lookup y=al .local)(ha:PA X [a,b] ta)(hw:zn [.Tuple [.Name x px,.Name y py] kt pt] (.Tuple [a,b] k2 xI) X.env=pure (al [x,y]))(hs:‹xL [.Tuple [.Name x px,.Name y py] kt pt] (.Tuple [a,b] k2 xI) pos.line X.env=pure false›):PS X (.Assign [.Tuple [.Name x px,.Name y py] kt pt] (.Tuple [a,b] k2 xI) pos) (acu i j ta):=by
 intro Z s σ H D I h;refine Ab (Cd ?_);refine Ab (Ae ?_);refine Ab (Tuple_ (bp (ha _ Z s σ H _ I h) λus s1 ⟨vs,H1,I1,r1,q1⟩=>?_));obtain⟨v,w,e1,q1⟩:=q1;subst e1;obtain⟨u1,u2,rfl,rv,Kn⟩:∃u1 u2,us=[u1,u2]/\RelV v u1/\RelV w u2:=by
  cases r1 with
  |cons p q=>
   cases q with
   |cons p' q'=>
    cases q';exact⟨_,_,rfl,p,p'⟩
 refine BM ?_ (by show 2<=sizeLine;decide);rw[hw];refine Ab (Ae ?_);refine Ab (CY (Ab (unpackItems_tuple (items:=#[u1,u2]) (I.ok.hd hc) (GL s1.heap _) λh' sE=>?_)));refine Ab (Fa (DK (eW ((I1.kept λb o e=>Ad _ e).kept (t':=s1.toks) λb o e=>sE b o (AD (Aj e)) e) hN hj (.inl hy) Kn (λs2 I4=>?_) (.inr hy))));refine Fa (DK (eW I4 hN hi (.inl hx) rv (λs3 I5=>assignInOrder_nil (Ae ?_)) (.inr hx)));rw[E8 _ _ (Bu PZ)]at I5;exact⟨_,H1,I5,q1⟩
end
section
def UA(c:TT)(tb:TS):TS:=λD σ H=>∃W:Nat->St->Hp->Prop,(∃m,W m σ H)/\∀m σ H,W m σ H->
 c σ H λb H1=>if b=true then ∃N:St->Hp->Prop,(∀σ' H',N σ' H'->∃m',m'<m/\W m' σ' H')/\tb {D with nx:=N,ct:=N,bk:=D.nx} σ H1 else D.nx σ H1
def lS{c:pc}{tc:TT}{tb:TS}(hp:Ch (lf X.prog X.w) X.A X.env X.xe)(hc:PT X c tc)(hb:nY X body tb):PS X (.While c body [] pos) (UA tc tb):=by
 intro Z s σ H D I h;obtain⟨W,⟨m0,w0⟩,Ð⟩:=h;refine wpAny_While (codeAny_whileLoop (λn s'=>∃σ' H',Inv X Z σ' H' s'/\W n σ' H') ?_ m0 ⟨σ,H,I,w0⟩);rintro n s1 ⟨σ1,H1,I1,w1⟩;refine CA hp (bp (hc Z s1 σ1 H1 _ I1 (Ð n σ1 H1 w1)) λb s2 ⟨H2,I2,q2⟩=>?_);cases b with
 |true=>
  obtain⟨N,hN,q2⟩:=q2;refine CA hp (bp (hb Z s2 σ1 H2 _ I2 q2) λf s3 q3=>?_);cases f with
  |next=>
   obtain⟨σ3,H3,I3,n3⟩:=q3;obtain⟨m',hm,w3⟩:=hN σ3 H3 n3;exact⟨m',hm,σ3,H3,I3,w3⟩
  |cont=>
   obtain⟨σ3,H3,I3,n3⟩:=q3;obtain⟨m',hm,w3⟩:=hN σ3 H3 n3;exact⟨m',hm,σ3,H3,I3,w3⟩
  |brk=>exact q3
  |ret v=>exact q3
 |false=>
  exact C2 ⟨σ1,H2,I2,q2⟩
end
structure It where
 go:Nat->Hp->Prop
 Qa:Nat->Hp->V->Hp->Prop
 stop:Nat->Hp->Prop
def sX(X:Cx)(Z:O (db×Obj))(H:Hp)(b:db):Prop:=
 H b=bn/\b≠X.env.locals/\b∉X.fs/\(b∈X.ex\/X.s₀.heap.objs.size<=b)/\(∀x c,X.env.cells.lookup x=al c->c≠b)/\∀p∈X.pn++Z,p.1≠b
def Inv.yA(I:Inv X Z σ H s)(hb:s.heap.objs.size<=b)(hn:H' b=bn):sX X Z H' b:=by
 refine⟨hn,Fv (Av I.lt hb),I.ac4 hb,.inr (AE I.sz hb),λx c e z=>?_,λp hp z=>?_⟩
 .obtain⟨v,q⟩:=I.cell x c e;exact absurd (Av q.lt (by rw[z];exact hb)) (AQ _)
 .exact absurd (Av (Aj (I.pin p hp).1) (by rw[z];exact hb)) (AQ _)
structure Turn(P:tz)(w:wS)(K:Aa)(tg:pc)(J:It)(fp:List db)(it:db)(tn:Nat->nn->Prop):Prop where
 mem:it∈fp
 obj:∀i h,tn i h->∀b∈fp,∃o,h.get? b=al o/\∀v,o.data≠.cell v
 keep:∀i h h',tn i h->(∀b∈fp,∀o,h.get? b=al o->h'.get? b=al o)->tn i h'
 item:∀(X:Cx),X.prog=P->X.w=w->X.K=K->X.calm=true->∀(i:Nat) (Z:List (db×Obj)) (s:gt) (σ:St) (H:Hp) (E:ce->gt->Prop),Inv X Z σ H s->(∀b∈fp,sX X Z H b)->tn i s.heap->J.go i H->
  f8 (lf P w) X.A (pyNext (.ref it)) (λr s1=>∃u,r=al u/\
   f8 (lf P w) X.A (Uf tg (.ref it) u) (λ_ s2=>∃x H',Inv X Z σ H' s2/\RelV x u/\J.Qa i H x H'/\tn (i+1) s2.heap/\∀b∈fp,H' b=bn) E s1) E s
 done:∀(X:Cx),X.prog=P->X.w=w->X.K=K->X.calm=true->∀(i:Nat) (Z:List (db×Obj)) (s:gt) (σ:St) (H:Hp) (E:ce->gt->Prop),Inv X Z σ H s->(∀b∈fp,sX X Z H b)->tn i s.heap->J.stop i H->
  f8 (lf P w) X.A (pyNext (.ref it)) (λr s1=>r=bn/\Inv X Z σ H s1) E s
 self:∀(A:BT) (i:Nat) (s:gt) (Q:ce->gt->Prop) (E:ce->gt->Prop),tn i s.heap->Q (.ref it) s->f8 (lf P w) A (pyIter (.ref it)) Q E s
abbrev TI:=St->Hp->(It->Hp->Prop)->Prop
def PIE(X:Cx)(Z:O (db×Obj))(σ:St)(tg:pc)(R:It->Hp->Prop)(ó:ce)(s2:gt):Prop:=
 ∃(it:db) (fp:O db) (tn:Nat->nn->Prop) (J:It) (H':Hp),ó=.ref it/\Inv X Z σ H' s2/\Turn X.prog X.w X.K tg J fp it tn/\tn 0 s2.heap/\(∀b∈fp,sX X Z H' b)/\R J H'
def PI(X:Cx)(tg iter:pc)(wi:TI):Prop:=
 ∀(Z:O (db×Obj)) (s:gt) (σ:St) (H:Hp) (R:It->Hp->Prop),Inv X Z σ H s->wi σ H R->
  f8 (lf X.prog X.w) X.A (o0 iter X.env) (λv s1=>f8 (lf X.prog X.w) X.A (pyIter v) (PIE X Z σ tg R) X.xe s1) X.xe s
def yt{n:String}{vs:Array ce}{Q:Unit->gt->Prop}(ho:s.heap.get? it=al o)(hc:o.cls=.type n)(hd:o.data=.fields vs)(hn:["enumerate","zip","dict_itemiterator","dict_reverseitemiterator","odict_iterator","itertools.zip_longest","itertools.pairwise"].contains n=false)(hQ:Q () s):f8 M A (Uf tg (.ref it) u) Q E s:=by
 unfold Uf;cases tg<;>first
  |exact Ae hQ
  |(cases u<;>first
    |exact Ae hQ
    |(
      refine Ab (wpAny_load ho ?_);rw[hc,hd];show f8 M A (if (["enumerate","zip","dict_itemiterator","dict_reverseitemiterator","odict_iterator","itertools.zip_longest","itertools.pairwise"].contains n&&vs[0]?==al (pr _))=true then _ else _) Q E s;rw[if_neg (by intro h;rw[hn,Bool.false_and]at h;cases h)];exact Ae hQ))
def Itl(K:Aa)(a:db):It:=
 ⟨λi H=>∃xs x,du K H a xs/\xs[i]?=al x,λi H x H'=>H'=H/\∀xs,du K H a xs->xs[i]?=al x,λi H=>∃xs,du K H a xs/\xs.length<=i⟩
def Itt(K:Aa)(a:db):It:=
 ⟨λi H=>∃xs x,dX K H a xs/\xs[i]?=al x,λi H x H'=>H'=H/\∀xs,dX K H a xs->xs[i]?=al x,λi H=>∃xs,dX K H a xs/\xs.length<=i⟩
def Itr(lo:Int)(n:Nat):It:=⟨λi _=>i<n,λi H x H'=>H'=H/\x=.int (lo+i),λi _=>n<=i⟩
theorem Kb{K:Aa}(a it:db):Turn P w K tg (Itl K a) [it] it (λi h=>h.IsListIter it a i) where
 mem:=by simp
 obj:=λi h st b hb=>by
  have e:b=it:=by simpa using hb
  subst e;obtain⟨o,e,c,d⟩:=st;exact⟨o,e,λv z=>by rw[d]at z;cases z⟩
 keep:=λi h h' st k=>st.at λo e=>k it (by simp) o e
 item:=by
  intro X hP hw hK hc i Z s σ H E I hf st hg;subst hP hw hK;obtain⟨xs,x,hq,hx⟩:=hg;obtain⟨ax,rv,p,hz⟩:=I.list hq;obtain⟨u,hu,ru⟩:=rv.get hx;obtain⟨f0,f1,f2,f3,f4,f5⟩:=hf it (by simp);refine wpAny_pyNext_list_item st p.isList (by simpa using hu) λh' Iz sb=>?_;obtain⟨o,e,c,d⟩:=id Iz;exact⟨u,rfl,yt e c d ⋯ ⟨x,H,(I.turned (λb o hb e=>(sb.2 b hb).trans e) f0 f1 f3 f4 f5),ru,⟨rfl,λys hy=>by rw[I.yb hy hq];exact hx⟩,Iz,λb hb=>(hf b hb).1⟩⟩
 done:=by
  intro X hP hw hK hc i Z s σ H E I hf st hg;subst hP hw hK;obtain⟨xs,hq,hx⟩:=hg;obtain⟨ax,rv,p,hz⟩:=I.list hq;obtain⟨f0,f1,f2,f3,f4,f5⟩:=hf it (by simp);have hl:=rv.length;exact wpAny_pyNext_list_end (I.ok.hd hc) st p.isList (by simp;lia) λh' eb=>⟨rfl,I.turned (t':=s.toks) (λb o hb e=>eb b o hb e) f0 f1 f3 f4 f5⟩
 self:=λ_ _ _ _ _ st h=>wpAny_pyIter_listiter st h
theorem zA{K:Aa}(a it:db):Turn P w K tg (Itt K a) [it] it (λi h=>h.IsTupleIter it a i) where
 mem:=by simp
 obj:=λi h st b hb=>by
  have e:b=it:=by simpa using hb
  subst e;obtain⟨o,e,c,d⟩:=st;exact⟨o,e,λv z=>by rw[d]at z;cases z⟩
 keep:=λi h h' st k=>st.at λo e=>k it (by simp) o e
 item:=by
  intro X hP hw hK hc i Z s σ H E I hf st hg;subst hP hw hK;obtain⟨xs,x,hq,hx⟩:=hg;obtain⟨ax,rv,p,hz⟩:=I.tuple hq;obtain⟨u,hu,ru⟩:=rv.get hx;obtain⟨f0,f1,f2,f3,f4,f5⟩:=hf it (by simp);refine wpAny_pyNext_tuple_item st (p) (by simpa using hu) λh' Iz sb=>?_;obtain⟨o,e,c,d⟩:=id Iz;exact⟨u,rfl,yt e c d ⋯ ⟨x,H,(I.turned (λb o hb e=>(sb.2 b hb).trans e) f0 f1 f3 f4 f5),ru,⟨rfl,λys hy=>by rw[I.jX hy hq];exact hx⟩,Iz,λb hb=>(hf b hb).1⟩⟩
 done:=by
  intro X hP hw hK hc i Z s σ H E I hf st hg;subst hP hw hK;obtain⟨xs,hq,hx⟩:=hg;obtain⟨ax,rv,p,hz⟩:=I.tuple hq;obtain⟨f0,f1,f2,f3,f4,f5⟩:=hf it (by simp);have hl:=rv.length;exact wpAny_pyNext_tuple_end (I.ok.hd hc) st (show s.heap.IsTuple a ax.toArray from p) (by simp;lia) λh' eb=>⟨rfl,I.turned (t':=s.toks) (λb o hb e=>eb b o hb e) f0 f1 f3 f4 f5⟩
 self:=λ_ _ _ _ _ st h=>wpAny_pyIter_tupleiter st h
theorem zC{K:Aa}(it:db)(lo:Int)(n:Nat):Turn P w K tg (Itr lo n) [it] it (λi h=>IsRangeIter h it (lo+(i:Nat)*1) ((n:Int)-(i:Nat)) 1) where
 mem:=by simp
 obj:=λi h st b hb=>by
  have e:b=it:=by simpa using hb
  subst e;exact⟨_,st,λv z=>by
   have z':=z;cases z'⟩
 keep:=λi h h' st k=>k it (by simp) _ st
 item:=by
  intro X hP hw hK hc i Z s σ H E I hf st hg;subst hP hw hK;obtain⟨f0,f1,f2,f3,f4,f5⟩:=hf it (by simp);refine(Walks.range (prog:=X.prog) (I.ok.hd hc) it lo 1 n).item i s _ _ hg st λv h' tk hv Iz kk=>?_;obtain⟨t,rfl⟩:=hv;refine⟨_,rfl,yt Iz rfl rfl ⋯ ⟨.int (lo+i),H,(I.turned (λb o hb e=>kk b o (by simpa using hb) e) f0 f1 f3 f4 f5),⟨t,?_⟩,⟨rfl,rfl⟩,Iz,λb hb=>(hf b hb).1⟩⟩;rw[Int.mul_one]
 done:=by
  intro X hP hw hK hc i Z s σ H E I hf st hg;obtain⟨f0,f1,f2,f3,f4,f5⟩:=hf it (by simp);exact wpAny_pyNext_range_end (I.ok.hd hc) st (by have:n<=i:=hg;lia) λh' eb=>⟨rfl,I.turned (λb o hb e=>eb b o hb e) f0 f1 f3 f4 f5⟩
 self:=λ_ _ _ _ _ st h=>wpAny_pyIter_rangeiter st h
end L2
variable{p:Cv}{fp:O AY}{iter:BV}{wi:L2.TI}
namespace L2
section
theorem Mz{R:It->Hp->Prop}{lo hi:Int}{t u v:Tok}{tk:Nat}(I:Inv X Z σ H s)(h1:-(2 ^ 62)<=lo)(h2:lo < 2 ^ 62)(h3:-(2 ^ 62)<=hi)(h4:hi < 2 ^ 62)(q:R (Itr lo (hi-lo).toNat) H):f8 (lf X.prog X.w) X.A (pyIter (.ref s.heap.objs.size)) (PIE X Z σ tg R) E {s with heap:=s.heap.push {cls:=.type "range",data:=.fields #[.int lo t,.int hi u,.int 1 v]},toks:=tk}:=by
 refine wpAny_pyIter_range (IsRange.new ..) (small_one h1 h2 h3 h4) ?_;have I1:Inv X Z σ H {s with heap:=s.heap.push {cls:=.type "range",data:=.fields #[.int lo t,.int hi u,.int 1 v]},toks:=tk}:=I.kept λb o e=>Ad _ e;refine⟨(s.heap.push {cls:=.type "range",data:=.fields #[.int lo t,.int hi u,.int 1 v]}).objs.size,[(s.heap.push {cls:=.type "range",data:=.fields #[.int lo t,.int hi u,.int 1 v]}).objs.size],_,_,H,rfl,
  I1.kept (t':=tk) λb o e=>Ad _ e,zC _ lo (hi-lo).toNat,?_,λb hb=>?_,q⟩
 .have e1:lo+((0:Nat):Int)*1=lo:=by simp
  have e2:(((hi-lo).toNat:Nat):Int)-((0:Nat):Int)=Builtin.Range.rangeSize lo hi 1:=by rw[rangeSize_one];split<;>lia
  show IsRangeIter _ _ (lo+((0:Nat):Int)*1) ((((hi-lo).toNat:Nat):Int)-((0:Nat):Int)) 1;rw[e1,e2];exact Ak _ rfl
 .have e:b=(s.heap.push {cls:=.type "range",data:=.fields #[.int lo t,.int hi u,.int 1 v]}).objs.size:=by simpa using hb
  subst e;exact I1.yA (Ah _) (I1.aX.fresh (Ah _))
def Zv(ta:TA):TI:=λσ H R=>ta σ H λvs H1=>∃j:Int,vs=[.int j]/\-(2 ^ 62)<=j/\j<2 ^ 62/\R (Itr 0 j.toNat) H1
theorem Ks{ta:TA}(hg:Gl X "range")(hm:X.mg "range"=bn)(ha:PA X [a] ta)(hs:‹lm [a] X.env=[(false,o0 a X.env)]›):PI X tg (.Call (.Name "range" p) [a] [] pos) (Zv ta):=by
 intro Z s σ H R I h;refine Call_ (gc I hg hm boot_range (A9 (bp (ha pos Z s σ H _ I h) λus s1 ⟨vs,H1,I1,r1,q1⟩=>?_) hs rfl));obtain⟨j,e,q1,q2,q⟩:=q1;subst e;cases r1 with
 |cons r rr=>
  cases rr;obtain⟨t,rfl⟩:=r;exact call_range_1 (Mz I1 ∅ ∅ q1 q2 (by simpa using q))
def acz(wi:TI)(g:TG)(tb:TS):TS:=λD σ H=>wi σ H λJ H1=>∃W:Nat->Nat->St->Hp->Prop,(∃m,W 0 m σ H1)/\∀i m σ H,W i m σ H->
 (J.stop i H/\D.nx σ H)\/(J.go i H/\∃N:St->Hp->Prop,(∀σ' H',N σ' H'->∃m',m'<m/\W (i+1) m' σ' H')/\∀x H',J.Qa i H x H'->g x σ H' λσ2 H2=>tb {D with nx:=N,ct:=N,bk:=D.nx} σ2 H2)
def nh(fp:O db)(h:nn):O (db×Obj):=fp.filterMap λb=>(h.get? b).map λo=>(b,o)
def iO(hb:b∈fp)(e:h.get? b=al o):(b,o)∈nh fp h:=C0.mpr ⟨b,hb,by rw[e];rfl⟩
def Kx{p:db×Obj}(hp:p∈nh fp h):p.1∈fp/\h.get? p.1=al p.2:=by
 obtain⟨b,hb,e⟩:=C0.mp hp;cases q:h.get? b with
 |none=>rw[q]at e;cases e
 |some o=>
  rw[q]at e;have e':=Option.some.inj e;subst e';exact⟨hb,q⟩
def Inv.pinned(I:Inv X Z σ H s)(hf:∀b∈fp,sX X Z H b)(ho:∀b∈fp,∃o,s.heap.get? b=al o/\∀v,o.data≠.cell v):Inv X (Z++nh fp s.heap) σ H s:=
 I.Je λp hp=>(Cp.mp hp).elim (λz=>I.pin p (Bd _ z)) λz=>by
  obtain⟨hb,e⟩:=Kx z;obtain⟨f0,f1,f2,_⟩:=hf p.1 hb;obtain⟨o,e',d⟩:=ho p.1 hb;rw[e]at e';cases e';exact⟨e,f0,f1,f2,d⟩
def Inv.jq{pl:O (db×Obj)}(I:Inv X (Z++pl) σ H s):Inv X Z σ H s:=I.Je λp hp=>I.pin p (Bd _ (F7 _ hp))
def MX{g:TG}{tb:TS}(hp:Ch (lf X.prog X.w) X.A X.env X.xe)(hc:X.calm=true)(hi:PI X tg iter wi)(hg:PG X tg g)(hb:nY X body tb)(hs:rB X iter:=by intro _;rfl):PS X (.For tg iter body [] pos) (acz wi g tb):=by
 intro Z s σ H D I h;refine wpAny_For (bp (hi Z s σ H _ I h) λv s1 h1=>bp h1 λó s2 h2=>?_) hs;obtain⟨it,fp,tn,J,H2,e,I2,T,Qq,f2,W,⟨m0,w0⟩,Ð⟩:=h2;subst e;have UL:∀{H':Hp},(∀b∈fp,H' b=bn)->∀b∈fp,sX X Z H' b:=λhn b hb=>⟨hn b hb,(f2 b hb).2⟩;refine codeAny_forLoop_any (λn s'=>∃i σ' H',Inv X Z σ' H' s'/\tn i s'.heap/\(∀b∈fp,H' b=bn)/\W i n σ' H') ?_ m0 ⟨0,σ,H2,I2,Qq,λb hb=>(f2 b hb).1,w0⟩;rintro n s3 ⟨i,σ3,H3,I3,Yk,Z1,w3⟩;rcases Ð i n σ3 H3 w3 with⟨stop,qn⟩|⟨go,N,hN,step⟩
 .refine CA hp (bp (T.done X rfl rfl rfl hc i Z s3 σ3 H3 X.xe I3 (UL Z1) Yk stop) λr s4 ⟨hr,I4⟩=>?_);subst hr;exact C2 ⟨σ3,H3,I4,qn⟩
 .refine CA hp (bp (T.item X rfl rfl rfl hc i Z s3 σ3 H3 X.xe I3 (UL Z1) Yk go) λr s4 ⟨u,hr,h4⟩=>?_);subst hr;refine CA hp (bp h4 λ_ s5 ⟨x,H5,I5,r5,y5,UM,ĥ⟩=>?_);refine CA hp (bp (hg _ s5 σ3 H5 x u _ (I5.pinned (UL ĥ) (T.obj _ _ UM)) r5 (step x H5 y5)) λ_ s6 ⟨σ6,H6,I6,q6⟩=>?_);refine CA hp (bp (hb _ s6 σ6 H6 _ I6 q6) λf s7 q7=>?_);have again:∀{σ7:St}{H7:Hp},Inv X (Z++nh fp s5.heap) σ7 H7 s7->N σ7 H7->∃m,m<n/\∃i σ' H',Inv X Z σ' H' s7/\tn i s7.heap/\(∀b∈fp,H' b=bn)/\W i m σ' H':=λ{σ7 H7} I7 n7=>by
   obtain⟨m',hm,w7⟩:=hN σ7 H7 n7;refine⟨m',hm,i+1,σ7,H7,I7.jq,T.keep _ _ _ UM λb hb o e=>(I7.pin (b,o) (Bd _ (Bd _ (iO hb e)))).1,λb hb=>?_,w7⟩;obtain⟨o,e,d⟩:=T.obj _ _ UM b hb;exact(I7.pin (b,o) (Bd _ (Bd _ (iO hb e)))).2.1
  cases f with
  |next=>obtain⟨σ7,H7,I7,n7⟩:=q7;exact again I7 n7
  |cont=>obtain⟨σ7,H7,I7,n7⟩:=q7;exact again I7 n7
  |brk=>obtain⟨σ7,H7,I7,q7⟩:=q7;exact⟨σ7,H7,I7.jq,q7⟩
  |ret v=>obtain⟨x7,σ7,H7,I7,r7,q7⟩:=q7;exact⟨x7,σ7,H7,I7.jq,r7,q7⟩
end
end L2
variable{i:Int}{g:Int->Int->Int}{LM:PySem.CmpOp}{ax:O A2}
namespace L2
abbrev R2:=V->V->Hp->VK->Prop
def gr(X:Cx)(f:ce->ce->Sem ce)(r:R2):Prop:=
 ∀(Z:O (db×Obj)) (s:gt) (σ:St) (H:Hp) (x y:V) (v u:ce) (Q:VK),Inv X Z σ H s->RelV x v->RelV y u->r x y H Q->
  f8 (lf X.prog X.w) X.A (f v u) (EP X Z σ Q) X.xe s
def UnR(X:Cx)(f:ce->Sem ce)(r:V->Hp->VK->Prop):Prop:=
 ∀(Z:O (db×Obj)) (s:gt) (σ:St) (H:Hp) (x:V) (v:ce) (Q:VK),Inv X Z σ H s->RelV x v->r x H Q->
  f8 (lf X.prog X.w) X.A (f v) (EP X Z σ Q) X.xe s
def bP(X:Cx)(f:ce)(r:O V->Hp->VK->Prop):Prop:=
 ∀(Z:O (db×Obj)) (s:gt) (σ:St) (H:Hp) (xs:O V) (us:O ce) (Q:VK),Inv X Z σ H s->Vals xs us->r xs H Q->
  f8 (lf X.prog X.w) X.A (call f us) (EP X Z σ Q) X.xe s
def aeF(X:Cx)(r:V->Hp->(Bool->Hp->Prop)->Prop):Prop:=
 ∀(Z:O (db×Obj)) (s:gt) (σ:St) (H:Hp) (x:V) (v:ce) (Q:Bool->Hp->Prop),Inv X Z σ H s->RelV x v->r x H Q->
  f8 (lf X.prog X.w) X.A (truthy v) (TP X Z σ Q) X.xe s
def UD(r:R2)(ta tb:TE):TE:=λσ H Q=>ta σ H λx H1=>tb σ H1 λy H2=>r x y H2 Q
def tUn(r:V->Hp->VK->Prop)(ta:TE):TE:=λσ H Q=>ta σ H λx H1=>r x H1 Q
def rI(C:Int->Int->Prop)(g:Int->Int->V):R2:=λx y H Q=>∃i j,x=.int i/\y=.int j/\C i j/\Q (g i j) H
def QC(g:Int->Int->V):R2:=λx y H Q=>∃i j,x=.int i/\y=.int j/\Q (g i j) H
def rU(g:Int->V):V->Hp->VK->Prop:=λx H Q=>∃i,x=.int i/\Q (g i) H
section
variable{b:pc}
def WQ(ha:PE X a ta)(hb:PE X b tb)(I:Inv X Z σ H s)(h:ta σ H λx H1=>tb σ H1 λy H2=>R x y H2){f:ce->ce->Sem ce}(hf:∀v u s2 x y H2,Inv X Z σ H2 s2->RelV x v->RelV y u->R x y H2->f8 (lf X.prog X.w) X.A (f v u) Q X.xe s2):f8 (lf X.prog X.w) X.A (o0 a X.env) (λv s₁=>f8 (lf X.prog X.w) X.A (o0 b X.env) (λu s₂=>f8 (lf X.prog X.w) X.A (f v u) Q X.xe s₂) X.xe s₁) X.xe s:=by
 exact bp (ha Z s σ H _ I h) λv s1 ⟨x,H1,I1,r1,q1⟩=>bp (hb Z s1 σ H1 _ I1 q1) λu s2 ⟨y,H2,I2,r2,q2⟩=>hf v u s2 x y H2 I2 r1 r2 q2
def qh{op:Operator}{r:R2}(ho:gr X (wP op) r)(ha:PE X a ta)(hb:PE X b tb):PE X (.BinOp a op b pos) (UD r ta tb):=by
 intro Z s σ H Q I h;exact wpAny_BinOp (WQ ha hb I h λv u s2 x y H2 I2 rx ry q=>ho Z s2 σ H2 x y v u Q I2 rx ry q)
def S8{op:UnaryOp}{r:V->Hp->VK->Prop}(ho:UnR X (unaryOp op) r)(ha:PE X a ta):PE X (.UnaryOp op a pos) (tUn r ta):=by
 intro Z s σ H Q I h;exact UnaryOp_ (bp (ha Z s σ H _ I h) λv s1 ⟨x,H1,I1,r1,q1⟩=>ho Z s1 σ H1 x v Q I1 r1 q1)
def opI{f:ce->ce->Sem ce}{C:Int->Int->Prop}(rule:∀(i j:Int) (t u:Tok) (s:gt) (Q:ce->gt->Prop) (E:ce->gt->Prop),C i j->Q (.int (g i j) s.toks) {s with toks:=s.toks+1}->f8 (lf X.prog X.w) X.A (f (.int i t) (.int j u)) Q E s):gr X f (rI C λi j=>.int (g i j)):=by
 intro Z s σ H x y v u Q I rx ry h;obtain⟨i,j,rfl,rfl,hc,q⟩:=h;obtain⟨t,rfl⟩:=rx;obtain⟨t',rfl⟩:=ry;exact rule i j t t' s _ _ hc ⟨.int (g i j),H,I.tok _,⟨_,rfl⟩,q⟩
def Y2{f:ce->ce->Sem ce}(rule:∀(i j:Int) (t u:Tok) (s:gt) (Q:ce->gt->Prop) (E:ce->gt->Prop),Q (.int (g i j) s.toks) {s with toks:=s.toks+1}->f8 (lf X.prog X.w) X.A (f (.int i t) (.int j u)) Q E s):gr X f (QC λi j=>.int (g i j)):=by
 intro Z s σ H x y v u Q I rx ry h;obtain⟨i,j,rfl,rfl,q⟩:=h;obtain⟨t,rfl⟩:=rx;obtain⟨t',rfl⟩:=ry;exact rule i j t t' s _ _ ⟨.int (g i j),H,I.tok _,⟨_,rfl⟩,q⟩
def Q2{f:ce->ce->Sem ce}{g:Int->Int->Bool}(rule:∀(i j:Int) (t u:Tok) (s:gt) (Q:ce->gt->Prop) (E:ce->gt->Prop),Q (.bool (g i j)) s->f8 (lf X.prog X.w) X.A (f (.int i t) (.int j u)) Q E s):gr X f (QC λi j=>.bl (g i j)):=by
 intro Z s σ H x y v u Q I rx ry h;obtain⟨i,j,rfl,rfl,q⟩:=h;obtain⟨t,rfl⟩:=rx;obtain⟨t',rfl⟩:=ry;exact rule i j t t' s _ _ ⟨.bl (g i j),H,I,rfl,q⟩
def PQ(i j:Int):Prop:=0<j/\j<1073741824
def PN(i j:Int):Prop:=0<=j/\j<=1000000/\i.natAbs<2 ^ 64
def Sz(i j:Int):Prop:=(-(2 ^ 64)<i/\i<2 ^ 64)\/(-(2 ^ 64)<j/\j<2 ^ 64)
def Sz.ok{j:Int}(h:Sz i j):GM i j:=by
 rcases h with⟨h1,h2⟩|⟨h1,h2⟩
 .exact .of_left (intBits_le_64 h1 h2)
 .exact .of_right (intBits_le_64 h1 h2)
def Ni:gr X (wP .Add) (QC λi j=>.int (i+j)):=Y2 λ_ _ _ _ _ _ _ q=>add_int q
def Ng:gr X (wP .Sub) (QC λi j=>.int (i-j)):=Y2 λ_ _ _ _ _ _ _ q=>sub_int q
theorem QY:gr X (wP .FloorDiv) (rI PQ λi j=>.int (i / j)):=opI λi j _ _ _ _ _ hc q=>by
 have h1:(0:Int)<j:=hc.1;have h2:j<1073741824:=hc.2;exact floordiv_int ∅ (by rw[Int.fdiv_eq_ediv_of_nonneg i ∅];exact q) (.inl (PyProof.noPylong_small ∅))
theorem Vl:gr X (wP .Mod) (rI (λ_ j=>0<j) λi j=>.int (i % j)):=opI λi j _ _ _ _ _ hc q=>by
 have h1:(0:Int)<j:=hc;exact mod_int' ∅ (by rw[Int.fmod_eq_emod_of_nonneg i ∅];exact q)
def Vj:gr X (wP .Pow) (rI PN λi j=>.int (i ^ j.toNat)):=opI λ_ _ _ _ _ _ _ hc q=>pow_int_small hc.1 hc.2.1 hc.2.2 q
def unI{f:ce->Sem ce}{g:Int->Int}(rule:∀(i:Int) (t:Tok) (s:gt) (Q:ce->gt->Prop) (E:ce->gt->Prop),Q (.int (g i) s.toks) {s with toks:=s.toks+1}->f8 (lf X.prog X.w) X.A (f (.int i t)) Q E s):UnR X f (rU λi=>.int (g i)):=by
 intro Z s σ H x v Q I rx h;obtain⟨i,rfl,q⟩:=h;obtain⟨t,rfl⟩:=rx;exact rule i t s _ _ ⟨.int (g i),H,I.tok _,⟨_,rfl⟩,q⟩
def L3:UnR X (unaryOp .USub) (rU λi=>.int (-i)):=unI λ_ _ _ _ _ q=>neg_int q
end
section
variable{b c:pc}{tc:TE}
def HE{Q:VK}{k k':Bool}(I:Inv X Z σ H s)(q:Q (.bl k) H)(e:k=k'):EP X Z σ Q (.bool k') s:=by
 subst e;exact⟨.bl k,H,I,rfl,q⟩
def Jj:gr X (r9 .Lt) (QC λi j=>.bl (decide (i<j))):=Q2 λ_ _ _ _ _ _ _ q=>lt_int q
def YZ:gr X (r9 .LtE) (QC λi j=>.bl (decide (i<=j))):=Q2 λ_ _ _ _ _ _ _ q=>le_int q
def Y0:gr X (r9 .Gt) (QC λi j=>.bl (decide (j<i))):=Q2 λ_ _ _ _ _ _ _ q=>gt_int q
def Y1:gr X (r9 .GtE) (QC λi j=>.bl (decide (j<=i))):=Q2 λ_ _ _ _ _ _ _ q=>ge_int q
def tM:gr X (r9 .In) (λx y H Q=>∃i j,x=.str i/\y=.str j/\Q (.bl (!(Builtin.Str.occurrences j i 0 j.length 1).isEmpty)) H):=by
 intro Z s σ H x y v u Q I rx ry h;obtain⟨i,j,rfl,rfl,q⟩:=h;obtain⟨t,rfl⟩:=rx;obtain⟨t',rfl⟩:=ry;exact in_str (HE I q rfl)
def Nh:gr X (r9 .Is) (λx y H Q=>y=.bx/\Q (.bl (decide (x=.bx))) H):=by
 intro Z s σ H x y v u Q I rx ry h;obtain⟨rfl,q⟩:=h;cases ry;refine is_none_gen (HE I q ?_);cases x<;>first
  |(cases rx;rfl)
  |(obtain⟨t,rfl⟩:=rx;rfl)
def QU:gr X (r9 .IsNot) (λx y H Q=>y=.bx/\Q (.bl (!decide (x=.bx))) H):=by
 intro Z s σ H x y v u Q I rx ry h;obtain⟨rfl,q⟩:=h;cases ry;refine isnot_none_gen (HE I q ?_);cases x<;>first
  |(cases rx;rfl)
  |(obtain⟨t,rfl⟩:=rx;rfl)
def gr.or{f:ce->ce->Sem ce}{r r':R2}(h:gr X f r)(h':gr X f r'):gr X f (λx y H Q=>r x y H Q\/r' x y H Q):=by
 intro Z s σ H x y v u Q I rx ry q;rcases q with q|q
 .exact h Z s σ H x y v u Q I rx ry q
 .exact h' Z s σ H x y v u Q I rx ry q
def fg(b:pc)(h: ~~~(op≠.In))(h2: ~~~(op≠.NotIn)):wn op b=false:=by
 have e1:(op==CmpOp.In)=false:=by cases op<;>first|rfl|exact absurd rfl h
 have e2:(op==CmpOp.NotIn)=false:=by cases op<;>first|rfl|exact absurd rfl h2
 cases b<;>simp[wn,e1,e2]
def pD{r:R2}(ho:gr X (r9 op) r)(ha:PE X a ta)(hb:PE X b tb)(hm:wn op b=false):PE X (.Compare a [op] [b] pos) (UD r ta tb):=by
 intro Z s σ H Q I h;exact wpAny_Compare1 (WQ ha hb I h λv u s2 x y H2 I2 rx ry q=>ho Z s2 σ H2 x y v u Q I2 rx ry q) hm
def SN(t:TE):TT:=λσ H Q=>t σ H λx H'=>∃k,x=.bl k/\Q k H'
def j5{r:R2}(ho:gr X (r9 op) r)(ha:PE X a ta)(hb:PE X b tb)(hm:wn op b=false):PT X (.Compare a [op] [b] pos) (SN (UD r ta tb)):=by
 intro Z s σ H Q I h;refine wpAny_isTrue_Compare1 (bp (ha Z s σ H _ I h) λv s1 ⟨x,H1,I1,r1,q1⟩=>bp (hb Z s1 σ H1 _ I1 q1) λu s2 ⟨y,H2,I2,r2,q2⟩=>
  bp (ho Z s2 σ H2 x y v u _ I2 r1 r2 q2) λc s3 ⟨z,H3,I3,r3,k,e,q3⟩=>?_) hm
 subst e;cases r3;exact Br ⟨H3,I3,q3⟩
def zI(r r':R2)(ta tb tc:TE):TE:=λσ H Q=>ta σ H λx H1=>tb σ H1 λy H2=>r x y H2 λz H3=>∃k,z=.bl k/\
 (if k=true then tc σ H3 λw' H4=>r' y w' H4 Q else Q (.bl false) H3)
def Na{r r':R2}(ho:gr X (r9 op) r)(Oc:gr X (r9 LM) r')(ha:PE X a ta)(hb:PE X b tb)(hc:PE X c tc)(hm:lastMarks [op,LM] [b,c]=false:=by with_unfolding_all rfl):PE X (.Compare a [op,LM] [b,c] pos) (zI r r' ta tb tc):=by
 intro Z s σ H Q I h;refine Compare_chain (bp (ha Z s σ H _ I h) λv s1 ⟨x,H1,I1,r1,q1⟩=>chain_link (bp (hb Z s1 σ H1 _ I1 q1) λu s2 ⟨y,H2,I2,r2,q2⟩=>
  bp (ho Z s2 σ H2 x y v u _ I2 r1 r2 q2) λd s3 ⟨z,H3,I3,r3,k,e,q3⟩=>?_)) hm
 subst e;cases r3;refine Br ?_;cases k with
 |false=>exact ite_ff ⟨.bl false,H3,I3,rfl,q3⟩
 |true=>exact ite_tt (chain_last (bp (hc Z s3 σ H3 _ I3 q3) λw' s4 ⟨z',H4,I4,r4,q4⟩=>Oc Z s4 σ H4 y z' u w' Q I4 r2 r4 q4))
def MU{r r':R2}(ho:gr X (r9 op) r)(Oc:gr X (r9 LM) r')(ha:PE X a ta)(hb:PE X b tb)(hc:PE X c tc)(hm:lastMarks [op,LM] [b,c]=false:=by with_unfolding_all rfl):PT X (.Compare a [op,LM] [b,c] pos) (SN (zI r r' ta tb tc)):=by
 intro Z s σ H Q I h;refine isTrue_chain (bp (ha Z s σ H _ I h) λv s1 ⟨x,H1,I1,r1,q1⟩=>test_link (bp (hb Z s1 σ H1 _ I1 q1) λu s2 ⟨y,H2,I2,r2,q2⟩=>
  bp (ho Z s2 σ H2 x y v u _ I2 r1 r2 q2) λd s3 ⟨z,H3,I3,r3,k,e,q3⟩=>?_)) hm
 subst e;cases r3;refine Br ?_;cases k with
 |false=>
  obtain⟨k',e',q'⟩:=q3;cases e';exact ite_ff ⟨H3,I3,q'⟩
 |true=>
  refine ite_tt (test_last (bp (hc Z s3 σ H3 _ I3 q3) λw' s4 ⟨z',H4,I4,r4,q4⟩=>bp (Oc Z s4 σ H4 y z' u w' _ I4 r2 r4 q4) λd' s5 ⟨z2,H5,I5,r5,k2,e2,q5⟩=>?_));subst e2;cases r5;exact Br ⟨H5,I5,q5⟩
def WY(K:Aa)(x:V)(H:Hp)(k:Bool):Prop:=
 match x with
 |.bx=>k=false
 |.bl b=>k=b
 |.int i=>k=(i != 0)
 |.str y=>y.length<=sizeLine/\k=((y.length:Int) != 0)
 |.Uh y=>y.size<=sizeLine/\k=((y.size:Int) != 0)
 |.ref p=>(∃xs,du K H p xs/\k=!xs.isEmpty)\/(∃xs,dX K H p xs/\k=!xs.isEmpty)\/∃az,H p=al (.dK az)/\k=!az.isEmpty
 |_=>False
def Hn{κ:Type}{az:O (κ×V)}{vs:O (κ×ce)}(r:KV az vs):(!vs.isEmpty)=!az.isEmpty:=by
 cases r<;>rfl
def qF(r:Vals xs ax):(!ax.toArray.isEmpty)=!xs.isEmpty:=by
 cases r<;>simp
def vq:(sizeLine:Nat)<2 ^ 63:=by rw[xz];decide
theorem Uw:aeF X (λx H Q=>∃k,WY X.K x H k/\Q k H):=by
 intro Z s σ H x v Q I rx h;obtain⟨k,e,q⟩:=h;have hs:=xz;cases x with
 |bx=>
  cases rx;have e':=e;subst e';exact truthy_none ⟨H,I,q⟩
 |bl b=>
  cases rx;have e':=e;subst e';exact Br ⟨H,I,q⟩
 |int i=>
  obtain⟨t,rfl⟩:=rx;have e':=e;subst e';exact PySem.P.truthy_int ⟨H,I,q⟩
 |str y=>
  obtain⟨t,rfl⟩:=rx;obtain⟨hy,e'⟩:y.length<=sizeLine/\k=((y.length:Int) != 0):=e;subst e';exact PySem.P.truthy_str ∅ ⟨H,I.tok _,q⟩
 |Uh y=>
  obtain⟨t,rfl⟩:=rx;obtain⟨hy,e'⟩:y.size<=sizeLine/\k=((y.size:Int) != 0):=e;subst e';exact PySem.W.truthy_bytes ∅ ⟨H,I.tok _,q⟩
 |ref p=>
  cases rx;have e':=e;rcases e' with⟨xs,hx,e'⟩|⟨xs,hx,e'⟩|⟨az,hx,e'⟩
  .subst e';obtain⟨ax,r,pl,hz⟩:=I.list hx;have Â:=r.length;exact wpAny_truthy_list pl.isList (by simp;lia) ⟨H,I.tok _,by rw[qF r];exact q⟩
  .subst e';obtain⟨ax,r,pl,hz⟩:=I.tuple hx;have Â:=r.length;exact truthy_tuple pl (by simp only[Ai];lia) ⟨H,I.tok _,by rw[qF r];exact q⟩
  .subst e';obtain⟨hz,hS,vs,r,m⟩:az.length<=sizeLine/\(p==FM)=false/\∃vs,KV az vs/\s.heap.DictOf (cX X.prog X.w) p vs:=I.aX p _ hx;have Â:=Paired.length r;exact wpAny_truthy_dict hS m ∅ ⟨H,I.tok _,by rw[Hn r];exact q⟩
 |_=>exact(e).elim
def MR(ha:PE X a ta)(he:∀Ä,isTrue a X.env Ä=(do let v <- Ä;Ix a.pos;sK [v] (truthy v))):PT X a (λσ H Q=>ta σ H λx H'=>∃k,WY X.K x H' k/\Q k H'):=by
 intro Z s σ H Q I h;exact isTrue_plain (bp (ha Z s σ H _ I h) λv s1 ⟨x,H1,I1,r1,q1⟩=>Uw Z s1 σ H1 x v Q I1 r1 q1) (he _)
def GS:gr X (wP .Add) (λx y H Q=>∃i j,x=.str i/\y=.str j/\i.length+j.length<=sizeLine/\Q (.str (i++j)) H):=by
 intro Z s σ H x y v u Q I rx ry h;obtain⟨i,j,rfl,rfl,hz,q⟩:=h;obtain⟨t,rfl⟩:=rx;obtain⟨t',rfl⟩:=ry;exact add_str (λt' tk=>⟨.str (i++j),H,I.tok _,⟨_,rfl⟩,q⟩) hz
def vals1{x:V}(r:Vals [x] us):∃u,us=[u]/\RelV x u:=by
 cases r with
 |cons r1 r2=>cases r2;exact⟨_,rfl,r1⟩
def vals2{x:V}(r:Vals [x,y] us):∃u w',us=[u,w']/\RelV x u/\RelV y w':=by
 cases r with
 |cons r1 r2=>
  cases r2 with
  |cons r3 r4=>cases r4;exact⟨_,_,rfl,r1,r3⟩
def Pc:bP X (.builtin "abs") (λxs H Q=>∃i,xs=[.int i]/\Q (.int (if i < 0 then -i else i)) H):=by
 intro Z s σ H xs us Q I r h;obtain⟨i,rfl,q⟩:=h;obtain⟨u,rfl,t,rfl⟩:=vals1 r;exact call_abs_int λu tk=>⟨.int (if i<0 then -i else i),H,I.tok _,⟨_,rfl⟩,q⟩
def Lr(hc:X.calm=true):bP X (.builtin "max") (λxs H Q=>∃i j,xs=[.int i,.int j]/\Q (.int (if j > i then j else i)) H):=by
 intro Z s σ H xs us Q I r h;obtain⟨i,j,rfl,q⟩:=h;obtain⟨u,w',rfl,⟨t,rfl⟩,⟨t',rfl⟩⟩:=vals2 r;refine max_two_ints (I.ok.hd hc) λh' tk k=>⟨_,H,I.kept k,?_,q⟩;by_cases hj:j > i
 .rw[if_pos hj,if_pos hj];exact⟨_,rfl⟩
 .rw[if_neg hj,if_neg hj];exact⟨_,rfl⟩
def Lq(hc:X.calm=true):bP X (.builtin "min") (λxs H Q=>∃i j,xs=[.int i,.int j]/\Q (.int (if j < i then j else i)) H):=by
 intro Z s σ H xs us Q I r h;obtain⟨i,j,rfl,q⟩:=h;obtain⟨u,w',rfl,⟨t,rfl⟩,⟨t',rfl⟩⟩:=vals2 r;refine min_two_ints (I.ok.hd hc) λh' tk k=>⟨_,H,I.kept k,?_,q⟩;by_cases hj:j<i
 .rw[if_pos hj,if_pos hj];exact⟨_,rfl⟩
 .rw[if_neg hj,if_neg hj];exact⟨_,rfl⟩
def Lw:bP X (.type "int") (λxs H Q=>(∃i,xs=[.int i]/\Q (.int i) H)\/∃k,xs=[.bl k]/\Q (.int (if k then 1 else 0)) H):=by
 intro Z s σ H xs us Q I r h;rcases h with⟨i,rfl,q⟩|⟨k,rfl,q⟩
 .obtain⟨u,rfl,t,rfl⟩:=vals1 r;exact call_int_int ⟨.int i,H,I,⟨_,rfl⟩,q⟩
 .obtain⟨u,rfl,r1⟩:=vals1 r;cases r1;exact call_int_bool ⟨.int (if k then 1 else 0),H,I.tok _,⟨_,rfl⟩,q⟩
def aaF(K:Aa)(x:V)(H:Hp)(n:Nat):Prop:=
 match x with
 |.str y=>y.length<=sizeLine/\n=y.length
 |.Uh y=>y.size<=sizeLine/\n=y.size
 |.ref p=>(∃xs,du K H p xs/\n=xs.length)\/∃xs,dX K H p xs/\n=xs.length
 |_=>False
theorem Pb:bP X (.builtin "len") (λxs H Q=>∃x n,xs=[x]/\aaF X.K x H n/\Q (.int n) H):=by
 intro Z s σ H xs us Q I r h;obtain⟨x,n,rfl,e,q⟩:=h;obtain⟨u,rfl,rx⟩:=vals1 r;have hs:=xz;cases x with
 |str y=>
  obtain⟨t,rfl⟩:=rx;obtain⟨hy,e'⟩:y.length<=sizeLine/\n=y.length:=e;subst e';exact len_str ∅ ⟨.int _,H,I.tok _,⟨_,rfl⟩,q⟩
 |Uh y=>
  obtain⟨t,rfl⟩:=rx;obtain⟨hy,e'⟩:y.size<=sizeLine/\n=y.size:=e;subst e';exact PySem.W.len_bytes ∅ ⟨.int _,H,I.tok _,⟨_,rfl⟩,q⟩
 |ref p=>
  cases rx;have e':=e;rcases e' with⟨xs,hx,e'⟩|⟨xs,hx,e'⟩
  .subst e';obtain⟨ax,r',pl,hz⟩:=I.list hx;have Â:=r'.length;exact Calls.call_len_list pl.isList (by simp;lia) ⟨.int xs.length,H,I.tok _,⟨_,by simp only[Ai];rw[Â]⟩,q⟩
  .subst e';obtain⟨ax,r',pl,hz⟩:=I.tuple hx;have Â:=r'.length;exact len_tuple pl (by simp only[Ai];lia) ⟨.int xs.length,H,I.tok _,⟨_,by simp only[Ai];rw[Â]⟩,q⟩
 |_=>exact(e).elim
end
end L2
variable{a:AY}{o:Option A2}{R:PySem.Result->CW->Prop}{pl:PySem.Sem Bool}{mA:BN->Option A2}{prog:Gh}{kw:O (BN×A2)}{env:PySem.Env}{Ã:BV}{kl Á:Cv}{tv:L2.TE}
namespace L2
structure Ij(h:nn)(x dx C:db)(mA:Str->Option ce):Prop where
 obj:h.get? x=al (Co C dx)
 ns:h.Ns1 dx mA
 ne:dx≠x
def tS{dx:db}(n:h.Ns1 dx mA):∃od,h.get? dx=al od/\∀name,Et name od=al (mA name):=by
 obtain⟨o,es,ep,ho,hd,hk,_,hm⟩:=n;refine⟨o,ho,λname=>?_⟩;have e:=hm name;unfold nsFind findBy at e;rw[<- Array.find?_toList]at e;unfold Et;rw[hd];dsimp only
 split
 .rename_i y q;rw[q]at e;exact congrArg al e
 .rename_i q;rw[q]at e;have a:es.toList.any (·.refKey)=false:=by
   rw[List.any_eq_false];intro y hy;obtain⟨z,t,adO⟩:=hk y (Array.mem_toList_iff.mp hy);simp[DictEntry.refKey,adO]
  have a':¬es.toList.any (·.refKey)=true:=by rw[a];exact Bi
  rw[if_neg a'];exact congrArg al e
def Ij.look{x dx C:db}(I:Ij h x dx C mA):∃od,Dy h x (Co C dx) C (al od)/\∀name,Et name od=al (mA name):=
 let ⟨od,ho,hl⟩:=tS I.ns
 ⟨od,⟨I.obj,rfl,rfl,ho⟩,hl⟩
section
variable{K:Aa}{x dx C f:db}{name:Str}{v:ce}
def get_map{expr:Bool}(X:K.In s.heap)(I:Ij s.heap x dx C mA)(hg:Dh K C name=true)(hh:Ck K C=true)(ha:Aw K (.ref C) name=al bn)(hv:mA name=al v)(ô:GC v=true)(h:Q v {s with toks:=s.toks+1}):f8 (lf prog w) A (getAttr (.ref x) name expr) Q E s:=by
 obtain⟨od,J,hl⟩:=I.look;exact PySem.W.get_value X J (Eh hg).1 (Ga hh ha rfl (by rw[hl,hv])) ô h
def Oq{Q:ce×O ce->gt->Prop}(X:K.In s.heap)(I:Ij s.heap x dx C mA)(hg:Dh K C name=true)(hf:Aw K (.ref C) name=al (al (.ref f)))(ht:CT K (.ref f)=true)(hv:mA name=bn)(h:Q (.ref f,[.ref x]) s):f8 (lf prog w) A (getMethod (.ref x) name pl) Q E s:=by
 obtain⟨od,J,hl⟩:=I.look;exact PySem.W.method_fn X J (Eh hg).1 (Eh hg).2 hf (beq_iff_eq.mp ht) (by show(Et name od).map (·.isSome)=al false;rw[hl,hv];rfl) h
theorem Qx{ns:O Str}{Q:Unit->gt->Prop}(X:K.In s.heap)(I:Ij s.heap x dx C mA)(hs:Aw K (.ref C) "__setattr__"=al (al (.builtin "object.__setattr__")))(hp:EM K C=true)(ht:FI K C name=al bn)(hh:Ck K C=true)(hw:Gx mA ns)(hsz:ns.length<=sizeLine)(h:∀h',Ij h' x dx C (λy=>if y=name then al v else mA y)->Cc dx s.heap h'->Q () {s with heap:=h',toks:=s.toks+2}):f8 (lf prog w) A (setAttr (.ref x) name v) Q E s:=by
 obtain⟨od,J,hl⟩:=I.look;refine Gs X J hs (PySem.W.osa_open X J hp ht λb=>?_);obtain⟨cd,hc,Ğ⟩:=Di hh;refine Ab (Ae (Ab (Ab (Bc I.obj (Ab (A3.here (s:={s with toks:=s.toks+1}) (CI X hc) ?_))))));rw[Ğ];refine Ae (Ab (Ae (Ab ?_)));refine wpAny_nsSet1 (s:={s with toks:=s.toks+1}) I.ns λh' hn2 xm=>?_;obtain⟨oD,esD,epD,Ė,ĝ,Om⟩:=hn2.count (Gr name v hw);exact Ab (wpAny_lookBehind Ė (by rw[ĝ];exact pastItsLine_dict (AE Om (by rw[Ap];lia))) (Ae (h _ ⟨(xm.2 _ (Bu I.ne)).trans I.obj,hn2,I.ne⟩ xm)))
def NH{vs:O ce}(X:K.In s.heap)(hm:FJ K C=true)(hi:Aw K (.ref C) "__init__"=al (al (.ref f)))(hf:Es K (.ref f)=al (.type "function"))(h:Pv (lf prog w) (A.under (.builtin "type.__call__" ⟨.ref C::vs,kw⟩)) (.call (.ref f) ⟨.ref (s.heap.objs.size+1)::vs,kw⟩) (GD (s.heap.objs.size+1) R)
   {s with heap:=(s.heap.push BK).push (Co C s.heap.objs.size)}):Pv (lf prog w) A (.call (.ref C) ⟨vs,kw⟩) R s:=by
 obtain⟨hh,g,d,t,os⟩:=s;exact PySem.W.make_core (PySem.W.makes_of X hm) (BW X hi) (λself=>PySem.W.bind_fn X self hf) (.inl rfl) h
end
def jn(f:Str)(v:V):O (Str×V)->O (Str×V)
 |[]=>[(f,v)]
 |(g,x)::r=>if g=f then (g,v)::r else (g,x)::jn f v r
theorem oq(f g:Str)(v:V):∀fs:O (Str×V),(jn f v fs).lookup g=if g=f then al v else fs.lookup g
 |[]=>by
  show CS g [(f,v)]=_;by_cases h:g=f
  .have hb:(g==f)=true:=beq_iff_eq.mpr h;simp only[CS,hb,if_pos h]
  .have hb:=beq_eq_false_iff_ne.mpr h;simp only[CS,hb,if_neg h]
 |(k,x)::r=>by
  rw[show jn f v ((k,x)::r)=(if k=f then (k,v)::r else (k,x)::jn f v r) from rfl];by_cases hk:k=f
  .rw[if_pos hk];by_cases h:g=k
   .simp only[CS,(beq_iff_eq.mpr h),if_pos (h.trans hk)]
   .simp only[CS,(beq_eq_false_iff_ne.mpr h),if_neg (λe:g=f=>h (e.trans hk.symm))]
  .rw[if_neg hk];by_cases h:g=k
   .simp only[CS,(beq_iff_eq.mpr h),if_neg (λe:g=f=>hk (h.symm.trans e))]
   .simp only[CS,(beq_eq_false_iff_ne.mpr h)];exact(oq f g v r)
theorem nB(f:Str)(v:V):∀fs:O (Str×V),f∈(jn f v fs).map (·.1)/\∀g,g∈fs.map (·.1)->g∈(jn f v fs).map (·.1)
 |[]=>⟨by simp[jn],λg h=>by simp at h⟩
 |(k,x)::r=>by
  obtain⟨i1,i2⟩:=nB f v r;rw[show jn f v ((k,x)::r)=(if k=f then (k,v)::r else (k,x)::jn f v r) from rfl];by_cases hk:k=f
  .subst hk;exact⟨by simp,λg h=>by simpa using h⟩
  .rw[if_neg hk];refine⟨?_,λg h=>?_⟩
   .exact AH _ i1
   .rcases Au.mp h with e|e
    .exact Au.mpr (.inl e)
    .exact AH _ (i2 g e)
theorem oy(f:Str)(v:V):∀fs:O (Str×V),(jn f v fs).length<=fs.length+1
 |[]=>by simp[jn]
 |(k,x)::r=>by
  have ih:=oy f v r;rw[show jn f v ((k,x)::r)=(if k=f then (k,v)::r else (k,x)::jn f v r) from rfl];by_cases hk:k=f
  .rw[if_pos hk,Ap,Ap];lia
  .rw[if_neg hk,Ap,Ap];lia
def mS.some_of(r:mS (al v) o):∃u,o=al u/\RelV v u:=by
 cases o with
 |none=>exact(r).elim
 |some u=>exact⟨u,rfl,r⟩
def mS.none_of(r:mS bn o):o=bn:=by
 cases o with
 |none=>rfl
 |some u=>exact(r).elim
def K6(r:RelV v u):GC u=true:=by
 cases v with
 |bx=>cases (r);rfl
 |bl b=>cases (r);rfl
 |int i=>obtain⟨t,e⟩:=(r);cases e;rfl
 |str x=>obtain⟨t,e⟩:=(r);cases e;rfl
 |Uh b=>obtain⟨t,e⟩:=(r);cases e;rfl
 |Wn b=>obtain⟨t,e⟩:=(r);cases e;rfl
 |ref a=>cases (r);rfl
 |ty n=>cases (r);rfl
section
variable{C dx:db}{fs:O (Str×V)}
def pI(aX:iw P w H h)(e:H a=al (.ins C dx fs)):∃mA,Ij h a dx C mA/\(∀f,mS (fs.lookup f) (mA f))/\Gx mA (fs.map (·.1))/\fs.length<=1000/\H dx=al (.own a):=by
 obtain⟨d,z,ne,ob,mA,n,r,q⟩:=(aX a _ e);exact⟨mA,⟨ob,n,ne⟩,r,q,z,d⟩
end
structure J4(K:Aa)(C:db):Prop where
 pg:Dh K C GG=true
 hd:Ck K C=true
 po:EM K C=true
 sa:Aw K (.ref C) "__setattr__"=al (al (.builtin "object.__setattr__"))
def J4.get{K:Aa}{C:db}(c:J4 K C)(f:Str):Dh K C f=true:=c.pg
def fj(K:Aa)(C:db)(f:Str):Prop:=Aw K (.ref C) f=al bn
def fj.taker{K:Aa}{C:db}{f:Str}(n:fj K C f):FI K C f=al bn:=by
 unfold FI;rw[show Aw K (.ref C) f=al bn from n];rfl
structure Meth(K:Aa)(C:db)(m:Str)(f:db):Prop where
 at_:Aw K (.ref C) m=al (al (.ref f))
 fn:CT K (.ref f)=true
 kp:AL K (.ref f)=true
section
variable{C dx:db}{fs:O (Str×V)}{f:Str}
def Hy{b:Bool}(I:Inv X Z σ H s)(e:H a=al (.ins C dx fs))(c:J4 X.K C)(n:fj X.K C f)(l:fs.lookup f=al v)(h:∀u s',Inv X Z σ H s'->RelV v u->Q u s'):f8 (lf X.prog X.w) A (getAttr (.ref a) f b) Q E s:=by
 obtain⟨mA,O_,r,_,_,_⟩:=pI I.aX e;obtain⟨u,hu,ru⟩:=mS.some_of (by rw[<- l];exact r f);exact get_map I.fm O_ (c.get f) c.hd n hu (K6 ru) (h u _ (I.tok _) ru)
def qK{m:Str}{g:db}{Q:ce×O ce->gt->Prop}(I:Inv X Z σ H s)(e:H a=al (.ins C dx fs))(c:J4 X.K C)(k:Meth X.K C m g)(l:fs.lookup m=bn)(h:Q (.ref g,[.ref a]) s):f8 (lf X.prog X.w) A (getMethod (.ref a) m pl) Q E s:=by
 obtain⟨mA,O_,r,_,_,_⟩:=pI I.aX e;exact Oq I.fm O_ (c.get m) k.at_ k.fn (mS.none_of (by rw[<- l];exact r m)) h
theorem zP{Q:Unit->gt->Prop}(I:Inv X Z σ H s)(e:H a=al (.ins C dx fs))(c:J4 X.K C)(n:fj X.K C f)(hl:fs.length<1000)(ry:RelV y u)(h:∀s',Inv X Z σ (upd H a (.ins C dx (jn f y fs))) s'->Q () s'):f8 (lf X.prog X.w) A (setAttr (.ref a) f u) Q E s:=by
 obtain⟨mA,O_,r,wi,_,ho⟩:=pI I.aX e;have hz:(fs.map (·.1)).length<=sizeLine:=by rw[Am,xz];lia
 refine Qx I.fm O_ c.sa c.po n.taker c.hd wi hz λh' O' sb=>h _ ?_;have hd:∃o,h'.get? dx=al o:=let ⟨o,_,_,e',_⟩:=O'.ns;⟨o,e'⟩;refine I.write (by rw[e];exact B5) (.inr ho) (λb q hb z=>(sb.2 b hb).trans z) hd ?_;refine⟨by rw[ah O_.ne];exact ho,?_,O_.ne,O'.obj,_,O'.ns,λg=>?_,λg hg=>?_⟩
 .have:=oy f y fs;lia
 .rw[oq];by_cases q:g=f
  .rw[if_pos q,if_pos q];exact ry
  .rw[if_neg q,if_neg q];exact r g
 .by_cases q:g=f
  .rw[q];exact(nB f y fs).1
  .refine(nB f y fs).2 g (wi g λz=>hg ?_);show(if g=f then al u else mA g)=bn;rw[if_neg q];exact z
def Inv.made(I:Inv X Z σ H s):Inv X Z σ (upd (upd H s.heap.objs.size (.own (s.heap.objs.size+1))) (s.heap.objs.size+1) (.ins C s.heap.objs.size [])) {s with heap:=(s.heap.push BK).push (Co C s.heap.objs.size)}:=by
 have e1:(s.heap.push BK).get? s.heap.objs.size=al BK:=Ak s.heap rfl;have e2:((s.heap.push BK).push (Co C s.heap.objs.size)).get? (s.heap.objs.size+1)=al (Co C s.heap.objs.size):=by
  have:=Ak (s.heap.push BK) (o:=Co C s.heap.objs.size) rfl
  rwa [Bf]at this
 have e3:(s.heap.push BK).Ns s.heap.objs.size (λ_=>bn):=⟨BK,#[],_,e1,rfl,(λe he=>absurd he (by simp)),λ_=>rfl⟩;have I1:=I.laid (a:=s.heap.objs.size) (o:=.own (s.heap.objs.size+1)) (h':=s.heap.push BK) (t':=s.toks) (λb u q=>Ad _ q) (Ah _) ⟨_,e1⟩;refine I1.laid (a:=s.heap.objs.size+1) (o:=.ins C s.heap.objs.size []) (t':=s.toks) (λb u q=>Ad _ q) (Eo (Bf _ _)) ?_;have ne:s.heap.objs.size≠s.heap.objs.size+1:=AD (Cw _);refine⟨by rw[ah ne,aw],Bs _,ne,e2,λ_=>bn,(Heap.Ns1.of_empty e3).at λo q=>Ad _ q,λ_=>B5,λy hy=>absurd rfl hy⟩
def J1{f:Str}{s:gt}(hb:sB e f env (o0 e env)=o0 e env)(h:f8 (lf prog w) A (o0 e env) (λo s₁=>f8 (lf prog w) A (getAttr o f true) Q E s₁) E s):f8 (lf prog w) A (o0 (.Attribute e f pos) env) Q E s:=
 Attribute_any_ h (by rw[arm_eval_Attribute,hb])
end
def acA(K:Aa)(ta:TE)(f:Str):TE:=λσ H Q=>ta σ H λx H1=>∃a C dx fs v,x=.ref a/\H1 a=al (.ins C dx fs)/\J4 K C/\fj K C f/\fs.lookup f=al v/\Q v H1
def acO(K:Aa)(ta tv:TE)(f:Str):TS:=λD σ H=>tv σ H λy H1=>ta σ H1 λx H2=>∃a C dx fs,x=.ref a/\H2 a=al (.ins C dx fs)/\J4 K C/\fj K C f/\fs.length<1000/\
 D.nx σ (upd H2 a (.ins C dx (jn f y fs)))
section
variable{o:pc}{f:Str}
def gN(he:PE X e ta)(hb:sB e f X.env (o0 e X.env)=o0 e X.env):PE X (.Attribute e f pos) (acA X.K ta f):=by
 intro Z s σ H Q I h;refine J1 hb (bp (he Z s σ H _ I h) λu s1 ⟨x,H1,I1,rx,a,C,dx,fs,v,ex,ea,c,n,l,q⟩=>?_);subst ex;obtain rfl:u=Ao a:=rx;exact Hy I1 ea c n l λu' s2 I2 ru=>⟨v,H1,I2,ru,q⟩
def zU(ha:PE X o ta)(hv:PE X Ã tv)(hs:r6 Ã (al (.Attribute o f È)) pos.line X.env=pure false):PS X (.Assign [.Attribute o f È] Ã pos) (acO X.K ta tv f):=by
 intro Z s σ H D I h;refine plainObj_wpAny_Assign_Attribute (bp (hv Z s σ H _ I h) λu s1 ⟨y,H1,I1,ry,q⟩=>bp (ha Z s1 σ H1 _ I1 q) λov s2 ⟨x,H2,I2,rx,a,C,dx,fs,ex,ea,c,n,l,q2⟩=>?_) hs;subst ex;obtain rfl:ov=Ao a:=rx;exact zP I2 ea c n l ry λs3 I3=>⟨σ,_,I3,q2⟩
def Tg{m:Str}{args:O pc}(he:PE X e te)(I:Inv X Z σ H s)(h:te σ H λx H1=>∃a C dx fs g,x=.ref a/\H1 a=al (.ins C dx fs)/\J4 X.K C/\Meth X.K C m g/\fs.lookup m=bn/\
   ∀s1,Inv X Z σ H1 s1->f8 (lf X.prog X.w) X.A (callWith pos (.ref g) [.ref a] (KM pos (lm args X.env)) (backToKw pos (SZ [] X.env))) Q X.xe s1)(ht:o0 (.Call (.Attribute e m Á) args [] pos) X.env=(do
   let ov <- o0 e X.env
   Ix Á.atName
   let (f,first) <- sK [ov] (getMethod ov m pl)
   callWith pos f first (KM pos (lm args X.env)) (backToKw pos (SZ [] X.env)))):f8 (lf X.prog X.w) X.A (o0 (.Call (.Attribute e m Á) args [] pos) X.env) Q X.xe s:=by
 refine DQ (pl:=pl) (bp (he Z s σ H _ I h) λu s1 ⟨x,H1,I1,rx,a,C,dx,fs,g,ex,ea,c,k,l,q⟩=>?_) ht;subst ex;obtain rfl:u=Ao a:=rx;exact qK I1 ea c k l (q s1 I1)
end
section
variable{c:ce}{b:Bool}
inductive jW(K:Aa)(H:Hp):V->ce->Prop where
 |bx:jW K H .bx (.type "NoneType")
 |bl (x:Bool):jW K H (.bl x) (.type "bool")
 |int (i:Int):jW K H (.int i) (.type "int")
 |str (x:Str):jW K H (.str x) (.type "str")
 |Wn (x:UInt64):jW K H (.Wn x) (.type "float")
 |lst {a:db}{xs:List V} (e:H a=al (.lst xs)):jW K H (.ref a) (.type "list")
 |cU {a:db}{o:Obj}{xs:List V} (e:H a=al (.cU o (.lst xs))):jW K H (.ref a) (.type "list")
 |tup {a:db}{xs:List V} (e:H a=al (.tup xs)):jW K H (.ref a) (.type "tuple")
 |dK {a:db}{az:List (Key×V)} (e:H a=al (.dK az)):jW K H (.ref a) (.type "dict")
 |dT {a:db}{az:List (List Key×V)} (e:H a=al (.dT az)):jW K H (.ref a) (.type "dict")
 |ins {a C dx:db}{fs:List (Str×V)} (e:H a=al (.ins C dx fs)) (cl:J4 K C) (ha:Aw K (.ref C) "__class__"=al (al (.builtin "object.__class__")))
   (hn:Cj K (.builtin "object.__class__") "__get__"=al (al (.builtin "getset_descriptor.__get__"))) (htk:FH K (.builtin "object.__class__")=al true)
   (hm:BF K C (.type "object")=al true):jW K H (.ref a) (.ref C)
def KW{x:V}{t:ce}(I:Inv X Z σ H s)(rx:RelV x u)(ty:jW X.K H x t)(e:AJ X.K t c=al b)(h:∀tk,Q (.bool b) {s with toks:=tk}):f8 (lf X.prog X.w) A (call (.builtin "isinstance") [u,c]) Q E s:=by
 cases ty with
 |bx=>cases (show u=AO from rx);exact Bb PySem.W.kitx_none I.fm B5 e (λz=>nomatch z) h
 |bl y=>cases (show u=Dv y from rx);exact Bb PySem.W.kitx_bool I.fm B5 e (λz=>nomatch z) h
 |int i=>obtain⟨t,q⟩:=(show ∃t,u=Cu i t from rx);cases q;exact Bb PySem.W.kitx_int I.fm B5 e (λz=>nomatch z) h
 |str y=>obtain⟨t,q⟩:=(show ∃t,u=Ep y t from rx);cases q;exact Bb PySem.W.kitx_str I.fm B5 e (λz=>nomatch z) h
 |Wn y=>obtain⟨t,q⟩:=(show ∃t,u=Value.float y t from rx);cases q;exact Bb PySem.W.kitx_float I.fm B5 e (λz=>nomatch z) h
 | @lst a xs ea=>
  cases (show u=Ao a from rx);obtain⟨_,_,n,_,h1⟩:=(show bV X.prog X.w H s.heap a (.lst xs) from I.aX a _ ea);exact Bb EO I.fm ⟨_,h1,rfl⟩ e (λz=>nomatch z) h
 | @cU a ob xs ea=>
  cases (show u=Ao a from rx);obtain⟨_,_,_,n,_,h1⟩:=(show bV X.prog X.w H s.heap a (.cU ob (.lst xs)) from I.aX a _ ea);exact Bb EO I.fm ⟨_,h1,rfl⟩ e (λz=>nomatch z) h
 | @tup a xs ea=>
  cases (show u=Ao a from rx);obtain⟨_,_,_,p,_⟩:=(show bV X.prog X.w H s.heap a (.tup xs) from I.aX a _ ea);obtain⟨o,h1,h2,_⟩:=p;exact Bb Gm I.fm ⟨o,h1,h2⟩ e (λz=>nomatch z) h
 | @dK a az ea=>
  cases (show u=Ao a from rx);obtain⟨_,_,vs,_,p⟩:=(show bV X.prog X.w H s.heap a (.dK az) from I.aX a _ ea);obtain⟨o,es,ep,h1,h2,_⟩:=p;exact Bb ER I.fm ⟨o,h1,h2.1⟩ e (λz=>nomatch z) h
 | @dT a az ea=>
  cases (show u=Ao a from rx);obtain⟨_,_,xs,_,o,es,ep,h1,h2,_⟩:=(show bV X.prog X.w H s.heap a (.dT az) from I.aX a _ ea);exact Bb ER I.fm ⟨o,h1,h2.1⟩ e (λz=>nomatch z) h
 | @ins a C dx fs ea cl ha hn htk hm=>
  cases (show u=Ao a from rx);obtain⟨mA,O_,_⟩:=pI I.aX ea;obtain⟨od,J,_⟩:=O_.look;exact Bb (PySem.W.kitx_own (cl.get _) cl.hd ha hn htk hm) I.fm J e (λz=>nomatch z) h
end
end L2
variable{o:BV}{v cd Ç pm bX ct oc:A2}{vs:O L2.V}{mg:BN->Option A2}{base:EH}{fd:PySem.FuncData}{ps:O BN}{outer:O PySem.Env}{sc scope:PySem.Scope}{qual:BN}{an od:Option AY}{Ku:Array (Option A2)}
namespace L2
structure bI(k:Nat)(A:BT):Prop where
 hd:A.handled=bn
 dp:A.depth+3*k+5<recursionLimit
 un:A.units+16*k+200<GE
 gd:A.guards=al []
theorem bI.mono{k:Nat}(r:bI k A)(h:j<=k):bI j A:=⟨r.hd,by have:=r.dp;lia,by have:=r.un;lia,r.gd⟩
theorem bI.deeper{k:Nat}(r:bI (k+1) A)(env:Env):bI k (A.deeper env):=
 ⟨r.hd,by have:=r.dp;show A.depth+1+3*k+5<_;lia,by have:=r.un;show A.units+3+16*k+200<_;lia,r.gd⟩
def G8{C:db}:(A.under (.builtin "type.__call__" ⟨.ref C::us,kw⟩)).depth=A.depth+1:=by
 first|rfl|simp
def G7{C:db}:(A.under (.builtin "type.__call__" ⟨.ref C::us,kw⟩)).units=A.units+1:=by
 first|rfl|simp
theorem bI.make{k:Nat}(r:bI (k+1) A)(C:db)(us:O ce)(kw:O (Str×ce)):bI k (A.under (.builtin "type.__call__" ⟨.ref C::us,kw⟩)):=
 ⟨r.hd,by have:=r.dp;rw[G8];lia,by have:=r.un;rw[G7];lia,by have h:=r.gd;simp[Around.under,Code.guards,Code.isGuard,guardIds,pushGuards,h]⟩
theorem bI.depth{k:Nat}(r:bI k A):A.depth<recursionLimit:=by have:=r.dp;lia
def X4:TA:=λ_ H Q=>Q [] H
def SO(ta:TE)(tr:TA):TA:=λσ H Q=>ta σ H λx H1=>tr σ H1 λxs H2=>Q (x::xs) H2
section
variable{t:TA}
def aJ:PA X [] X4:=λ_ _ _ _ H Q I h=>BL ⟨[],H,I,.nil,h⟩
def aj(ha:PE X e te)(hr:PA X es t)(hs:‹dY X e es›):PA X (e::es) (SO te t):=by
 intro pos Z s σ H Q I h;rw[hs];exact A7 (bp (ha Z s σ H _ I h) λu s1 ⟨x,H1,I1,r1,q1⟩=>bp (hr pos Z s1 σ H1 _ I1 q1) λus s2 ⟨xs,H2,I2,r2,q2⟩=>⟨x::xs,H2,I2,.cons r1 r2,q2⟩)
end
abbrev Sp:=O V->Hp->VK->XK->Prop
abbrev LV:=O Env->Hp->gt->XK->ce->gt->Prop
structure xi(P:tz)(w:wS)(K:Aa)(mg:Str->Option ce)(base:nn)(A:BT)(outer:List Env)(s:gt)(H:Hp):Prop where
 frames:A.frames=al outer
 mod:Mod K mg base
 bs:∀b o,base.get? b=al o->s.heap.get? b=al o/\H b=bn
 Pe:base.objs.size<=s.heap.objs.size
 jN:s.heap.FunFrames base outer
 P1:∀b∈o7 outer,H b=bn
 aX:iw P w H s.heap
 bare:Tk s.gens
def CE(outer:O Env)(P:tz)(w:wS)(H:Hp)(s:gt)(Q:VK)(u:ce)(s':gt):Prop:=
 ∃v H',s'.os=s.os/\Tk s'.gens/\Un (o7 outer) [] H H' s.heap s'.heap/\iw P w H' s'.heap/\RelV v u/\Q v H'
def CR(CX:LV)(outer:O Env)(P:tz)(w:wS)(H:Hp)(s:gt)(Q:VK)(E:XK)(r:Result)(s':gt):Prop:=
 match r with
 |.ok (.ret u)=>CE outer P w H s Q u s'
 |.ok _=>False
 |.error e=>CX outer H s E e s'
structure bz(P:tz)(w:wS)(K:Aa)(mg:Str->Option ce)(base:nn)(CX:LV)(k:Nat)(f:db)(fd:wp)(ps:List Str)(sp:Sp):Prop where
 len:∀vs H Q E,sp vs H Q E->vs.length=ps.length
 run:∀(A:BT) (outer:List Env) (s:gt) (H:Hp) (args:Args) (us:List ce) (vs:List V) (Q:VK) (E:XK),bI k A->xi P w K mg base A outer s H->BindsTo s fd args (ps.zip us)->Vals vs us->sp vs H Q E->
  Pv (lf P w) A (.call (.ref f) args) (CR CX outer P w H s Q E) s
def bz.imp{K:Aa}{CX:LV}{k:Nat}{f:db}{sp Yp:Sp}(F:bz P w K mg base CX k f fd ps sp)(h:∀vs H Q E,Yp vs H Q E->sp vs H Q E):bz P w K mg base CX k f fd ps Yp:=
 ⟨λvs H Q E q=>F.len vs H Q E (h _ _ _ _ q),λA outer s H args us vs Q E hr he hb hv hs=>F.run A outer s H args us vs Q E hr he hb hv (h _ _ _ _ hs)⟩
def xi.make{K:Aa}(e:xi P w K mg base A outer s H)(C:db)(us:O ce)(kw:O (Str×ce)):xi P w K mg base (A.under (.builtin "type.__call__" ⟨.ref C::us,kw⟩)) outer s H:=⟨by first | exact e.frames | (simpa[Around.under,Code.envs,Code.isFrame,pushEnvs]using e.frames),e.mod,e.bs,e.Pe,e.jN,e.P1,e.aX,e.bare⟩
section
def Inv.OT(I:Inv X Z σ H s):xi X.prog X.w X.K X.mg X.base X.A X.stack s H:=
 ⟨I.ok.frames,I.ok.mod,I.bs,AE I.ok.Pe I.sz,I.stack,I.lO,I.aX,I.bare⟩
def Inv.after{Q:VK}(I:Inv X Z σ H s)(h:CE X.stack X.prog X.w H s Q u s'):EP X Z σ Q u s':=by
 obtain⟨v,H',os,bare,un,aX,r,q⟩:=h;obtain⟨hh,g,d,t,YY⟩:=s';obtain rfl:YY=s.os:=os;exact⟨v,H',I.call (h':=hh) (g':=g) (d':=d) (t':=t) (ch:=[]) un aX bare (λb z=>absurd z (by simp)),r,q⟩
end
def SQ(sp:Sp)(wG:O V)(E:XK)(t:TA):TE:=λσ H Q=>t σ H λvs H1=>sp (vs++wG) H1 Q E
def X6(C:db)(m:Str)(sp:Sp)(wG:O V)(E:XK)(ta:TE)(t:TA):TE:=λσ H Q=>ta σ H λx H1=>∃a dx fs,x=.ref a/\H1 a=al (.ins C dx fs)/\fs.lookup m=bn/\
 t σ H1 λvs H2=>sp (x::(vs++wG)) H2 Q E
def X7(C:db)(sp:Sp)(wG:O V)(E:XK)(t:TA):TE:=λσ H Q=>t σ H λvs H1=>∀x dx,H1 x=bn->H1 dx=bn->dx≠x->
 sp (.ref x::(vs++wG)) (upd (upd H1 dx (.own x)) x (.ins C dx [])) (λv H2=>v=.bx/\Q (.ref x) H2) E
def Binds(K:Aa)(fd:wp)(ps:O Str)(ds:O ce):Prop:=
 ∀(s:gt) (us:O ce),K.In s.heap->(us++ds).length=ps.length->BindsTo s fd ⟨us,[]⟩ (ps.zip (us++ds))
def Binds.all{K:Aa}(h:∀us:O ce,us.length=ps.length->SB fd ⟨us,[]⟩=pure (ps.zip us)):Binds K fd ps []:=λs us _ hl=>by
 rw[A8]at hl ⊢;exact .of_eq (h us hl)
def Passes(CX:LV)(X:Cx)(E:XK):Prop:=∀(Z:O (db×Obj)) (σ:St) (H:Hp) (s:gt) (e:ce) (s':gt),Inv X Z σ H s->CX X.stack H s E e s'->X.xe e s'
section
variable{CX:LV}{k:Nat}{f C:db}{sp:Sp}{wG:O V}{ds:O ce}{E:XK}{x m:Str}{t:TA}
def qd{Q:VK}(F:bz X.prog X.w X.K X.mg X.base CX k f fd ps sp)(hr:bI k X.A)(hb:Binds X.K fd ps ds)(hd:Vals wG ds)(hx:Passes CX X E)(I:Inv X Z σ H s)(r:Vals vs us)(h:sp (vs++wG) H Q E):f8 (lf X.prog X.w) X.A (call (.ref f) us) (EP X Z σ Q) X.xe s:=by
 have r2:Vals (vs++wG) (us++ds):=r.append hd;have hl:(us++ds).length=ps.length:=by rw[<- r2.length];exact F.len _ _ _ _ h
 refine CF (EQ (F.run X.A X.stack s H ⟨us,[]⟩ (us++ds) (vs++wG) Q E hr I.OT (hb s us I.fm hl) r2 h) λr s' hq=>?_);cases r with
 |error e=>exact hx Z σ H s e s' I hq
 |ok fl=>
  cases fl with
  |ret u=>exact I.after hq
  |next=>exact AV hq
  |brk=>exact AV hq
  |cont=>exact AV hq
def Ji(F:bz X.prog X.w X.K X.mg X.base CX k f fd ps sp)(hr:bI k X.A)(hg:Gl X x)(hm:X.mg x=al (.ref f))(hk:AL X.K (.ref f)=true)(hb:Binds X.K fd ps ds)(hd:Vals wG ds)(hx:Passes CX X E)(ha:PA X (e::es) t)(eY: ~~~(d6 x))(he:‹dY X e es›)(bZ:‹gw X pos es›):PE X (.Call (.Name x p) (e::es) [] pos) (SQ sp wG E t):=by
 intro Z s σ H Q I h;exact AM (fH I hg hm (B6 I.ok.mod.NV hk (bp (ha pos Z s σ H _ I h) λus s1 ⟨vs,H1,I1,r,q⟩=>⟨I1.fm,qd F hr hb hd hx I1 r q⟩) he bZ) eY)
def iK(he:PE X o ta)(c:J4 X.K C)(hm:Meth X.K C m f)(F:bz X.prog X.w X.K X.mg X.base CX k f fd ps sp)(hr:bI k X.A)(hb:Binds X.K fd ps ds)(hd:Vals wG ds)(hx:Passes CX X E)(ha:PA X (e::es) t)(k6:‹dY X e es›)(bZ:‹gw X pos es›)(ht:‹o0 (.Call (.Attribute o m Á) (e::es) [] pos) X.env=(do
   let ov <- o0 o X.env
   Ix Á.atName
   let (f,first) <- sK [ov] (getMethod ov m pl)
   callWith pos f first (KM pos (lm (e::es) X.env)) (backToKw pos (SZ [] X.env)))›):PE X (.Call (.Attribute o m Á) (e::es) [] pos) (X6 C m sp wG E ta t):=by
 intro Z s σ H Q I h;refine DQ (pl:=pl) (bp (he Z s σ H _ I h) λu s1 ⟨x,H1,I1,rx,a,dx,fs,ex,ea,l,q⟩=>?_) ht;subst ex;obtain rfl:u=Ao a:=rx;refine qK I1 ea c hm l ?_;refine B6 (first:=[.ref a]) (h₀:=X.base) I.ok.mod.NV hm.kp (bp (ha pos Z s1 σ H1 _ I1 q) λus s2 ⟨vs,H2,I2,r,q2⟩=>⟨I2.fm,?_⟩) k6 bZ;exact qd (us:=.ref a::us) (vs:=.ref a::vs) F hr hb hd hx I2 (.cons rfl r) q2
structure Mk(K:Aa)(C f:db):Prop where
 makes:FJ K C=true
 init:Aw K (.ref C) "__init__"=al (al (.ref f))
 fn:CT K (.ref f)=true
 kp:AL K (.ref C)=true
def Mp{Q:VK}(M:Mk X.K C f)(F:bz X.prog X.w X.K X.mg X.base CX k f fd ps sp)(hr:bI (k+1) X.A)(hb:Binds X.K fd ps ds)(hd:Vals wG ds)(hx:Passes CX X E)(I:Inv X Z σ H s)(r:Vals vs us)(h:∀x dx,H x=bn->H dx=bn->dx≠x->sp (.ref x::(vs++wG)) (upd (upd H dx (.own x)) x (.ins C dx [])) (λv H2=>v=.bx/\Q (.ref x) H2) E):f8 (lf X.prog X.w) X.A (call (.ref C) us) (EP X Z σ Q) X.xe s:=by
 have hq:=h (s.heap.objs.size+1) s.heap.objs.size (I.aX.fresh (F5 _)) (I.aX.fresh (Ah _)) (AD (Cw _));have I2:=Inv.made (C:=C) I;have r2:Vals (V.ref (s.heap.objs.size+1)::(vs++wG)) (Ao (s.heap.objs.size+1)::(us++ds)):=.cons rfl (r.append hd);have hl:(Ao (s.heap.objs.size+1)::us++ds).length=ps.length:=by
  have e:=r2.length;rw[F.len _ _ _ _ hq]at e;exact e.symm
 refine CF (NH I.fm M.makes M.init (beq_iff_eq.mp M.fn) (EQ (F.run _ X.stack _ _ ⟨Ao (s.heap.objs.size+1)::us,[]⟩ (Ao (s.heap.objs.size+1)::(us++ds)) _ _ E (hr.make C us [])
  (I2.OT.make C us []) (hb _ (Ao (s.heap.objs.size+1)::us) I2.fm hl) r2 hq) λr s' K1=>?_))
 cases r with
 |error e=>exact hx Z σ _ _ e s' I2 K1
 |ok fl=>
  cases fl with
  |ret u=>
   obtain⟨v,H',I3,rv,ev,q3⟩:=I2.after K1;subst ev;exact⟨rv,⟨V.ref (s.heap.objs.size+1),H',I3,rfl,q3⟩⟩
  |next=>exact AV K1
  |brk=>exact AV K1
  |cont=>exact AV K1
def QP(M:Mk X.K C f)(F:bz X.prog X.w X.K X.mg X.base CX k f fd ps sp)(hr:bI (k+1) X.A)(hg:Gl X x)(hm:X.mg x=al (.ref C))(hb:Binds X.K fd ps ds)(hd:Vals wG ds)(hx:Passes CX X E)(ha:PA X (e::es) t)(eY: ~~~(d6 x))(he:‹dY X e es›)(bZ:‹gw X pos es›):PE X (.Call (.Name x p) (e::es) [] pos) (X7 C sp wG E t):=by
 intro Z s σ H Q I h;exact AM (fH I hg hm (B6 I.ok.mod.NV M.kp (bp (ha pos Z s σ H _ I h) λus s1 ⟨vs,H1,I1,r,q⟩=>⟨I1.fm,Mp M F hr hb hd hx I1 r q⟩) he bZ) eY)
end
structure bW(N P:List Str)(sc:wT):Prop where
 kind:sc.kind=.function
 co:sc.isCoroutine=false
 gen:sc.isGenerator=false
 nd:N.Nodup
 pre:N.take P.length=P
 par:∀x∈P,sc.names.lookup x=al .local\/sc.names.lookup x=al .cell
 Vx:∀y∈sc.names,y.2≠.free
theorem uq{kindOf:Str->Option Da}{x:Str}:∀{binds:O (Str×ce)}{m:Str->Option ce},(∀v,(x,v)∉binds)->bindL kindOf binds m x=m x
 |[],_,_=>rfl
 |(n,v)::r,m,h=>by
  unfold bindL;rw[uq λw hw=>h w (AH _ hw)]
  split
  .have:x≠n:=by rintro rfl;exact h v Bv
   simp[this]
  .rfl
theorem uu{kindOf:Str->Option Da}{x:Str}:∀{binds:O (Str×ce)}{m:Str->Option ce},(∀v,(x,v)∉binds)->bindC kindOf binds m x=m x
 |[],_,_=>rfl
 |(n,v)::r,m,h=>by
  unfold bindC;rw[uu λw hw=>h w (AH _ hw)]
  split
  .rfl
  .have:x≠n:=by rintro rfl;exact h v Bv
   simp[this]
theorem ur{kindOf:Str->Option Da}{x:Str}:∀{P:O Str}{vs:O ce}{i:Nat}{m:Str->Option ce},P.Nodup->P[i]?=al x->vs[i]?=al v->kindOf x=al .local->bindL kindOf (P.zip vs) m x=al v
 |[],_,_,_,_,h,_,_=>by simp at h
 |_::_,[],_,_,_,_,h,_=>by simp at h
 |p::P,w::vs,0,m,nd,h1,h2,hk=>by
  simp at h1 h2;subst h1;subst h2;show bindL kindOf ((p,w)::P.zip vs) m p=_;unfold bindL;rw[uq λv hv=>(C3.mp nd).1 (Ef hv).1,if_pos hk];simp
 |p::P,w::vs,i+1,m,nd,h1,h2,hk=>by
  unfold bindL;exact ur (C3.mp nd).2 (by simpa using h1) (by simpa using h2) hk
theorem uv{kindOf:Str->Option Da}{x:Str}:∀{P:O Str}{vs:O ce}{i:Nat}{m:Str->Option ce},P.Nodup->P[i]?=al x->vs[i]?=al v->kindOf x≠al .local->bindC kindOf (P.zip vs) m x=al v
 |[],_,_,_,_,h,_,_=>by simp at h
 |_::_,[],_,_,_,_,h,_=>by simp at h
 |p::P,w::vs,0,m,nd,h1,h2,hk=>by
  simp at h1 h2;subst h1;subst h2;show bindC kindOf ((p,w)::P.zip vs) m p=_;unfold bindC;rw[uu λv hv=>(C3.mp nd).1 (Ef hv).1,if_neg hk];simp
 |p::P,w::vs,i+1,m,nd,h1,h2,hk=>by
  unfold bindC;exact uv (C3.mp nd).2 (by simpa using h1) (by simpa using h2) hk
def start(N:O Str)(vs:O V):St:=vs.map al++Ar (N.length-vs.length) bn
def ku(CX:LV)(P:tz)(w:wS)(K:Aa)(mg:Str->Option ce)(base:nn)(N:O Str)(qual:Str)(scope:wT)(f:db)(cd:ce)(A:BT)(outer:O Env)(s:gt)(H:Hp)(E:XK):Cx where
 prog:=P
 w:=w
 K:=K
 mg:=mg
 base:=base
 A:=A.deeper (Db qual scope s.heap.objs.size f cd)
 N:=N
 s₀:=s
 H₀:=H
 env:=Db qual scope s.heap.objs.size f cd
 outer:=outer
 stack:=Db qual scope s.heap.objs.size f cd::outer
 ex:=[]
 calm:=true
 fn:=λ_=>true
 pn:=[]
 xe:=λe s'=>f8 (lf P w) (A.deeper (Db qual scope s.heap.objs.size f cd)) (leaving (Db qual scope s.heap.objs.size f cd) e) (λ_ Km=>CX outer H s E e Km) (λe' Km=>CX outer H s E e' Km) s'
def yY{x:Str}(h:sc.names.lookup x=al .cell):∃c,(ww n sc.names []).lookup x=al c:=by
 exact Option.isSome_iff_exists.mp (Fo sc.names n [] (.inl h))
theorem KY{CX:LV}{K:Aa}{N:O Str}{f:db}{s1:gt}{E:XK}(S:bW N ps scope)(hd:A.handled=bn)(e0:xi P w K mg base A outer s H)(hl:vs.length=ps.length)(r:Vals vs us)(x:InCallC s s.heap.objs.size (bindL (Db qual scope s.heap.objs.size f cd).kindOf (ps.zip us) λ_=>bn) (ww (s.heap.objs.size+1) scope.names []) (bindC (Db qual scope s.heap.objs.size f cd).kindOf (ps.zip us) λ_=>bn) s1):Inv (ku CX P w K mg base N qual scope f cd A outer s H E) [] (start N vs) H s1:=by
 have bZ:ps.length<=N.length:=by have:=congrArg Dg S.pre;rw[B9]at this;lia
 obtain⟨h1,tk,rfl,hk⟩:=x.done;have Y8:∀b:db,b∉(ku CX P w K mg base N qual scope f cd A outer s H E).ex:=λb z=>absurd (show b∈([]) from z) (by simp);refine⟨⟨e0.mod,S.kind,rfl,rfl,Ah _,λy z c h1 h2=>?_,λy hy=>?_,λy c _ h=>?_,λ_=>hd,F2 e0.frames,.inr ⟨rfl,rfl⟩,λb z=>absurd z (Y8 b),e0.bs,e0.Pe,λb _ _=>Y8 b,λb z=>absurd z (Y8 b),e0.jN,e0.P1⟩,
  rfl,e0.bare,Un.kept hk,⟨_,x.toInCall.ns,λi y v h1 h2 h3=>?_⟩,λy c h=>⟨_,x.cell y c h⟩,e0.aX.fresh (Ah _),λy c h=>?_,λp hp=>absurd (show p∈([]) from hp) (by simp),e0.aX.kept hk,?_⟩
 .exact name_of_addr x.apart (Bl h1) (Bl h2)
 .rcases hy with hy|hy
  .exact yY hy
  .exact absurd rfl (S.Vx _ (Bl hy))
 .exact Dj (x.above y c (Bl h))
 .have hi:i<vs.length:=by
   unfold start at h2;by_cases hi:i<vs.length
   .exact hi
   .rw[A5 (by simpa using hi)]at h2;rw[BC]at h2
    split at h2<;>cases h2
  have ha:vs[i]?=al v:=by
   unfold start at h2;rw[A1 (by simpa using hi),An]at h2;cases e:vs[i]? with
   |none=>rw[e]at h2;cases h2
   |some a=>rw[e]at h2;cases h2;rfl
  obtain⟨u,hu,rv⟩:=r.get ha;have hp:ps[i]?=al y:=by
   rw[<- S.pre,List.getElem?_take_of_lt ∅];exact h1
  have ndP:ps.Nodup:=by rw[<- S.pre];exact S.nd.sublist (List.take_sublist _ _)
  refine⟨u,rv,?_⟩;rcases S.par y (AI hp) with k|k
  .exact .inl ⟨k,ur ndP hp hu k⟩
  .obtain⟨c,e⟩:=yY k;refine .inr ⟨.inl k,c,e,?_⟩;have q:=x.cell y c e;rw[uv ndP hp hu (by show scope.names.lookup y≠_;rw[k];decide)]at q;exact q
 .exact e0.aX.fresh (Dj (x.above y c (Bl h)))
 .unfold start;show _=N.length;rw[Ag,Am,B4];lia
def JD{CX:LV}{K:Aa}{k:Nat}{f:db}{name:Str}{params:Arguments}{dV kV:ce}{N:O Str}{sp:Sp}(lk:K.lookup f=al ⟨oc,od,.func (Bj name qual params body scope dV kV Ç pm an bX ct),Ku⟩)(dr:Ce K bX qual=true)(S:bW N ps scope)(len:∀vs H Q E,sp vs H Q E->vs.length=ps.length)(mz:∀(A:BT) (outer:O Env) (s:gt) (H:Hp) (vs:O V) (Q:VK) (E:XK),bI k (A.deeper (Db qual scope s.heap.objs.size f bX))->sp vs H Q E->
   ∃t,nY (ku CX P w K mg base N qual scope f bX A outer s H E) body t/\t {nx:=λ_ H'=>Q .bx H',rt:=Q} (start N vs) H):bz P w K mg base CX (k+1) f (Bj name qual params body scope dV kV Ç pm an bX ct) ps sp:=by
 refine⟨len,λA outer s H args us vs Q E hr e0 hb r xl=>?_⟩;have hl:=len _ _ _ _ xl;have KX:K.In s.heap:=e0.mod.NV.keeps λb o e=>(e0.bs b o e).1;have lim:s.heap.NoLimit:=e0.mod.nolimit.keeps λb o e=>(e0.bs b o e).1;have ZL:∀y∈ps.zip us,scope.names.lookup y.1=al .local\/(scope.names.lookup y.1=al .cell/\((ww (s.heap.objs.size+1) scope.names []).lookup y.1).isSome=true):=λ⟨n,v⟩ hy=>by
  rcases S.par n (Ef hy).1 with q|q
  .exact .inl q
  .exact .inr ⟨q,Fo _ _ _ (.inl q)⟩
 refine codeAny_call_function hr.depth (KX _ _ lk) rfl S.co S.gen rfl (PySem.W.codeRec_of KX dr) (hb _ _ _ _ ?_);refine wpAny_newFunctionEnv_cells S.kind ZL λenv he s1 x=>?_;subst he;refine⟨lim.keeps x.toInCall.keep,codeAny_func ?_⟩;obtain⟨t,ht,hq⟩:=mz A outer s H vs Q E (hr.deeper _) xl;have I:Inv (ku CX P w K mg base N qual scope f bX A outer s H E) [] (start N vs) H s1:=KY S hr.hd e0 hl r x;refine BD (ht [] s1 (start N vs) H _ I hq) (λfl s' hs=>?_) λe s' hs=>hs;have fin:∀{σ':St}{H':Hp}{v:V}{u:ce},Inv (ku CX P w K mg base N qual scope f bX A outer s H E) [] σ' H' s'->RelV v u->Q v H'->CE outer P w H s Q u s':=
  λ{σ' H' v u} J rv q=>⟨v,H',J.os,J.bare,J.base,J.aX,rv,q⟩
 cases fl with
 |ret u=>
  obtain⟨v,σ',H',J,rv,q⟩:=hs;exact fin J rv q
 |next=>
  obtain⟨σ',H',J,q⟩:=hs;exact fin (v:=V.bx) (u:=AO) J rfl q
 |brk=>
  obtain⟨_,_,_,q⟩:=hs;exact AV q
 |cont=>
  obtain⟨_,_,_,q⟩:=hs;exact AV q
end L2
variable{T:String}
namespace L2
section
variable{x:Str}{t:TA}{id:String}{r:O V->Hp->VK->Prop}
def tCB(r:O V->Hp->VK->Prop)(t:TA):TE:=λσ H Q=>t σ H λvs H1=>r vs H1 Q
def bM(hc:bP X (.builtin id) r)(hg:Gl X x)(hm:X.mg x=bn)(hv:u8 x=al (.builtin id))(ha:PA X (e::es) t)(hn: ~~~(x≠"__name__"))(eY: ~~~(d6 x))(he:‹dY X e es›)(bZ:‹gw X pos es›):PE X (.Call (.Name x p) (e::es) [] pos) (tCB r t):=by
 intro Z s σ H Q I h;refine AM (gc I hg hm hv ?_ hn eY);exact DU (bp (ha pos Z s σ H _ I h) λus s1 ⟨vs,H1,I1,r1,q1⟩=>hc Z s1 σ H1 vs us Q I1 r1 q1) he bZ
def eu(hc:bP X (.type T) r)(hg:Gl X x)(hm:X.mg x=bn)(hv:u8 x=al (.type T))(ha:PA X (e::es) t)(hn: ~~~(x≠"__name__"))(eY: ~~~(d6 x))(he:‹dY X e es›)(bZ:‹gw X pos es›):PE X (.Call (.Name x p) (e::es) [] pos) (tCB r t):=by
 intro Z s σ H Q I h;refine AM (gc I hg hm hv ?_ hn eY);exact A9 (bp (ha pos Z s σ H _ I h) λus s1 ⟨vs,H1,I1,r1,q1⟩=>hc Z s1 σ H1 vs us Q I1 r1 q1) he bZ
end
end L2
namespace HT
open PySem PyProof.Rows
section
def Sf{t:db}{vs ws:O ce}(ht:IsTup s.heap t vs.toArray)(hb:IsTup s.heap b ws.toArray)(hv:vs≠[])(h1:ws=[]->Q (.ref t) s)(h2:ws≠[]->Q (.ref s.heap.objs.size) {s with heap:=s.heap.push {cls:=.type "tuple",data:=.seq (vs++ws).toArray}})(hsz:vs.length+ws.length<=sizeLine):f8 (lf prog w) A (wP .Add (.ref t) (.ref b)) Q E s:=by
 obtain⟨⟨cls,dd,data,sl⟩,ho,hc,n,hd⟩:=id ht;obtain⟨⟨aaq,ä,data2,Xe⟩,PX,Xr,n2,ß⟩:=id hb;simp only at hc hd Xr ß;subst hc hd Xr ß;have e:vs.toArray++ws.toArray=(vs++ws).toArray:=by simp
 by_cases hw:ws=[]
 .exact concat_meets ⟨_,ho,rfl⟩ ⟨_,PX,rfl⟩ noFill_tuple_add seq_tuple_add DD Dx (Dr _ _)
   (tuple_addW1 t b vs.toArray ws.toArray n n2 dd ä sl Xe (by simpa using hv) (by simp[hw])) ⟨ho,PX,h1 hw⟩
 .refine concat_meets ⟨_,ho,rfl⟩ ⟨_,PX,rfl⟩ noFill_tuple_add seq_tuple_add DD Dx (Dr _ _)
   (tuple_addW2 t b vs.toArray ws.toArray n n2 dd ä sl Xe (by simpa using hv) (by simpa using hw) (by rw[Ai,Ai];exact hsz)) ⟨ho,PX,?_⟩
  rw[e];exact h2 hw
def tG(n d:Nat):Option Int->Nat
 |none=>d
 |some v=>if v<0 then (v+(n:Int)).toNat else min v.toNat n
theorem qb(n d:Nat):tG n d bn=d:=rfl
theorem uS(n d k:Nat):tG n d (al (k:Int))=min k n:=by
 show(if k<0 then ((k:Int)+n).toNat else min (k:Int).toNat n)=min k n;rw[if_neg ∅,Cn]
end
end HT
variable{ns:O Int}{p2:Cv}
namespace L2
abbrev TO:=St->Hp->(Option Int->Hp->Prop)->Prop
def PO(X:Cx)(e:Option pc)(t:TO):Prop:=
 ∀(Z:O (db×Obj)) (s:gt) (σ:St) (H:Hp) (Q:Option Int->Hp->Prop),Inv X Z σ H s->t σ H Q->
  f8 (lf X.prog X.w) X.A (evalPart e X.env) (λu s'=>∃o H',Inv X Z σ H' s'/\IsPart u o/\Q o H') X.xe s
def Qn:TO:=λ_ H Q=>Q bn H
def X1(t:TE):TO:=λσ H Q=>t σ H λx H1=>∃i,x=.int i/\Q (al i) H1
def intsAre_of:∀{us:O ce},Vals (ns.map V.int) us->TM us ns:=by
 induction ns with
 |nil=>intro us r;rw[Fy]at r;cases r;exact .nil
 |cons n ns ih=>
  intro us r;cases r with
  |cons r1 r2=>
   obtain⟨t,e⟩:=r1;subst e;exact .cons n t (ih r2)
section
variable{lo hi:Option pc}{tl th:TO}
def QK:PO X bn Qn:=by
 intro Z s σ H Q I h;exact Ae ⟨bn,H,I,.none,h⟩
def QJ(h:PE X e te):PO X (al e) (X1 te):=by
 intro Z s σ H Q I hw;refine bp (h Z s σ H _ I hw) λu s1 ⟨x,H1,I1,r1,q1⟩=>?_;obtain⟨i,rfl,q⟩:=q1;obtain⟨t,rfl⟩:=r1;exact⟨al i,H1,I1,.int i t,q⟩
def Uk(X:Cx)(r:V->Option Int->Option Int->Hp->VK->Prop):Prop:=
 ∀(Z:O (db×Obj)) (s:gt) (σ:St) (H:Hp) (x:V) (v vl vu:ce) (lo hi:Option Int) (sl:db) (Q:VK),Inv X Z σ H s->RelV x v->s.heap.IsSliceOf sl vl vu .none->IsPart vl lo->IsPart vu hi->r x lo hi H Q->
  ∃T id,typeLookup (.type T) "__getitem__"=pure (al (.builtin id))/\s.TypeIs v T/\f8 (lf X.prog X.w) X.A (getItem v (.ref sl)) (EP X Z σ Q) X.xe s
def tSl(r:V->Option Int->Option Int->Hp->VK->Prop)(te:TE)(tl th:TO):TE:=λσ H Q=>te σ H λx H1=>tl σ H1 λl H2=>th σ H2 λu H3=>r x l u H3 Q
def xN{r:V->Option Int->Option Int->Hp->VK->Prop}(hr:Uk X r)(he:PE X e te)(hl:PO X lo tl)(hu:PO X hi th):PE X (.Subscript e (.Slice lo hi bn p2) pos) (tSl r te tl th):=by
 intro Z s σ H Q I h;refine Subscript_ (bp (he Z s σ H _ I h) λv s1 ⟨x,H1,I1,r1,q1⟩=>?_);refine wpAny_Slice (bp (hl Z s1 σ H1 _ I1 q1) λvl s2 ⟨l,H2,I2,pl,q2⟩=>bp (hu Z s2 σ H2 _ I2 q2) λvu s3 ⟨u,H3,I3,pu,q3⟩=>?_);rw[evalPart_none];refine Ae ?_;have I4:Inv X Z σ H3 {s3 with heap:=s3.heap.push {cls:=.type "slice",data:=.fields #[vl,vu,.none]}}:=I3.kept (t':=s3.toks) λb ob q=>Ad _ q;obtain⟨T,id,hT,ht,hg⟩:=hr Z {s3 with heap:=s3.heap.push {cls:=.type "slice",data:=.fields #[vl,vu,.none]}} σ H3 x v vl vu l u s3.heap.objs.size Q I4 r1 (Heap.IsSliceOf.new ..) pl pu q3;show f8 (lf X.prog X.w) X.A (subscriptTail e (.Slice lo hi bn p2) v (.ref s3.heap.objs.size)) (EP X Z σ Q) X.xe {s3 with heap:=s3.heap.push {cls:=.type "slice",data:=.fields #[vl,vu,.none]}};exact tail_any (ops:=[.ref s3.heap.objs.size,v]) ht hT hg (by with_unfolding_all rfl)
def Lk(xs:O V)(lo hi:Option Int):O V:=(xs.drop (HT.tG xs.length 0 lo)).take (HT.tG xs.length xs.length hi-HT.tG xs.length 0 lo)
theorem yW(xs:O V)(lo hi:Option Int):(Lk xs lo hi).length<=xs.length:=by
 unfold Lk;rw[B9,Ca];lia
def S6(K:Aa):R2:=λx y H Q=>∃a b xs ys,x=.ref a/\y=.ref b/\dX K H a xs/\dX K H b ys/\xs≠[]/\xs.length+ys.length<=sizeLine/\
 (ys=[]->Q (.ref a) H)/\(ys≠[]->∀p,H p=bn->Q (.ref p) (upd H p (.tup (xs++ys))))
def Vals.iM(r:Vals xs us):us=[]↔xs=[]:=by
 cases r with
 |nil=>simp
 |cons _ _=>simp
def Jk:gr X (wP .Add) (S6 X.K):=by
 intro Z s σ H x y v u Q I rx ry h;obtain⟨a,b,xs,ys,rfl,rfl,ha,hb,hx,hz,q1,q2⟩:=h;cases rx;cases ry;obtain⟨ax,r1,p1,_⟩:=I.tuple ha;obtain⟨cQ,r2,p2,_⟩:=I.tuple hb;refine HT.Sf p1 p2 (λz=>hx (r1.iM.mp z)) (λz=>⟨.ref a,H,I,rfl,q1 (r2.iM.mp z)⟩) (λz=>?_) (by rw[<- r1.length,<- r2.length];exact hz);refine⟨.ref s.heap.objs.size,_,I.laid (λb ob q=>Ad _ q) (Ah _) ?_,rfl,q2 (λw=>z (r2.iM.mpr w)) _ (I.aX.fresh (Ah _))⟩;exact⟨by rw[Ag];exact hz,_,r1.append r2,GL _ _,_,Ak _ rfl,rfl⟩
end
end L2
variable{r':L2.R2}{its':O A2}{n':Nat}
namespace L2
def sC(n:Nat)(i:Int):Option Nat:=if 0<=i then (if i<n then al i.toNat else bn) else if -(n:Int)<=i then al (i+n).toNat else bn
def fB(xs:List α)(i:Int):Option α:=(sC xs.length i).bind λj=>xs[j]?
theorem Jv(h:sC n i=al j):seqIndex? i n=al j/\j<n/\-(n:Int)<=i/\i<n:=by
 unfold sC at h;by_cases h0:0<=i
 .rw[if_pos h0]at h;by_cases h1:i<n
  .rw[if_pos h1]at h;have e:=Option.some.inj h;exact⟨by rw[seqIndex_of h0 h1,e],by lia,by lia,h1⟩
  .rw[if_neg h1]at h;cases h
 .rw[if_neg h0]at h;by_cases h1:-n<=i
  .rw[if_pos h1]at h;have e:=Option.some.inj h;exact⟨by rw[seqIndex_neg ∅ h1,e],by lia,h1,by lia⟩
  .rw[if_neg h1]at h;cases h
def wR{xs:List α}{v:α}(h:fB xs i=al v):∃j,seqIndex? i xs.length=al j/\xs[j]?=al v/\j<xs.length/\-(xs.length:Int)<=i/\i<xs.length:=by
 unfold fB at h;cases e:sC xs.length i with
 |none=>rw[e]at h;cases h
 |some j=>
  rw[e]at h;obtain⟨h1,h2,h3,h4⟩:=Jv e;exact⟨j,h1,h,h2,h3,h4⟩
theorem mP{xs:List α}{v:α}(h:xs[j]?=al v):fB xs (j:Int)=al v:=by
 have hj:=(Al.mp h).1;have e:sC xs.length j=al j:=by
  unfold sC;rw[if_pos ∅,if_pos ∅];simp
 unfold fB;rw[e];exact h
def w9(b:pc):Prop:=∀o i,subscripted b false o i=operate [o,i] (getItem o i)
def P5(X:Cx)(r:R2):Prop:=
 ∀(Ã slice:pc) (Z:O (db×Obj)) (s:gt) (σ:St) (H:Hp) (x y:V) (v u:ce) (Q:VK),Inv X Z σ H s->RelV x v->RelV y u->r x y H Q->
  subscripted slice false v u=operate [v,u] (getItem v u)->f8 (lf X.prog X.w) X.A (subscriptTail Ã slice v u) (EP X Z σ Q) X.xe s
def MtR(X:Cx)(id:String)(r:V->O V->Hp->VK->Prop):Prop:=
 ∀(Z:O (db×Obj)) (s:gt) (σ:St) (H:Hp) (x:V) (xs:O V) (v:ce) (us:O ce) (Q:VK),Inv X Z σ H s->RelV x v->Vals xs us->r x xs H Q->
  f8 (lf X.prog X.w) X.A (call (.builtin id) (v::us)) (EP X Z σ Q) X.xe s
section
variable{X:Cx}{a b:pc}{ta tb:TE}{pos:Pos}
def P5.or{r:R2}(h:P5 X r)(h':P5 X r'):P5 X (λx y H Q=>r x y H Q\/r' x y H Q):=by
 intro Ã slice Z s σ H x y v u Q I rx ry q hs;rcases q with q|q
 .exact h Ã slice Z s σ H x y v u Q I rx ry q hs
 .exact h' Ã slice Z s σ H x y v u Q I rx ry q hs
def Jh{r:R2}(hr:P5 X r)(ha:PE X a ta)(hb:PE X b tb)(hs:w9 b):PE X (.Subscript a b pos) (UD r ta tb):=by
 intro Z s σ H Q I h;exact Subscript_ (WQ ha hb I h λv u s2 x y H2 I2 rx ry q=>hr a b Z s2 σ H2 x y v u Q I2 rx ry q (hs _ _))
def YE(K:Aa):R2:=λx y H Q=>∃p xs i v,x=.ref p/\y=.int i/\du K H p xs/\fB xs i=al v/\Q v H
def YD(K:Aa):R2:=λx y H Q=>∃p xs i v,x=.ref p/\y=.int i/\dX K H p xs/\fB xs i=al v/\Q v H
def U6:R2:=λx y H Q=>∃z i c,x=.str z/\y=.int i/\z.length<=sizeLine/\fB z.cps.toList i=al c/\Q (.str ⟨#[c]⟩) H
theorem RA:P5 X (YE X.K):=by
 intro Ã slice Z s σ H x y v u Q I rx ry h hs;obtain⟨p,xs,i,z,rfl,rfl,hq,he,q⟩:=h;cases rx;obtain⟨t,rfl⟩:=ry;obtain⟨ax,r,pl,hz⟩:=I.list hq;obtain⟨j,h1,h2,h3,h4,h5⟩:=wR he;obtain⟨w,ew,Kn⟩:=r.get h2;have hl:=r.length;have hn:=vq;have fin:EP X Z σ Q w s:=⟨z,H,I,Kn,q⟩;by_cases h0:0<=i
 .have hj:i.toNat=j:=by
   rw[seqIndex_of h0 h5]at h1;exact Option.some.inj h1
  exact item_listR pl.isList h0 ∅ (by rw[hj];simpa using ew) fin hs
 .have hj:(i+ax.toArray.size).toNat=j:=by
   rw[seqIndex_neg ∅ h4]at h1;rw[Ai,<- hl];exact Option.some.inj h1
  exact subscriptTail_builtinR pl.isList.typeIs slot_list_getitem.lookup
   (wpAny_getItem_list_neg pl.isList ∅ (by rw[Ai]<;>lia) ∅ (by rw[hj];simpa using ew) ⟨rfl,fin⟩) hs
theorem VV:P5 X (YD X.K):=by
 intro Ã slice Z s σ H x y v u Q I rx ry h hs;obtain⟨p,xs,i,z,rfl,rfl,hq,he,q⟩:=h;cases rx;obtain⟨t,rfl⟩:=ry;obtain⟨ax,r,pl,hz⟩:=I.tuple hq;obtain⟨j,h1,h2,h3,h4,h5⟩:=wR he;obtain⟨w,ew,Kn⟩:=r.get h2;have hn:=vq;have fin:EP X Z σ Q w s:=⟨z,H,I,Kn,q⟩;exact subscriptTail_builtinR pl.typeIs slot_tuple_getitem.lookup
  (getItem_tuple pl ∅ ∅ (by rw[Ai,<- r.length];exact h1) (by simpa using ew) ⟨rfl,fin⟩) hs
theorem N2:P5 X U6:=by
 intro Ã slice Z s σ H x y v u Q I rx ry h hs;obtain⟨z,i,c,rfl,rfl,hz,he,q⟩:=h;obtain⟨t,rfl⟩:=rx;obtain⟨t',rfl⟩:=ry;obtain⟨j,h1,h2,h3,h4,h5⟩:=wR he;have hl:z.cps.toList.length=z.length:=by simp[BU]
 rw[hl]at h1 h4 h5;have hn:=vq;exact tail_any (Op s z t) slot_str_getitem.lookup (getItem_str (by
  rw[(decide_eq_false ∅),(decide_eq_false ∅),Bool.or_false]) (by rw[h1];simpa using h2) ⟨.str ⟨#[c]⟩,H,I.tok _,⟨_,rfl⟩,q⟩) hs
def rIx(K:Aa):R2:=λx y H Q=>YE K x y H Q\/YD K x y H Q\/U6 x y H Q
def VW:P5 X (rIx X.K):=RA.or (VV.or N2)
def G6(ax:O ce)(n j:Nat)(u:ce):CU (·.setIfInBounds j u) {cls:=.type "list",data:=.seq ax.toArray n}={cls:=.type "list",data:=.seq (ax.set j u).toArray n}:=by
 simp[CU]
def Inv.lst{Z:O (db×Obj)}{σ:St}{H:Hp}{s:gt}{p:db}{xs:O V}(I:Inv X Z σ H s)(h:H p=al (.lst xs)):∃(ax:O ce) (n:Nat),Vals xs ax/\s.heap.get? p=al {cls:=.type "list",data:=.seq ax.toArray n}/\xs.length<=sizeLine:=by
 obtain⟨z,ax,n,r,e⟩:=I.aX p _ h;exact⟨ax,n,r,e,z⟩
def Inv.VG{p:db}{f:Obj->Obj}(I:Inv X Z σ H s)(h:H p=al (.lst xs))(ho:s.heap.get? p=al {cls:=.type "list",data:=.seq ax.toArray n})(hf:f {cls:=.type "list",data:=.seq ax.toArray n}={cls:=.type "list",data:=.seq its'.toArray n'})(r:Vals ys its')(hz:ys.length<=sizeLine)(t:Nat):Inv X Z σ (upd H p (.lst ys)) {s with heap:=s.heap.update p f,toks:=t}:=by
 have e:(s.heap.update p f).get? p=al {cls:=.type "list",data:=.seq its'.toArray n'}:=by
  rw[B2 f ho (by rw[hf]<;>rfl),hf]
 refine I.write (x:=p) (e:=p) (by rw[h];trivial) (.inl rfl) (λb u hb q=>(DC _ _ (Bu hb)).trans q) ⟨_,e⟩ ?_;exact⟨hz,its',n',r,e⟩
def YB:V->V->V->Hp->(Hp->Prop)->Prop:=λo i v H Q=>∃p xs k j,o=.ref p/\i=.int k/\H p=al (.lst xs)/\sC xs.length k=al j/\Q (upd H p (.lst (xs.set j v)))
theorem set_list:LC X YB:=by
 intro Z s σ H o i v ov iv u Q I ro ri rv h;obtain⟨p,xs,k,j,rfl,rfl,hp,hj,q⟩:=h;cases ro;obtain⟨t,rfl⟩:=ri;obtain⟨ax,n,r,ho,hz⟩:=I.lst hp;obtain⟨h1,h2,h3,h4⟩:=Jv hj;have hl:=r.length;have hn:=vq;have I':=
  I.VG hp ho (G6 ax n j u) (r.set rv j) (by rw[BS];exact hz) s.toks
 by_cases h0:0<=k
 .have hk:k.toNat=j:=by
   rw[seqIndex_of h0 h4]at h1;exact Option.some.inj h1
  exact PySem.W.ki_setAt ho h0 ∅ (by rw[Ai,<- hl];exact h4) (by rw[hk];exact⟨_,I',q⟩)
 .have hk:(k+ax.toArray.size).toNat=j:=by
   rw[seqIndex_neg ∅ h3]at h1;rw[Ai,<- hl];exact Option.some.inj h1
  exact PySem.W.ki_setBack ho ∅ (by rw[Ai,<- hl];exact h3) ∅ (by rw[hk];exact⟨_,I',q⟩)
theorem uO(lo hi:Option Int)(n:Nat):(FS lo hi bn n).1=((HT.tG n 0 lo:Nat):Int)/\(FS lo hi bn n).2.1=((HT.tG n n hi:Nat):Int)/\(FS lo hi bn n).2.2=1:=by
 refine⟨?_,?_,rfl⟩
 .cases lo with
  |none=>simp[FS,HT.tG]
  |some i=>
   simp only[FS,HT.tG,Ff];by_cases h:i<0
   .simp only[h,if_true]<;>lia
   .simp only[h,if_false]<;>lia
 .cases hi with
  |none=>simp[FS,HT.tG]
  |some i=>
   simp only[FS,HT.tG,Ff,if_true];by_cases h:i<0
   .simp only[h,if_true]<;>lia
   .simp only[h,if_false]<;>lia
def rV(ax:O ce)(lo hi:Option Int):slicePick ax.toArray lo hi bn=((ax.drop (HT.tG ax.length 0 lo)).take (HT.tG ax.length ax.length hi-HT.tG ax.length 0 lo)).toArray:=by
 obtain⟨h1,h2,h3⟩:=uO lo hi ax.toArray.size;unfold slicePick;rw[h1,h2,h3];simp only[sliceRange_one,pick_run]<;>rfl
def acS(K:Aa):V->Option Int->Option Int->Hp->VK->Prop:=λx lo hi H Q=>∃a xs,x=.ref a/\du K H a xs/\∀p,H p=bn->Q (.ref p) (upd H p (.lst (Lk xs lo hi)))
theorem Qu:Uk X (acS X.K):=by
 intro Z s σ H x v vl vu lo hi sl Q I rx hs pl pu h;obtain⟨a,xs,rfl,hx,q⟩:=h;cases rx;obtain⟨ax,r,ht,hz⟩:=I.list hx;have Â:=r.length;refine⟨"list",_,slot_list_getitem.lookup,ht.isList.typeIs,?_⟩;refine wpAny_getItem_list_slice ht.isList hs pl pu .none (by simp) ?_ (by rw[Ai] <;> lia);rw[rV,<- Â];refine⟨.ref s.heap.objs.size,_,I.laid (λb ob q=>Ad _ q) (Ah _) ?_,rfl,q _ (I.aX.fresh (Ah _))⟩;exact⟨AE (yW xs lo hi) hz,_,0,(r.drop (HT.tG xs.length 0 lo)).take (HT.tG xs.length xs.length hi-HT.tG xs.length 0 lo),Ak _ rfl⟩
theorem wM:bP X (.type "list") (λxs H Q=>∃p ys,xs=[.ref p]/\(du X.K H p ys\/dX X.K H p ys)/\∀l,H l=bn->Q (.ref l) (upd H l (.lst ys))):=by
 intro Z s σ H xs us Q I r h;obtain⟨p,ys,rfl,hq,q⟩:=h;obtain⟨u,rfl,rx⟩:=vals1 r;cases rx;have fin:∀ax,Vals ys ax->ys.length<=sizeLine->∀(h':nn) c',(∀b o',s.heap.get? b=al o'->h'.get? b=al o')->
   h'.get? s.heap.objs.size=al {cls:=.type "list",dict:=bn,data:=.seq ax.toArray c',slots:=#[]}->EP X Z σ Q (.ref s.heap.objs.size) {s with heap:=h'}:=λax r' hz h' c' kp e=>
  ⟨.ref s.heap.objs.size,_,I.laid (t':=s.toks) kp (Ah _) (show bV X.prog X.w _ h' _ (.lst ys) from⟨hz,ax,c',r',e⟩),rfl,q _ (I.aX.fresh (Ah _))⟩
 rcases hq with hq|hq
 .obtain⟨ax,r',pl,hz⟩:=I.list hq;have Â:=r'.length;obtain⟨o,ho,hc,n,hd⟩:=pl.isList;exact call_list_seq p (.inl rfl) ho hc hd (λh' c' kp e=>fin ax r' hz h' c' kp e) (by simp only[Ai]<;>lia)
 .obtain⟨ax,r',pl,hz⟩:=I.tuple hq;have Â:=r'.length;obtain⟨o,ho,hc,n,hd⟩:=pl;exact call_list_seq p (.inr rfl) ho hc hd (λh' c' kp e=>fin ax r' hz h' c' kp e) (by simp only[Ai]<;>lia)
theorem kM:bP X (.type "tuple") (λxs H Q=>∃p ys,xs=[.ref p]/\((du X.K H p ys/\∀l,H l=bn->Q (.ref l) (upd H l (.tup ys)))\/(dX X.K H p ys/\Q (.ref p) H))):=by
 intro Z s σ H xs us Q I r h;obtain⟨p,ys,rfl,h⟩:=h;obtain⟨u,rfl,rx⟩:=vals1 r;cases rx;rcases h with⟨hq,q⟩|⟨hq,q⟩
 .obtain⟨ax,r',pl,hz⟩:=I.list hq;have Â:=r'.length;refine call_tuple_list pl.isList (λh' kp=>?_) (by simp<;>lia);have I1:=I.kept (t':=s.toks) kp;have I2:=
   I1.laid (t':=s.toks) (λb o e=>Ad _ e) (Ah _) (show bV X.prog X.w _ _ _ (.tup ys) from⟨hz,ax,r',GL _ _,_,Ak _ rfl,rfl⟩)
  exact⟨.ref h'.objs.size,_,I2,rfl,q _ (I1.aX.fresh (Ah _))⟩
 .obtain⟨ax,r',pl,hz⟩:=I.tuple hq;exact call_tuple_same pl ⟨.ref p,H,I,rfl,q⟩
def tyV(K:Aa)(T:String)(x:V)(H:Hp):Prop:=match x with
 |.str _=>T="str"
 |.int _=>T="int"
 |.ref p=>(T="list"/\∃xs,du K H p xs)\/(T="tuple"/\∃o,K.lookup p=al o/\o.cls=.type "tuple"/\o.dict=bn)\/
   (T="dict"/\((∃az,H p=al (.dK az))\/∃az,H p=al (.dT az)))\/(T="set"/\∃S n,H p=al (.set S n))
 |_=>False
def L4{x:V}(I:Inv X Z σ H s)(r:RelV x v)(ty:tyV X.K T x H):s.TypeIs v T/\∀a,v=.ref a->∃ob,s.heap.get? a=al ob/\ob.dict=bn:=by
 cases x with
 |str z=>
  obtain⟨t,rfl⟩:=r;cases (ty);exact⟨Op s z t,λ_ e=>nomatch e⟩
 |int i=>
  obtain⟨t,rfl⟩:=r;cases (ty);exact⟨typeIs_int s i t,λ_ e=>nomatch e⟩
 |ref p=>
  cases r;rcases ty with⟨rfl,xs,hq⟩|⟨rfl,o,hk,hc,hd⟩|⟨rfl,hk⟩|⟨rfl,S,n,hk⟩
  .obtain⟨ax,_,pl,_⟩:=I.list hq;refine⟨pl.isList.typeIs,λa e=>?_⟩;cases e;obtain⟨o,n,e,c,hd,_⟩:=pl;exact⟨o,e,hd⟩
  .refine⟨⟨o,I.fm p o hk,hc⟩,λa e=>?_⟩;cases e;exact⟨o,I.fm _ o hk,hd⟩
  .have z:∃o,s.heap.get? p=al o/\o.ExactDict:=by
    rcases hk with⟨az,hk⟩|⟨az,hk⟩
    .obtain⟨_,_,_,_,o,_,_,e,ex,_⟩:=I.aX p _ hk;exact⟨o,e,ex⟩
    .obtain⟨_,_,_,_,o,_,_,e,ex,_⟩:=I.aX p _ hk;exact⟨o,e,ex⟩
   obtain⟨o,e,ex⟩:=z;refine⟨⟨o,e,ex.1⟩,λa e2=>?_⟩;cases e2;exact⟨o,e,ex.2.1⟩
  .obtain⟨o,_,_,_,e,ex,_⟩:=I.aX p _ hk;refine⟨⟨o,e,ex.1⟩,λa e2=>?_⟩;cases e2;exact⟨o,e,ex.2.1⟩
 |_=>exact AV ty
def Ye(K:Aa)(T:String)(r:V->O V->Hp->VK->Prop)(to:TE):TE:=λσ H Q=>to σ H λx H1=>tyV K T x H1/\r x [] H1 Q
def tBM(K:Aa)(T:String)(r:V->O V->Hp->VK->Prop)(to:TE)(t:TA):TE:=λσ H Q=>to σ H λx H1=>tyV K T x H1/\t σ H1 λxs H2=>r x xs H2 Q
variable{o e:pc}{es:O pc}{to:TE}{t:TA}{name:Str}{Á bN:Pos}{T id:String}{r:V->O V->Hp->VK->Prop}
def Vg(pa:PlainAttrs T)(slot:Slot T name id)(Jx:typeOf (.builtin id)=pure (.type "method_descriptor"))(hm:MtR X id r)(ho:PE X o to)(cY:‹sB o name X.env (o0 o X.env)=o0 o X.env›)(dR:‹P7 Á bN›):PE X (.Call (.Attribute o name Á) [] [] bN) (Ye X.K T r to):=by
 intro Z s σ H Q I h;refine wpAny_Call_method0_late cY dR (bp (ho Z s σ H _ I h) λv s1 ⟨x,H1,I1,r1,ty,q1⟩=>?_);obtain⟨h1,h2⟩:=L4 I1 r1 ty;exact⟨T,id,pa,slot,Jx,h1,h2,DG rfl (PySem.evalArgs_none (hm Z s1 σ H1 x [] v [] Q I1 r1 .nil q1))⟩
def YR(pa:PlainAttrs T)(slot:Slot T name id)(Jx:typeOf (.builtin id)=pure (.type "method_descriptor"))(hm:MtR X id r)(ho:PE X o to)(ha:PA X (e::es) t)(cY:‹sB o name X.env (o0 o X.env)=o0 o X.env›)(nK:‹W6 X bN (e::es)›)(dR:‹P7 Á bN›)(hs:‹dY X e es›)(eI:‹gw X bN es›):PE X (.Call (.Attribute o name Á) (e::es) [] bN) (tBM X.K T r to t):=by
 intro Z s σ H Q I h;refine wpAny_Call_method_late cY nK dR rfl (bp (ho Z s σ H _ I h) λv s1 ⟨x,H1,I1,r1,ty,q1⟩=>?_);obtain⟨h1,h2⟩:=L4 I1 r1 ty;refine⟨T,id,pa,slot,Jx,h1,h2,?_⟩;have hA:=ha bN Z s1 σ H1 _ I1 q1;rw[hs]at hA ⊢;exact DG (by show(false||(KM bN (lm es X.env)).any (·.1))=false;rw[eI]<;>rfl) (F1 (bp hA λus s2 ⟨vs,H2,I2,r2,q2⟩=>hm Z s2 σ H2 x vs v us Q I2 r1 r2 q2))
end
end L2
variable{l:AY}
namespace L2
def Il(X:Cx)(id:String)(r:V->O V->Hp->VK->Prop):Prop:=
 ∀(Z:O (db×Obj)) (s:gt) (σ:St) (H:Hp) (x:V) (xs:O V) (v:ce) (us:O ce) (Q:VK),Inv X Z σ H s->RelV x v->Vals xs us->r x xs H Q->
  f8 (lf X.prog X.w) X.A (call (.builtin id) (v::us)) (EP X Z σ Q) X.xe s
def Vals.one:∀{x:V}{us:O ce},Vals [x] us->∃u,us=[u]/\RelV x u
 |_,_,.cons r .nil=>⟨_,rfl,r⟩
def Vals.zero:∀{us:O ce},Vals [] us->us=[]
 |_,.nil=>rfl
def Vals.dropLast(h:Vals xs us):Vals xs.dropLast us.dropLast:=by
 induction h with
 |nil=>exact .nil
 |cons r t ih=>
  cases t with
  |nil=>exact .nil
  |cons q t'=>exact .cons r ih
theorem Vals.rep(h:Vals xs us):∀k:Nat,Vals (Ar k xs).flatten (Ar k us).flatten
 |0=>.nil
 |k+1=>by
  exact Vals.append h (Vals.rep h k)
theorem HI(l:List α):l.eraseIdx (l.length-1)=l.dropLast:=by
 induction l with
 |nil=>rfl
 |cons a r ih=>
  cases r with
  |nil=>rfl
  |cons b r=>
   have e:(a::b::r).length-1=((b::r).length-1)+1:=by
    have h1:(a::b::r).length=r.length+2:=rfl;have h2:(b::r).length=r.length+1:=rfl;lia
   rw[e,List.eraseIdx_cons_succ,ih]
   all_goals rfl
theorem foldl_rep(ax:O ce):∀(k:Nat) (acc:O ce),List.foldl (λx1 x2=>x1++x2) acc.toArray (Ar k ax.toArray)=(acc++(Ar k ax).flatten).toArray
 |0,acc=>by simp
 |k+1,acc=>by
  have e:acc.toArray++ax.toArray=(acc++ax).toArray:=by simp
  have e2:(acc++ax)++(Ar k ax).flatten=acc++(Ar (k+1) ax).flatten:=by
   rw[Dl,E3,C9]
  rw[<- e2,<- foldl_rep ax k (acc++ax),<- e,Dl,Du]
section
def Inv.G9{f:Array ce->Array ce}{t':Nat}(I:Inv X Z σ H s)(hH:H l=al (.lst xs))(e:s.heap.get? l=al {cls:=.type "list",data:=.seq ax.toArray n})(hf:f ax.toArray=its'.toArray)(hv:Vals ys its')(hz:ys.length<=sizeLine):Inv X Z σ (upd H l (.lst ys)) {s with heap:=s.heap.update l (CU f),toks:=t'}:=by
 have q:=PySem.IsL.update e f;rw[hf]at q;refine I.write (by rw[hH];exact trivial) (.inl rfl) (λb' u hb hu=>(DC s.heap (CU f) (Bu hb)).trans hu) ⟨_,q⟩ ?_;exact⟨hz,its',_,hv,q⟩
def Inv.VH{t':Nat}(I:Inv X Z σ H s)(hv:Vals ys ax)(hz:ys.length<=sizeLine):Inv X Z σ (upd H s.heap.objs.size (.lst ys)) {s with heap:=s.heap.push {cls:=.type "list",data:=.seq ax.toArray},toks:=t'}:=
 I.laid (λ_ _ q=>Ad _ q) (Ah _) ⟨hz,ax,0,hv,Ak _ rfl⟩
def Inv.fresh(I:Inv X Z σ H s):H s.heap.objs.size=bn:=I.aX.fresh (Ah _)
def Inv.kZ(I:Inv X Z σ H s)(hH:H l=al (.lst xs)):xs.length<=sizeLine/\∃(ax:O ce) (n:Nat),Vals xs ax/\xs.length=ax.length/\s.heap.get? l=al {cls:=.type "list",data:=.seq ax.toArray n}:=by
 obtain⟨z,ax,n,r,e⟩:=I.aX l _ hH;exact⟨z,ax,n,r,r.length,e⟩
theorem g8(h:n<=sizeLine):Builtin.List.listTooLong n=false:=by
 exact decide_eq_false ∅
end
section
def QG:V->O V->Hp->VK->Prop:=λx vs H Q=>∃l xs y,x=.ref l/\vs=[y]/\H l=al (.lst xs)/\xs.length<sizeLine/\Q .bx (upd H l (.lst (xs++[y])))
theorem KA:Il X "list.append" QG:=by
 intro Z s σ H x vs v us Q I rx rv h;obtain⟨l,xs,y,rfl,rfl,hH,hz,q⟩:=h;cases rx;obtain⟨u,rfl,ru⟩:=rv.one;obtain⟨z,ax,n,r,hl,e⟩:=I.kZ hH;refine wE F.slot_list_append ⟨_,e,rfl⟩ F.entry_list_append (F.args_list_append_2 _ _) (PySem.list_append l ax.toArray n u (by rw[Ai];lia)) ⟨e,?_⟩;refine⟨.bx,_,I.G9 hH e (by simp) (r.append (.cons ru .nil)) ?_,rfl,q⟩;rw[Ag,DR];lia
def QD:V->O V->Hp->VK->Prop:=λx vs H Q=>∃l b xs zs,x=.ref l/\vs=[.ref b]/\H l=al (.lst xs)/\H b=al (.lst zs)/\xs.length+zs.length<=sizeLine/\Q .bx (upd H l (.lst (xs++zs)))
theorem Xi:Il X "list.extend" QD:=by
 intro Z s σ H x vs v us Q I rx rv h;obtain⟨l,b,xs,zs,rfl,rfl,hH,hB,hz,q⟩:=h;cases rx;obtain⟨u,rfl,ru⟩:=rv.one;cases ru;obtain⟨z,ax,n,r,hl,e⟩:=I.kZ hH;obtain⟨z2,cQ,n2,r2,RK,e2⟩:=I.kZ hB;have hsz:ax.toArray.size+cQ.toArray.size<=sizeLine:=by rw[Ai,Ai];lia
 have qI:¬(!ax.toArray.isEmpty&&Builtin.List.listTooLong (ax.toArray.size+cQ.toArray.size))=true:=by
  rw[g8 hsz,EK];exact Bi
 refine wE EC ⟨_,e,rfl⟩ Ei (D7 _ _)
  (AutoSeq1.list_extend_list_list_0 l ax.toArray n b cQ.toArray n2 qI (by rw[Ai];lia) ∅) ⟨e,e2,?_⟩
 refine⟨.bx,_,I.G9 hH e (by simp) (r.append r2) ?_,rfl,q⟩;rw[Ag];lia
def acU:V->O V->Hp->VK->Prop:=λx vs H Q=>∃l xs y,x=.ref l/\vs=[]/\H l=al (.lst xs)/\xs[xs.length-1]?=al y/\Q y (upd H l (.lst xs.dropLast))
theorem VD:Il X "list.pop" acU:=by
 intro Z s σ H x vs v us Q I rx rv h;obtain⟨l,xs,y,rfl,rfl,hH,hy,q⟩:=h;cases rx;have hus:=rv.zero;subst hus;obtain⟨z,ax,n,r,hl,e⟩:=I.kZ hH;obtain⟨u,hu,ru⟩:=r.get hy;have hy':ax.toArray[ax.toArray.size-1]?=al u:=by
  show ax.toArray[ax.length-1]?=al u;rw[<- Array.getElem?_toList,<- hl];exact hu
 refine wE F.slot_list_pop ⟨_,e,rfl⟩ F.entry_list_pop (F.args_list_pop_1 _) (MeetsSeq.list_pop_last l ax.toArray n u hy' (by rw[Ai];lia)) ⟨e,?_⟩;refine⟨y,_,I.G9 hH e ?_ r.dropLast ?_,ru,q⟩
 .rw[Ai,List.eraseIdxIfInBounds_toArray,HI]
 .rw[List.length_dropLast];lia
def acV:R2:=λx y H Q=>∃l b xs zs,x=.ref l/\y=.ref b/\H l=al (.lst xs)/\H b=al (.lst zs)/\xs.length+zs.length<=sizeLine/\∀p,H p=bn->Q (.ref p) (upd H p (.lst (xs++zs)))
theorem Vn:gr X (wP .Add) acV:=by
 intro Z s σ H x y v u Q I rx ry h;obtain⟨l,b,xs,zs,rfl,rfl,hH,hB,hz,q⟩:=h;cases rx;cases ry;obtain⟨z,ax,n,r,hl,e⟩:=I.kZ hH;obtain⟨z2,cQ,n2,r2,RK,e2⟩:=I.kZ hB;refine PySem.P.add_list e e2 ?_ (by rw[Ai,Ai];lia);have ea:ax.toArray++cQ.toArray=(ax++cQ).toArray:=by simp
 rw[ea];exact⟨.ref _,_,I.VH (r.append r2) (by rw[Ag];lia),rfl,q _ I.fresh⟩
def acT:R2:=λx y H Q=>∃l k xs,x=.ref l/\y=.int k/\H l=al (.lst xs)/\-(2 ^ 63)<=k/\k<2 ^ 63/\xs.length*k.toNat<=sizeLine/\
 ∀p,H p=bn->Q (.ref p) (upd H p (.lst (Ar k.toNat xs).flatten))
def len_rep(xs:List α)(k:Nat):(Ar k xs).flatten.length=k*xs.length:=by
 induction k with
 |zero=>simp
 |succ k ih=>rw[Dl,E3,Ag,ih,Nat.succ_mul,Nat.add_comm]
theorem Vi:gr X (wP .Mult) acT:=by
 intro Z s σ H x y v u Q I rx ry h;obtain⟨l,k,xs,rfl,rfl,hH,h1,h2,hz,q⟩:=h;cases rx;obtain⟨t,rfl⟩:=ry;obtain⟨z,ax,n,r,hl,e⟩:=I.kZ hH;have Â:ax.toArray.size*k.toNat<=sizeLine:=by rw[Ai,<- hl];exact hz
 have Ht:¬ax.toArray.size*k.toNat > (2 ^ 63-1) / 8:=by
  have:(sizeLine:Nat)<=(2 ^ 63-1) / 8:=by decide
  lia
 have adU:¬(!Builtin.List.listFitsIndex k)=true:=by
  rw[fitsIndex_both h1 h2];exact Bi
 have qI:¬Builtin.List.listTooLong (ax.toArray.size*k.toNat)=true:=by
  rw[g8 Â];exact Bi
 have adJ:List.foldl (λx1 x2=>x1++x2) #[] (Ar (if ax.toArray.isEmpty=true then 0 else k.toNat) ax.toArray)=(Ar k.toNat ax).flatten.toArray:=by
  have f0:∀m:Nat,List.foldl (λx1 x2=>x1++x2) #[] (Ar m ax.toArray)=(Ar m ax).flatten.toArray:=λm=>by
   have:=foldl_rep ax m [];exact this
  rw[f0];cases ax with
  |nil=>simp
  |cons a r'=>rw[if_neg (by simp)]
 refine wpAny_binaryOp_repeat_ref (T:="list") ⋯ ⟨_,e,rfl⟩ (λs'=>typeIs_int s' k t) noFill_list_mul F.fills_int_mul F.slot_int_rmul repeat_list F.slot_int_index.lookup
  (wE F.slot_int_rmul (typeIs_int s k t) F.entry_int_rmul (F.args_int_rmul_2 _ _) (int___rmul___int_list k t l ax.toArray n)
   ⟨e,rfl,⟨_,e,rfl⟩,wE F.slot_list_mul ⟨_,e,rfl⟩ F.entry_list_mul (F.args_list_mul_2 _ _) (AutoListH.list___mul___list_int_3 l ax.toArray n k t adU Ht qI) ⟨e,?_⟩⟩)
 rw[adJ];exact⟨.ref _,_,I.VH (r.rep k.toNat) (by rw[len_rep,Nat.mul_comm];exact hz),rfl,q _ I.fresh⟩
end
section
def Kh(ax cQ:O ce)(a c:Nat):ax.toArray.extract 0 a++cQ.toArray++ax.toArray.extract c ax.toArray.size=(ax.take a++cQ++ax.drop c).toArray:=by
 apply Array.toList_inj.mp
 first
  |(
    simp;exact CZ (by simp))
  |simp
  |simp
theorem Ia{a c:Nat}(Xt:a<=c)(hc:c<=n):FS (al (a:Int)) (al (c:Int)) bn n=((a:Int),(c:Int),1):=by
 simp only[FS,Ff];have h1:¬(a<0):=by lia
 congr 1
 .omega
 .congr 1;lia
set_option maxRecDepth 100000 in
theorem rX{l b sl:db}{items new:Array ce}{n n2:Nat}{vl vu:ce}{a c:Nat}{Q:Unit->gt->Prop}(e:s.heap.get? l=al {cls:=.type "list",data:=.seq items n})(e2:s.heap.get? b=al {cls:=.type "list",data:=.seq new n2})(LP:l≠b)(hs:s.heap.IsSliceOf sl vl vu .none)(pl:IsPart vl (al (a:Int)))(pu:IsPart vu (al (c:Int)))(Xt:a<=c)(hc:c<=items.size)(hsz:items.size+new.size<=sizeLine)(h:Q () {s with heap:=s.heap.update l (CU λxs=>xs.extract 0 a++new++xs.extract c xs.size)}):f8 (lf prog w) A (Rs (.ref l) (.ref sl) (.ref b)) Q E s:=by
 have hl:s.heap.IsList l items:=GI e;have hb:s.heap.IsList b new:=GI e2;obtain⟨os,RJ,Xp,TU⟩:=id hs;have hTs:s.TypeIs (.ref sl) "slice":=⟨os,RJ,Xp⟩;have ZC:¬((rawPart bn==pr 0)=true):=Bi;have Oa:Builtin.List.listSameRef (.ref l) (.ref b)=false:=by
  unfold Builtin.List.listSameRef;exact beq_eq_false_iff_ne.mpr LP
 have adL:(max (a:Int) (c:Int)).toNat=c:=by lia
 have Jw:((λxs:Array ce=>xs.extract 0 a++new++xs.extract c xs.size) items).size<=sizeLine+1:=by
  simp only[Array.size_append,Array.size_extract];lia
 unfold Rs
 try with_reducible refine Ba ?_
 first|refine Ab (Ae ?_)|skip
 refine Ab (wpAny_sequenceKey hl.typeIs ⋯ ?_);refine Ab (AZ (name:=DA "__setitem__") hl.typeIs slot_list_setitem
  (Bw slot_list_setitem hl.typeIs entry_list_setitem ?_ (args_list_setitem _ _ _)))
 show f8 _ _ (Builtin.List.listSubscript? (.ref sl) >>= _) _ _ s;refine Ab ?_;unfold Builtin.List.listSubscript?;refine Ab (FN hTs slice_no_index ?_);simp only[Option.isNone_none,if_true];refine Ae ?_;show f8 _ _ (typeOf (.ref sl) >>= _) _ _ s;refine Ab (wpAny_typeOf hTs ?_)
 first
  |rw[if_neg ⋯]
  |refine PySem.W.KFB.if_not ⋯ ?_
 rw[listSliceParts_eq];refine Ab (Ab (AG RJ TU (x:=.none) rfl (Ab (F4 .none ?_))));rw[if_neg ZC];refine Ab (AG RJ TU (x:=vl) rfl (Ab (F4 pl ?_)));refine Ab (AG RJ TU (x:=vu) rfl (Ab (F4 pu (Ae ?_))))
 first
  |simp only[Oa,Aq,if_false]
  |refine PySem.W.KFB.if_not Oa ?_
  |(
    dsimp only;rw[if_neg (by rw[Oa];exact Bi)])
 refine Ab (m:=Builtin.List.listAllItems (.ref b) "must assign iterable to extended slice") ?_;unfold Builtin.List.listAllItems;refine Ab (wpAny_typeOf hb.typeIs ?_)
 first
  |refine PySem.W.KFB.if_so ⋯ ?_
  |rw[if_pos ⋯]
  |simp only[beq_self_eq_true,Bool.true_or,if_true]
 unfold Builtin.List.listItems;refine Ab (BX e2 rfl (Ae ?_));refine Ab (Ab (BX e rfl (Ae ?_)));refine Ab (Cf ((sliceIndices_raw (al (a:Int)) (al (c:Int)) bn items.size (by simp)).trans (congrArg (pure:Int×Int×Int->Sem (Int×Int×Int)) (Ia Xt hc))) ?_);show f8 _ _ (if ((1:Int)==1)=true then _ else _) _ _ s;rw[if_pos ⋯];refine Ab (CY ?_)
 first
  |simp only[g8 hsz,Aq,if_false]
  |refine PySem.W.KFB.if_not (g8 hsz) ?_
 first|refine Ab (Ae ?_)|skip
 show f8 _ _ (updateSeq l (λxs=>xs.extract 0 ((a:Int)).toNat++new++xs.extract (max (a:Int) (c:Int)).toNat xs.size) >>= _) _ _ s;rw[adL,Cn];refine Ab (Ee (hz:=AE (Bo _ _) hsz) (_hz':=Jw) e rfl ?_);refine Ab (CP ?_)
 first
  |exact Ab (Ae (Ae ⟨.none,rfl,Ae h⟩))
  |exact Ae ⟨.none,rfl,Ae h⟩
end
section
theorem Kj{sl:db}{a c:Int}{vl vu:ce}{Q:Unit->gt->Prop}(I:Inv X Z σ H s)(hH:H l=al (.lst xs))(hB:H b=al (.lst ys))(LP:l≠b)(hs:s.heap.IsSliceOf sl vl vu .none)(ra:RelV (.int a) vl)(rc:RelV (.int c) vu)(h0:0<=a)(Xt:a<=c)(hc:c<=xs.length)(hz:xs.length+ys.length<=sizeLine)(h:∀s',Inv X Z σ (upd H l (.lst (xs.take a.toNat++ys++xs.drop c.toNat))) s'->Q () s'):f8 (lf X.prog X.w) X.A (Rs (.ref l) (.ref sl) (.ref b)) Q X.xe s:=by
 obtain⟨ta,rfl⟩:=ra;obtain⟨tc,rfl⟩:=rc;obtain⟨z,ax,n,r,hl,e⟩:=I.kZ hH;obtain⟨z2,cQ,n2,r2,RK,e2⟩:=I.kZ hB;obtain⟨a',rfl⟩:=Fj h0;obtain⟨c',rfl⟩:=Fj (Int.le_trans h0 Xt);simp only[Cn]at h;refine rX (a:=a') (c:=c') e e2 LP hs (.int _ _) (.int _ _) ∅ (by rw[Ai];lia) (by rw[Ai,Ai];lia) (h _ ?_);refine I.G9 (its':=ax.take a'++cQ++ax.drop c') (t':=s.toks) hH e ?_ (Vals.append (Vals.append (r.take _) r2) (r.drop _)) ?_
 .exact Kh ax cQ a' c'
 .rw[Ag,Ag,B9,Ca];lia
end
end L2
variable{xs:O (O L2.Key×AY×A2)}{v:L2.V}{az:O (O L2.Key×L2.V)}
namespace L2
section
variable{κ:Type}[DecidableEq κ]
def oM(az:O (κ×V))(k:κ):Option V:=(az.find? λkv=>decide (kv.1=k)).map (·.2)
def putK(az:O (κ×V))(k:κ)(v:V):O (κ×V):=
 if (az.any λkv=>decide (kv.1=k))=true then az.map (λkv=>if kv.1=k then (kv.1,v) else kv) else az++[(k,v)]
def pU{p:κ×V}{r:O (κ×V)}{k:κ}(e:p.1=k):oM (p::r) k=al p.2:=by simp[oM,e]
def pV{p:κ×V}{r:O (κ×V)}{k:κ}(e:¬p.1=k):oM (p::r) k=oM r k:=by simp[oM,e]
theorem lL(k:κ):∀az:O (κ×V),(az.any λkv=>decide (kv.1=k))=(oM az k).isSome
 |[]=>rfl
 |p::r=>by
  rw[CG];by_cases e:p.1=k
  .simp only[pU e,decide_eq_true e,Bool.true_or,Gp]
  .rw[pV e,decide_eq_false e,Bool.false_or];exact lL k r
theorem ou(az:O (κ×V))(k:κ)(v:V):(putK az k v).length<=az.length+1:=by
 unfold putK
 split
 .rw[Am];lia
 .rw[Ag,Ap,FO];lia
def mS.nG{o:Option V}{u:Option ce}(r:mS o u):o.isSome=u.isSome:=by
 cases o with
 |none=>cases u with
  |none=>rfl
  |some _=>exact(r).elim
 |some _=>cases u with
  |none=>exact(show False from r).elim
  |some _=>rfl
def KV.val{az:O (κ×V)}{vs:O (κ×ce)}(r:KV az vs)(k:κ):mS (oM az k) (valueAt vs k):=by
 unfold KV at r
 induction r with
 |nil=>exact B5
 | @cons p q ps qs h t ih=>
  obtain⟨h1,h2⟩:=h;by_cases e:p.1=k
  .have e':q.1=k:=h1.symm.trans e;have b:valueAt (q::qs) k=al q.2:=by simp[valueAt,Eg,e']
   rw[pU e,b];exact h2
  .have e':¬q.1=k:=λz=>e (h1.trans z);have b:valueAt (q::qs) k=valueAt qs k:=by simp[valueAt,Eg,e']
   rw[pV e,b];exact ih
def KV.any{az:O (κ×V)}{vs:O (κ×ce)}(r:KV az vs)(k:κ):(az.any λkv=>decide (kv.1=k))=vs.any λkv=>decide (kv.1=k):=by
 induction r with
 |nil=>rfl
 |cons h t ih=>rw[CG,CG,ih,h.1]
def KV.UY{az:O (κ×V)}{vs:O (κ×ce)}(r:KV az vs)(k:κ)(ry:RelV y u):KV (az.map λkv=>if kv.1=k then (kv.1,y) else kv) (vs.map λkv=>if kv.1=k then (kv.1,u) else kv):=by
 induction r with
 |nil=>exact .nil
 | @cons p q ps qs h t ih=>
  rw[A4,A4];refine .cons ?_ ih;obtain⟨h1,h2⟩:=h;by_cases e:p.1=k
  .rw[if_pos e,if_pos (h1.symm.trans e)];exact⟨h1,ry⟩
  .rw[if_neg e,if_neg (λz=>e (h1.trans z))];exact⟨h1,h2⟩
def KV.put{az:O (κ×V)}{vs:O (κ×ce)}(r:KV az vs)(k:κ)(ry:RelV y u):KV (putK az k y) (stored vs k u):=by
 unfold putK stored;rw[r.any k];by_cases e:(vs.any λkv=>decide (kv.1=k))=true
 .rw[if_pos e,if_pos e];exact r.UY k ry
 .rw[if_neg e,if_neg e];exact Paired.snoc r ⟨rfl,ry⟩
def KV.length{az:O (κ×V)}{vs:O (κ×ce)}(r:KV az vs):az.length=vs.length:=Paired.length r
end
def NZ{k:Key}(r:RelV (kV k) u):(cX P w).is k u=true:=by
 cases k with
 |inl i=>obtain⟨t,e⟩:=(r);subst e;exact xX P w i t
 |inr x=>obtain⟨t,e⟩:=(r);subst e;exact xW P w x t
theorem tY:∀{ks:O Key}{us:O ce},Vals (ks.map kV) us->ItemsAre (cX P w) ks us
 |[],_,r=>by rw[Fy]at r;cases r;exact .nil
 |k::ks,_,r=>by
  cases r with
  |cons h t=>exact .cons (NZ h) (tY t)
abbrev KT(H:Hp):O (O Key×V)->O (O Key×db×ce)->Prop:=Paired λp q=>p.1=q.1/\H q.2.1=al (.tup (p.1.map kV))/\RelV p.2 q.2.2
def KT.val(r:KT H az xs)(k:O Key):mS (oM az k) ((atKey xs k).map (·.2)):=by
 induction r with
 |nil=>exact B5
 | @cons p q ps qs h t ih=>
  obtain⟨h1,_,h2⟩:=h;by_cases e:p.1=k
  .have e':=h1.symm.trans e;have b:atKey (q::qs) k=al q.2:=by simp[atKey,Eg,e']
   rw[pU e,b];exact h2
  .have e':¬q.1=k:=λz=>e (h1.trans z);have b:atKey (q::qs) k=atKey qs k:=by simp[atKey,Eg,e']
   rw[pV e,b];exact ih
def KT.UY(r:KT H az xs)(k:O Key)(ry:RelV y u):KT H (az.map λkv=>if kv.1=k then (kv.1,y) else kv) (xs.map (putAt k u)):=by
 induction r with
 |nil=>exact .nil
 | @cons p q ps qs h t ih=>
  rw[A4,A4];refine .cons ?_ ih;obtain⟨h1,h2,h3⟩:=h;unfold putAt;by_cases e:p.1=k
  .rw[if_pos e,if_pos (h1.symm.trans e)];exact⟨h1,h2,ry⟩
  .rw[if_neg e,if_neg (λz=>e (h1.trans z))];exact⟨h1,h2,h3⟩
def KT.put(r:KT H az xs)(k:O Key)(hb:H b=al (.tup (k.map kV)))(ry:RelV y u):KT H (putK az k y) (storedH xs k b u):=by
 have e:(az.any λkv=>decide (kv.1=k))=(atKey xs k).isSome:=by
  rw[lL,(r.val k).nG,Gy]
 unfold putK storedH;rw[e];by_cases q:(atKey xs k).isSome=true
 .rw[if_pos q,if_pos q];exact r.UY k ry
 .rw[if_neg q,if_neg q];exact Paired.snoc r ⟨rfl,hb,ry⟩
def KT.keeps(r:KT H az xs)(ht:∀b ys,H b=al (.tup ys)->H' b=al (.tup ys)):KT H' az xs:=
 Paired.VF r λ_ _ z=>⟨z.1,ht _ _ z.2.1,z.2.2⟩
section
def S3{u:HO}(ok:iw P w H h)(e:Rd H a u):bV P w H h a u:=e.ok ok
def yT{az:O (Key×V)}(ok:iw P w H h)(e:Rd H a (.dK az)):az.length<=sizeLine/\(a==FM)=false/\∃vs,KV az vs/\h.DictOf (cX P w) a vs:=
 show bV P w H h a (.dK az) from S3 ok e
def aak{az:O (Key×V)}(ok:iw P w H h)(e:H a=al (.dK az)):az.length<=sizeLine/\(a==FM)=false/\∃vs,KV az vs/\h.DictOf (cX P w) a vs:=yT ok (.inl e)
def Hf{ks:O Key}(ok:iw P w H h)(e:H a=al (.tup (ks.map kV))):(tupleKind (cX P w)).is h ks a:=by
 obtain⟨_,ax,r,⟨o,h1,h2,n,h3⟩,_⟩:=(show bV P w H h a (.tup (ks.map kV)) from ok a _ e);exact⟨o,ax.toArray,n,h1,h2,h3,by simpa using tY r⟩
def yS(ok:iw P w H h)(e:Rd H a (.dT az)):az.length<=sizeLine/\(a==FM)=false/\ ∃xs,KT H az xs/\h.DictOfH (tupleKind (cX P w)) a xs:=by
 obtain⟨z,y,xs,r,o,es,ep,h1,h2,h3,h4,h5⟩:=(S3 ok e);refine⟨z,y,xs,r,o,es,ep,h1,h2,h3,h4,λx hx=>?_,h5⟩;have all:∀{l:O (O Key×V)}{m:O (O Key×db×ce)},KT H l m->∀x∈m,(tupleKind (cX P w)).is h x.1 x.2.1:=by
  intro l m q
  induction q with
  |nil=>intro x hx;exact nomatch hx
  | @cons p q ps qs hq t ih=>
   intro x hx;rcases Au.mp hx with e|hx
   .subst e;exact Hf ok (by rw[<- hq.1];exact hq.2.1)
   .exact ih x hx
 exact all r x hx
def aai(ok:iw P w H h)(e:H a=al (.dT az)):az.length<=sizeLine/\(a==FM)=false/\ ∃xs,KT H az xs/\h.DictOfH (tupleKind (cX P w)) a xs:=yS ok (.inl e)
end
def LG(H:Hp)(a:db)(y:V)(r:Option V):Prop:=
 (∃az k,Rd H a (.dK az)/\y=kV k/\r=oM az k)\/∃az k b,Rd H a (.dT az)/\y=.ref b/\H b=al (.tup (k.map kV))/\r=oM az k
def PJ(H:Hp)(a:db)(y v:V)(H':Hp):Prop:=
 (∃az k,H a=al (.dK az)/\y=kV k/\az.length<sizeLine/\H'=upd H a (.dK (putK az k v)))\/
 ∃az k b,H a=al (.dT az)/\y=.ref b/\H b=al (.tup (k.map kV))/\az.length<sizeLine/\H'=upd H a (.dT (putK az k v))
theorem LG.k{az:O (Key×V)}{k:Key}(e:H a=al (.dK az)):LG H a (kV k) (oM az k):=.inl ⟨az,k,.inl e,rfl,rfl⟩
theorem PJ.k{az:O (Key×V)}{k:Key}(e:H a=al (.dK az))(hl:az.length<sizeLine):PJ H a (kV k) v (upd H a (.dK (putK az k v))):=.inl ⟨az,k,e,rfl,hl,rfl⟩
section
variable{r:ce}{o:Option V}
def Inv.big(I:Inv X Z σ H s):FM<s.heap.objs.size:=by
 exact Nat.lt_trans ⋯ ((I.mod.glob.keeps I.bk).lt)
def aey(hu:A.units+1<GE)(I:Inv X Z σ H s)(g:LG H a y o)(ry:RelV y u)(h:∀s',Inv X Z σ H s'->Q (.bool o.isSome) s'):f8 (lf X.prog X.w) A (r9 .In u (.ref a)) Q E s:=by
 rcases g with⟨az,k,e,ey,l⟩|⟨az,k,b,e,ey,eb,l⟩
 .subst ey;obtain⟨z,hd,vs,Ó,dd⟩:=yT I.aX e;refine wpAny_in_of (NZ ry) hd dd.mapOf ?_;rw[<- (Ó.val k).nG,<- l];exact h _ (I.tok _)
 .subst ey;cases (show u=Ao b from ry);obtain⟨z,hd,xs,Ó,dd⟩:=yS I.aX e;refine wpAny_in_heap (tupleKind_room_in1 hu) (Hf I.aX eb) hd dd ?_;have q:=(Ó.val k).nG;rw[Gy]at q;rw[<- q,<- l];exact h _ (I.tok _)
def JV{t':Nat}{ob:HO}(I:Inv X Z σ H s)(mu:Mut (H a))(hs:Cc a s.heap h')(he:∃q,h'.get? a=al q)(new:bV X.prog X.w (upd H a ob) h' a ob):Inv X Z σ (upd H a ob) {s with heap:=h',toks:=t'}:=
 I.write (x:=a) (e:=a) mu (.inl rfl) (λb q hb z=>(hs.2 b hb).trans z) he new
def WI{az:O (Key×V)}{vs:O (Key×ce)}(z:az.length<=sizeLine)(hd:(a==FM)=false)(Ó:KV az vs)(dd:h'.DictOf (cX P w) a vs):bV P w H' h' a (.dK az):=⟨z,hd,vs,Ó,dd⟩
theorem Lj{Q:Unit->gt->Prop}(hu:A.units+1<GE)(I:Inv X Z σ H s)(g:PJ H a y v H')(ry:RelV y u)(rv:RelV v r)(h:∀s',Inv X Z σ H' s'->Q () s'):f8 (lf X.prog X.w) A (Rs (.ref a) u r) Q E s:=by
 rcases g with⟨az,k,e,ey,l,eH⟩|⟨az,k,b,e,ey,eb,l,eH⟩
 .subst ey eH;obtain⟨z,hd,vs,Ó,dd⟩:=aak I.aX e;have hz:vs.length<=sizeLine:=by rw[<- Ó.length];exact z
  have hl:(putK az k v).length<=sizeLine:=by have:=ou az k v;lia
  refine wpAny_setItem_pairs (hsz:=hz) (NZ ry) dd λh' WJ hs=>h _ ?_;have he:∃q,h'.get? a=al q:=let ⟨q,_,_,hq,_⟩:=WJ;⟨q,hq⟩;exact JV I (by rw[e];exact B5) hs he (WI hl hd (Ó.put k rv) WJ)
 .subst ey eH;cases (show u=Ao b from ry);obtain⟨z,hd,xs,Ó,dd⟩:=aai I.aX e;have hz:xs.length<=sizeLine:=by rw[<- Paired.length Ó];exact z
  have hl:(putK az k v).length<=sizeLine:=by have:=ou az k v;lia
  refine wpAny_setItem_heap (hsz:=hz) (tupleKind_room_in1 hu) (Hf I.aX eb) dd λh' WJ hs=>h _ ?_;obtain⟨q,es,ep,hq,h2,h3,h4,_,h5⟩:=WJ;refine JV I (by rw[e];exact B5) hs ⟨q,hq⟩ ⟨hl,hd,_,(Ó.put k eb rv).keeps λc ys ec=>?_,q,es,ep,hq,h2,h3,h4,h5⟩;rw[ah (xT ec e (λz=>nomatch z))];exact ec
end
def acB(ty td:TE):TE:=λσ H Q=>ty σ H λy H1=>td σ H1 λx H2=>∃a o,x=.ref a/\LG H2 a y o/\Q (.bl o.isSome) H2
def Yu(td ty tv:TE):TS:=λD σ H=>tv σ H λv H1=>td σ H1 λx H2=>ty σ H2 λy H3=>∃a H4,x=.ref a/\PJ H3 a y v H4/\D.nx σ H4
section
variable{i:pc}{td ty:TE}
def Vh(hu:X.A.units+1<GE)(hi:PE X i ty)(ho:PE X o td):PC X .In i o (acB ty td):=by
 intro Z s σ H Q I h;refine bp (hi Z s σ H _ I h) λiv s1 ⟨y,H1,I1,ry,q1⟩=>bp (ho Z s1 σ H1 _ I1 q1) λu s2 ⟨x,H2,I2,rx,a,ov,ex,g,q2⟩=>?_;subst ex;obtain rfl:u=Ao a:=rx;exact aey hu I2 g ry λs3 I3=>⟨.bl ov.isSome,H2,I3,rfl,q2⟩
def QI(hu:X.A.units+1<GE)(ho:PE X o td)(hi:PE X i ty)(hv:PE X Ã tv)(hs:r6 Ã (al (.Subscript o i È)) pos.line X.env=pure false):PS X (.Assign [.Subscript o i È] Ã pos) (Yu td ty tv):=by
 intro Z s σ H D I h;refine wpAny_Assign_Subscript (bp (hv Z s σ H _ I h) λr s1 ⟨v,H1,I1,rv,q1⟩=>bp (ho Z s1 σ H1 _ I1 q1) λu s2 ⟨x,H2,I2,rx,q2⟩=>bp (hi Z s2 σ H2 _ I2 q2) λiv s3 ⟨y,H3,I3,ry,a,H4,ex,g,q3⟩=>?_) hs;subst ex;obtain rfl:u=Ao a:=rx;exact Lj hu I3 g ry rv λs4 I4=>⟨σ,H4,I4,q3⟩
end
def O6(h:nn)(hb:FM < h.objs.size):bV P w H (h.push {cls:=.type "dict",data:=.dict #[]}) h.objs.size (.dK []):=
 ⟨Bs _,beq_eq_false_iff_ne.mpr (Bu (AD hb)),[],.nil,Heap.DictOf.new h⟩
def UH:TE:=λ_ H Q=>∀p,H p=bn->Q (.ref p) (upd H p (.dK []))
section
def xO:PE X (.Dict [] [] pos) UH:=λZ s σ H Q I h=>
 wpAny_Dict_empty ⟨.ref s.heap.objs.size,_,I.laid (λ_ _ q=>Ad _ q) (Ah _) (O6 s.heap I.big),rfl,h _ (I.aX.fresh (Ah _))⟩
end
structure M2(X:Cx)(o:pc)(m:Str)(Á:Pos)(e f:pc)(bN:Pos):Prop where
 base:sB o m X.env (o0 o X.env)=o0 o X.env
 few:((KM bN (lm [e,f] X.env)).all (λx=>!x.1)&&(backToKw bN (SZ [] X.env)).all (λx=>x.1.isSome)
  && decide (([e,f]:List pc).length+([]:List Keyword).length+(if ([]:List Keyword).isEmpty then 0 else 1)<30))=true
 line:(Á.endLine==bN.line)=true
 trees:KM bN (lm [e,f] X.env)=[(false,o0 e X.env),(false,o0 f X.env)]
def IsD(H:Hp)(a:db):Prop:=(∃az,Rd H a (.dK az))\/∃az,Rd H a (.dT az)
end L2
variable{Ô:O BN}{XP:(BN->Option A2)->EH->Prop}{YP:PySem.World->EH->Prop}
namespace Att
open PySem PySem.W PySem.Calls PyProof.Rows
def oZ{P:Params}:∀(ns:O Int) (vs:O ce),WellAll P h vs (ns.map WData.int)->TM vs ns:=by
 intro ns
 induction ns with
 |nil=>
  intro vs w;cases w;exact .nil
 |cons n ns ih=>
  intro vs w;cases w with
  |cons a b=>
   cases a;exact .cons _ _ (ih _ b)
theorem Kk{l:OpenLaw}(hn:l.most=al n){P:Params}{args:O WData}{Ú:O ce}(RI:l.row.toRowW.claim.pre args=true)(ď:WellAll P h Ú args):∃a vs ns,Ú=[Ao a]/\args=[WData.list (ns.map WData.int)]/\h.get? a=al {cls:=.type "list",data:=.seq vs.toArray}/\TM vs ns/\ns.length<=n:=by
 have hc:l.pre.holds [] {args:=args}=true:=(pre_splitW RI).2;obtain⟨d,r,rfl,h1,h2⟩:=hasAllW_cons ((pre_splitW RI).1);obtain rfl:=hasAllW_nil h2;obtain⟨xs,rfl,h3⟩:=hasW_list h1;obtain⟨ns,rfl⟩:=items_int h3;have Â:ns.length<=n:=by
  unfold OpenLaw.pre at hc;have h4:(WTm.not (.lt (.lit (.int (n:Int))) (.len (.arg 0)))).holds [] {args:=[.list (ns.map .int)]}=true:=by
   have h4:=(holds_andW hc).1;rw[hn]at h4;exact h4
  have h5:=condW_of h4 (w_not (w_lt w_lit (w_len_list (w_arg rfl))));refine Nat.le_of_not_lt λq=>?_
  first
   |(rw[decide_eq_true q']at h5;exact absurd h5 ⋯)
   |(simp at h5;lia)
 cases ď with
 |cons w1 w2=>
  cases w2;cases w1 with
  |list ho ad1=>exact⟨_,_,ns,rfl,rfl,ho,oZ ns _ ad1,Â⟩
def Kr(l:OpenLaw)(args:O WData):l.row.toRowW.claim.post args (.bool true) args=true:=
 postW_of
  (show WShape.has [] (.bool true) .bool=true by first|rfl|decide|simp[WShape.has,WShape.arms])
  (w_eq_bool (w_res rfl) w_lit) rfl
def y9{l:OpenLaw}{q:tz}{d:DefRec}(hn:l.most=al n)(Ĝ:d.params.defaults=[])(call:∀(w:wS) (s₀ s₁:gt) (mg mb:Str->Option ce) (fa:db) (o:Obj) (pm cd Ç:ce) (a:db) (vs:O ce) (ns:O Int),
   Ground q Ô [] XP w s₀ mg mb s₁.heap->YP w s₁.heap->
   s₁.heap.get? fa=al o->o.data=.func (docDef d.name d.params d.body d.scope pm cd Ç)->s₁.heap.CodeRec cd d.name->mg d.name=al (.ref fa)->
   s₁.heap.get? a=al {cls:=.type "list",data:=.seq vs.toArray}->TM vs ns->ns.length<=n->s₁.gens=#[]->
   Pv (lf l.prog w) callerA (.call (.ref fa) ⟨[.ref a],[]⟩) (λr s'=>r=.ok (.ret (.bool true))/\OldK s₁.heap s'.heap/\s'.os=s₁.os/\Tk s'.gens) s₁):WalkO q Ô XP YP l.row.toRowW d [] (λf vs=>PySem.call f vs):=by
 intro w s₀ s₁ mg mb G Y fa o pm cd Ç dV kV ho hd dr hD hmg hg args Ú as RI aju hrd ď hlo;obtain rfl:dV=.none:=Dflts.none hD Ĝ;obtain rfl:kV=.none:=Dflts.noKw hD;obtain⟨a,vs,ns,rfl,rfl,V7,Õ,Â⟩:=Kk hn RI ď;refine enter_call (EQ (call w s₀ s₁ mg mb fa o pm cd Ç a vs ns G Y ho (fd_plain hd) dr hmg V7 Õ Â hg) λr s' hq=>?_);obtain⟨rfl,h2,h3,h4⟩:=hq;exact⟨.inl ⟨.bool true,.bool true,[],rfl,λ_=>rfl,.bool true,Kr l _,λ_=>⟨List.Pairwise.nil,λ_ hm=>(nomatch hm)⟩⟩,h2,h3,h4⟩
end Att
namespace L2
theorem tj:∀{vs:O ce}{ns:O Int},TM vs ns->Vals (ns.map V.int) vs
 |_,_,.nil=>.nil
 |_,_,.cons n t h=>.cons ⟨t,rfl⟩ (tj h)
end L2
variable{k:Nat}{sp:L2.Sp}{B:Prop}
namespace L2
def cz(s:ut):Arguments:=match s with
 |.FunctionDef _ a _ _ _ _ _ _ _ _=>a
 |_=>{posonlyargs:=[],args:=[],vararg:=bn,kwonlyargs:=[],kw_defaults:=[],kwarg:=bn,defaults:=[]}
def a9(s:ut):O ut:=match s with
 |.FunctionDef _ _ b _ _ _ _ _ _ _=>b
 |_=>[]
def ak(s:ut):wT:=match s with
 |.FunctionDef _ _ _ _ _ _ sc _ _ _=>sc
 |_=>{kind:=.function,names:=[],isGenerator:=false,isCoroutine:=false}
abbrev jo:LV:=λ_ _ _ _ _ _=>False
abbrev E0:XK:=λ_ _ _=>False
def om:Passes jo X E0:=λ_ _ _ _ _ _ _ h=>h.elim
structure lz(K:Aa)(x qual:Str)(st:ut)(f:db)(fd:wp):Prop where
 ex:∃(oc:ce) (od:Option db) (kV Ç pm:ce) (an:Option db) (bX ct:ce) (Ku:Array (Option ce)),
  fd=Bj x qual (cz st) (a9 st) (ak st) .none kV Ç pm an bX ct/\K.lookup f=al ⟨oc,od,.func fd,Ku⟩/\Ce K bX qual=true
 kp:AL K (.ref f)=true
section
variable{K:Aa}
def lz.ok{x:Str}{st:ut}{f:db}{N:O Str}(F:lz K x qual st f fd)(S:bW N ps (ak st))(len:∀vs H Q E,sp vs H Q E->vs.length=ps.length)(mz:∀(bX:ce) (A:BT) (outer:O Env) (s:gt) (H:Hp) (vs:O V) (Q:VK) (E:XK),bI k (A.deeper (Db qual (ak st) s.heap.objs.size f bX))->sp vs H Q E->
   ∃t,nY (ku jo P w K mg base N qual (ak st) f bX A outer s H E).Ky (a9 st) t/\t {nx:=λ_ H'=>Q .bx H',rt:=Q} (start N vs) H):bz P w K mg base jo (k+1) f fd ps sp:=by
 obtain⟨oc,od,kV,Ç,pm,an,bX,ct,Ku,rfl,lk,dr⟩:=F.ex;refine JD lk dr S len λA outer s H vs Q E hr xl=>?_;obtain⟨t,h,q⟩:=mz bX A outer s H vs Q E hr xl;exact⟨t,h.Ky,q⟩
def lz.binds{x:Str}{st:ut}{f:db}(F:lz K x qual st f fd)(h:∀(kV Ç pm:ce) (an:Option db) (bX ct:ce) (us:O ce),us.length=ps.length->SB (Bj x qual (cz st) (a9 st) (ak st) .none kV Ç pm an bX ct) ⟨us,[]⟩=pure (ps.zip us)):Binds K fd ps []:=by
 obtain⟨oc,od,kV,Ç,pm,an,bX,ct,Ku,rfl,lk,dr⟩:=F.ex;exact .all (h kV Ç pm an bX ct)
def nP{x:Str}{st:ut}{f:db}{kV:ce}(l:K.lookup f=al ⟨oc,od,.func (Bj x qual (cz st) (a9 st) (ak st) .none kV Ç pm an bX ct),Ku⟩)(c:Ce K bX qual=true)(k:AL K (.ref f)=true):lz K x qual st f (Bj x qual (cz st) (a9 st) (ak st) .none kV Ç pm an bX ct):=⟨⟨oc,od,kV,Ç,pm,an,bX,ct,Ku,rfl,l,c⟩,k⟩
end
def tF(h:n<=1000):n<sizeLine:=Nat.lt_of_le_of_lt h ⋯
section
def pv(i:Nat){x:Str}(hN:‹X.N[i]?=al x›)(hv:rN X.env.scope x:=by first|exact BA rfl|exact BE (BA rfl)|exact BE (BE rfl))(hd: ~~~(d6 x))(dr: ~~~(rP x)):PE X (.Name x pos) (UB i):=cO hN hv hd dr
end
def gj{A:Prop}(h:B):if false=true then A else B:=by
 exact h
def jH{A:Prop}(h:A):if true=true then A else B:=by
 exact h
def fe(H H':Hp):Prop:=∀b o,H b=al o->H' b=al o
def fe.refl(H:Hp):fe H H:=λ_ _ h=>h
def fe.free(e:fe H H')(h:H' l=Option.none):H l=Option.none:=by
 cases q:H l with
 |none=>rfl
 |some o=>
  rw[e l o q]at h;cases h
end L2
variable{b:Nat}{H2:L2.Hp}{Xs:PySem.Scope}{N':O BN}{ix:O (Option Nat)}{cl:O (BN×AY)}{Å:BV}{É:O BV}{ko:Cv}
namespace L2
def lsz{o:Obj}(e:h.get? b=al o):b<h.objs.size:=Aj e
def neN{a:Nat}(h:a≠b):a≠b:=h
def ltN{a:Nat}(h:a<b):a<b:=h
def Ue{c:Nat}{v:Option ce}(q:h.IsCell c v):c<h.objs.size:=q.lt
structure bE(Xs:wT)(N:List Str)(sc:wT)(N':List Str)(ix:List (Option Nat)):Prop where
 kind:sc.kind=.function
 nc:∀y∈sc.names,y.2=.cell->sc.names.lookup y.1=al .cell
 loc:∀y∈sc.names,y.2=.local->sc.names.lookup y.1=al .local
 fr:∀y∈sc.names,y.2=.free->(Xs.names.lookup y.1=al .cell\/Xs.names.lookup y.1=al .free)
 nd:N'.Nodup
 len:ix.length=N'.length
 map:((ix.zip N').all λp=>match p.1 with|none=>true|some j=>decide (N[j]?=al p.2)&&decide (sc.names.lookup p.2=al .free))=true
def bE.at{N:O Str}(S:bE Xs N sc N' ix){i:Nat}{x:Str}(h1:ix[i]?=al (al j))(h2:N'[i]?=al x):N[j]?=al x/\sc.names.lookup x=al .free:=by
 have hm:((al j,x):Option Nat×Str)∈ix.zip N':=by
  refine AI (i:=i) ?_;rw[EL];exact⟨h1,h2⟩
 have q:=Bq.mp S.map _ hm;simp at q;exact q
def mL(ix:O (Option Nat))(σ:St):St:=ix.map λo=>match o with|some j=>(σ[j]?).getD bn|none=>bn
def d9(X:Cx)(sc:wT)(N':O Str)(cl:O (Str×db))(C:db)(s2:gt)(H2:Hp)(fp:O db):Cx where
 prog:=X.prog
 w:=X.w
 K:=X.K
 mg:=X.mg
 base:=X.base
 A:=X.A
 N:=N'
 s₀:=s2
 H₀:=H2
 env:=compEnvC sc cl C X.env
 outer:=X.stack
 stack:=X.stack
 ex:=fp
 calm:=X.calm
 fn:=λx=>sc.names.lookup x==al .cell
 pn:=[]
 xe:=λ_ _=>False
theorem lh:∀(names:O (Str×Da)) (cs:O (Str×db)),(∀y∈names,y.2=.free->∃c,env.cells.lookup y.1=al c)->
  ∃cl,(forIn names cs λ(x:Str×Da) (c:O (Str×db))=>(match x with|(name,kind)=>do
    let c <- if (kind==Bh)=true then do let a <- cellOf env name;pure ((name,a)::c) else pure c
    pure (CB c):Sem (ForInStep (O (Str×db)))))=pure cl/\(∀x c,cl.lookup x=al c->cs.lookup x=al c\/(env.cells.lookup x=al c/\(x,Bh)∈names))/\(∀x,((x,Bh)∈names\/(∃c,cs.lookup x=al c))->∃c,cl.lookup x=al c)
 |[],cs,_=>⟨cs,rfl,λ_ _ h=>.inl h,λx h=>h.elim (λz=>nomatch z) λz=>z⟩
 |(n,k)::r,cs,h=>by
  by_cases hk:k=.free
  .subst hk;obtain⟨c,hc⟩:=h (n,.free) Bv rfl;obtain⟨cl,e,h1,h2⟩:=lh r ((n,c)::cs) λy hy=>h y (AH _ hy);refine⟨cl,?_,λx d hd=>?_,λx hx=>?_⟩
   .rw[Cq,<- e];simp only[beq_self_eq_true,if_true,cellOf,hc,pure_bind]
   .rcases h1 x d hd with z|⟨z1,z2⟩
    .rw[AN]at z;by_cases hx:(x==n)=true
     .rw[hx]at z;have sE:x=n:=eq_of_beq hx;subst sE;cases z;exact .inr ⟨hc,Bv⟩
     .have sE:(x==n)=false:=by simpa using hx
      rw[sE]at z;exact .inl z
    .exact .inr ⟨z1,AH _ z2⟩
   .refine h2 x ?_;rcases hx with hx|⟨d,hd⟩
    .rcases Au.mp hx with z|z
     .injection z with z1 _;subst z1;exact .inr ⟨c,by rw[AN];simp⟩
     .exact .inl z
    .by_cases hx:(x==n)=true
     .exact .inr ⟨c,by rw[AN,hx]⟩
     .have sE:(x==n)=false:=by simpa using hx
      exact .inr ⟨d,by rw[AN,sE];exact hd⟩
  .obtain⟨cl,e,h1,h2⟩:=lh r cs λy hy=>h y (AH _ hy);refine⟨cl,?_,λx d hd=>?_,λx hx=>?_⟩
   .have hb:(k==Bh)=false:=by simpa using hk
    rw[Cq,<- e];simp only[hb,Aq,if_false,pure_bind]
   .rcases h1 x d hd with z|⟨z1,z2⟩
    .exact .inl z
    .exact .inr ⟨z1,AH _ z2⟩
   .refine h2 x ?_;rcases hx with hx|hx
    .rcases Au.mp hx with z|z
     .injection z with _ z2;exact absurd z2.symm hk
     .exact .inl z
    .exact .inr hx
def gU(h:∀y∈sc.names,y.2=.free->∃c,env.cells.lookup y.1=al c):∃cl,closureFor sc env=pure cl/\(∀x c,cl.lookup x=al c->env.cells.lookup x=al c/\(x,Bh)∈sc.names)/\(∀x,(x,Bh)∈sc.names->∃c,cl.lookup x=al c):=by
 obtain⟨cl,e,h1,h2⟩:=lh sc.names [] h;refine⟨cl,?_,λx c hc=>(h1 x c hc).resolve_left (λz=>nomatch z),λx hx=>h2 x (.inl hx)⟩;unfold closureFor;have e':(forIn sc.names ([]) λx r=>(match x with|(name,kind)=>if (kind==Bh)=true then do let a <- cellOf env name;pure (CB ((name,a)::r)) else pure (CB r):Sem (ForInStep (O (Str×db)))))=pure cl:=by
  rw[<- e]
  first
   |rfl
   |(
     congr 1;funext x r;by_cases hk)
   |simp
 simpa using e'
theorem wJ:∀(names:O (Str×Da)) (n:Nat) (acc:O (Str×db)) (x:Str) (c:db),(ww n names acc).lookup x=al c->(acc.lookup x=al c/\(x,C6)∉names)\/((x,C6)∈names/\n<=c)
 |[],_,_,_,_,e=>.inl ⟨e,λh=>nomatch h⟩
 |(y,k)::r,n,acc,x,c,e=>by
  unfold ww at e
  split at e
  .rename_i hk;have hk':k=.cell:=eq_of_beq hk;subst hk';rcases wJ r _ _ x c e with⟨a,b⟩|⟨a,b⟩
   .rw[AN]at a;cases hx:x==y with
    |true=>
     rw[hx]at a;cases a;exact .inr ⟨by rw[eq_of_beq hx];exact Bv,Ah _⟩
    |false=>
     rw[hx]at a;refine .inl ⟨a,λh=>?_⟩;rcases Au.mp h with z|z
     .cases z;simp at hx
     .exact b z
   .exact .inr ⟨AH _ a,Nat.le_of_succ_le b⟩
  .rename_i hk;rcases wJ r _ _ x c e with⟨a,b⟩|⟨a,b⟩
   .refine .inl ⟨a,λh=>?_⟩;rcases Au.mp h with z|z
    .cases z;simp at hk
    .exact b z
   .exact .inr ⟨AH _ a,b⟩
theorem HU:∀(names:O (Str×Da)) (n:Nat) (acc:O (Str×db)) (x:Str),((x,C6)∈names\/∃c,acc.lookup x=al c)->∃c,(ww n names acc).lookup x=al c
 |[],_,_,_,h=>h.elim (λz=>nomatch z) id
 |(y,k)::r,n,acc,x,h=>by
  unfold ww
  split
  .refine HU r _ _ x ?_;cases hx:x==y with
   |true=>exact .inr ⟨n,by rw[AN,hx]⟩
   |false=>
    rcases h with h|⟨c,h⟩
    .rcases Au.mp h with z|z
     .cases z;simp at hx
     .exact .inl z
    .exact .inr ⟨c,by rw[AN,hx];exact h⟩
  .rename_i hk;refine HU r _ _ x ?_;rcases h with h|h
   .rcases Au.mp h with z|z
    .cases z;simp at hk
    .exact .inl z
   .exact .inr h
theorem HS:∀(names:O (Str×Da)) (n:Nat) (acc:O (Str×db)),(∀x y c,acc.lookup x=al c->acc.lookup y=al c->x=y)->(∀x c,acc.lookup x=al c->c<n)->∀x y c,(ww n names acc).lookup x=al c->(ww n names acc).lookup y=al c->x=y
 |[],_,_,h,_=>h
 |(z,k)::r,n,acc,h,hl=>by
  unfold ww
  split
  .refine HS r _ _ (λx y c e1 e2=>?_) λx c e=>?_
   .rw[AN]at e1 e2;cases hx:x==z<;>cases hy:y==z<;>rw[hx]at e1<;>rw[hy]at e2
    .exact h x y c e1 e2
    .cases e2;exact absurd (hl _ _ e1) (AQ _)
    .cases e1;exact absurd (hl _ _ e2) (AQ _)
    .rw[eq_of_beq hx,eq_of_beq hy]
   .rw[AN]at e;cases hx:x==z<;>rw[hx]at e
    .exact EX (hl _ _ e)
    .cases e;exact Cw _
  .exact HS r _ _ h hl
theorem wK:∀(names:O (Str×Da)) (h:nn) (acc:O (Str×db)) (x:Str) (c:db),(ww h.objs.size names acc).lookup x=al c->acc.lookup x=al c\/(pushCells h names).IsCell c bn
 |[],_,_,_,_,e=>.inl e
 |(y,k)::r,h,acc,x,c,e=>by
  unfold ww at e;unfold pushCells
  split at e
  .rename_i hk;rw[if_pos hk];rw[<- Bf h {cls:=.type "cell",data:=.cell bn}]at e;rcases wK r _ _ x c e with a | a
   .rw[AN]at a;cases hx:x==y<;>rw[hx]at a
    .exact .inl a
    .cases a;exact .inr ⟨_,pushCells_keeps _ _ _ _ (by rw[Bf]at *;exact Ak _ rfl),rfl⟩
   .exact .inr a
  .rename_i hk;rw[if_neg hk];exact wK r h acc x c e
def pR{globals:db}{builtins:db}{Q:Env->gt->Prop}(hQ:∀h',h'.Ns s.heap.objs.size (λ_=>bn)->(∀b o,s.heap.get? b=al o->h'.get? b=al o)->(∀x c,(ww (s.heap.objs.size+1) sc.names cl).lookup x=al c->cl.lookup x=al c\/h'.IsCell c bn)->
   Q (newEnv sc s.heap.objs.size globals (ww (s.heap.objs.size+1) sc.names cl) qual bn .none (al env) builtins) {s with heap:=h'}):f8 M A (newFunctionEnv sc globals cl [] qual bn .none (al env) builtins) Q E s:=by
 simp only[newFunctionEnv,Gp,if_true];refine Ab (wpAny_alloc ?_);refine Ab (wpAny_layCells _ (λname kind cells=>by cases hkc:kind==C6 <;> simp[hkc]) _ _ _ _ ?_);rw[List.forIn_nil,show({s with heap:=s.heap.push {cls:=.type "dict",data:=.dict #[]}}:gt).heap.objs.size=s.heap.objs.size+1 from Bf ..];refine Ab (Ae (Ae (hQ _ ((Heap.Ns.new s.heap (.type "dict")).keeps (pushCells_keeps _ _)) (λb o e=>pushCells_keeps _ _ b o (Ad _ e)) λx c e=>?_)));rw[<- Bf s.heap {cls:=.type "dict",data:=.dict #[]}]at e;exact wK _ _ _ _ _ e
theorem f9{env:Env}:∀{names:O (Str×Da)}{x:Str},(names.map λ(n,k)=>if (k==Bh&&env.scope.kind==.function&&env.kindOf n==al .cell) then (n,C6) else (n,k)).lookup x = (names.lookup x).map λk=>if (k==Bh&&env.scope.kind==.function&&env.kindOf x==al .cell) then C6 else k
 |[],_=>rfl
 |(n,k)::r,x=>by
  have ih:=@f9 env r x;show CS x ((if (k==Bh&&env.scope.kind==.function&&env.kindOf n==al .cell)=true then (n,C6) else (n,k))::_)=_;cases hx:x==n with
  |true=>
   have e:=eq_of_beq hx;subst e;by_cases hc:(k==Bh&&env.scope.kind==.function&&env.kindOf x==al .cell)=true
   .rw[if_pos hc,AN,AN,hx];simp only[Ds,hc,if_true]
   .rw[if_neg hc,AN,AN,hx];simp only[Ds,hc];simp
  |false=>
   by_cases hc:(k==Bh&&env.scope.kind==.function&&env.kindOf n==al .cell)=true
   .rw[if_pos hc,AN,AN,hx];exact ih
   .rw[if_neg hc,AN,AN,hx];exact ih
def XE(X:Cx)(É:O pc)(t:TT):Prop:=
 ∀(Z:O (db×Obj)) (s:gt) (σ:St) (H:Hp) (Q:Bool->Hp->Prop),Inv X Z σ H s->t σ H Q->
  f8 (lf X.prog X.w) X.A (forIn É true λc r=>if r=true then do let ok <- isTrue c X.env (o0 c X.env);pure (CB ok) else pure (CB r)) (TP X Z σ Q) X.xe s
def acE:TT:=λ_ H Q=>Q true H
def QO:XE X [] acE:=λZ s σ H Q I h=>by
 exact Ae ⟨H,I,h⟩
def QN{c:pc}{t:TT}(hc:PT X c t):XE X [c] t:=λZ s σ H Q I h=>by
 rw[Cq];simp only[if_true,bind_assoc];exact Ab (bp (hc Z s σ H Q I h) λb s1 q=>Ae q)
def tLc(ix:O (Option Nat))(wi:TI)(g:TG)(tf:TT)(te:TE):TE:=λσ H Q=>wi σ H λJ H1=>∀D,H1 D=bn->∃W:Nat->Nat->St->O V->Hp->Prop,
 (∃m,W 0 m (mL ix σ) [] (upd H1 D (.lst [])))/\∀i m σ' ys H,W i m σ' ys H->H D=al (.lst ys)/\
  ((J.stop i H/\Q (.ref D) H)\/(J.go i H/\∀x H',J.Qa i H x H'->g x σ' H' λσ2 H2=>tf σ2 H2 λb H3=>
   if b=true then te σ2 H3 λy H4=>H4 D=al (.lst ys)/\ys.length+1<=sizeLine/\∃m',m'<m/\W (i+1) m' σ2 (ys++[y]) (upd H4 D (.lst (ys++[y]))) else ∃m',m'<m/\W (i+1) m' σ2 ys H3))
def kA{Î:pc}{it acc:ce}(I:Nat->gt->Prop)(Ð:∀n s,I n s->f8 (lf prog w) A (pyNext it) (λr s₁=>match r with
   |none=>R (.ok .next) s₁
   |some v=>f8 (lf prog w) A (Uf Î it v) (λ_ SR=>f8 (lf prog w) A (KB Î env v) (λ_ s₂=>
     f8 (lf prog w) A (forIn É true λc r=>if r=true then do let ok <- isTrue c env (o0 c env);pure (CB ok) else pure (CB r)) (λok s₃=>
      if ok=true then f8 (lf prog w) A (o0 Å env) (λx s₄=>
       f8 (lf prog w) A (call (.builtin "list.append") [acc,x]) (λ_ s₅=>∃m,m < n/\I m s₅) (λ_ _=>False) s₄) (λ_ _=>False) s₃
      else ∃m,m<n/\I m s₃) (λ_ _=>False) s₂) (λ_ _=>False) SR) (λ_ _=>False) s₁) (λ_ _=>False) s) n(h:I n s):Pv (lf prog w) A (.compLoop (.ListComp Å [⟨Î,iter,É,0⟩] scope pos) 0 it acc env) R s:=by
 refine codeAny_loop rfl I (λn s hI=>?_) n h;refine wpAny_noted ?_;refine Ab (Cd (Ab (BD (Ð n s hI) (λr s₁ h₁=>?_) λ_ _ h'=>h'.elim)));cases r with
 |none=>exact Ae h₁
 |some v=>
  refine Ab (BD h₁ (λ_ SR Zw=>?_) λ_ _ h'=>h'.elim);refine Ab (BD Zw (λ_ s₂ h₂=>Ab (BD h₂ (λok s₃ h₃=>?_) λ_ _ h'=>h'.elim)) λ_ _ h'=>h'.elim);cases ok with
  |false=>exact Ae ⟨rfl,h₃⟩
  |true=>
   exact Ab (Ab (BD h₃ (λx s₄ h₄=>Ab (BD h₄ (λ_ s₅ h₅=>Ae (Ae ⟨rfl,h₅⟩)) λ_ _ h'=>h'.elim)) λ_ _ h'=>h'.elim))
section
variable{g:TG}{tf:TT}
structure aaN(X:Cx)(Z:List (db×Obj))(H:Hp)(C:db):Prop where
 hn:H C=bn
 hL:C≠X.env.locals
 ab:X.s₀.heap.objs.size<=C
 cl:∀x c,X.env.cells.lookup x=al c->c≠C
 pn:∀p∈X.pn++Z,p.1≠C
theorem Jr(hc:X.calm=true)(S:bE X.env.scope X.N sc N' ix)(hg:∀cl C s2 H2 fp,PG (d9 X sc N' cl C s2 H2 fp) tg g)(hf:∀cl C s2 H2 fp,XE (d9 X sc N' cl C s2 H2 fp) É tf)(he:∀cl C s2 H2 fp,PE (d9 X sc N' cl C s2 H2 fp) Å te){s2:gt}(nM:∀x c,cl.lookup x=al c->X.env.cells.lookup x=al c/\(x,Bh)∈sc.names)(vM:∀x,(x,Bh)∈sc.names->∃c,cl.lookup x=al c){tn:Nat->nn->Prop}{J:It}{Q:VK}(I2:Inv X Z σ H2 s2)(T:Turn X.prog X.w X.K tg J fp it tn)(Qq:tn 0 s2.heap)(f2:∀b∈fp,sX X Z H2 b)(hW:∀D,H2 D=bn->∃W:Nat->Nat->St->O V->Hp->Prop,
   (∃m,W 0 m (mL ix σ) [] (upd H2 D (.lst [])))/\∀i m σ' ys H,W i m σ' ys H->H D=al (.lst ys)/\
    ((J.stop i H/\Q (.ref D) H)\/(J.go i H/\∀x H',J.Qa i H x H'->g x σ' H' λσ2 H2=>tf σ2 H2 λb H3=>
     if b=true then te σ2 H3 λy H4=>H4 D=al (.lst ys)/\ys.length+1<=sizeLine/\∃m',m'<m/\W (i+1) m' σ2 (ys++[y]) (upd H4 D (.lst (ys++[y]))) else ∃m',m'<m/\W (i+1) m' σ2 ys H3))){RR:ce->db->Result->gt->Prop}{E:ce->gt->Prop}(hRR:∀D C m s' H',Inv X Z σ H' s'->Q (.ref D) H'->s'.heap.Ns C m->aaN X Z H' C->RR (.ref D) C (.ok .next) s'):f8 (lf X.prog X.w) X.A (newList []) (λacc s₃=>f8 (lf X.prog X.w) X.A (newFunctionEnv sc X.env.globals cl [] X.env.qual bn .none (al X.env)) (λaat s₄=>
   Pv (lf X.prog X.w) X.A (.compStart (.ListComp Å [⟨tg,iter,É,0⟩] sc pos) 0 (.ref it) acc {aat with scope:=relabel sc X.env}) (RR acc aat.locals) s₄) E s₃) E s2:=by
 refine BM (pR λh₁ Hs vJ RN=>?_);generalize hH2:s2.heap.push {cls:=.type "list",dict:=bn,data:=.seq ([]).toArray}=G2 at Hs vJ RN ⊢;have hC:G2.objs.size=s2.heap.objs.size+1:=by rw[<- hH2,Bf]
 obtain⟨D,hD⟩:∃D:Nat,s2.heap.objs.size=D:=⟨_,rfl⟩;obtain⟨C,hCC⟩:∃C:Nat,G2.objs.size=C:=⟨_,rfl⟩;simp only[hD,hCC]at Hs vJ RN hC ⊢;have hDC:D≠C:=by lia
 have k1:=wJ sc.names (C+1) cl;have k2:=HU sc.names (C+1) cl;have k3:=HS sc.names (C+1) cl;generalize ww (C+1) sc.names cl=O9 at RN k1 k2 k3 ⊢;have Ê:∀b o,s2.heap.get? b=al o->h₁.get? b=al o:=λb o e=>vJ b o (hH2▸Ad _ e);have ZR:h₁.get? D=al {cls:=.type "list",data:=.seq ([]:O ce).toArray}:=by
  refine vJ D _ ?_;rw[<- hH2,<- hD];exact Ak _ rfl
 have hD2:H2 D=bn:=I2.aX.fresh ∅;obtain⟨W,⟨m0,w0⟩,Ð⟩:=hW D hD2;have Ud:∀x c,cl.lookup x=al c->∃v,s2.heap.IsCell c v:=λx c e=>I2.cell x c (nM x c e).1;have aap:∀x c,cl.lookup x=al c->c<D:=λx c e=>by
  obtain⟨v,q⟩:=Ud x c e;have:=Ue q;exact ltN ∅
 have þ:∀b∈fp,b<D:=λb hb=>by
  obtain⟨o,e,_⟩:=T.obj 0 _ Qq b hb;have:=lsz e;exact ltN ∅
 have fpC:∀b∈fp,∀x c,O9.lookup x=al c->c≠b:=λb hb x c e=>by
  rcases k1 x c e with⟨z,_⟩|⟨_,z⟩
  .exact(f2 b hb).2.2.2.2.1 x c (nM x c z).1
  .have:=ltN (þ b hb);exact neN (a:=c) (b:=b) ∅
 have Yok:(d9 X sc N' O9 C s2 H2 fp).Ok:=by
  refine⟨I2.ok.mod,S.kind,I2.ok.glob,I2.ok.blt,?_,?_,?_,?_,I2.ok.hd,I2.ok.frames,.inl rfl,?_,I2.bs,?_,?_,?_,I2.stack,I2.lO⟩
  .show s2.heap.objs.size<=C;lia
  .exact k3 (λx y c e1 e2=>I2.ok.inj x y c (nM x c e1).1 (nM y c e2).1) λx c e=>by
    have h1:C=D+1:=by lia
    exact h1▸EX (EX (aap x c e))
  .intro x hx;have sE:(relabel sc X.env).names.lookup x=al .cell\/(relabel sc X.env).names.lookup x=al .free:=hx;unfold relabel at sE;rw[f9]at sE;cases q:sc.names.lookup x with
   |none=>rw[q]at sE;simp at sE
   |some k=>
    have hm:=Bl q;refine k2 x ?_;by_cases hk:k=.free
    .subst hk;exact .inr (vM x hm)
    .rw[q]at sE;have hb:(k==Bh)=false:=by simpa using hk
     simp only[Ds,hb,Bool.false_and,Aq,if_false]at sE;rcases sE with z|z
     .rw[Option.some.inj z]at hm;exact .inl hm
     .exact absurd (Option.some.inj z) hk
  .intro x c We e;have adT:sc.names.lookup x=al .cell:=eq_of_beq We;rcases k1 x c e with⟨_,z⟩|⟨_,z⟩
   .exact absurd (Bl adT) z
   .show s2.heap.objs.size<=c;lia
  .intro b hb;refine⟨?_,λx c e z=>fpC b hb x c e z⟩;show b≠C;have:=ltN (þ b hb);exact neN ∅
  .exact AE I2.ok.Pe I2.sz
  .intro b o e hb;rcases (f2 b hb).2.2.2.1 with z|z
   .exact I2.ok.Kz b o e z
   .have h1:=lsz (h:=X.base) e;have h2:=I2.ok.Pe;lia
  .intro b hb z;rcases Au.mp (I2.pZ b z) with q|q
   .exact(f2 b hb).2.1 q
   .exact(f2 b hb).2.2.1 q
 have un0:Un (o7 X.stack) fp H2 (upd H2 D (.lst [])) s2.heap h₁:=Un.laid Ê ∅ hD2;have IY:∀tk,Inv (d9 X sc N' O9 C s2 H2 fp) [] (mL ix σ) (upd H2 D (.lst [])) {s2 with heap:=h₁,toks:=tk}:=λtk=>by
  refine⟨Yok,rfl,I2.bare,un0,⟨_,Hs,λi x v e1 e2 e3=>?_⟩,λx c e=>?_,?_,λx c e=>?_,λp hp=>absurd (show p∈([]) from hp) (by simp),(I2.aX.laid Ê ∅ ⟨Bs _,[],0,.nil,ZR⟩),?_⟩
  .have wF:=e1;unfold mL at e2;rw[An]at e2;cases q:ix[i]? with
   |none=>rw[q]at e2;cases e2
   |some o=>
    cases o with
    |none=>rw[q]at e2;cases e2
    |some j=>
     rw[q]at e2;have ÿ:(σ[j]?).getD bn=al v:=Option.some.inj e2;have e4:σ[j]?=al (al v):=by
      cases z:σ[j]? with
      |none=>rw[z]at ÿ;cases ÿ
      |some y=>rw[z]at ÿ;exact congrArg al ÿ
     obtain⟨a1,a2⟩:=S.at q wF;have ZJ:=Bl a2;have hk:=S.fr _ ZJ rfl;obtain⟨m,_,hl⟩:=I2.loc;obtain⟨u,r,l⟩:=hl j x v a1 e4 (.inr hk);refine⟨u,r,.inr ⟨?_,?_⟩⟩
     .show(relabel sc X.env).names.lookup x=al .cell\/(relabel sc X.env).names.lookup x=al .free;unfold relabel;rw[f9,a2];by_cases hb:(X.env.scope.kind==.function&&X.env.kindOf x==al .cell)=true
      .left
       simp only[Ds,beq_self_eq_true,DZ,hb,if_true]
      .right
       simp only[Ds,beq_self_eq_true,DZ,hb,if_false,Aq]
     .obtain⟨c,ğ⟩:=vM x ZJ;have hcy:O9.lookup x=al c:=by
       obtain⟨c',q'⟩:=k2 x (.inr ⟨c,ğ⟩);rcases k1 x c' q' with⟨z,_⟩|⟨z,_⟩
       .rw[ğ]at z;cases z;exact q'
       .rw[S.nc _ z rfl]at a2;cases a2
      refine⟨c,hcy,?_⟩;rcases l with⟨k,_⟩|⟨k,c',e',z⟩
      .have k':X.env.scope.names.lookup x=al .local:=k;rcases hk with y|y<;>rw[k']at y<;>cases y
      .rw[((nM x c ğ).1)]at e';cases e';obtain⟨o,ho,hd⟩:=z;exact⟨o,Ê _ _ ho,hd⟩
  .rcases RN x c e with z|z
   .obtain⟨v,o,ho,hd⟩:=Ud x c z;exact⟨v,o,Ê _ _ ho,hd⟩
   .exact⟨_,z⟩
  .show upd H2 D (.lst []) C=bn;rw[ah (Bu hDC)];exact(I2.aX.fresh ∅)
  .rcases k1 x c e with⟨z,_⟩|⟨_,z⟩
   .have nJ:=ltN (aap x c z);rw[ah (neN ∅)];exact I2.fu x c (nM x c z).1
   .rw[ah (neN (a:=c) (b:=D) ∅)];exact I2.aX.fresh ∅
  .unfold mL;rw[Am];exact S.len
 have Ħ:∀{xM:O (db×Obj)}{H':Hp},(∀b∈fp,H' b=bn)->(∀p∈xM,p.1∉fp)->∀b∈fp,sX (d9 X sc N' O9 C s2 H2 fp) xM H' b:=λhn hp b hb=>by
  refine⟨hn b hb,?_,?_,.inl hb,λx c e z=>fpC b hb x c e z,λp hpp z=>?_⟩
  .show b≠C;have:=ltN (þ b hb);exact neN ∅
  .exact Yok.La b hb
  .exact hp p hpp (z▸hb)
 have ã:∀s₃:gt,s₃={s2 with heap:=h₁}->
   Pv (lf X.prog X.w) X.A (.compLoop (.ListComp Å [⟨tg,iter,É,0⟩] sc pos) 0 (.ref it) (.ref D) (compEnvC sc O9 C X.env)) (RR (.ref D) C) s₃:=by
  rintro s₃ rfl;refine kA (λn s'=>∃i σ' ys H',Inv (d9 X sc N' O9 C s2 H2 fp) [] σ' H' s'/\tn i s'.heap/\(∀b∈fp,H' b=bn)/\W i n σ' ys H') ?_ m0
   ⟨0,_,[],_,IY _,T.keep _ _ _ Qq (λb _ o e=>Ê b o e),λb hb=>by rw[ah (AD (þ b hb))];exact(f2 b hb).1,w0⟩
  rintro n s3 ⟨i,σ3,ys,H3,I3,Yk,Z1,w3⟩;obtain⟨hDl,w3⟩:=Ð i n σ3 ys H3 w3;rcases w3 with⟨stop,qn⟩|⟨go,step⟩
  .refine bp (T.done (d9 X sc N' O9 C s2 H2 fp) rfl rfl rfl hc i [] s3 σ3 H3 _ I3 (Ħ Z1 (by simp)) Yk stop) λr s4 ⟨hr,I4⟩=>?_;subst hr;obtain⟨m,hn,_⟩:=I4.loc;refine hRR D C m s4 H3 (I2.aaw I4.os I4.base I4.aX I4.bare λb hb=>?_) qn hn ?_
   .obtain⟨a0,a1,a2,a3,a4,a5⟩:=f2 b hb;exact⟨a3,a1,a4,a5⟩
   .refine⟨I4.free,?_,?_,λx c e z=>?_,λp hp z=>?_⟩
    .have:=ltN I2.lt;exact neN ∅
    .have:=I2.sz;lia
    .obtain⟨v,q⟩:=I2.cell x c e;have:=Ue q;exact neN (a:=c) (b:=C) ∅ z
    .have:=lsz (I2.pin p hp).1;exact neN (b:=C) ∅ z
  .refine bp (T.item (d9 X sc N' O9 C s2 H2 fp) rfl rfl rfl hc i [] s3 σ3 H3 (λ_ _=>False) I3 (Ħ Z1 (by simp)) Yk go) λr s4 ⟨u,hr,h4⟩=>?_;subst hr;refine bp h4 λ_ s5 ⟨x,H5,I5,r5,y5,UM,ĥ⟩=>?_;refine bp (hg _ _ _ _ _ _ s5 σ3 H5 x u _ (I5.pinned (Ħ ĥ (by simp)) (T.obj _ _ UM)) r5 (step x H5 y5)) λ_ s6 ⟨σ6,H6,I6,q6⟩=>?_;refine bp (hf _ _ _ _ _ _ s6 σ6 H6 _ I6 q6) λb s7 ⟨H7,I7,q7⟩=>?_;have NX:∀{s8:gt}{σ8:St}{H8:Hp},Inv (d9 X sc N' O9 C s2 H2 fp) ([]++nh fp s5.heap) σ8 H8 s8->tn (i+1) s8.heap/\∀b∈fp,H8 b=bn:=λ{s8 σ8 H8} I8=>by
    refine⟨T.keep _ _ _ UM λb hb o e=>(I8.pin (b,o) (Bd _ (Bd _ (iO hb e)))).1,λb hb=>?_⟩;obtain⟨o,e,d⟩:=T.obj _ _ UM b hb;exact(I8.pin (b,o) (Bd _ (Bd _ (iO hb e)))).2.1
   cases b with
   |false=>
    obtain⟨m',hm,w7⟩:=q7;obtain⟨t7,fr7⟩:=NX I7;exact⟨m',hm,i+1,σ6,ys,H7,I7.jq,t7,fr7,w7⟩
   |true=>
    refine bp (he _ _ _ _ _ _ s7 σ6 H7 _ I7 q7) λyv s8 ⟨y,H8,I8,r8,hD8,hz8,m',hm,w8⟩=>?_;obtain⟨z,ax,k,rv,hl8,e8⟩:=I8.kZ hD8;obtain⟨t8,fr8⟩:=NX I8;refine wpAny_list_append_plain (s:=s8) ⟨_,e8⟩ λh9 hl9 hs9=>?_;obtain⟨k9,e9⟩:=hl9;have I9:Inv (d9 X sc N' O9 C s2 H2 fp) ([]++nh fp s5.heap) σ6 (upd H8 D (.lst (ys++[y]))) {s8 with heap:=h9,toks:=s8.toks}:=by
     refine I8.write (x:=D) (e:=D) (by rw[hD8];exact trivial) (.inl rfl) (λb u hb hu=>(hs9.2 b hb).trans hu) ⟨_,e9⟩ ?_;refine⟨by rw[Ag,DR];exact hz8,ax++[yv],k9,(Vals.append rv (.cons r8 .nil)),?_⟩;rw[e9];simp
    obtain⟨t9,fr9⟩:=NX I9;exact⟨m',hm,i+1,σ6,_,_,I9.jq,t9,fr9,w8⟩
 exact codeAny_compStart_list (ã _ rfl) (T.self _ 0 _ _ _ (T.keep _ _ _ Qq λb _ o e=>Ê b o e) (ã _ rfl))
def YO(hc:X.calm=true)(S:bE X.env.scope X.N sc N' ix)(hi:PI X tg iter wi)(hg:∀cl C s2 H2 fp,PG (d9 X sc N' cl C s2 H2 fp) tg g)(hf:∀cl C s2 H2 fp,XE (d9 X sc N' cl C s2 H2 fp) É tf)(he:∀cl C s2 H2 fp,PE (d9 X sc N' cl C s2 H2 fp) Å te)(hs:rB X iter:=by intro _;rfl):PE X (.ListComp Å [⟨tg,iter,É,0⟩] sc pos) (tLc ix wi g tf te):=by
 intro Z s σ H Q I h;obtain⟨cl,ua,nM,vM⟩:=gU (λy hy hk=>I.ok.has y.1 (S.fr y hy hk));refine E7 rfl hs ua S.kind S.loc (bp (hi Z s σ H _ I h) λv s1 h1=>bp h1 λó s2 h2=>?_);obtain⟨it,fp,tn,J,H2,rfl,I2,T,Qq,f2,hW⟩:=h2;exact Jr hc S hg hf he nM vM I2 T Qq f2 hW λD C m s' H' I' q hn F=>⟨m,hn,λh' Ē=>⟨.ref D,H',I'.turned (λb o hb e=>(Ē.2 b hb).trans e) F.hn F.hL (.inr F.ab) F.cl F.pn,rfl,q⟩⟩
def MV{i:Nat}{x:Str}(hc:X.calm=true)(hN:X.N.Nodup)(vL:X.N[i]?=al x)(hx:X.env.scope.names.lookup x=al .local)(S:bE X.env.scope X.N sc N' ix)(hi:PI X tg iter wi)(hg:∀cl C s2 H2 fp,PG (d9 X sc N' cl C s2 H2 fp) tg g)(hf:∀cl C s2 H2 fp,XE (d9 X sc N' cl C s2 H2 fp) É tf)(he:∀cl C s2 H2 fp,PE (d9 X sc N' cl C s2 H2 fp) Å te)(o5:‹r6 (.ListComp Å [⟨tg,iter,É,0⟩] sc pos) (al (.Name x px)) ko.line X.env=pure true›)(hs:rB X iter:=by intro _;rfl):PS X (.Assign [.Name x px] (.ListComp Å [⟨tg,iter,É,0⟩] sc pos) ko) (UI (tLc ix wi g tf te) (ig i)):=by
 intro Z s σ H D0 I h;rw[exec_Assign_Name_used _ _ _ _ o5];refine Ab (Cd (Ab ?_));show f8 _ X.A (do let _ <- comprehension (.ListComp Å [⟨tg,iter,É,0⟩] sc pos) sc X.env _ (newList []) false (o0 iter X.env) (al (KB (.Name x px) X.env))) _ _ s;have Wh:∀y∈sc.names,y.2=.free->∃c,X.env.cells.lookup y.1=al c:=λy hy hk=>I.ok.has y.1 (S.fr y hy hk);obtain⟨cl,ua,nM,vM⟩:=gU Wh;refine Ab (BD (E7 (use:=al (KB (.Name x px) X.env)) (Q:=λ_ s'=>SP X Z D0 .next s') rfl hs ua S.kind S.loc (bp (hi Z s σ H _ I h) λv s1 h1=>bp h1 λó s2 h2=>?_)) (λ_ s' hq=>Ae (Ae hq)) λ_ _ e=>e);obtain⟨it,fp,tn,J,H2,rfl,I2,T,Qq,f2,hW⟩:=h2;refine Jr (RR:=λacc C=>compPost (lf X.prog X.w) X.A X.xe (al (KB (.Name x px) X.env)) (λ_ s'=>SP X Z D0 .next s') acc C) (Q:=λx H1=>ig i x σ H1 D0.nx) hc S hg hf he nM vM I2 T Qq f2 hW λD C m s' H' I' q hn F=>?_;show f8 _ X.A (KB (.Name x px) X.env (.ref D)) _ _ _;refine wpAny_assign_Name (tD (v:=.ref D) I' hN vL (.inl hx) rfl (λKm I'' V6=>?_) (.inr hx));obtain⟨a,V6,ha⟩:=V6;have haC:C≠a:=by
  rcases ha with z|z
  .rw[z];exact F.hL
  .exact Bu (F.cl _ _ z)
 refine⟨m,hn.sameBut V6 haC,λh' Ē=>⟨_,H',?_,q⟩⟩;exact I''.turned (it:=C) (t':=Km.toks) (λb o hb e=>(Ē.2 b hb).trans e) F.hn F.hL (.inr F.ab) F.cl F.pn
end
end L2
variable{b:BV}{tl:L2.TE}
namespace L2
section
def gJ:bP X (.builtin "isinstance") (λxs H Q=>∃x c t b,xs=[x,.ty c]/\jW X.K H x t/\AJ X.K t (.type c)=al b/\Q (.bl b) H):=by
 intro Z s σ H xs us Q I r h;obtain⟨x,c,t,b,rfl,ty,hk,q⟩:=h;obtain⟨u,w',rfl,ru,Kn⟩:=vals2 r;cases (Kn);exact KW I ru ty hk λtk=>⟨.bl b,H,I.tok _,rfl,q⟩
def Kv(hu:X.A.units<GE):gr X (r9 .NotEq) (λx y H Q=>∃p q xs,x=.ref p/\y=.ref q/\du X.K H p xs/\du X.K H q []/\Q (.bl (!xs.isEmpty)) H):=by
 intro Z s σ H x y v u Q I rx ry h;obtain⟨p,q,xs,rfl,rfl,hp,hq,k⟩:=h;cases rx;cases ry;obtain⟨ax,r,pl,hz⟩:=I.list hp;obtain⟨cQ,r2,Ve,hz2⟩:=I.list hq;cases r2;cases xs with
 |nil=>
  cases r;exact EU (Gn (e:=λ_=>true) pl.isList Ve.isList rfl hu λj h1=>absurd h1 (by simp)) ⟨.bl false,H,I,rfl,k⟩
 |cons y ys=>
  have hl:=r.length;exact EU (Ex pl.isList Ve.isList (by simp at hl ⊢;intro z;subst z;simp at hl) hu) ⟨.bl true,H,I,rfl,k⟩
def Pf{bs:O Bool}:∀{us:O ce},Vals (bs.map V.bl) us->us=bs.map Dv:=by
 induction bs with
 |nil=>intro us r;rw[Fy]at r;cases r;rfl
 |cons n ns ih=>
  intro us r;cases r with
  |cons r1 r2=>
   cases r1;rw[ih r2];rfl
def H9(hc:X.calm=true):bP X (.builtin "all") (λxs H Q=>∃(p:db) (bs:O Bool),xs=[.ref p]/\du X.K H p (bs.map V.bl)/\Q (.bl (bs.all id)) H):=by
 intro Z s σ H xs us Q I r h;obtain⟨p,bs,rfl,hp,q⟩:=h;obtain⟨u,rfl,ru⟩:=vals1 r;cases ru;obtain⟨ax,rv,pl,hz⟩:=I.list hp;have eb:=Pf rv;subst eb;have hl:=pl.isList;have nJ:p<s.heap.objs.size:=by obtain⟨_,e,_⟩:=hl;exact Aj e
 refine call_all_walk (EW hl ?_);refine⟨s.heap.objs.size,[s.heap.objs.size,p],[s.heap.objs.size],(bs.map Dv).toArray.size,_,_,λi=>(bs[i]?).getD true,rfl,Walks.list (A:=X.A.in1) (I.ok.hd hc) _ p (AD nJ) (bs.map Dv).toArray,
  ⟨⟨_,Ak _ rfl,rfl,rfl⟩,hl.push _⟩,λi v s' Q' E' hP hQ=>?_,λh' tk hk=>?_⟩
 .have ZT:(bs.map Dv)[i]?=al v:=by simpa using hP
  rw[An]at ZT;cases e:bs[i]? with
  |none=>rw[e]at ZT;cases ZT
  |some b=>
   rw[e]at ZT;cases ZT;simp only[e]at hQ;exact Br hQ
 .have e:((AW (bs.map Dv).toArray.size).all λi=>(bs[i]?).getD true)=bs.all id:=by
   rw[Ai,Am];exact LSm.range_all bs
  rw[e];exact⟨.bl (bs.all id),H,I.kept (LSm.kept_iter hk),rfl,q⟩
def oX(l:db)(items:Array ce)(n:Nat)(b:db)(iT:Array ce)(n2:Nat)(dd:Option db)(sl:Array (Option ce))(ø:¬(!items.isEmpty&&Builtin.List.listTooLong (items.size+iT.size))=true)(my:items.size<=sizeLine)(xm:items.size+iT.size<=sizeLine+1):Meets (Fk.«list.extend» ⟨[.ref l,.ref b],[]⟩) (λ_ R s=>s.heap.get? l=al {cls:=.type "list",dict:=bn,data:=.seq items n,slots:=#[]}/\s.heap.get? b=al {cls:=.type "tuple",dict:=dd,data:=.seq iT n2,slots:=sl}/\R (.ok (.ret AO)) {s with heap:=s.heap.update l (CU λx=>x++iT),toks:=s.toks}):=
 .of_wp λprog w A R s h=>by
  obtain⟨hp,g,d,tk,os⟩:=s;obtain⟨hl,hb,h⟩:=h;have f5:=D8;
  wp_walk using (Ee hl rfl),B8 hl,B8 hb;exact⟨_,rfl,h⟩
def MJ(K:Aa):V->O V->Hp->VK->Prop:=λx vs H Q=>∃l b xs zs,x=.ref l/\vs=[.ref b]/\H l=al (.lst xs)/\dX K H b zs/\xs.length+zs.length<=sizeLine/\Q .bx (upd H l (.lst (xs++zs)))
theorem G3:Il X "list.extend" (MJ X.K):=by
 intro Z s σ H x vs v us Q I rx rv h;obtain⟨l,b,xs,zs,rfl,rfl,hH,hB,hz,q⟩:=h;cases rx;obtain⟨u,rfl,ru⟩:=rv.one;cases ru;obtain⟨z,ax,n,r,hl,e⟩:=I.kZ hH;obtain⟨cQ,r2,⟨⟨cls,dd,data,sl⟩,e2,hc,n2,hd⟩,z2⟩:=I.tuple hB;subst hc hd;have RK:=r2.length;have hsz:ax.toArray.size+cQ.toArray.size<=sizeLine:=by rw[Ai,Ai];lia
 have qI:¬(!ax.toArray.isEmpty&&Builtin.List.listTooLong (ax.toArray.size+cQ.toArray.size))=true:=by
  rw[g8 hsz,EK];exact Bi
 refine wE EC ⟨_,e,rfl⟩ Ei (D7 _ _)
  (oX l ax.toArray n b cQ.toArray n2 dd sl qI (by rw[Ai];lia) ∅) ⟨e,e2,?_⟩
 refine⟨.bx,_,I.G9 hH e (by simp) (r.append r2) ?_,rfl,q⟩;rw[Ag];lia
def Its(x:Str):It:=⟨λi _=>i<x.cps.size,λi H v H'=>H'=H/\∃c,x.cps[i]?=al c/\v=.str ⟨#[c]⟩,λi _=>x.cps.size<=i⟩
def zB{K:Aa}(it:db)(x:Str)(t:Tok)(ty:String)(Jx:ty="str_ascii_iterator"\/ty="str_iterator"):Turn P w K tg (Its x) [it] it (λi h=>h.IsStrIter it ty x t i/\i<=x.cps.size) where
 mem:=by simp
 obj:=λi h st b hb=>by
  have e:b=it:=by simpa using hb
  subst e;obtain⟨⟨o,e,c,d⟩,_⟩:=st;exact⟨o,e,λv z=>by rw[d]at z;cases z⟩
 keep:=λi h h' st k=>⟨let ⟨o,ho,r⟩:=st.1;⟨o,k it (by simp) o ho,r⟩,st.2⟩
 item:=by
  intro X hP hw hK hc i Z s σ H E I hf st hg;subst hP hw hK;obtain⟨f0,f1,f2,f3,f4,f5⟩:=hf it (by simp);have TQ:i<x.cps.size:=hg;obtain⟨st,_⟩:=st;rcases Jx with rfl|rfl
  .refine wpAny_pyNext_ascii_item st (c:=x.cps[i]) (by simp[TQ]) λh' Iz sb=>?_;have I1:Inv X Z σ H {s with heap:=h',toks:=s.toks+1}:=I.turned (λb o hb e=>(sb.2 b hb).trans e) f0 f1 f3 f4 f5;obtain⟨o,e,c,d⟩:=id Iz;exact⟨_,rfl,yt e c d ⋯ ⟨.str ⟨#[x.cps[i]]⟩,H,I1,⟨_,rfl⟩,⟨rfl,_,by simp[TQ],rfl⟩,⟨Iz,TQ⟩,λb hb=>(hf b hb).1⟩⟩
  .refine wpAny_pyNext_wide_item st (c:=x.cps[i]) (by simp[TQ]) λh' Iz sb=>?_;obtain⟨o,e,c,d⟩:=id Iz;exact⟨_,rfl,yt e c d ⋯ ⟨.str ⟨#[x.cps[i]]⟩,H,(I.turned (λb o hb e=>(sb.2 b hb).trans e) f0 f1 f3 f4 f5),⟨_,rfl⟩,⟨rfl,_,by simp[TQ],rfl⟩,⟨Iz,TQ⟩,λb hb=>(hf b hb).1⟩⟩
 done:=by
  intro X hP hw hK hc i Z s σ H E I hf st hg;obtain⟨f0,f1,f2,f3,f4,f5⟩:=hf it (by simp);obtain⟨st,_⟩:=st;have hn:x.cps[i]?=bn:=by
   have TQ:x.cps.size<=i:=hg;simp[TQ]
  rcases Jx with rfl|rfl
  .exact wpAny_pyNext_ascii_end (I.ok.hd hc) st hn λh' eb=>⟨rfl,I.turned (λb o hb e=>eb b o hb e) f0 f1 f3 f4 f5⟩
  .exact wpAny_pyNext_wide_end (I.ok.hd hc) st hn λh' eb=>⟨rfl,I.turned (t':=s.toks) (λb o hb e=>eb b o hb e) f0 f1 f3 f4 f5⟩
 self:=λ_ _ _ _ _ st h=>by
  obtain⟨st,_⟩:=st;rcases Jx with rfl|rfl
  .exact wpAny_pyIter_striter_ascii st h
  .exact wpAny_pyIter_striter_wide st h
def adu(tl:TE):TI:=λσ H R=>tl σ H λx H1=>∃z,x=.str z/\R (Its z) H1
def Vf{l:pc}(hl:PE X l tl):PI X tg l (adu tl):=by
 intro Z s σ H R I h;refine bp (hl Z s σ H _ I h) λv s1 ⟨x,H1,I1,r1,q1⟩=>?_;obtain⟨z,e,q⟩:=q1;subst e;obtain⟨t,rfl⟩:=r1;have fin:∀ty Jx o,(s1.heap.push o).IsStrIter s1.heap.objs.size ty z t 0->PIE X Z σ tg R (.ref s1.heap.objs.size) {s1 with heap:=s1.heap.push o}:=λty Jx o st=>by
  refine⟨s1.heap.objs.size,[s1.heap.objs.size],_,_,H1,rfl,I1.kept λb o e=>Ad _ e,zB _ z t ty Jx,⟨st,Bs _⟩,λb hb=>?_,q⟩;have e:b=s1.heap.objs.size:=by simpa using hb
  subst e;exact I1.yA (Ah _) (I1.aX.fresh (Ah _))
 cases ha:z.cps.all (· < 128)
 .exact wpAny_pyIter_wide ha (fin _ (.inr rfl) _ ⟨_,Ak _ rfl,rfl,rfl⟩)
 .exact wpAny_pyIter_ascii ha (fin _ (.inl rfl) _ ⟨_,Ak _ rfl,rfl,rfl⟩)
end
section
variable{lo hi:pc}{th:TE}
def Wl(to tl th:TE):TG:=λv σ H Q=>to σ H λx H1=>tl σ H1 λi H2=>th σ H2 λj H3=>∃l b xs ys a c,x=.ref l/\v=.ref b/\i=.int a/\j=.int c/\H3 l=al (.lst xs)/\H3 b=al (.lst ys)/\l≠b/\0<=a/\a<=c/\c<=xs.length/\xs.length+ys.length<=sizeLine/\
 Q σ (upd H3 l (.lst (xs.take a.toNat++ys++xs.drop c.toNat)))
def M5(ho:PE X o to)(hl:PE X lo tl)(hh:PE X hi th)(ha:∀v,KB (.Subscript o (.Slice (al lo) (al hi) bn p2) pos) X.env v=(do
   let ov <- sK [v] (o0 o X.env)
   let iv <- sK [v,ov] (o0 (.Slice (al lo) (al hi) bn p2) X.env)
   Ix pos
   sK [v,ov,iv] (Rs ov iv v)
   release [iv,v,ov] []):=by intro _;rfl):PG X (.Subscript o (.Slice (al lo) (al hi) bn p2) pos) (Wl to tl th):=by
 intro Z s σ H v u Q I r h;refine Ab (Ba (bp (ho Z s σ H _ I h) λov s1 ⟨x,H1,I1,r1,q1⟩=>?_));refine Ab (Ba (wpAny_Slice ?_));refine bp (hl Z s1 σ H1 _ I1 q1) λvl s2 ⟨i,H2,I2,r2,q2⟩=>bp (hh Z s2 σ H2 _ I2 q2) λvu s3 ⟨j,H3,I3,r3,q3⟩=>Ae ?_;obtain⟨l,b,xs,ys,a,c,rfl,rfl,rfl,rfl,hH,hB,LP,h0,Xt,hc,hz,q⟩:=q3;cases r;cases r1;refine Ab (Cd (Ab (Ba (Kj (I3.kept λb ob q=>Ad _ q) hH hB LP (Heap.IsSliceOf.new ..) r2 r3 h0 Xt hc hz λs' I'=>?_))));exact wpAny_release ⟨σ,_,I',q⟩
end
end L2
variable{xs:O L2.V}{k':Nat}{bN:Cv}
namespace L2
def kO(l:db)(H H':Hp):Prop:=∀b u,b≠l->H b=al u->H' b=al u
def eX{p:db}(h:H p=bn)(o:HO):fe H (upd H p o):=λb u q=>by rw[ah (bB q h)];exact q
def Kl{p:db}(o:HO):kO p H (upd H p o):=λb u n q=>by rw[ah n];exact q
def kr(H:Hp)(o:HO)(Q:VK):Prop:=∀p H',fe H H'->H' p=al o->H p=bn->Q (.ref p) H'
def kr.at{o:HO}{Q:VK}(h:kr H o Q)(p:db)(hp:H p=bn):Q (.ref p) (upd H p o):=h p _ (eX hp o) aw hp
def xC(H:Hp)(l:db)(o:HO)(Q:Hp->Prop):Prop:=∀H',kO l H H'->H' l=al o->Q H'
def xC.at{o:HO}{Q:Hp->Prop}(h:xC H l o Q):Q (upd H l o):=h _ (Kl o) aw
def gr.mono{f:ce->ce->Sem ce}{r:R2}(h:gr X f r)(hr:∀x y H Q,r' x y H Q->r x y H Q):gr X f r':=λZ s σ H x y v u Q I rx ry q=>h Z s σ H x y v u Q I rx ry (hr _ _ _ _ q)
def bP.mono{f:ce}{r r':O V->Hp->VK->Prop}(h:bP X f r)(hr:∀xs H Q,r' xs H Q->r xs H Q):bP X f r':=λZ s σ H xs us Q I rx q=>h Z s σ H xs us Q I rx (hr _ _ _ q)
def Il.mono{id:String}{r r':V->O V->Hp->VK->Prop}(h:Il X id r)(hr:∀x xs H Q,r' x xs H Q->r x xs H Q):Il X id r':=λZ s σ H x xs v us Q I rx rv q=>h Z s σ H x xs v us Q I rx rv (hr _ _ _ _ q)
def LC.mono{r r':Pw}(h:LC X r)(hr:∀o i v H Q,r' o i v H Q->r o i v H Q):LC X r':=λZ s σ H o i v ov iv u Q I ro ri rv q=>h Z s σ H o i v ov iv u Q I ro ri rv (hr _ _ _ _ _ q)
def Uk.mono{r r':V->Option Int->Option Int->Hp->VK->Prop}(h:Uk X r)(hr:∀x lo hi H Q,r' x lo hi H Q->r x lo hi H Q):Uk X r':=λZ s σ H x v vl vu lo hi sl Q I rx hs pl pu q=>h Z s σ H x v vl vu lo hi sl Q I rx hs pl pu (hr _ _ _ _ _ q)
section
variable{t:TA}
def X0(t:TA):TE:=λσ H Q=>t σ H λxs H1=>xs.length<=sizeLine/\kr H1 (.tup xs) Q
def X8(t:TA):TE:=λσ H Q=>t σ H λxs H1=>xs.length<=sizeLine/\kr H1 (.lst xs) Q
def Jf{x1}(h:PA X es t):PE X (.Tuple es x1 pos) (X0 t):=by
 intro Z s σ H Q I hq;refine wpAny_Tuple_spliced (bp (h pos Z s σ H _ I hq) λus s1 ⟨xs,H1,I1,r,z,q⟩=>⟨by rw[<- r.length];exact z,?_⟩);have hf:=I1.aX.fresh (Ah _);refine⟨.ref s1.heap.objs.size,upd H1 s1.heap.objs.size (.tup xs),I1.laid (λb u e=>Ad _ e) (Ah _) ?_,rfl,q.at _ hf⟩;exact⟨z,us,r,⟨_,Ak _ rfl,rfl,_,rfl⟩,_,Ak _ rfl,rfl⟩
def Jg(h:PA X es t):PE X (.List es pos) (X8 t):=by
 intro Z s σ H Q I hq;refine wpAny_List_spliced (bp (h pos Z s σ H _ I hq) λus s1 ⟨xs,H1,I1,r,z,q⟩=>⟨by rw[<- r.length];exact z,?_⟩);have hf:=I1.aX.fresh (Ah _);refine⟨.ref s1.heap.objs.size,upd H1 s1.heap.objs.size (.lst xs),I1.laid (λb u e=>Ad _ e) (Ah _) ?_,rfl,q.at _ hf⟩;exact⟨z,us,0,r,Ak _ rfl⟩
def UG:TE:=λ_ H Q=>kr H (.dK []) Q
def M9:PE X (.Dict [] [] pos) UG:=λZ s σ H Q I h=>xO Z s σ H Q I λp hp=>h.at p hp
def S5(K:Aa):R2:=λx y H Q=>match x with
 |.int i=>∃j,y=.int j/\Q (.int (i+j)) H
 |.str i=>∃j,y=.str j/\i.length+j.length<=sizeLine/\Q (.str (i++j)) H
 |.ref a=>(∃b xs zs,y=.ref b/\H a=al (.lst xs)/\H b=al (.lst zs)/\xs.length+zs.length<=sizeLine/\kr H (.lst (xs++zs)) Q)\/S6 K x y H Q
 |_=>False
def Q1:gr X (wP .Add) (S5 X.K):=by
 refine((Ni.or GS).or (Vn.or Jk)).mono λx y H Q h=>?_;cases x with
 |int i=>obtain⟨j,rfl,q⟩:=h;exact .inl (.inl ⟨i,j,rfl,rfl,q⟩)
 |str i=>obtain⟨j,rfl,hl,q⟩:=h;exact .inl (.inr ⟨i,j,rfl,rfl,hl,q⟩)
 |ref a=>
  rcases h with⟨b,xs,zs,rfl,h1,h2,hz,q⟩|h
  .exact .inr (.inl ⟨a,b,xs,zs,rfl,rfl,h1,h2,hz,λp hp=>q.at p hp⟩)
  .exact .inr (.inr h)
 |_=>exact h.elim
def QX:gr X (wP .Mult) (rI GM λi j=>.int (i*j)):=opI λ_ _ _ _ _ _ _ hc q=>mul_int q hc
def S4(K:Aa):V->Option Int->Option Int->Hp->VK->Prop:=λx lo hi H Q=>∃a xs,x=.ref a/\du K H a xs/\kr H (.lst (Lk xs lo hi)) Q
def Mi:Uk X (S4 X.K):=Qu.mono λx lo hi H Q ⟨a,xs,e,h,q⟩=>⟨a,xs,e,h,λp hp=>q.at p hp⟩
def HX:bP X (.type "list") (λxs H Q=>∃p ys,xs=[.ref p]/\(du X.K H p ys\/dX X.K H p ys)/\kr H (.lst ys) Q):=wM.mono λxs H Q ⟨p,ys,e,h,q⟩=>⟨p,ys,e,h,λl hl=>q.at l hl⟩
def yZ:bP X (.type "tuple") (λxs H Q=>∃p ys,xs=[.ref p]/\du X.K H p ys/\kr H (.tup ys) Q):=kM.mono λxs H Q ⟨p,ys,e,h,q⟩=>⟨p,ys,e,.inl ⟨h,λl hl=>q.at l hl⟩⟩
def MK:V->O V->Hp->VK->Prop:=λx vs H Q=>∃l xs y,x=.ref l/\vs=[y]/\H l=al (.lst xs)/\xs.length<sizeLine/\xC H l (.lst (xs++[y])) (Q .bx)
def qr:Il X "list.append" MK:=KA.mono λx xs H Q ⟨l,ys,y,e1,e2,h,hz,q⟩=>⟨l,ys,y,e1,e2,h,hz,q.at⟩
def Kp(K:Aa):V->O V->Hp->VK->Prop:=λx vs H Q=>∃l b xs zs,x=.ref l/\vs=[.ref b]/\H l=al (.lst xs)/\dX K H b zs/\xs.length+zs.length<=sizeLine/\xC H l (.lst (xs++zs)) (Q .bx)
def xV:Il X "list.extend" (Kp X.K):=G3.mono λx xs H Q ⟨l,b,ys,zs,e1,e2,h1,h2,hz,q⟩=>⟨l,b,ys,zs,e1,e2,h1,h2,hz,q.at⟩
def YC:V->O V->Hp->VK->Prop:=λx vs H Q=>∃l xs y,x=.ref l/\vs=[]/\H l=al (.lst (xs++[y]))/\xC H l (.lst xs) (Q y)
def Rg:Il X "list.pop" YC:=VD.mono λx xs H Q ⟨l,ys,y,e1,e2,h,q⟩=>⟨l,ys++[y],y,e1,e2,h,by simp,by rw[List.dropLast_concat];exact q.at⟩
def MC:Pw:=λo i v H Q=>∃p xs k j,o=.ref p/\i=.int k/\H p=al (.lst xs)/\sC xs.length k=al j/\xC H p (.lst (xs.set j v)) Q
def m5:LC X MC:=set_list.mono λo i v H Q ⟨p,xs,k,j,e1,e2,h,hj,q⟩=>⟨p,xs,k,j,e1,e2,h,hj,q.at⟩
end
section
variable(K:Aa)(hK:X.K=K){a:pc}{t:TA}{name:Str}{Xl:String}{r:V->O V->Hp->VK->Prop}
include hK
def vH:P5 X (rIx K):=hK▸VW
def Jl:gr X (wP .Add) (S5 K):=hK▸Q1
def Mh:Uk X (S4 K):=hK▸Mi
def U3(K:Aa):O V->Hp->VK->Prop:=λxs H Q=>∃x n,xs=[x]/\aaF K x H n/\Q (.int n) H
def fR:bP X (.builtin "len") (U3 K):=hK▸Pb
def MF(K:Aa):O V->Hp->VK->Prop:=λxs H Q=>∃p ys,xs=[.ref p]/\(du K H p ys\/dX K H p ys)/\kr H (.lst ys) Q
def HW:bP X (.type "list") (MF K):=hK▸HX
def YJ(K:Aa):O V->Hp->VK->Prop:=λxs H Q=>∃(p:db) (bs:O Bool),xs=[.ref p]/\du K H p (bs.map V.bl)/\Q (.bl (bs.all id)) H
def Lx(hc:X.calm=true):bP X (.builtin "all") (YJ K):=hK▸H9 hc
def U2(K:Aa):R2:=λx y H Q=>∃p q xs,x=.ref p/\y=.ref q/\du K H p xs/\du K H q []/\Q (.bl (!xs.isEmpty)) H
def Fl(hu:X.A.units<GE):gr X (r9 .NotEq) (U2 K):=hK▸Kv hu
def acq(K:Aa)(ta:TE):TT:=λσ H Q=>ta σ H λx H'=>∃k,WY K x H' k/\Q k H'
def tJ(ha:PE X a ta)(he:∀Ä,isTrue a X.env Ä=(do let v <- Ä;Ix a.pos;sK [v] (truthy v))):PT X a (acq K ta):=hK▸MR ha he
def QR(pa:PlainAttrs T)(slot:Slot T name Xl)(Jx:typeOf (.builtin Xl)=pure (.type "method_descriptor"))(hm:MtR X Xl r)(ho:PE X o to)(cY:‹sB o name X.env (o0 o X.env)=o0 o X.env›)(dR:‹P7 Á bN›):PE X (.Call (.Attribute o name Á) [] [] bN) (Ye K T r to):=hK▸Vg pa slot Jx hm ho cY dR
def ni(pa:PlainAttrs T)(slot:Slot T name Xl)(Jx:typeOf (.builtin Xl)=pure (.type "method_descriptor"))(hm:MtR X Xl r)(ho:PE X o to)(ha:PA X (e::es) t)(cY:‹sB o name X.env (o0 o X.env)=o0 o X.env›)(nK:‹W6 X bN (e::es)›)(dR:‹P7 Á bN›)(hs:‹dY X e es›)(eI:‹gw X bN es›):PE X (.Call (.Attribute o name Á) (e::es) [] bN) (tBM K T r to t):=hK▸YR pa slot Jx hm ho ha cY nK dR hs eI
omit hK
end
structure LJ(P:tz)(w:wS)(K:Aa)(mg:Str->Option ce)(base:nn)(x:Str)(k:Nat)(ps:List Str)(sp:Sp) where
 f:db
 fd:wp
 ok:bz P w K mg base jo k f fd ps sp
 bi:Binds K fd ps []
 kp:AL K (.ref f)=true
 at':mg x=al (.ref f)
section
variable{x:Str}{t:TA}
def Yd(sp:Sp)(t:TA):TE:=λσ H Q=>t σ H λvs H1=>sp vs H1 Q E0
def vd(G:LJ X.prog X.w X.K X.mg X.base x k ps sp)(hr:bI k' X.A)(hk:k<=k')(hg:Gl X x)(ha:PA X (e::es) t)(eY: ~~~(d6 x))(he:‹dY X e es›)(bZ:‹gw X pos es›):PE X (.Call (.Name x p) (e::es) [] pos) (Yd sp t):=by
 intro Z s σ H Q I h;refine AM (fH I hg G.at' ?_ eY);refine B6 I.ok.mod.NV G.kp (bp (ha pos Z s σ H _ I h) λus s1 ⟨vs,H1,I1,r,q⟩=>⟨I1.fm,?_⟩) he bZ;refine qd G.ok (hr.mono hk) G.bi .nil om I1 r ?_;rw[A8];exact q
end
section
theorem lx{xs:List α}(h0:0<=i)(h1:i<xs.length):∃v,fB xs i=al v/\xs[i.toNat]?=al v:=by
 have hk:i.toNat<xs.length:=by lia
 have q:=mP (by rw[Af hk]);have e:i.toNat=i:=by lia
 rw[e]at q;exact⟨_,q,by rw[Af hk]⟩
def U0{K:Aa}(h:H l=al (.lst xs)):tyV K "list" (.ref l) H:=.inl ⟨rfl,_,du.of h⟩
def Ny{j:Int}(h1:-18446744073709551616<i)(h2:i<18446744073709551616):GM i j:=Sz.ok (.inl ⟨h1,h2⟩)
def mul_r{j:Int}(h1:-18446744073709551616<j)(h2:j<18446744073709551616):GM i j:=Sz.ok (.inr ⟨h1,h2⟩)
end
def a6(h:n<=1000):n<=sizeLine:=Dj (tF h)
section
variable(K:Aa)(hK:X.K=K)
include hK
def acR:V->Option Int->Option Int->Hp->VK->Prop:=λx lo hi H Q=>∃z,x=.str z/\z.length<=sizeLine/\Q (.str (Er z lo hi)) H
omit hK in
def UQ:Uk X acR:=by
 intro Z s σ H x v vl vu lo hi sl Q I rx hs pl pu h;obtain⟨z,rfl,hz,q⟩:=h;obtain⟨t,rfl⟩:=rx;refine⟨"str",_,F.slot_str_getitem.lookup,Op _ _ _,?_⟩;obtain⟨os,RJ,Xp,TU⟩:=hs;have fin:∀t' k,EP X Z σ Q (.str (Er z lo hi) t') {s with toks:=k}:=λt' k=>⟨.str (Er z lo hi),H,I.tok _,⟨_,rfl⟩,q⟩;cases pl with
 |none=>
  cases pu with
  |none=>exact CO (l:=bn) (u:=bn) (st:=bn) ⟨os,RJ,Xp,TU⟩ rfl (TW ⟨AE (Em z _ _) hz,fin⟩)
  |int j uj=>exact CO (l:=bn) (u:=al (j,uj)) (st:=bn) ⟨os,RJ,Xp,TU⟩ rfl (TW ⟨AE (Em z _ _) hz,fin⟩)
 |int i ui=>
  cases pu with
  |none=>exact CO (l:=al (i,ui)) (u:=bn) (st:=bn) ⟨os,RJ,Xp,TU⟩ rfl (TW ⟨AE (Em z _ _) hz,fin⟩)
  |int j uj=>exact CO (l:=al (i,ui)) (u:=al (j,uj)) (st:=bn) ⟨os,RJ,Xp,TU⟩ rfl (TW ⟨AE (Em z _ _) hz,fin⟩)
end
section
variable(K:Aa)(hK:X.K=K)
include hK
def U8(K:Aa):R2:=λx y H Q=>∃p q xs,x=.ref p/\y=.ref q/\du K H p xs/\du K H q []/\Q (.bl xs.isEmpty) H
def GR(hu:X.A.units<GE):gr X (r9 .Eq) (U8 K):=by
 subst hK;intro Z s σ H x y v u Q I rx ry h;obtain⟨p,q,xs,rfl,rfl,hp,hq,k⟩:=h;cases rx;cases ry;obtain⟨ax,r,pl,hz⟩:=I.list hp;obtain⟨cQ,r2,Ve,hz2⟩:=I.list hq;cases r2;cases xs with
 |nil=>
  cases r;refine FK (GH (e:=λ_=>true) pl.isList Ve.isList rfl hu λj h1=>absurd h1 (by simp)) ?_;exact⟨.bl true,H,I,rfl,k⟩
 |cons y ys=>
  have hl:=r.length;refine FK (E4 pl.isList Ve.isList (by simp at hl ⊢;intro z;subst z;simp at hl) hu) ?_;exact⟨.bl false,H,I,rfl,k⟩
omit hK
end
end L2
variable{items:Array A2}{p1:Cv}
namespace L2
theorem Vals.xH:∀{xs:O V}{us:O ce},Vals xs us->Vals xs.reverse us.reverse
 |_,_,.nil=>.nil
 |_,_,.cons h t=>by rw[DL,DL];exact(Vals.xH t).append (.cons h .nil)
def VI:typeLookup (.type "list_reverseiterator") (DA "__len__")=pure bn:=by kernel_rfl
def Rl:typeLookup (.type "list_reverseiterator") (DA "__length_hint__")=pure (al (.builtin "list_reverseiterator.__length_hint__")):=by kernel_rfl
def Qr:splitId "list_reverseiterator.__length_hint__"=al ("list_reverseiterator","__length_hint__"):=by kernel_rfl
def Qp:isSubtype (.type "list_reverseiterator") (.type "list_reverseiterator")=pure true:=by kernel_rfl
def Oe{r:db}{Q:Bool->gt->Prop}(h:s.heap.IsRevIter r l i)(q:Q false s):f8 (lf prog w) A (Builtin.List.listLengthHint (Ao r)) Q E s:=by
 refine Ab (FN h.typeIs VI ?_);refine Ab (FN h.typeIs Rl ?_);dsimp only;rw[Qr];dsimp only;exact Ab (DT h.typeIs Qp (Ae q))
def sk{r S:db}(hA:A.handled=bn)(h:s.heap.IsRevIter r l (items.size-1))(hl:s.heap.IsList l items)(LP:l≠r)(Ģ:S≠r)(hSl:S≠l)(hz:items.size<=sizeLine)(hS:s.heap.get? S=al {cls:=CD "list",data:=Gw #[]})(q:∀(h':nn) (tk:Nat) (acc:Array ce) (c:Nat),(∀b o,b≠S->b≠r->s.heap.get? b=al o->h'.get? b=al o)->h'.get? S=al {cls:=CD "list",data:=Gw acc c}->ItemsOf (λi v=>items[items.size-1-i]?=al v) acc items.size->R (.ok (.ret .none)) {s with heap:=h',toks:=tk}):
  f8 (lf prog w) A.in1 (Fk.«list.__init__» {pos:=[Ao S,Ao r]})
   (λfin s'=>match fin with|FZ f=>R (Except.ok f) s'|Fin.again c'=>c'.quiet=true/\Pv (lf prog w) A c' R s') (λe s'=>R (GA e) s') s:=by
 unfold Fk.«list.__init__»;refine Ab (wpAny_listItems hS rfl ?_);refine Ab ?_;refine Ee hS rfl ?_ (by simp) (by simp);refine Ab (CP ?_);have k1:∀b o,b≠S->s.heap.get? b=al o->(s.heap.update S (CU λ_=>#[])).get? b=al o:=λb o hb e=>by rw[DC _ _ (Bu hb)];exact e
 have hS1:=B2 (CU λ_=>#[]) hS rfl;generalize s.heap.update S (CU λ_=>#[])=h1 at k1 hS1 ⊢;have ù:h1.IsRevIter r l (items.size-1):=let ⟨o,e,p⟩:=h;⟨o,k1 _ _ (Bu Ģ) e,p⟩;have hl1:h1.IsList l items:=let ⟨o,e,p⟩:=hl;⟨o,k1 _ _ (Bu hSl) e,p⟩;unfold Builtin.List.listExtendWith;refine Ab (wpAny_typeOf ù.typeIs ?_);rw[if_neg (by
  have e1:Builtin.List.listSameRef (Ao S) (Ao r)=false:=by
   unfold Builtin.List.listSameRef;simpa using Ģ
  rw[e1];decide)]
 refine Ab (wpAny_pyIter_revIter ù ?_);refine Ab (Ba (Oe ù ?_));refine Ae ⟨plainId_quiet F.plain_extend_loop _,?_⟩;refine codeAny_extend_loopS (Walks.toS (Walks.listRev (A:=A.in1) hA r l LP items)) hz S (by simp[Ģ,hSl]) .none items.size 0 _ #[] _ (Nat.sub_zero _) (Bs _) ⟨Bs _,by simpa using ù,hl1⟩ hS1 (ItemsOf.nil _) ?_;intro s' acc c mv e io;rw[mv.eq_with];exact q s'.heap s'.toks acc c (λb o n1 n2 e'=>mv.heap b o (by simp[n1,n2]) (k1 b o n1 e')) e io
def sQ{r:db}(hA:A.handled=bn)(h:s.heap.IsRevIter r l (items.size-1))(hl:s.heap.IsList l items)(LP:l≠r)(hz:items.size<=sizeLine)(q:∀(h':nn) (tk:Nat) (acc:Array ce) (c:Nat),(∀b o,b≠r->s.heap.get? b=al o->h'.get? b=al o)->h'.get? s.heap.objs.size=al {cls:=CD "list",data:=Gw acc c}->ItemsOf (λi v=>items[items.size-1-i]?=al v) acc items.size->Q (.ref s.heap.objs.size) {s with heap:=h',toks:=tk}):f8 (lf prog w) A (call (CD "list") [Ao r]) Q E s:=by
 have lr:=let ⟨_,e,_⟩:=h;Aj e;have ll:=let ⟨_,e,_⟩:=hl;Aj e;refine callType_codes F.called_list (F.typeCall_list_1 _) F.entry_list_init (code_list_new (Q₁:=λv s₁=>v=.ref s.heap.objs.size/\s₁={s with heap:=s.heap.push {cls:=CD "list",data:=Gw #[]}}) _ ⟨rfl,rfl⟩) ?_;rintro obj s₁ ⟨rfl,rfl⟩;refine⟨⟨_,Ak _ rfl,rfl⟩,F.args_list_init_2 _ _,?_⟩;have kp:∀b o,s.heap.get? b=al o->(s.heap.push {cls:=CD "list",data:=Gw #[]}).get? b=al o:=λb o e=>Ad _ e;refine sk hA (let ⟨o,e,p⟩:=h;⟨o,kp _ _ e,p⟩) (let ⟨o,e,p⟩:=hl;⟨o,kp _ _ e,p⟩) LP (λz=>by rw[z]at lr;exact AQ _ lr) (λz=>by rw[z]at ll;exact AQ _ ll) hz (Ak _ rfl) ?_;intro h' tk acc c k e io;exact⟨rfl,q h' tk acc c (λb o n e'=>k b o (λz=>by rw[z]at e';exact AQ _ (Aj e')) n (kp b o e')) e io⟩
def tLR(K:Aa)(te:TE):TE:=λσ H Q=>te σ H λx H1=>∃p ys,x=.ref p/\du K H1 p ys/\kr H1 (.lst ys.reverse) Q
section
variable(K:Aa)(hK:X.K=K){q1 q2:Pos}
include hK
theorem z9(hc:X.calm=true)(Wc:Gl X "list")(V9:X.mg "list"=bn)(Wb:Gl X "reversed")(V8:X.mg "reversed"=bn)(he:PE X e te)(my:‹lm [.Call (.Name "reversed" q1) [e] [] q2] X.env=(false,o0 (.Call (.Name "reversed" q1) [e] [] q2) X.env)::lm [] X.env›)(xm:‹dY X e []›):PE X (.Call (.Name "list" p1) [.Call (.Name "reversed" q1) [e] [] q2] [] p2) (tLR K te):=by
 intro Z s σ H Q I h;subst hK;refine AM (gc I Wc V9 boot_list ?_ ⋯ ⋯);refine A9 ?_ my rfl;refine A7 ?_;refine AM (gc I Wb V8 boot_reversed ?_ ⋯ ⋯);refine A9 ?_ xm rfl;rw[xm];refine A7 (bp (he Z s σ H _ I h) λu s1 ⟨x,H1,I1,r1,pa,ys,ex,hS,q⟩=>BL ?_);subst ex;cases r1;obtain⟨ax,rv,pl,hz⟩:=I1.list hS;have Â:=rv.length;have lp:=let ⟨_,e,_⟩:=pl.isList;Aj e;refine call_reversed_list pl.isList ?_;refine BL ?_;have kp:∀b o,s1.heap.get? b=al o->(s1.heap.push (revObj pa (ax.toArray.size-1))).get? b=al o:=λb o e=>Ad _ e;refine sQ (I1.ok.hd hc) ⟨_,Ak _ rfl,rfl,rfl⟩ (let ⟨o,e,p⟩:=pl.isList;⟨o,kp _ _ e,p⟩) (λz=>by rw[z]at lp;exact AQ _ lp) (by rw[Ai];lia) ?_;intro h' tk acc c k e io;have ea:acc=ax.reverse.toArray:=by
  obtain⟨z1,z2⟩:=io;apply Array.ext
  .rw[z1,Ai,Ai,Dn]
  .intro j h1 h2;have:=z2 j acc[j] (Array.getElem?_eq_getElem h1);rw[Ai]at this;have hj:j<ax.length:=by rw[z1,Ai]at h1;exact h1
   rw[List.getElem?_toArray]at this;have e3:ax.reverse[j]?=al acc[j]:=by rw[List.getElem?_reverse hj];exact this
   rw[Ea];exact(Option.some.inj (((Af (by rw[Dn];exact hj)).symm.trans e3))).symm
 subst ea;have xm:s1.heap.objs.size<=(s1.heap.push (revObj pa (ax.toArray.size-1))).objs.size:=by simp
 exact⟨.ref _,upd H1 _ (.lst ys.reverse),I1.laid (λb o eb=>k b o (λz=>by rw[z]at eb;exact AQ _ (Aj eb)) (kp b o eb)) xm ⟨by rw[Dn];exact hz,ax.reverse,c,rv.xH,e⟩,rfl,q.at _ (I1.aX.fresh xm)⟩
end
end L2
variable{y:BN}
namespace My
def Wd(x:Str):Prop:=1<=x.length/\x.length<=8/\∀c∈x.cps.toList,97<=c/\c<123
def Part(x:Str)(n:Nat):Prop:=x.length<=n/\∀c∈x.cps.toList,97<=c/\c<123
theorem Part.append{x:Str}{m:Nat}(a:Part x m)(b:Part y n):Part (x++y) (m+n):=by
 refine⟨?_,λc hc=>?_⟩
 .rw[AA];have:=a.1;have:=b.1;lia
 .rw[Ew,Dq]at hc;rcases Cp.mp hc with h|h
  .exact a.2 c h
  .exact b.2 c h
theorem su{d st:Int}(h:st=1\/st=3\/st=5\/st=7\/st=9\/st=11)(hn:n<=26):((AW n).map λk:Nat=>al (97+((d+st*(0+(k:Int))) % 26).toNat)).Nodup:=by
 unfold List.Nodup;rw[EY];refine List.Pairwise.imp_of_mem ?_ DM;intro a b ha hb ZS hz;have ġ:=Bp.mp hb;have Jw:=Option.some.inj hz;rcases h with rfl|rfl|rfl|rfl|rfl|rfl<;>lia
def vm{g:α->β}{l:List α}(h:(l.map g).Nodup):l.Nodup:=(EY.mp h).imp λh e=>h (congrArg g e)
def J7(x y:Str)(c:Nat):(x++⟨#[c]⟩++y).cps[x.length]?=al c:=by
 show((x.cps++#[c])++y.cps)[x.cps.size]?=al c;rw[Array.getElem?_append_left (by simp),Array.getElem?_append_right (Ah _)];simp
def Hb:∀k:_root_.Fin 26,fB ("abcdefghijklmnopqrstuvwxyz":Str).cps.toList (k.val:Int)=al (97+k.val):=by decide +kernel
theorem KO{n:Int}(h0:0<=n)(h1:n < 26):fB ("abcdefghijklmnopqrstuvwxyz":Str).cps.toList n=al (97+n.toNat):=by
 have e:=Hb ⟨n.toNat,by lia⟩;have e2:n.toNat=n:=by lia
 rw[e2]at e;exact e
def Nj{c:Nat}(h0:97<=c)(h1:c<123):Part ⟨#[c]⟩ 1:=by
 refine⟨Ah _,λd hd=>?_⟩;have:d=c:=by simpa using hd
 subst this;exact⟨h0,h1⟩
theorem Qi{x:Str}{c:Nat}(a:Part x 2)(b:Part y 5)(h0:97<=c)(h1:c<123):Wd (x++⟨#[c]⟩++y):=by
 have q:=(a.append (Nj h0 h1)).append b;refine⟨?_,q.1,q.2⟩;rw[AA,AA];show 1<=x.length+1+y.length;lia
inductive Tr where
 |leaf (x:Str)
 |node (l r:Tr)
def Tr.a8:Tr->O Str
 |.leaf x=>[x]
 |.node l r=>l.a8++r.a8
def Tr.size:Tr->Nat
 |.leaf _=>1
 |.node l r=>l.size+r.size+1
def Tr.depth:Tr->Nat
 |.leaf _=>0
 |.node l r=>max l.depth r.depth+1
def Tr.Ws(t:Tr):Prop:=∀x∈t.a8,Wd x
theorem Tr.qB:∀t:Tr,1<=t.a8.length
 |.leaf _=>Ah _
 |.node l r=>by have:=l.qB;show 1<=(l.a8++r.a8).length;rw[Ag];lia
theorem Tr.q9:∀t:Tr,t.depth<t.a8.length
 |.leaf _=>Cw 0
 |.node l r=>by
  have h1:=l.q9;have h2:=r.q9;have h4:=r.qB;show max l.depth r.depth+1<(l.a8++r.a8).length;rw[Ag];lia
theorem Tr.size_eq:∀t:Tr,t.size+1=2*t.a8.length
 |.leaf _=>rfl
 |.node l r=>by
  have h1:=l.size_eq;have h2:=r.size_eq;show l.size+r.size+1+1=2*(l.a8++r.a8).length;rw[Ag];lia
def qG:∀k:_root_.Fin 26,(!(Builtin.Str.occurrences ("abcdefghijklmnopqrstuvwxyz":Str) ⟨#[97+k.val]⟩ 0 ("abcdefghijklmnopqrstuvwxyz":Str).length 1).isEmpty)=true:=by decide +kernel
theorem Ho{c:Nat}(h0:97<=c)(h1:c < 123):(!(Builtin.Str.occurrences ("abcdefghijklmnopqrstuvwxyz":Str) ⟨#[c]⟩ 0 ("abcdefghijklmnopqrstuvwxyz":Str).length 1).isEmpty)=true:=by
 have e:=qG ⟨c-97,by lia⟩;have e2:97+(c-97)=c:=by lia
 simp only[e2]at e;exact e
def cD(ts:O Tr):Nat:=(ts.map Tr.size).sum
def bQ(a b:O Tr):cD (a++b)=cD a+cD b:=by unfold cD;rw[B1,List.sum_append]
def ek(t:Tr):cD [t]=t.size:=by simp[cD]
theorem Tr.size_pos:∀t:Tr,1<=t.size
 |.leaf _=>Ah _
 |.node l r=>by show 1<=l.size+r.size+1;lia
theorem ny:∀ts:O Tr,ts.length<=cD ts
 |[]=>Ah _
 |t::r=>by have:=ny r;have:=t.size_pos;show r.length+1<=t.size+cD r;lia
end My
variable{σ:L2.St}{i:Nat}
namespace L2
def gE{t:db}{x:ce}(h:s.heap.IsTupleIter it t i)(ht:s.heap.IsTuple t items)(hx:items[i]?=al x)(q:∀h':nn,h'.IsTupleIter it t (i+1)->Cc it s.heap h'->Q x {s with heap:=h'}):f8 (lf prog w) A (Builtin.SmallTypes.nextOf (.ref it)) Q E s:=by
 unfold Builtin.SmallTypes.nextOf;refine Ab (AZ h.typeIs Cy (Bw Cy h.typeIs En ?_ (Ed _)));obtain⟨o,ho,hc,hd⟩:=id h;obtain⟨ot,Ĕ,htc,n,đ⟩:=id ht;show f8 _ _ (field (.ref it) 0 >>= λseq=>_) _ _ s;refine Ab (AG ho hd rfl ?_);refine Ab (AG ho hd rfl ?_);refine Ab (BX Ĕ đ ?_);show f8 _ _ (match items[i]? with|some x=>(do PP (.ref it) 1 (pr (i+1));ret x)|none=>_) _ _ s;rw[hx];refine Ab (CN ho hd (show 1<2 by decide) ?_);refine Ae ⟨x,rfl,Ae (q _ ⟨_,B2 _ ho (by rw[FQ (Dw hd _)]),by rw[Obj.cls_mapFields];exact hc,by rw[Dw hd];rfl⟩ (Cc.update ..))⟩
def Iy{Q:α->gt->Prop}(hA:A.handled=bn)(q:∀(h':nn) (e:db),(∀b o,s.heap.get? b=al o->h'.get? b=al o)->(∃o,h'.get? e=al o/\o.cls=.type "StopIteration")->E (.ref e) {s with heap:=h'}):f8 (lf prog w) A (Builtin.SmallTypes.stopIteration (α:=α)) Q E s:=by
 refine Ab ?_;refine Ab (Dc ?_ ⋯);refine Ab (Cf rfl ?_);refine BM ?_ (sizeOk_excFields ..);unfold raiseNew;refine Ab (wpAny_handled ?_);rw[hA];refine wpAny_throw (q _ _ (λb o e=>Ad _ (Ad _ e)) ⟨_,Ak _ rfl,rfl⟩)
def g9{t:db}(hA:A.handled=bn)(h:s.heap.IsTupleIter it t i)(ht:s.heap.IsTuple t items)(hx:items[i]?=bn)(q:∀(h':nn) (e:db),GN it s.heap h'->(∃o,h'.get? e=al o/\o.cls=.type "StopIteration")->E (.ref e) {s with heap:=h'}):f8 (lf prog w) A (Builtin.SmallTypes.nextOf (.ref it)) Q E s:=by
 unfold Builtin.SmallTypes.nextOf;refine Ab (AZ h.typeIs Cy (Bw Cy h.typeIs En ?_ (Ed _)));obtain⟨o,ho,hc,hd⟩:=id h;obtain⟨ot,Ĕ,htc,n,đ⟩:=id ht;show f8 _ _ (field (.ref it) 0 >>= λseq=>_) _ _ s;refine Ab (AG ho hd rfl ?_);refine Ab (AG ho hd rfl ?_);refine Ab (BX Ĕ đ ?_);show f8 _ _ (match items[i]? with|some x=>(do PP (.ref it) 1 (pr (i+1));ret x)|none=>(do rule _;PP (.ref it) 0 .none;Builtin.SmallTypes.stopIteration)) _ _ s;rw[hx];refine Ab (CY ?_);refine Ab (CN ho hd (show 0<2 by decide) ?_);refine Iy hA λh' e k ex=>q h' e (λb o n eb=>k b o ?_) ex;rw[(Cc.update _ _ _).2 b n];exact eb
def Inv.lM{t':Nat}{o:HO}(I:Inv X Z σ H s)(hf:∀b∈ch,sX X Z H b)(k:∀b u,b∉ch->s.heap.get? b=al u->h'.get? b=al u)(hp:s.heap.objs.size<=a)(new:bV X.prog X.w (upd H a o) h' a o):Inv X Z σ (upd H a o) {s with heap:=h',toks:=t'}:=by
 have hn:=I.aX.fresh hp;have Te:∀b u,H b=al u->b∉ch:=λb u e z=>by rw[(hf b z).1]at e;cases e
 refine I.step (λb hb=>⟨(hf b hb).2.2.2.1,(hf b hb).2.1,(hf b hb).2.2.2.2.1,(hf b hb).2.2.2.2.2⟩) (λb u _ _ hc e _=>k b u hc e) (λb u _ _ hc e _=>⟨u.slots,k b u hc e⟩)
  (λb u _ e n=>by rw[ah (AD (Av (Aj e) hp))];exact n) (λb u hc e=>⟨u,k b u hc e⟩) (λb xs e=>by rw[ah (bB e hn)];exact e) (λb u xs e=>by rw[ah (bB e hn)];exact e)
  (λb ps e=>⟨#[],by rw[ah (bB e hn),e];simp⟩) (λm hm=>?_) (λb u e=>?_) I.bare
 .obtain⟨o',es,ep,ho,r⟩:=hm;exact⟨o',es,ep,k _ o' (λz=>(hf _ z).2.1 rfl) ho,r⟩
 .by_cases hb:b=a
  .subst hb;rw[aw]at e;cases e;exact new
  .rw[ah hb]at e;refine(I.aX b u e).mY (λc v hc q=>k c v ?_ q) (λc q=>by rw[ah (bB q hn)];exact q) λc xs q=>by rw[ah (bB q hn)];exact q
   rcases hc with z|z
   .rw[z];exact Te b u e
   .exact Te c _ z
def Inv.pA{t':Nat}(I:Inv X Z σ H s)(hf:∀b∈ch,sX X Z H b)(k:∀b u,b∉ch->s.heap.get? b=al u->h'.get? b=al u):Inv X Z σ H {s with heap:=h',toks:=t'}:=by
 have Te:∀b u,H b=al u->b∉ch:=λb u e z=>by rw[(hf b z).1]at e;cases e
 refine I.step (λb hb=>⟨(hf b hb).2.2.2.1,(hf b hb).2.1,(hf b hb).2.2.2.2.1,(hf b hb).2.2.2.2.2⟩) (λb u _ _ hc e _=>k b u hc e) (λb u _ _ hc e _=>⟨u.slots,k b u hc e⟩)
  (λ_ _ _ _ n=>n) (λb u hc e=>⟨u,k b u hc e⟩) (λ_ _ e=>e) (λ_ _ _ e=>e) (λb ps e=>⟨#[],by rw[e];simp⟩) (λm hm=>?_) (λb u e=>?_) I.bare
 .obtain⟨o',es,ep,ho,r⟩:=hm;exact⟨o',es,ep,k _ o' (λz=>(hf _ z).2.1 rfl) ho,r⟩
 .refine(I.aX b u e).mY (λc v hc q=>k c v ?_ q) (λ_ q=>q) λ_ _ q=>q;rcases hc with z|z
  .rw[z];exact Te b u e
  .exact Te c _ z
def lK(h:Vals xs us):∀{i:Nat}{x:V},xs[i]?=al x->∃u,us[i]?=al u/\RelV x u:=by
 induction h with
 |nil=>intro i x e;simp at e
 |cons r t ih=>
  intro i x e;cases i with
  |zero=>simp at e;subst e;exact⟨_,rfl,r⟩
  |succ i=>exact ih (by simpa using e)
end L2
variable{e:AY}{Ê:A2}{Ï:O BV}{kk:Nat}
namespace L2
def o8{E:ce->gt->Prop}{t:db}{x:ce}(rM:e≠it)(ö:t≠e)(RH:t≠it)(hz:Ps s.heap e it i Ê)(hi:s.heap.IsTupleIter it t i)(ht:s.heap.IsTuple t items)(hx:items[i]?=al x)(q:∀(h':nn) (tk:Nat),IsEnumOut h' e it (i+1:Nat) x s.heap.objs.size->h'.IsTupleIter it t (i+1)->SC h' s.heap.objs.size (.int i s.toks) x->(∀c o,c≠e->c≠it->s.heap.get? c=al o->h'.get? c=al o)->Q (.ref s.heap.objs.size) {s with heap:=h',toks:=tk}):f8 (lf prog w) A (Fk.«enumerate.__next__» {pos:=[.ref e]}) (λfin s'=>∃v,fin=FZ (Fc v)/\Q v s') E s:=by
 show f8 _ _ (field (.ref e) 2 >>= λr=>_) _ _ s;refine Ab (AG hz rfl rfl ?_);refine Ab (gE hi ht hx λh1 j1 b1=>?_);have z1:=(b1.2 _ rM).trans hz;refine Ab (AG z1 rfl rfl ?_);refine Ab (AG z1 rfl rfl ?_);refine Ab (wpAny_mkInt ?_);refine Ab (AU z1 (show 3 < 6 by decide) λh2 z2 b2=>?_);refine Ab (AU z2 (show 4 < 6 by decide) λh3 z3 b3=>?_);refine Ab (Dc ?_ (by show 2<=sizeLine;decide));have kp:∀b o,h3.get? b=al o->(h3.push {cls:=.type "tuple",data:=.seq [Cu i s.toks,x].toArray}).get? b=al o:=λb o e=>Ad _ e;have GZ:(h3.push {cls:=.type "tuple",data:=.seq [Cu i s.toks,x].toArray}).get? h3.objs.size=al {cls:=.type "tuple",data:=.seq #[.int i s.toks,x]}:=Ak _ rfl;generalize h3.push {cls:=.type "tuple",data:=.seq [Cu i s.toks,x].toArray}=h4 at kp GZ ⊢;have z4:=kp _ _ z3;refine Ab ?_;refine Ab (AG z4 rfl rfl ?_);refine Ae ?_;refine Ab (CY ?_);refine Ab (AG z4 rfl rfl ?_);refine Ab (AU z4 (show 5 < 6 by decide) λh5 z5 b5=>?_);refine Ab ?_;refine Ab (AU z5 (show 0 < 6 by decide) λh6 z6 b6=>?_);refine AU z6 (show 1 < 6 by decide) λh7 z7 b7=>?_;refine Ab (CP ?_);have Hz:∀b,b≠e->h7.get? b=h4.get? b:=λb n=>(b7.2 b n).trans ((b6.2 b n).trans (b5.2 b n));have ne:s.heap.objs.size≠e:=λz=>by have:=Aj hz;rw[<- z]at this;exact AQ _ this
 refine Ae ⟨.ref h3.objs.size,rfl,?_⟩;rw[(b3.1.trans (b2.1.trans b1.1))]at z7 GZ ⊢;refine q h7 _ ?_ ?_ ?_ ?_
 .exact z7
 .obtain⟨o,eo,p⟩:=j1;refine⟨o,?_,p⟩;rw[Hz _ (Bu rM)];exact kp _ _ ((b3.2 _ (Bu rM)).trans ((b2.2 _ (Bu rM)).trans eo))
 .rw[SC,Hz _ ne];exact GZ
 .intro c o n1 n2 ec;rw[Hz _ n1];exact kp _ _ (((λb n1 n2=>(b3.2 b n1).trans ((b2.2 b n1).trans (b1.2 b n2))) _ n1 n2).trans ec)
def qV{t:db}{Q:PySem.Fin->gt->Prop}(hA:A.handled=bn)(hz:Ps s.heap e it i Ê)(hi:s.heap.IsTupleIter it t i)(ht:s.heap.IsTuple t items)(hx:items[i]?=bn)(q:∀(h':nn) (x:db),(∀c o,c≠it->s.heap.get? c=al o->h'.get? c=al o)->(∃o,h'.get? x=al o/\o.cls=.type "StopIteration")->E (.ref x) {s with heap:=h'}):f8 (lf prog w) A (Fk.«enumerate.__next__» {pos:=[.ref e]}) Q E s:=by
 show f8 _ _ (field (.ref e) 2 >>= λr=>_) _ _ s;exact Ab (AG hz rfl rfl (Ab (g9 hA hi ht hx λh' x k ex=>q h' x (λc o n e'=>k c o n e') ex)))
def lQ{t:db}{x:ce}{Q:Option ce->gt->Prop}(rM:e≠it)(ö:t≠e)(RH:t≠it)(hz:Ps s.heap e it i Ê)(hi:s.heap.IsTupleIter it t i)(ht:s.heap.IsTuple t items)(hx:items[i]?=al x)(q:∀(h':nn) (tk:Nat),IsEnumOut h' e it (i+1:Nat) x s.heap.objs.size->h'.IsTupleIter it t (i+1)->SC h' s.heap.objs.size (.int i s.toks) x->(∀c o,c≠e->c≠it->s.heap.get? c=al o->h'.get? c=al o)->Q (al (.ref s.heap.objs.size)) {s with heap:=h',toks:=tk}):f8 (lf prog w) A (pyNext (.ref e)) Q E s:=by
 have ty:s.TypeIs (.ref e) "enumerate":=⟨_,hz,rfl⟩;refine Ab (Ct (AZ ty Bz (Bw Bz ty CV ?_ (CM _))));exact o8 rM ö RH hz hi ht hx λh' tk a b c d=>Ae (q h' tk a b c d)
def m7{t:db}{Q:Option ce->gt->Prop}(hA:A.handled=bn)(hz:Ps s.heap e it i Ê)(hi:s.heap.IsTupleIter it t i)(ht:s.heap.IsTuple t items)(hx:items[i]?=bn)(q:∀h':nn,(∀c o,c≠it->s.heap.get? c=al o->h'.get? c=al o)->Q bn {s with heap:=h'}):f8 (lf prog w) A (pyNext (.ref e)) Q E s:=by
 have ty:s.TypeIs (.ref e) "enumerate":=⟨_,hz,rfl⟩;refine Ab (Ct (AZ ty Bz (Bw Bz ty CV ?_ (CM _))));refine qV hA hz hi ht hx λh' x k ex=>?_;obtain⟨o,eo,hc⟩:=ex;exact Ab (DT ⟨o,eo,hc⟩ isSubtype_stop (Ae (q h' k)))
def oT(t:db)(items:Array ce):Meets (Fk.«enumerate.__new__» {pos:=[.type "enumerate",.ref t]}) (λ_ R s=>s.heap.IsTuple t items/\
  ∀h':nn,Ps h' (s.heap.objs.size+1) s.heap.objs.size (0:Nat) .none->h'.IsTupleIter s.heap.objs.size t 0->(∀b o,s.heap.get? b=al o->h'.get? b=al o)->R (.ok (.ret (.ref (s.heap.objs.size+1)))) {s with heap:=h'}):=
 .of_wp λprog w A R s h=>by
  obtain⟨h1,q⟩:=h;refine Ab ?_;refine Ab (Cf rfl ?_);refine Ab (Cf sub_enumerate ?_);refine Ae ?_;refine Ab ?_;refine Ab (wpAny_stack_any λst=>Ae ?_);have fin:f8 (lf prog w) A.in1 (pyIter (.ref t) >>= λit=>(Builtin.SmallTypes.newRecord (.type "enumerate") (Builtin.SmallTypes.ownedTupleFields++[it,pr 0,.none,.none]) >>= λr=>ret r)) (λfin s'=>∃v,fin=FZ (Fc v)/\R (Except.ok (Fc v)) s') (λe s'=>R (GA e) s') s:=by
   refine Ab (EI h1 ?_);have k1:∀b o,s.heap.get? b=al o->(s.heap.push {cls:=.type "tuple_iterator",data:=.fields #[.ref t,.int 0 0]}).get? b=al o:=λb o e=>Ad _ e;have g1:(s.heap.push {cls:=.type "tuple_iterator",data:=.fields #[.ref t,.int 0 0]}).get? s.heap.objs.size=al {cls:=.type "tuple_iterator",data:=.fields #[.ref t,.int 0 0]}:=Ak _ rfl;have z1:(s.heap.push {cls:=.type "tuple_iterator",data:=.fields #[.ref t,.int 0 0]}).objs.size=s.heap.objs.size+1:=Bf ..;generalize s.heap.push {cls:=.type "tuple_iterator",data:=.fields #[.ref t,.int 0 0]}=rL at k1 g1 z1 ⊢;show f8 _ _ (newObj (.type "enumerate") (.fields #[.none,.bool false,.ref s.heap.objs.size,pr 0,.none,.none]) >>= λr=>ret r) _ _ _;refine Ab (BM ?_ (by simp[sizeOk];decide));have g2:(rL.push {cls:=.type "enumerate",data:=.fields #[.none,.bool false,.ref s.heap.objs.size,pr 0,.none,.none]}).get? rL.objs.size=al {cls:=.type "enumerate",data:=.fields #[.none,.bool false,.ref s.heap.objs.size,pr 0,.none,.none]}:=Ak _ rfl;refine Ae ⟨.ref rL.objs.size,rfl,?_⟩;rw[z1]at g2 ⊢;exact q _ g2 ⟨_,Ad _ g1,rfl,rfl⟩ λb o e=>Ad _ (k1 _ _ e)
  refine wpAny_ite_split (λ_=>?_) (λ_=>?_)
  .exact Ab (Cf rfl fin)
  .exact Ab (Cf rfl fin)
def HY{t:db}(h1:s.heap.IsTuple t items)(q:∀h':nn,Ps h' (s.heap.objs.size+1) s.heap.objs.size (0:Nat) .none->h'.IsTupleIter s.heap.objs.size t 0->(∀b o,s.heap.get? b=al o->h'.get? b=al o)->Q (.ref (s.heap.objs.size+1)) {s with heap:=h'}):f8 (lf prog w) A (call (.type "enumerate") [.ref t]) Q E s:=
 callType_new F.called_enumerate ⋯ (Fq _) (F.newCall_enumerate_1 _) (λo=>F.args_object_init_2 o _) F.entry_enumerate_new (oT t items) ⟨h1,λh' z i k=>⟨⟨_,z,rfl⟩,q h' z i k⟩⟩
def Ite(K:Aa)(a:db):It where
 go:=λi H=>∃xs x,dX K H a xs/\xs[i]?=al x
 Qa:=λi H v H'=>∃p x,v=.ref p/\H p=bn/\H'=upd H p (.tup [.int i,x])/\∀xs,dX K H a xs->xs[i]?=al x
 stop:=λi H=>∃xs,dX K H a xs/\xs.length<=i
theorem Kc{K:Aa}{t:db}(rM:e≠it)(ö:t≠e)(RH:t≠it):Turn P w K (.Tuple Ï kk pos) (Ite K t) [e,it] e (λi h=>(∃Ê,Ps h e it (i:Nat) Ê)/\h.IsTupleIter it t i) where
 mem:=by simp
 obj:=λi h st b hb=>by
  simp at hb;rcases hb with rfl|rfl
  .obtain⟨⟨_,e⟩,_⟩:=st;exact⟨_,e,λv z=>by cases z⟩
  .obtain⟨_,⟨o,e,_,d⟩⟩:=st;exact⟨o,e,λv z=>by rw[d]at z;cases z⟩
 keep:=λi h h' st k=>⟨let ⟨o,e'⟩:=st.1;⟨o,k e (by simp) _ e'⟩,let ⟨o,e',p⟩:=st.2;⟨o,k it (by simp) _ e',p⟩⟩
 item:=by
  intro X hP hw hK hc i Z s σ H E I hf st hg;subst hP hw hK;obtain⟨xs,x,hx,gx⟩:=hg;obtain⟨ax,rx,tx,_⟩:=I.tuple hx;obtain⟨u,gu,ru⟩:=lK rx gx;obtain⟨⟨Ê,hz⟩,hi⟩:=st;refine lQ rM ö RH hz hi tx (by simpa using gu) λh' tk zo j np k=>?_;refine⟨_,rfl,?_⟩;refine Dd zo λh2 z2 b2=>?_;have le:=Aj hz;have li:=let ⟨_,e',_⟩:=hi;Aj e';have lt:∀b∈[e,it],b<s.heap.objs.size:=λb hb=>by
   simp at hb;rcases hb with rfl|rfl
   .exact le
   .exact li
  have VP:∀b o,b∉[e,it]->s.heap.get? b=al o->h2.get? b=al o:=λb o hb e'=>by
   have Jw:b≠e:=λq=>hb (by simp[q]);rw[b2.2 b Jw];exact k b o Jw (λq=>hb (by simp[q])) e'
  refine⟨.ref s.heap.objs.size,upd H s.heap.objs.size (.tup [.int i,x]),I.lM hf VP (Ah _) ⟨by show 2<=sizeLine;decide,[.int i s.toks,u],.cons ⟨_,rfl⟩ (.cons ru .nil),⟨_,((b2.2 _ (λz=>AQ _ (by have:=le;rw[<- z]at this;exact this))).trans np),rfl,_,rfl⟩,_,((b2.2 _ (λz=>AQ _ (by have:=le;rw[<- z]at this;exact this))).trans np),rfl⟩,rfl,⟨_,x,rfl,(I.aX.fresh (Ah s.heap.objs.size)),rfl,λxs' h'=>by rw[I.jX h' hx];exact gx⟩,⟨⟨_,z2⟩,let ⟨o,e',p⟩:=j;⟨o,(b2.2 _ (Bu rM)).trans e',p⟩⟩,λb hb=>?_⟩;rw[ah (AD (lt b hb))];exact(hf b hb).1
 done:=by
  intro X hP hw hK hc i Z s σ H E I hf st hg;subst hP hw hK;obtain⟨xs,hx,hl⟩:=hg;obtain⟨ax,rx,tx,_⟩:=I.tuple hx;have el:=rx.length;obtain⟨⟨Ê,hz⟩,hi⟩:=st;refine m7 (I.ok.hd hc) hz hi tx (by simp;lia) λh' k=>⟨rfl,I.pA hf λb o hb e'=>k b o (λz=>hb (by simp[z])) e'⟩
 self:=λA i s Q E st h=>let ⟨_,e'⟩:=st.1;CC e' h
end L2
namespace My
def Tr.post:Tr->O Tr
 |.leaf x=>[.leaf x]
 |.node l r=>l.post++r.post++[.node l r]
def Tr.jz:∀t:Tr,t.post.length=t.size
 |.leaf _=>rfl
 |.node l r=>by show(l.post++r.post++[_]).length=l.size+r.size+1;rw[Ag,Ag,l.jz,r.jz];rfl
def gY(ts:O Tr):O Tr:=(ts.map Tr.post).flatten
def iI(a b:O Tr):gY (a++b)=gY a++gY b:=by unfold gY;rw[B1,List.flatten_append]
def ng(t:Tr):gY [t]=t.post:=by simp[gY]
def Kq(t u:Tr):gY [t,u]=t.post++u.post:=by simp[gY]
inductive Ent where
 |word (x:Str)
 |pair (a b:Nat)
def Tr.nd:Tr->Nat->O Ent
 |.leaf x,_=>[.word x]
 |.node l r,o=>l.nd o++r.nd (o+l.size)++[.pair (o+l.size-1) (o+l.size+r.size-1)]
def Tr.bH:∀(t:Tr) (o:Nat),(t.nd o).length=t.size
 |.leaf _,_=>rfl
 |.node l r,o=>by show(l.nd o++r.nd (o+l.size)++[_]).length=l.size+r.size+1;rw[Ag,Ag,l.bH,r.bH];rfl
def run:O Tr->O Ent->O Nat->Option (O Ent×O Nat)
 |[],À,ls=>al (À,ls)
 |.leaf x::k,À,ls=>run k (À++[.word x]) (À.length::ls)
 |.node _ _::k,À,b::a::ls=>run k (À++[.pair a b]) (À.length::ls)
 |.node _ _::_,_,_=>bn
theorem qc:∀(t:Tr) (k:O Tr) (À:O Ent) (ls:O Nat),run (t.post++k) À ls=run k (À++t.nd À.length) ((À.length+t.size-1)::ls)
 |.leaf x,k,À,ls=>rfl
 |.node l r,k,À,ls=>by
  have e1:(Tr.node l r).post++k=l.post++(r.post++(Tr.node l r::k)):=by show l.post++r.post++[_]++k=_;simp
  rw[e1,qc l,qc r];have e2:(À++l.nd À.length).length=À.length+l.size:=by rw[Ag,l.bH]
  rw[e2];show run k _ _=run k _ _;have e3:(À++l.nd À.length++r.nd (À.length+l.size)).length=À.length+(Tr.node l r).size-1:=by
   rw[Ag,Ag,l.bH,r.bH];show _=À.length+(l.size+r.size+1)-1;lia
  rw[e3];have e4:À++(Tr.node l r).nd À.length=À++l.nd À.length++r.nd (À.length+l.size)++[.pair (À.length+l.size-1) (À.length+l.size+r.size-1)]:=by
   show À++(l.nd À.length++r.nd (À.length+l.size)++[_])=_;simp
  rw[e4]
def Ko(t:Tr):run t.post [] []=al (t.nd 0,[t.size-1]):=by
 have:=qc t [] [] [];rw[A8]at this;rw[this];show al ([]++t.nd 0,[0+t.size-1])=_;simp
end My
namespace L2
def aaJ(K:Aa)(a:db):It where
 go:=λi H=>∃xs x,du K H a xs/\xs[i]?=al x
 Qa:=λi H v H'=>∃p x,v=.ref p/\H p=bn/\H'=upd H p (.tup [.int i,x])/\∀xs,du K H a xs->xs[i]?=al x
 stop:=λi H=>∃xs,du K H a xs/\xs.length<=i
theorem zE{K:Aa}{t:db}(rM:e≠it):Turn P w K (.Tuple Ï kk pos) (aaJ K t) [e,it] e (λi h=>(∃Ê,Ps h e it (i:Nat) Ê)/\h.IsListIter it t i) where
 mem:=by simp
 obj:=λi h st b hb=>by
  simp at hb;rcases hb with rfl|rfl
  .obtain⟨⟨_,e⟩,_⟩:=st;exact⟨_,e,λv z=>by cases z⟩
  .obtain⟨_,⟨o,e,_,d⟩⟩:=st;exact⟨o,e,λv z=>by rw[d]at z;cases z⟩
 keep:=λi h h' st k=>⟨let ⟨o,e'⟩:=st.1;⟨o,k e (by simp) _ e'⟩,let ⟨o,e',p⟩:=st.2;⟨o,k it (by simp) _ e',p⟩⟩
 item:=by
  intro X hP hw hK hc i Z s σ H E I hf st hg;subst hP hw hK;obtain⟨xs,x,hx,gx⟩:=hg;obtain⟨ax,rx,tx,_⟩:=I.list hx;obtain⟨u,gu,ru⟩:=lK rx gx;obtain⟨⟨Ê,hz⟩,hi⟩:=st;refine wpAny_pyNext_enum_item hz hi tx.isList (by simpa using gu) rM λh' zo j np _ k=>?_;refine⟨_,rfl,?_⟩;refine Dd zo λh2 z2 b2=>?_;have le:=Aj hz;have li:=let ⟨_,e',_⟩:=hi;Aj e';have lt:∀b∈[e,it],b<s.heap.objs.size:=λb hb=>by
   simp only[Au,BI,or_false]at hb;rcases hb with rfl|rfl
   .exact le
   .exact li
  have VP:∀b o,b∉[e,it]->s.heap.get? b=al o->h2.get? b=al o:=λb o hb e'=>by
   have Jw:b≠e:=λq=>hb (by simp[q]);rw[b2.2 b Jw];exact k b o Jw (λq=>hb (by simp[q])) e'
  refine⟨.ref s.heap.objs.size,upd H s.heap.objs.size (.tup [.int i,x]),I.lM hf VP (Ah _) ⟨by show 2<=sizeLine;decide,[.int i s.toks,u],.cons ⟨_,rfl⟩ (.cons ru .nil),⟨_,((b2.2 _ (λz=>AQ _ (by have:=le;rw[<- z]at this;exact this))).trans np),rfl,_,rfl⟩,_,((b2.2 _ (λz=>AQ _ (by have:=le;rw[<- z]at this;exact this))).trans np),rfl⟩,rfl,⟨_,x,rfl,(I.aX.fresh (Ah s.heap.objs.size)),rfl,λxs' h'=>by rw[I.yb h' hx];exact gx⟩,⟨⟨_,z2⟩,let ⟨o,e',p⟩:=j;⟨o,(b2.2 _ (Bu rM)).trans e',p⟩⟩,λb hb=>?_⟩;rw[ah (AD (lt b hb))];exact(hf b hb).1
 done:=by
  intro X hP hw hK hc i Z s σ H E I hf st hg;subst hP hw hK;obtain⟨xs,hx,hl⟩:=hg;obtain⟨ax,rx,tx,_⟩:=I.list hx;have el:=rx.length;obtain⟨⟨Ê,hz⟩,hi⟩:=st;refine wpAny_pyNext_enum_end (I.ok.hd hc) hz hi tx.isList (by simp;lia) λh' k=>⟨rfl,I.pA hf λb o hb e'=>k b o (λz=>hb (by simp[z])) e'⟩
 self:=λA i s Q E st h=>let ⟨_,e'⟩:=st.1;CC e' h
end L2
namespace My
def en:Tr->Nat->Nat->Ent
 |.leaf x,_,_=>.word x
 |.node l r,o,j=>if j<l.size then en l o j else if j<l.size+r.size then en r (o+l.size) (j-l.size) else .pair (o+l.size-1) (o+l.size+r.size-1)
def be:Tr->Nat->Nat->O Nat
 |.leaf _,o,_=>[o]
 |.node l r,o,j=>if j<l.size then be l o j else if j<l.size+r.size then be r (o+l.size) (j-l.size) else be l o (l.size-1)++be r (o+l.size) (r.size-1)
theorem qq:∀(t:Tr) (o j:Nat),j<t.size->(t.nd o)[j]?=al (en t o j)
 |.leaf x,o,j,h=>by
  have:j=0:=by have:j<1:=h;lia
  subst this;rfl
 |.node l r,o,j,h=>by
  have es:(Tr.node l r).size=l.size+r.size+1:=rfl;have hn:(Tr.node l r).nd o=l.nd o++r.nd (o+l.size)++[.pair (o+l.size-1) (o+l.size+r.size-1)]:=rfl;have ln:=l.bH o;have rn:=r.bH (o+l.size);unfold en;by_cases c1:j<l.size
  .rw[if_pos c1,hn,C9,A1 ∅];exact qq l o j c1
  .rw[if_neg c1];by_cases c2:j<l.size+r.size
   .rw[if_pos c2,hn,C9,A5 ∅,A1 ∅,ln];exact qq r _ _ ∅
   .rw[if_neg c2,hn,A5 (by rw[Ag];lia),Ag,ln,rn];have:j-(l.size+r.size)=0:=by lia
    rw[this];rfl
theorem Pk:∀(t:Tr) (o j:Nat),j<t.size->(∃x,en t o j=.word x/\be t o j=[o+j])\/∃a b,en t o j=.pair (o+a) (o+b)/\a<j/\b<j/\be t o j=be t o a++be t o b
 |.leaf x,o,j,h=>by
  have:j=0:=by have:j<1:=h;lia
  subst this;exact .inl ⟨x,rfl,rfl⟩
 |.node l r,o,j,h=>by
  have es:(Tr.node l r).size=l.size+r.size+1:=rfl;have lp:=l.size_pos;have rp:=r.size_pos;by_cases c1:j<l.size
  .have e1:en (.node l r) o j=en l o j:=by rw[en,if_pos c1]
   have e2:∀k,k<l.size->be (.node l r) o k=be l o k:=λk hk=>by rw[be,if_pos hk]
   rw[e1];rcases Pk l o j c1 with⟨x,q1,q2⟩|⟨a,b,q1,q2,q3,q4⟩
   .exact .inl ⟨x,q1,by rw[e2 j c1];exact q2⟩
   .exact .inr ⟨a,b,q1,q2,q3,by rw[e2 j c1,e2 a ∅,e2 b ∅];exact q4⟩
  .by_cases c2:j<l.size+r.size
   .have e1:en (.node l r) o j=en r (o+l.size) (j-l.size):=by rw[en,if_neg c1,if_pos c2]
    have e2:∀k,k<r.size->be (.node l r) o (l.size+k)=be r (o+l.size) k:=λk hk=>by
     rw[be,if_neg ∅,if_pos ∅];congr 1;lia
    have ej:j=l.size+(j-l.size):=by lia
    rw[e1];rcases Pk r (o+l.size) (j-l.size) ∅ with⟨x,q1,q2⟩|⟨a,b,q1,q2,q3,q4⟩
    .refine .inl ⟨x,q1,?_⟩;rw[ej,e2 _ ∅,q2];congr 1;lia
    .refine .inr ⟨l.size+a,l.size+b,?_,by lia,by lia,?_⟩
     .rw[q1,Gi,Gi]
     .rw[e2 a ∅,e2 b ∅,ej,e2 _ ∅,q4]
   .have ej:j=l.size+r.size:=by lia
    refine .inr ⟨l.size-1,l.size+r.size-1,?_,by lia,by lia,?_⟩
    .rw[en,if_neg c1,if_neg c2];congr 1<;>lia
    .rw[be,if_neg c1,if_neg c2,be,if_pos ∅,be,if_neg ∅,if_pos ∅];congr 2;lia
end My
variable{H1:L2.Hp}{ι:O AY}
namespace PL
section
variable{K:Aa}
def Pz(K:Aa)(H:Hp)(a:db)(xs:O V):Prop:=(∃o,H a=al (.cU o (.lst xs)))\/
  ∃(o:Obj) (ax:Array ce) (n:Nat),K.lookup a=al o/\o.cls=.type "list"/\o.dict=bn/\o.data=.seq ax n/\ax.size<=sizeLine/\Vals xs ax.toList
def Pz.sq(h:Pz K H a xs):du K H a xs:=h.elim (λh=>.inl (.inr h)) .inr
def aeL(b:db)(h:nn):Prop:=∃(ns:O Int) (ax:O ce) (n:Nat),ns.length<=sizeLine/\Vals (ns.map V.int) ax/\h.get? b=al {cls:=.type "list",data:=.seq ax.toArray n}
def gs(H:Hp)(b:db):Prop:=H b=al (.ext (aeL b))
def xk(h:∀p φ,H p=al (.ext φ)->H' p=al (.ext φ)):∀b,gs H b->gs H' b:=λ_ e=>h _ _ e
structure br(K:Aa)(H H':Hp):Prop where
 t:∀p vs,H p=al (.tup vs)->H' p=al (.tup vs)
 z:∀p o u,H p=al (.cU o u)->H' p=al (.cU o u)
 x:∀b,gs H b->gs H' b
def br.f{H H':Hp}(t:br K H H')(p:db)(vs:O V)(h:Pz K H p vs):Pz K H' p vs:=h.elim (λ⟨o,h⟩=>.inl ⟨o,t.z _ _ _ h⟩) .inr
def br.refl(H:Hp):br K H H:=⟨λ_ _ h=>h,λ_ _ _ h=>h,λ_ h=>h⟩
def br.trans(a:br K H H1)(b:br K H1 H2):br K H H2:=⟨λp vs h=>b.t p vs (a.t p vs h),λp o w h=>b.z p o w (a.z p o w h),λp h=>b.x p (a.x p h)⟩
def _root_.L2.fe.eU(s:fe H H'):br K H H':=⟨λp vs h=>s _ _ h,λp o u h=>s _ _ h,xk λp φ h=>s _ _ h⟩
inductive PV where
 |bx|bl (b:Bool)|int (i:Int)|str (x:Str)|tup (l:List PV)|ref (n:Nat)|ty (n:String)|cl (l:List PV)|dv (ks vs:List PV)|ob (ns:List Str) (l:List PV)|hand
def kP:Key->PV
 |.inl i=>.int i
 |.inr x=>.str x
inductive PO where
 |lst (xs:List PV)|dk (az:List (Key×PV))|dt (az:List (List Key×PV))|opq (φ:List V->Prop)
abbrev PH:=O PO
abbrev xr:=O (Option PV)
mutual
inductive VR(K:Aa)(ι:List db)(H:Hp):V->PV->Prop
 |bx:VR K ι H .bx .bx
 |bl (b:Bool):VR K ι H (.bl b) (.bl b)
 |int (i:Int):VR K ι H (.int i) (.int i)
 |str (x:Str):VR K ι H (.str x) (.str x)
 |ty (n:String):VR K ι H (.ty n) (.ty n)
 |tup {p:db}{vs:List V}{l:List PV} (h:H p=al (.tup vs)) (r:aL K ι H vs l):VR K ι H (.ref p) (.tup l)
 |ref {n:Nat}{a:db} (h:ι[n]?=al a):VR K ι H (.ref a) (.ref n)
 |cl {a:db}{vs:List V}{l:List PV} (h:Pz K H a vs) (r:aL K ι H vs l):VR K ι H (.ref a) (.cl l)
 |dk {a:db}{o:Obj}{az:List (Key×V)}{ks l:List PV} (h:H a=al (.cU o (.dK az))) (e:ks=az.map λkv=>kP kv.1) (r:aL K ι H (az.map (·.2)) l):VR K ι H (.ref a) (.dv ks l)
 |dt {a:db}{o:Obj}{az:List (List Key×V)}{ks l:List PV} (h:H a=al (.cU o (.dT az))) (e:ks=az.map λkv=>.tup (kv.1.map kP)) (r:aL K ι H (az.map (·.2)) l):VR K ι H (.ref a) (.dv ks l)
 |ob {a C dx:db}{o:Obj}{fs:List (Str×V)}{ns:List Str}{l:List PV} (h:H a=al (.cU o (.ins C dx fs))) (c:J4 K C) (na:∀f∈ns,fj K C f) (e:ns=fs.map (·.1)) (r:aL K ι H (fs.map (·.2)) l):VR K ι H (.ref a) (.ob ns l)
 |hand {a:db} (h:gs H a):VR K ι H (.ref a) .hand
inductive aL(K:Aa)(ι:List db)(H:Hp):List V->List PV->Prop
 |nil:aL K ι H [] []
 |cons {v:V}{p:PV}{vs:List V}{ps:List PV} (r:VR K ι H v p) (t:aL K ι H vs ps):aL K ι H (v::vs) (p::ps)
end
section
variable{ι':O db}
mutual
theorem VR.mono(ht:br K H H')(hi:∀(n:Nat) (a:db),ι[n]?=al a->ι'[n]?=al a):∀{v:V}{p:PV},VR K ι H v p->VR K ι' H' v p
 |_,_,.bx=>.bx
 |_,_,.bl b=>.bl b
 |_,_,.int i=>.int i
 |_,_,.str x=>.str x
 |_,_,.ty n=>.ty n
 |_,_,.tup h r=>.tup (ht.t _ _ h) (aL.mono ht hi r)
 |_,_,.cl h r=>.cl (ht.f _ _ h) (aL.mono ht hi r)
 |_,_,.dk h e r=>.dk (ht.z _ _ _ h) e (aL.mono ht hi r)
 |_,_,.dt h e r=>.dt (ht.z _ _ _ h) e (aL.mono ht hi r)
 |_,_,.ob h c na e r=>.ob (ht.z _ _ _ h) c na e (aL.mono ht hi r)
 |_,_,.ref h=>.ref (hi _ _ h)
 |_,_,.hand h=>.hand (ht.x _ h)
theorem aL.mono(ht:br K H H')(hi:∀(n:Nat) (a:db),ι[n]?=al a->ι'[n]?=al a):∀{vs:O V}{ps:O PV},aL K ι H vs ps->aL K ι' H' vs ps
 |_,_,.nil=>.nil
 |_,_,.cons r t=>.cons (VR.mono ht hi r) (aL.mono ht hi t)
end
theorem aL.length:∀{vs:O V}{ps:O PV},aL K ι H vs ps->vs.length=ps.length
 |_,_,.nil=>rfl
 |_,_,.cons _ t=>by rw[Ap,Ap,aL.length t]
theorem aL.get:∀{vs:O V}{ps:O PV}{i:Nat}{p:PV},aL K ι H vs ps->ps[i]?=al p->∃v,vs[i]?=al v/\VR K ι H v p
 |_,_,_,_,.nil,e=>by simp at e
 |_,_,0,_,.cons r _,e=>by simp at e;subst e;exact⟨_,rfl,r⟩
 |_,_,i+1,p,.cons _ t,e=>by
  obtain⟨v,h1,h2⟩:=aL.get t (by simpa using e);exact⟨v,by simpa using h1,h2⟩
theorem aL.set{p:PV}(r:VR K ι H v p):∀{vs:O V}{ps:O PV} (i:Nat),aL K ι H vs ps->aL K ι H (vs.set i v) (ps.set i p)
 |_,_,_,.nil=>.nil
 |_,_,0,.cons _ t=>.cons r t
 |_,_,i+1,.cons q t=>.cons q (aL.set r i t)
theorem aL.append:∀{xs ys:O V}{us ws:O PV},aL K ι H xs us->aL K ι H ys ws->aL K ι H (xs++ys) (us++ws)
 |_,_,_,_,.nil,s=>s
 |_,_,_,_,.cons r t,s=>.cons r (aL.append t s)
theorem aL.take:∀{xs:O V}{us:O PV} (n:Nat),aL K ι H xs us->aL K ι H (xs.take n) (us.take n)
 |_,_,0,_=>.nil
 |_,_,_+1,.nil=>.nil
 |_,_,n+1,.cons r t=>.cons r (aL.take n t)
theorem aL.drop:∀{xs:O V}{us:O PV} (n:Nat),aL K ι H xs us->aL K ι H (xs.drop n) (us.drop n)
 |_,_,0,r=>r
 |_,_,_+1,.nil=>.nil
 |_,_,n+1,.cons _ t=>aL.drop n t
theorem aL.reverse:∀{xs:O V}{us:O PV},aL K ι H xs us->aL K ι H xs.reverse us.reverse
 |_,_,.nil=>.nil
 |_,_,.cons r t=>by rw[DL,DL];exact(aL.reverse t).append (.cons r .nil)
def aL.one{p:PV}(r:VR K ι H v p):aL K ι H [v] [p]:=.cons r .nil
end
structure Go(ι ι':List db)(H H':Hp):Prop where
 ext:∃m,ι'=ι++m
 new:∀a,a∈ι'->a∉ι->H a=bn
 keep:∀a o,a∉ι->H a=al o->H' a=al o
def Go.refl(ι:O db)(H:Hp):Go ι ι H H:=⟨⟨[],by simp⟩,λa h n=>absurd h n,λ_ _ _ h=>h⟩
def OR(K:Aa)(ι:O db)(H:Hp)(a:db):PO->Prop
 |.lst xs=>∃vs,H a=al (.lst vs)/\aL K ι H vs xs
 |.dk az=>∃vs:O (Key×V),H a=al (.dK vs)/\vs.map (·.1)=az.map (·.1)/\aL K ι H (vs.map (·.2)) (az.map (·.2))
 |.dt az=>∃vs:O (O Key×V),H a=al (.dT vs)/\vs.map (·.1)=az.map (·.1)/\aL K ι H (vs.map (·.2)) (az.map (·.2))
 |.opq φ=>∃vs,H a=al (.lst vs)/\φ vs
structure HR(K:Aa)(ι:List db)(H:Hp)(h:PH):Prop where
 nd:ι.Nodup
 len:ι.length=h.length
 obj:∀(n:Nat) (a:db) (o:PO),ι[n]?=al a->h[n]?=al o->OR K ι H a o
end
end PL
variable{a e:BV}
namespace PL
section
variable{K:Aa}
abbrev QV:=PV->PH->Prop
structure ME where
 run:xr->PH->QV->Prop
 mono:∀{ps h}{Q Q':QV},(∀v h',Q v h'->Q' v h')->run ps h Q->run ps h Q'
structure MT where
 run:xr->PH->(Bool->PH->Prop)->Prop
 mono:∀{ps h}{Q Q':Bool->PH->Prop},(∀v h',Q v h'->Q' v h')->run ps h Q->run ps h Q'
structure MA where
 run:xr->PH->(List PV->PH->Prop)->Prop
 mono:∀{ps h}{Q Q':List PV->PH->Prop},(∀v h',Q v h'->Q' v h')->run ps h Q->run ps h Q'
structure ML where
 run:xr->PH->(List PV->PH->Prop)->Prop
 mono:∀{ps h}{Q Q':List PV->PH->Prop},(∀v h',Q v h'->Q' v h')->run ps h Q->run ps h Q'
structure Src where
 items:List PV
 ok:PH->Prop
 fz:Bool
structure MI where
 run:xr->PH->(Src->PH->Prop)->Prop
 mono:∀{ps h}{Q Q':Src->PH->Prop},(∀v h',Q v h'->Q' v h')->run ps h Q->run ps h Q'
structure PD where
 nx:xr->PH->Prop
 rt:QV
 bk:xr->PH->Prop
 ct:xr->PH->Prop
structure PD.Le(D D':PD):Prop where
 nx:∀ps h,D.nx ps h->D'.nx ps h
 rt:∀v h,D.rt v h->D'.rt v h
 bk:∀ps h,D.bk ps h->D'.bk ps h
 ct:∀ps h,D.ct ps h->D'.ct ps h
structure MS where
 run:PD->xr->PH->Prop
 mono:∀{D D' ps h},PD.Le D D'->run D ps h->run D' ps h
structure MG where
 run:PV->xr->PH->(xr->PH->Prop)->Prop
 mono:∀{v ps h}{Q Q':xr->PH->Prop},(∀ps h,Q ps h->Q' ps h)->run v ps h Q->run v ps h Q'
def pQ(K:Aa)(ι:O db)(H:Hp)(Q:VK):QV:=λp h'=>∀ι' v H',Go ι ι' H H'->HR K ι' H' h'->VR K ι' H' v p->Q v H'
def PE.imp{t t':TE}(h:PE X e t)(f:∀σ H Q,t' σ H Q->t σ H Q):PE X e t':=λZ s σ H Q I q=>h Z s σ H Q I (f _ _ _ q)
def PT.imp{t t':TT}(h:PT X e t)(f:∀σ H Q,t' σ H Q->t σ H Q):PT X e t':=λZ s σ H Q I q=>h Z s σ H Q I (f _ _ _ q)
def PW.imp{t t':TT}(h:PW X e t)(f:∀σ H Q,t' σ H Q->t σ H Q):PW X e t':=λw Z s σ H Q I q=>h w Z s σ H Q I (f _ _ _ q)
def PA.imp{e:O pc}{t t':TA}(h:PA X e t)(f:∀σ H Q,t' σ H Q->t σ H Q):PA X e t':=λpos Z s σ H Q I q=>h pos Z s σ H Q I (f _ _ _ q)
def PS.imp{e:ut}{t t':TS}(h:PS X e t)(f:∀D σ H,t' D σ H->t D σ H):PS X e t':=λZ s σ H D I q=>h Z s σ H D I (f _ _ _ q)
def nY.imp{e:O ut}{t t':TS}(h:nY X e t)(f:∀D σ H,t' D σ H->t D σ H):nY X e t':=λZ s σ H D I q=>h Z s σ H D I (f _ _ _ q)
def PG.imp{t t':TG}(h:PG X e t)(f:∀v σ H Q,t' v σ H Q->t v σ H Q):PG X e t':=λZ s σ H v u Q I r q=>h Z s σ H v u Q I r (f _ _ _ _ q)
def PI.imp{t t':TI}(h:PI X tg e t)(f:∀σ H Q,t' σ H Q->t σ H Q):PI X tg e t':=λZ s σ H R I q=>h Z s σ H R I (f _ _ _ q)
section
abbrev P2:=PV->PV->PH->QV->Prop
structure M2 where
 f:P2
 mono:∀{x y h}{Q Q':QV},(∀v h',Q v h'->Q' v h')->f x y h Q->f x y h Q'
def M2.Ok(K:Aa)(r:R2)(m:M2):Prop:=∀{ι H h u v x y Q},HR K ι H h->VR K ι H u x->VR K ι H v y->m.f x y h (pQ K ι H Q)->r u v H Q
end
end
section
variable{K:Aa}
section
def jI:∀{vs:O V}{l:O PV},aL K ι H vs l->(!l.isEmpty)=!vs.isEmpty
 |_,_,.nil=>rfl
 |_,_,.cons _ _=>rfl
structure MQ where
 run:xr->PH->(Src->PH->Prop)->Prop
 mono:∀{ps h}{Q Q':Src->PH->Prop},(∀v h',Q v h'->Q' v h')->run ps h Q->run ps h Q'
end
end
section
structure MGs where
 run:List PV->xr->PH->(xr->PH->Prop)->Prop
 mono:∀{v ps h}{Q Q':xr->PH->Prop},(∀ps h,Q ps h->Q' ps h)->run v ps h Q->run v ps h Q'
end
section
variable{K:Aa}
section
structure ux where
 f:List PV->PH->QV->Prop
 mono:∀{l h}{Q Q':QV},(∀v h',Q v h'->Q' v h')->f l h Q->f l h Q'
def ux.Ok(K:Aa)(r:O V->Hp->VK->Prop)(m:ux):Prop:=∀{ι H h vs l Q},HR K ι H h->aL K ι H vs l->m.f l h (pQ K ι H Q)->r vs H Q
end
end
end PL
variable{g':Int->Int->L2.V}{g:Int->Int->PL.PV}
namespace PL
section
variable{K:Aa}
def aI(g:Int->Int->PV):M2:=⟨λx y h Q=>match x,y with|.int i,.int j=>Q (g i j) h|_,_=>False,λf q=>by
 revert q
 split
 .exact f _ _
 .exact λz=>z⟩
def WX(C:Int->Int->Prop)(g:Int->Int->PV):M2:=⟨λx y h Q=>match x,y with|.int i,.int j=>C i j/\Q (g i j) h|_,_=>False,λf q=>by
 revert q
 split
 .exact λq=>⟨q.1,f _ _ q.2⟩
 .exact λz=>z⟩
def zb(hg:∀ι H i j,VR K ι H (g' i j) (g i j)):M2.Ok K (QC g') (aI g):=by
 intro ι H h u v x y Q hr hu hv q;unfold aI at q;dsimp only at q;revert q
 split
 .intro q;cases hu;cases hv;exact⟨_,_,rfl,rfl,q ι _ H (Go.refl _ _) hr (hg _ _ _ _)⟩
 .exact AV
def wU{C:Int->Int->Prop}(hg:∀ι H i j,VR K ι H (g' i j) (g i j)):M2.Ok K (rI C g') (WX C g):=by
 intro ι H h u v x y Q hr hu hv q;unfold WX at q;dsimp only at q;revert q
 split
 .intro q;cases hu;cases hv;exact⟨_,_,rfl,rfl,q.1,q.2 ι _ H (Go.refl _ _) hr (hg _ _ _ _)⟩
 .exact AV
def GY:=aI λi j=>.int (i-j)
def jB:=WX GM λi j=>.int (i*j)
def oDiv:=WX PQ λi j=>.int (i / j)
def oMod:=WX (λ_ j=>0<j) λi j=>.int (i % j)
def rY:=WX PN λi j=>.int (i ^ j.toNat)
def oLt:=aI λi j=>.bl (decide (i<j))
def oLe:=aI λi j=>.bl (decide (i<=j))
def oGt:=aI λi j=>.bl (decide (j<i))
def oGe:=aI λi j=>.bl (decide (j<=i))
section
def aL.iM:∀{vs:O V}{l:O PV},aL K ι H vs l->(vs=[]↔l=[])
 |_,_,.nil=>by simp
 |_,_,.cons _ _=>by simp
end
mutual
def PV.dat:PV->Bool
 |.tup l=>sP l
 |.ref _=>false
 |.ty _=>false
 |.cl _=>false
 |.dv _ _=>false
 |.ob _ _=>false
 |.hand=>false
 |_=>true
def sP:O PV->Bool
 |[]=>true
 |x::l=>x.dat&&sP l
end
end
section
variable{K:Aa}
section
def PV.jk:PV->Bool
 |.bx=>true
 |_=>false
def vk:M2:=⟨λx y h Q=>match y with|.bx=>Q (.bl x.jk) h|_=>False,λf q=>by
 revert q
 split
 .exact f _ _
 .exact λz=>z⟩
def xS:M2:=⟨λx y h Q=>match y with|.bx=>Q (.bl (!x.jk)) h|_=>False,λf q=>by
 revert q
 split
 .exact f _ _
 .exact λz=>z⟩
def tZ{x:PV}(h:VR K ι H v x):decide (v=.bx)=x.jk:=by cases h<;>simp[PV.jk]
def Ra:M2.Ok K (λx y H Q=>y=.bx/\Q (.bl (decide (x=.bx))) H) vk:=by
 intro ι H h u v x y Q hr hu hv q;cases hv with
 |bx=>exact⟨rfl,q ι _ H (Go.refl _ _) hr (by rw[tZ hu];exact .bl _)⟩
 |_=>exact q.elim
def Nr:M2.Ok K (λx y H Q=>y=.bx/\Q (.bl (!decide (x=.bx))) H) xS:=by
 intro ι H h u v x y Q hr hu hv q;cases hv with
 |bx=>exact⟨rfl,q ι _ H (Go.refl _ _) hr (by rw[tZ hu];exact .bl _)⟩
 |_=>exact q.elim
end
end
end PL
variable{l:O PL.PV}
namespace PL
section
variable{K:Aa}
section
def Mw{v':V}{w:ce}(h:RelV v w)(h':RelV v' w):v=v':=Option.some.inj (h.abs.symm.trans h'.abs)
end
section
variable{c:pc}
def mIx(a:MQ)(b:ME):ME:=⟨λps h Q=>a.run ps h λS h1=>b.run ps h1 λy h2=>match y with
 |.int k=>S.ok h2/\match fB S.items k with|some v=>Q v h2|none=>False
 |_=>False,λf q=>a.mono (λ_ _ q=>b.mono (λ_ _ q=>by
  revert q
  split
  .rintro⟨q0,q⟩;refine⟨q0,?_⟩;revert q
   split
   .exact f _ _
   .exact λz=>z
  .exact λz=>z) q) q⟩
def aL.fB(r:aL K ι H vs l){k:Int}{p:PV}(e:L2.fB l k=al p):∃v,L2.fB vs k=al v/\VR K ι H v p:=by
 unfold L2.fB at e ⊢;rw[r.length];cases z:sC l.length k with
 |none=>rw[z]at e;cases e
 |some j=>
  rw[z]at e;exact r.get e
def Nt:M2:=⟨λx y h Q=>match x,y with
 |.str z,.int k=>z.length<=sizeLine/\match L2.fB z.cps.toList k with|some c=>Q (.str ⟨#[c]⟩) h|none=>False
 |_,_=>False,λf q=>by
  revert q
  split
  .rintro⟨q0,q⟩;refine⟨q0,?_⟩;revert q
   split
   .exact f _ _
   .exact λz=>z
  .exact λz=>z⟩
def Q9:M2.Ok K U6 Nt:=by
 intro ι H h u v x y Q hr hu hv q;unfold Nt at q;dsimp only at q;revert q
 split
 .rename_i z k;rintro⟨q0,q⟩;cases hu;cases hv;cases e:L2.fB z.cps.toList k with
  |none=>rw[e]at q;exact q.elim
  |some c=>rw[e]at q;exact⟨z,k,c,rfl,rfl,q0,e,q ι _ H (Go.refl _ _) hr (.str _)⟩
 .exact AV
def dF:ux:=⟨λl h Q=>match l with
 |[.str y]=>y.length<=sizeLine/\Q (.int y.length) h
 |[.tup l]=>Q (.int l.length) h
 |[.cl l]=>Q (.int l.length) h
 |[.ref n]=>match h[n]? with
  |some (.lst xs)=>Q (.int xs.length) h
  |_=>False
 |_=>False,λf q=>by
  revert q
  split
  .exact λq=>⟨q.1,f _ _ q.2⟩
  .exact f _ _
  .exact f _ _
  .split
   .exact f _ _
   .exact λz=>z
  .exact λz=>z⟩
def Sj(K:Aa):ux.Ok K (U3 K) dF:=by
 intro ι H h vs l Q hr hv q;unfold dF at q;dsimp only at q;revert q
 split
 .intro q;cases hv with
  |cons x t=>cases t;cases x;exact⟨_,_,rfl,⟨q.1,rfl⟩,q.2 ι _ H (Go.refl _ _) hr (.int _)⟩
 .intro q;cases hv with
  |cons x t=>
   cases t;cases x with
   |tup e r=>exact⟨_,_,rfl,.inr ⟨_,dX.of e,r.length.symm⟩,q ι _ H (Go.refl _ _) hr (.int _)⟩
 .intro q;cases hv with
  |cons x t=>
   cases t;cases x with
   |cl e r=>exact⟨_,_,rfl,.inl ⟨_,e.sq,r.length.symm⟩,q ι _ H (Go.refl _ _) hr (.int _)⟩
 .rename_i n;cases hv with
  |cons x t=>
   cases t;cases x with
   | @ref _ a e=>
   split
   .rename_i xs hn;intro q;obtain⟨ws,e1,e2⟩:=hr.obj n a _ e hn;exact⟨_,_,rfl,.inl ⟨ws,du.of e1,e2.length.symm⟩,q ι _ H (Go.refl _ _) hr (.int _)⟩
   .exact AV
 .exact AV
inductive Kd where
 |str|tup|int|bool
def Kd.name:Kd->String
 |.str=>"str" | .tup=>"tuple" | .int=>"int" | .bool=>"bool"
def Kd.is:Kd->PV->Bool
 |.str,.str _=>true
 |.tup,.tup _=>true
 |.int,.int _=>true
 |.int,.bl _=>true
 |.bool,.bl _=>true
 |_,_=>false
def YF(K:Aa):O V->Hp->VK->Prop:=λxs H Q=>∃x c t b,xs=[x,.ty c]/\(jW K H x t\/(t=.type "tuple"/\∃a vs,x=.ref a/\dX K H a vs))/\AJ K t (.type c)=al b/\Q (.bl b) H
def Lu(K:Aa)(hK:X.K=K):bP X (.builtin "isinstance") (YF K):=by
 subst hK;intro Z s σ H xs us Q I r h;obtain⟨x,c,t,b,rfl,ty|⟨rfl,a,vs,rfl,hT⟩,e,q⟩:=h
 .exact gJ Z s σ H _ us Q I r ⟨x,c,t,b,rfl,ty,e,q⟩
 .obtain⟨u,w,rfl,r1,r2⟩:=vals2 r;cases r1;cases r2;obtain⟨ax,_,⟨o,h1,h2,_⟩,_⟩:=I.tuple hT;exact Bb Gm I.fm ⟨o,h1,h2⟩ e (λz=>nomatch z) λtk=>⟨.bl b,H,I.tok _,rfl,q⟩
def gF(K:Aa):(∀k:Kd,AJ K (.type "NoneType") (.type k.name)=al false)/\(∀k:Kd,AJ K (.type "list") (.type k.name)=al false)/\(∀k:Kd,AJ K (.type "dict") (.type k.name)=al false):=
 ⟨λk=>by cases k<;>kernel_rfl,λk=>by cases k<;>kernel_rfl,λk=>by cases k<;>kernel_rfl⟩
def NU(K:Aa)(b:Bool)(k:Kd):AJ K (.type "bool") (.type k.name)=al (k.is (.bl b)):=by cases k <;> kernel_rfl
def pG(K:Aa)(b:Int)(k:Kd):AJ K (.type "int") (.type k.name)=al (k.is (.int b)):=by cases k <;> kernel_rfl
def Jt(K:Aa)(b:Str)(k:Kd):AJ K (.type "str") (.type k.name)=al (k.is (.str b)):=by cases k <;> kernel_rfl
def Js(K:Aa)(b:O PV)(k:Kd):AJ K (.type "tuple") (.type k.name)=al (k.is (.tup b)):=by cases k <;> kernel_rfl
def y8:ux:=⟨λl h Q=>match l with|[.int i]=>Q (.int (if i<0 then -i else i)) h|_=>False,λf q=>by
 revert q
 split
 .exact f _ _
 .exact λz=>z⟩
def Sl:ux.Ok K (λxs H Q=>∃i,xs=[.int i]/\Q (.int (if i<0 then -i else i)) H) y8:=by
 intro ι H h vs l Q hr hv q;unfold y8 at q;dsimp only at q;revert q
 split
 .intro q;cases hv with
  |cons x t=>cases t;cases x;exact⟨_,rfl,q ι _ H (Go.refl _ _) hr (.int _)⟩
 .exact AV
def y7:ux:=⟨λl h Q=>match l with|[.int i]=>Q (.int i) h|[.bl k]=>Q (.int (if k then 1 else 0)) h|_=>False,λf q=>by
 revert q
 split
 .exact f _ _
 .exact f _ _
 .exact λz=>z⟩
def Sk:ux.Ok K (λxs H Q=>(∃i,xs=[.int i]/\Q (.int i) H)\/∃k,xs=[.bl k]/\Q (.int (if k then 1 else 0)) H) y7:=by
 intro ι H h vs l Q hr hv q;unfold y7 at q;dsimp only at q;revert q
 split
 .intro q;cases hv with
  |cons x t=>cases t;cases x;exact .inl ⟨_,rfl,q ι _ H (Go.refl _ _) hr (.int _)⟩
 .intro q;cases hv with
  |cons x t=>cases t;cases x;exact .inr ⟨_,rfl,q ι _ H (Go.refl _ _) hr (.int _)⟩
 .exact AV
def Ly:ux:=⟨λl h Q=>match l with|[.int i,.int j]=>Q (.int (if j > i then j else i)) h|_=>False,λf q=>by
 revert q
 split
 .exact f _ _
 .exact λz=>z⟩
def Pl:ux:=⟨λl h Q=>match l with|[.int i,.int j]=>Q (.int (if j<i then j else i)) h|_=>False,λf q=>by
 revert q
 split
 .exact f _ _
 .exact λz=>z⟩
def Si:ux.Ok K (λxs H Q=>∃i j,xs=[.int i,.int j]/\Q (.int (if j > i then j else i)) H) Ly:=by
 intro ι H h vs l Q hr hv q;unfold Ly at q;dsimp only at q;revert q
 split
 .intro q;cases hv with
  |cons x t=>cases t with
   |cons y t=>cases t;cases x;cases y;exact⟨_,_,rfl,q ι _ H (Go.refl _ _) hr (.int _)⟩
 .exact AV
def Sg:ux.Ok K (λxs H Q=>∃i j,xs=[.int i,.int j]/\Q (.int (if j<i then j else i)) H) Pl:=by
 intro ι H h vs l Q hr hv q;unfold Pl at q;dsimp only at q;revert q
 split
 .intro q;cases hv with
  |cons x t=>cases t with
   |cons y t=>cases t;cases x;cases y;exact⟨_,_,rfl,q ι _ H (Go.refl _ _) hr (.int _)⟩
 .exact AV
end
end
section
variable{K:Aa}
section
def MB(K:Aa):O V->Hp->VK->Prop:=λxs H Q=>∃p ys,xs=[.ref p]/\((du K H p ys/\kr H (.tup ys) Q)\/(dX K H p ys/\Q (.ref p) H))
def Ln(K:Aa)(hK:X.K=K):bP X (.type "tuple") (MB K):=by
 subst hK;exact kM.mono λxs H Q ⟨p,ys,e,h⟩=>⟨p,ys,e,h.imp (λ⟨h1,h2⟩=>⟨h1,λl hl=>h2.at l hl⟩) λz=>z⟩
theorem uo:∀{bs:O Bool}{vs:O V},aL K ι H vs (bs.map PV.bl)->vs=bs.map V.bl
 |[],_,h=>by cases h;rfl
 |b::bs,_,h=>by
  cases h with
  |cons x t=>cases x;rw[uo t];rfl
structure MQL where
 run:xr->PH->(Src->PH->Prop)->Prop
 mono:∀{ps h}{Q Q':Src->PH->Prop},(∀v h',Q v h'->Q' v h')->run ps h Q->run ps h Q'
structure MO where
 run:xr->PH->(Option Int->PH->Prop)->Prop
 mono:∀{ps h}{Q Q':Option Int->PH->Prop},(∀v h',Q v h'->Q' v h')->run ps h Q->run ps h Q'
def PO.imp{e:Option pc}{t t':TO}(h:L2.PO X e t)(f:∀σ H Q,t' σ H Q->t σ H Q):L2.PO X e t':=λZ s σ H Q I q=>h Z s σ H Q I (f _ _ _ q)
def jU(xs:O PV)(lo hi:Option Int):O PV:=(xs.drop (HT.tG xs.length 0 lo)).take (HT.tG xs.length xs.length hi-HT.tG xs.length 0 lo)
def aL.cut(r:aL K ι H vs l)(lo hi:Option Int):aL K ι H (Lk vs lo hi) (jU l lo hi):=by
 unfold Lk jU;rw[r.length];exact(r.drop _).take _
end
end
end PL
variable{e1:BV}{t1:L2.TE}{tp:Cv}
namespace PL
section
variable{K:Aa}
section
variable{c:pc}
def jJ(lo:Int)(n:Nat):O PV:=(AW n).map λ(i:Nat)=>.int (lo+(i:Int))
def kb(lo:Int)(n:Nat):(jJ lo n).length=n:=by unfold jJ;simp
def nH{lo:Int}{p:PV}(h:(jJ lo n)[i]?=al p):i<n/\p=.int (lo+i):=by
 unfold jJ at h;rw[An]at h;cases z:(AW n)[i]? with
 |none=>rw[z]at h;cases h
 |some k=>
  rw[z]at h;obtain⟨h1,h2⟩:=Al.mp z;simp at h1 h2;subst h2;exact⟨h1,(Option.some.inj h).symm⟩
def Qt(i:Int):Prop:=-(2 ^ 62)<=i/\i<2 ^ 62
def abd(m:MA):MI:=⟨λps h Q=>m.run ps h λl h1=>match l with|[.int j]=>Qt j/\Q ⟨jJ 0 j.toNat,λ_=>True,false⟩ h1|_=>False,λf q=>m.mono (λl h1 q=>by
 revert q
 split
 .exact λq=>⟨q.1,f _ _ q.2⟩
 .exact λz=>z) q⟩
def fw(k:Nat):O PV->O PV
 |[]=>[]
 |x::l=>.tup [.int (k:Int),x]::fw (k+1) l
theorem dA:∀(k:Nat) (l:O PV),(fw k l).length=l.length
 |_,[]=>rfl
 |k,x::l=>by rw[fw,Ap,Ap,dA]
theorem ip:∀{k:Nat}{l:O PV}{i:Nat}{p:PV},(fw k l)[i]?=al p->∃x,l[i]?=al x/\p=.tup [.int ((k+i:Nat):Int),x]
 |_,[],_,_,h=>by simp[fw]at h
 |k,x::l,0,p,h=>by simp[fw]at h;subst h;exact⟨x,rfl,by simp⟩
 |k,x::l,i+1,p,h=>by
  obtain⟨y,h1,h2⟩:=ip (by simpa[fw]using h);exact⟨y,by simpa using h1,by rw[h2,show k+1+i=k+(i+1) by lia]⟩
def V3(K:Aa)(t1:TE):TI:=λσ H R=>t1 σ H λx H1=>∃a,x=.ref a/\(((∃xs,du K H1 a xs)/\R (aaJ K a) H1)\/((∃xs,dX K H1 a xs)/\R (Ite K a) H1))
def M4{X:Cx}(K:Aa)(hK:X.K=K)(hg:Gl X "enumerate")(hm:X.mg "enumerate"=bn)(h1:PE X e1 t1)(my:‹dY X e1 []›):PI X (.Tuple Ï kk tp) (.Call (.Name "enumerate" p1) [e1] [] p2) (V3 K t1):=by
 subst hK;intro Z s σ H R I h;refine AM (gc I hg hm boot_enumerate ?_ ⋯ ⋯);refine A9 ?_ my rfl;rw[my];refine A7 (bp (h1 Z s σ H _ I h) λu1 s1 ⟨x,H1,I1,r1,a,ex,hh⟩=>BL ?_);subst ex;cases r1;have d1:s1.heap.objs.size+1≠s1.heap.objs.size:=Nat.succ_ne_self _;rcases hh with⟨⟨xs,hx⟩,q⟩|⟨⟨xs,hx⟩,q⟩
 .obtain⟨ax,rx,tx,_⟩:=I1.list hx;refine call_enumerate_list tx.isList λh' ze hi _ k=>?_;refine CC ze ?_;refine⟨_,_,_,_,H1,rfl,I1.kept k,zE d1,⟨⟨_,ze⟩,hi⟩,λc hc=>?_,q⟩;have Ñ:s1.heap.objs.size<=c:=by
   simp at hc;rcases hc with rfl|rfl
   .exact Bo _ _
   .exact Ah _
  exact I1.yA Ñ (I1.aX.fresh Ñ)
 .obtain⟨ax,rx,tx,_⟩:=I1.tuple hx;have l1:=let ⟨_,e,_⟩:=tx;Aj e;refine HY tx λh' ze hi k=>?_;refine CC ze ?_;refine⟨_,_,_,_,H1,rfl,I1.kept k,Kc d1 (AD (Av l1 (Bo _ 1))) (AD l1),⟨⟨_,ze⟩,hi⟩,λc hc=>?_,q⟩;have Ñ:s1.heap.objs.size<=c:=by
   simp at hc;rcases hc with rfl|rfl
   .exact Bo _ _
   .exact Ah _
  exact I1.yA Ñ (I1.aX.fresh Ñ)
def kj:O PV->O PV->O PV
 |x::l,y::m=>.tup [x,y]::kj l m
 |_,_=>[]
theorem lI:∀{l m:O PV}{i:Nat}{p:PV},(kj l m)[i]?=al p->∃x y,l[i]?=al x/\m[i]?=al y/\p=.tup [x,y]
 |[],m,i,p,h=>by simp[kj]at h
 |x::l,[],i,p,h=>by simp[kj]at h
 |x::l,y::m,0,p,h=>by simp[kj]at h;subst h;exact⟨x,y,rfl,rfl,rfl⟩
 |x::l,y::m,i+1,p,h=>by
  obtain⟨u,w,h1,h2,h3⟩:=lI (by simpa[kj]using h);exact⟨u,w,by simpa using h1,by simpa using h2,h3⟩
end
end
end PL
variable{p3 p4:Cv}
namespace PL
section
variable{K:Aa}
section
structure JC(X:Cx)(K:Aa)(op:CmpOp)(b:pc)(m:M2):Prop where
 p:∃r,gr X (r9 op) r/\M2.Ok K r m
 k:wn op b=false
def Ju:JC X K .Lt b oLt:=⟨⟨_,Jj,zb λ_ _ _ _=>.bl _⟩,fg _⟩
def ym:JC X K .LtE b oLe:=⟨⟨_,YZ,zb λ_ _ _ _=>.bl _⟩,fg _⟩
def Zr:JC X K .Gt b oGt:=⟨⟨_,Y0,zb λ_ _ _ _=>.bl _⟩,fg _⟩
def Zs:JC X K .GtE b oGe:=⟨⟨_,Y1,zb λ_ _ _ _=>.bl _⟩,fg _⟩
def vG:JC X K .Is b vk:=⟨⟨_,Nh,Ra⟩,fg _⟩
def Rz:JC X K .IsNot b xS:=⟨⟨_,QU,Nr⟩,fg _⟩
def ahG:M2:=⟨λx y h Q=>match x,y with|.str i,.str j=>Q (.bl (decide (i.cps.toList<j.cps.toList))) h|_,_=>False,λf q=>by
 revert q
 split
 .exact f _ _
 .exact λz=>z⟩
def Nu:M2:=⟨λx y h Q=>match x,y with|.str i,.str j=>Q (.bl (!(Builtin.Str.occurrences j i 0 j.length 1).isEmpty)) h|_,_=>False,λf q=>by
 revert q
 split
 .exact f _ _
 .exact λz=>z⟩
def N1(hk:wn .In b=false):JC X K .In b Nu:=⟨⟨_,tM,by
 intro ι H h u v x y Q hr hu hv q;unfold Nu at q;dsimp only at q;revert q
 split
 .intro q;cases hu;cases hv;exact⟨_,_,rfl,rfl,q ι _ H (Go.refl _ _) hr (.bl _)⟩
 .exact AV⟩,hk⟩
end
end
theorem yV:∀{l:O PV},sP l=true↔∀x∈l,x.dat=true
 |[]=>by simp[sP]
 |x::l=>by rw[sP,AB,yV];simp
section
variable{K:Aa}
section
variable{c:pc}
def OW(h:aL K ι H vs l):vs.isEmpty=l.isEmpty:=by cases h<;>rfl
def aL.rep(h:aL K ι H vs l):∀k:Nat,aL K ι H (Ar k vs).flatten (Ar k l).flatten
 |0=>.nil
 |k+1=>by
  exact h.append (h.rep k)
def MD:V->O V->Hp->VK->Prop:=λx vs H Q=>∃(l:db) (ns:O Int) (k:Int),x=.ref l/\vs=[.int k]/\H l=al (.lst (ns.map V.int))/\k∈ns/\xC H l (.lst ((ns.erase k).map V.int)) (Q .bx)
theorem ints_get:∀{us:O ce}{ns:O Int},TM us ns->∀(i:Nat) (hi:i<us.length),∃n t,ns[i]?=al n/\us[i]=.int n t
 |_,_,.nil,i,hi=>by simp at hi
 |_,_,.cons _ _ r,i,hi=>by
  cases i with
  |zero=>exact⟨_,_,rfl,rfl⟩
  |succ i=>exact ints_get r i (by simpa using hi)
theorem N9{k:Int}:∀{ns:O Int}{m:Nat},ns[m]?=al k->ns.idxOf k<=m
 |[],m,h=>by simp at h
 |a::ns,0,h=>by
  have:a=k:=by simpa using h
  subst this;simp
 |a::ns,m+1,h=>by
  have:=N9 (by simpa using h);rw[List.idxOf_cons];by_cases c:a=k
  .have:(a==k)=true:=by simpa using c
   rw[this];exact Bs _
  .have c2:(a==k)=false:=by simpa using c
   rw[c2];exact Nat.succ_le_succ this
theorem ud(f:α->β):∀(l:List α) (j:Nat),(l.eraseIdx j).map f=(l.map f).eraseIdx j
 |[],_=>rfl
 |a::l,0=>rfl
 |a::l,j+1=>by
  show f a::(l.eraseIdx j).map f=f a::(l.map f).eraseIdx j;rw[ud f l j]
def isK(k:Int):ce->Bool
 |.int a _=>a==k
 |_=>false
def rT(r:Vals vs us):∀j,Vals (vs.eraseIdx j) (us.eraseIdx j):=by
 induction r with
 |nil=>intro j;exact .nil
 |cons h r ih=>
  intro j;cases j with
  |zero=>exact r
  |succ j=>exact .cons h (ih j)
theorem G1:Il X "list.remove" MD:=by
 intro Z s σ H x vs v us Q I rx rv h;obtain⟨l,ns,k,rfl,rfl,hH,hk,q⟩:=h;cases rx;obtain⟨u,rfl,ru⟩:=rv.one;obtain⟨t,rfl⟩:=ru;obtain⟨z,ax,n,r,hl,e⟩:=I.kZ hH;have hi:=intsAre_of r;have Â:ns.length=ax.length:=by rw[Am]at hl;lia
 have hj:=List.idxOf_lt_length_of_mem hk;have hej:ns.erase k=ns.eraseIdx (ns.idxOf k):=by rw[List.erase_eq_eraseIdx_of_idxOf rfl]
 refine wE F.slot_list_remove ⟨_,e,rfl⟩ F.entry_list_remove (F.args_list_remove_2 _ _) (MeetsSeq.list_remove l ax.toArray n (.int k t) (isK k) (λy hy=>?_) (ns.idxOf k) (by rw[Ai];lia) ?_ (λm hm nJ=>?_) (by rw[Ai];lia)) ⟨e,?_⟩
 .obtain⟨i,Oh⟩:=Eb (by simpa using hy);obtain⟨h1,h2⟩:=Al.mp Oh;obtain⟨n',t',g1,g2⟩:=ints_get hi i h1;rw[<- h2,g2];exact MeetsSeq.EqGives.int _ _ _ _
 .have h1:ns.idxOf k<ax.length:=by lia
  obtain⟨n',t',g1,g2⟩:=ints_get hi (ns.idxOf k) h1;have g3:ns[ns.idxOf k]?=al k:=by rw[Af hj,List.getElem_idxOf hj]
  rw[g3]at g1;cases g1;rw[Ea,g2];simp[isK]
 .have h1:m<ax.length:=by rw[Ai]at hm;exact hm
  obtain⟨n',t',g1,g2⟩:=ints_get hi m h1;rw[Ea,g2];have:n'≠k:=λz=>by
   subst z;have:=N9 g1;lia
  simp[isK,this]
 .refine⟨.bx,_,I.G9 (its':=ax.eraseIdx (ns.idxOf k)) hH e (by simp) ?_ ?_,rfl,q.at⟩
  .rw[hej,ud];exact rT r _
  .rw[hej,Am,List.length_eraseIdx]
   split<;>lia
theorem j9:∀{ns:O Int}{vs:O V},aL K ι H vs (ns.map PV.int)->vs=ns.map V.int
 |[],_,h=>by cases h;rfl
 |b::bs,_,h=>by
  cases h with
  |cons x t=>cases x;rw[j9 t];rfl
theorem pH(ι:O db)(H:Hp):∀ns:O Int,aL K ι H (ns.map V.int) (ns.map PV.int)
 |[]=>.nil
 |n::ns=>.cons (.int n) (pH ι H ns)
end
end
end PL
variable{u:L2.HO}{a:AY}{o:F8}
namespace L2
section
variable{σ:St}
def Inv.freeze(I:Inv X Z σ H s)(e:H a=al (.dT az)):∃o,Inv X Z σ (upd H a (.cU o (.dT az))) s:=by
 obtain⟨z,hs,xs,r,o,es,ep,h1,h2,h3,h4,h5⟩:=(show bV X.prog X.w H s.heap a (.dT az) from I.aX a _ e);refine⟨o,?_⟩;have q:=I.write (x:=a) (e:=a) (o:=.cU o (.dT az)) (h':=s.heap) (t':=s.toks) (by rw[e];exact B5) (.inl rfl) (λb u _ z=>z) ⟨o,h1⟩
  ⟨h1,z,hs,xs,KT.keeps r λb ys eb=>by rw[ah (xT eb e (λz=>nomatch z))];exact eb,o,es,ep,h1,h2,h3,h4,h5⟩
 exact q
def Inv.Uy(I:Inv X Z σ H s)(e:H a=al (.cU o u))(h0:∀o u,X.H₀ a≠al (.cU o u))(hu:bV X.prog X.w (upd H a u) s.heap a u)(aX:iw X.prog X.w (upd H a u) s.heap):Inv X Z σ (upd H a u) s:=by
 have ne:∀b v,H b=v->v≠al (.cU o u)->b≠a:=λb v q n z=>by subst z;exact n (q.symm.trans e)
 refine⟨I.ok,I.os,I.bare,⟨I.base.keep,I.base.slot,λb ob q n hx=>?_,I.base.there,λb xs q=>?_,λb ob xs q=>?_,λb ps q=>?_⟩,I.loc,I.cell,?_,λx c q=>?_,λp hp=>?_,aX,I.len⟩
 .have:=I.base.free b ob q n hx;rw[ah (ne b _ this (by simp))];exact this
 .have:=I.base.cC b xs q;rw[ah (ne b _ this (by simp))];exact this
 .have:=I.base.mC b ob xs q;have hb:b≠a:=λz=>by subst z;exact h0 _ _ q
  rw[ah hb];exact this
 .obtain⟨m,this⟩:=I.base.mX b ps q;exact⟨m,by rw[ah (ne b _ this (by simp))];exact this⟩
 .rw[ah (ne _ _ I.free (by simp))];exact I.free
 .rw[ah (ne _ _ (I.fu x c q) (by simp))];exact I.fu x c q
 .obtain⟨p1,p2,p3⟩:=I.pin p hp;exact⟨p1,by rw[ah (ne _ _ p2 (by simp))];exact p2,p3⟩
def Ob(ok:iw P w H h)(e:H a=al (.cU o u)):iw P w (upd H a u) h:=λb u' q=>by
 have ne:∀c v,H c=al v->v≠.cU o u->upd H a u c=al v:=λc v z n=>by
  rw[ah (λy=>by subst y;rw[e]at z;cases z;exact n rfl)];exact z
 by_cases hb:b=a
 .subst hb;rw[aw]at q;cases q;exact bV.mY (ok b _ e).2 (λ_ _ _ z=>z) (λc z=>ne c _ z (by simp)) λc xs z=>ne c _ z (by simp)
 .rw[ah hb]at q;exact bV.mY (ok b _ q) (λ_ _ _ z=>z) (λc z=>ne c _ z (by simp)) λc xs z=>ne c _ z (by simp)
end
end L2
variable{o:L2.HO}{v:PL.PV}{ws:O (BN×L2.V)}{fz:O (AY×F8)}{ψ:Nat->O L2.V->Prop}{φ:EH->Prop}
noncomputable section
namespace FL
section
variable{K:Aa}
structure W(α:Type) where
 run:(α->Prop)->Prop
 mono:∀{Q Q':α->Prop},(∀a,Q a->Q' a)->run Q->run Q'
namespace W
variable{α β γ:Type}
def ext'{a b:W α}(h:∀Q,a.run Q↔b.run Q):a=b:=by
 cases a;cases b;congr;funext Q;exact propext (h Q)
noncomputable def ret(a:α):W α:=⟨λQ=>Q a,λh q=>h _ q⟩
noncomputable def bind(w:W α)(k:α->W β):W β:=⟨λQ=>w.run λa=>(k a).run Q,λh q=>w.mono (λa q=>(k a).mono h q) q⟩
def fail:W α:=⟨λ_=>False,λ_ q=>q⟩
def d8(p:Prop)(w:W α):W α:=⟨λQ=>p/\w.run Q,λh q=>⟨q.1,w.mono h q.2⟩⟩
def any(p:α->Prop):W α:=⟨λQ=>∀a,p a->Q a,λh q a pa=>h a (q a pa)⟩
def Tc:Option α->W α
 |some a=>ret a
 |none=>fail
@[simp] theorem ag(a:α)(k:α->W β):bind (ret a) k=k a:=(rfl)
@[simp] theorem bind_assoc(w:W α)(f:α->W β)(g:β->W γ):bind (bind w f) g=bind w λa=>bind (f a) g:=(rfl)
@[simp] theorem aay(w:W α):bind w ret=w:=(rfl)
@[simp] theorem Xy(k:α->W β):bind fail k=fail:=(rfl)
@[simp] theorem ai(a:α)(Q:α->Prop):(ret a).run Q=Q a:=(rfl)
@[simp] theorem run_bind(w:W α)(k:α->W β)(Q:β->Prop):(bind w k).run Q=w.run λa=>(k a).run Q:=(rfl)
@[simp] theorem Yv(Q:α->Prop):(fail:W α).run Q=False:=(rfl)
@[simp] theorem aaZ(p Q:α->Prop):(any p).run Q=∀a,p a->Q a:=(rfl)
@[simp] theorem uU(p:Prop)(w:W α)(Q:α->Prop):(d8 p w).run Q=(p/\w.run Q):=(rfl)
@[simp] theorem rh(p:Prop)(w:W α)(k:α->W β):bind (d8 p w) k=d8 p (bind w k):=(rfl)
def ao{p:Prop}{w:W α}(h:p):d8 p w=w:=ext' λQ=>⟨λq=>q.2,λq=>⟨h,q⟩⟩
@[simp] theorem aar{w:W α}:d8 True w=w:=ao trivial
@[simp] theorem bo(a:α):Tc (al a)=ret a:=(rfl)
@[simp] theorem Y6:Tc (bn:Option α)=fail:=(rfl)
end W
inductive FD where
 |v (p:PV)|o (b:db) (l:List PV)
def Wq:O (Str×FD)->O db
 |[]=>[]
 |(_,.v _)::l=>Wq l
 |(_,.o b _)::l=>b::Wq l
inductive PB(K:Aa)(H:Hp):List (Str×V)->List (Str×FD)->Prop
 |nil:PB K H [] []
 |v {n:Str}{u:V}{p:PV}{ws:List (Str×V)}{fd:List (Str×FD)} (r:VR K [] H u p) (t:PB K H ws fd):PB K H ((n,u)::ws) ((n,.v p)::fd)
 |o {n:Str}{b:db}{vs:List V}{l:List PV}{ws:List (Str×V)}{fd:List (Str×FD)} (e:H b=al (.lst vs)) (r:aL K [] H vs l) (t:PB K H ws fd):PB K H ((n,.ref b)::ws) ((n,.o b l)::fd)
inductive SL where
 |val (v:PV)|adr (b:db) (us:List V) (ps:List PV) (fz:List (db×Obj))|ol (q:Option db) (l:List PV)|oll (bs:List db) (ls:List (List PV))|od (az:List (Key×PV))|ot (az:List (List Key×PV))|dE (ψ:Nat->List V->Prop) (n m:Nat)|ob (q C:db) (fd:List (Str×FD))
abbrev aY:=O (Option SL)
def oK(H:Hp)(fz:O (db×Obj)):Prop:=∀p∈fz,∃u,H p.1=al (.cU p.2 u)
def oK.tk(h:oK H fz)(t:br K H H'):oK H' fz:=λp hp=>let ⟨u,e⟩:=h p hp;⟨u,t.z _ _ _ e⟩
def oK.nil:oK H []:=λ_ h=>nomatch h
def _root_.L2.HO.nt:HO->Bool
 |.oO _=>false
 |_=>true
def _root_.L2.HO.ow:HO->Bool
 |.lst _=>true
 |.dK _=>true
 |.dT _=>true
 |.ins _ _ _=>true
 |_=>false
def Nf(h:o.ow=true):o.nt=true:=by cases o<;>first|rfl|cases h
def YV{ob:Obj}(k:bV P w H h a o)(e:h.get? a=al ob)(ho:o.ow=true)(vs:Array ce):ob.data≠.fields vs:=by
 cases o with
 |lst xs=>obtain⟨_,_,_,_,q⟩:=k;rw[e]at q;cases q;nofun
 |dK xs=>obtain⟨_,_,_,_,o,_,_,q,_,q2,_⟩:=k;rw[e]at q;cases q;rw[q2];nofun
 |dT xs=>obtain⟨_,_,_,_,o,_,_,q,_,q2,_⟩:=k;rw[e]at q;cases q;rw[q2];nofun
 |ins C dx fs=>obtain⟨_,_,_,q,_⟩:=k;rw[e]at q;cases q;nofun
 |_=>cases ho
class bD where
 ts:List (db×Str)
def FzC(H:Hp)(c:ce)(q:Str):Prop:=∃a o u vs t,c=.ref a/\H a=al (.cU o u)/\o.data=.fields vs/\vs[1]?=al (.str q t)
variable[bD]
def TB(H:Hp):Prop:=∀p∈bD.ts,∃ps,H p.1=al (.oO ps)/\TriplesOk ps.toList/\∀pos c,Tl pos ps.toList=al c->FzC H c p.2
def TB.mono(h:TB H)(h1:∀a ps,H a=al (.oO ps)->H' a=al (.oO ps))(h2:∀a o u vs,H a=al (.cU o u)->o.data=.fields vs->∃u,H' a=al (.cU o u)):TB H':=λp hp=>by
 obtain⟨ps,e,q,k⟩:=h p hp;refine⟨ps,h1 _ _ e,q,λpos c z=>?_⟩;obtain⟨a,o,u,vs,t,e1,e2,e3,e4⟩:=k pos c z;obtain⟨u',e5⟩:=h2 a o u vs e2 e3;exact⟨a,o,u',vs,t,e1,e5,e3,e4⟩
def TB.same(h:TB H)(s:fe H H'):TB H':=h.mono (λa _ z=>s a _ z) λa _ _ _ z _=>⟨_,s a _ z⟩
def TB.Uy{ob:Obj}(t:TB H)(k:iw P w H h)(e:H a=al (.cU ob o))(ho:o.ow=true):TB (upd H a o):=
 t.mono (λb _ z=>by rw[ah (λy=>by subst y;rw[e]at z;cases z)];exact z) λb o' u vs z d=>⟨u,by
  rw[ah (λy=>by subst y;rw[e]at z;cases z;exact YV (k b _ e).2 (k b _ e).1 ho vs d)];exact z⟩
def TB.IV{ob:HO}(h:TB H)(s:kO a H H')(e:H a=al ob)(n1:ob.nt=true)(n2:∀o u,ob≠.cU o u):TB H':=
 h.mono (λb _ z=>s b _ (λy=>by subst y;rw[e]at z;cases z;cases n1) z) λb _ _ _ z _=>⟨_,s b _ (λy=>by subst y;rw[e]at z;cases z;exact n2 _ _ rfl) z⟩
def SL.own:SL->Bool
 |.val _=>false
 |.adr _ _ _ _=>false
 |_=>true
def SL.N7:SL->O db
 |.oll bs _=>bs
 |.ob _ _ fd=>Wq fd
 |_=>[]
def SL.has(s:SL)(x a:db):Prop:=a=x\/a∈s.N7
def uX:Nat:=2 ^ 250
def zh(H:Hp)(a:db)(ψ:Nat->O V->Prop)(n:Nat):Prop:=∃j vs,j<=n/\H a=al (.lst vs)/\ψ j vs/\∀b,V.ref b∈vs->gs H b
def gL(K:Aa)(H:Hp)(a:db):SL->Prop
 |.val _=>False
 |.adr b us ps fz=>a=b/\aL K [] H us ps/\oK H fz
 |.oll bs ls=>H a=al (.lst (bs.map V.ref))/\a∉bs/\bs.Nodup/\bs.length=ls.length/\∀(j:Nat) (b:db) (l:O PV),bs[j]?=al b->ls[j]?=al l->∃ws,H b=al (.lst ws)/\aL K [] H ws l
 |.ol q l=>(∀b,q=al b->a=b)/\∃vs,H a=al (.lst vs)/\aL K [] H vs l
 |.od az=>∃vs:O (Key×V),H a=al (.dK vs)/\vs.map (·.1)=az.map (·.1)/\aL K [] H (vs.map (·.2)) (az.map (·.2))
 |.ot az=>∃vs:O (O Key×V),H a=al (.dT vs)/\vs.map (·.1)=az.map (·.1)/\aL K [] H (vs.map (·.2)) (az.map (·.2))
 |.dE ψ n m=>zh H a ψ n/\n<=m/\m<=uX
 |.ob q C fd=>a=q/\J4 K C/\(∀p∈fd,fj K C p.1)/\a∉Wq fd/\(Wq fd).Nodup/\∃dx ws,H a=al (.ins C dx ws)/\PB K H ws fd
def oI(K:Aa)(H:Hp)(u:V)(s:SL):Prop:=(∃v,s=.val v/\VR K [] H u v)\/∃a,u=.ref a/\gL K H a s
def cu(σ:L2.St)(fs:aY)(a:db):Prop:=∃(i:Nat) (s:SL) (x:db),fs[i]?=al (al s)/\s.own=true/\σ[i]?=al (al (.ref x))/\s.has x a
def gq(σ:L2.St)(fs:aY)(ψ:Nat->O V->Prop)(m:Nat)(a:db):Prop:=∃i n:Nat,fs[i]?=al (al (.dE ψ n m))/\σ[i]?=al (al (.ref a))
structure Ev(fs aM:aY):Prop where
 len:fs.length=aM.length
 at':∀i:Nat,fs[i]?=aM[i]?\/∃ψ n n' m,fs[i]?=al (al (.dE ψ n m))/\aM[i]?=al (al (.dE ψ n' m))
structure aQ(K:Aa)(H:Hp)(σ:L2.St)(fs:aY):Prop where
 len:σ.length=fs.length
 at':∀(i:Nat) (s:SL),fs[i]?=al (al s)->∃u,σ[i]?=al (al u)/\oI K H u s
 nd:∀(i j:Nat) (s t:SL) (x y a:db),fs[i]?=al (al s)->fs[j]?=al (al t)->s.own=true->t.own=true->σ[i]?=al (al (.ref x))->σ[j]?=al (al (.ref y))->s.has x a->t.has y a->i=j
 tb:TB H
structure cJ(σ:L2.St)(fs:aY)(H:Hp)(σ':L2.St)(aM:aY)(H':Hp):Prop where
 keep:∀a o,H a=al o->¬cu σ fs a->(o.nt=true->H' a=al o)/\¬cu σ' aM a
 there:∀a,H' a=bn->H a=bn
 pk:∀a ψ m,gq σ fs ψ m a->gq σ' aM ψ m a\/(¬cu σ' aM a/\zh H' a ψ m)
 x:∀b,gs H b->gs H' b
structure cK(σ:L2.St)(fs:aY)(H H':Hp)(aM:aY:=fs):Prop where
 keep:∀a o,H a=al o->(∀ψ m,¬gq σ fs ψ m a)->(nt:‹o.nt=true›)->H' a=al o
 there:∀a,H' a=bn->H a=bn
 ev:Ev fs aM
 x:∀b,gs H b->gs H' b
section
variable{σ σ' σ1 σ2:L2.St}{fs aM ay fs2:aY}{H H' H1 H2:Hp}
def gq.fF{m:Nat}(p:gq σ fs ψ m a):cu σ fs a:=let ⟨i,n,e1,e2⟩:=p;⟨i,_,_,e1,rfl,e2,.inl rfl⟩
def Ev.refl(fs:aY):Ev fs fs:=⟨rfl,λ_=>.inl rfl⟩
def Ev.symm(e:Ev fs aM):Ev aM fs:=⟨e.len.symm,λi=>(e.at' i).imp Eq.symm λ⟨ψ,n,n',m,a,b⟩=>⟨ψ,n',n,m,b,a⟩⟩
def Ev.trans(e:Ev fs ay)(k:Ev ay fs2):Ev fs fs2:=⟨e.len.trans k.len,λi=>by
 rcases e.at' i with h|⟨ψ,n,n',m,h1,h2⟩
 .rw[h];exact k.at' i
 .rcases k.at' i with h|⟨ψ',j,j',m',h3,h4⟩
  .exact .inr ⟨ψ,n,n',m,h1,h▸h2⟩
  .rw[h2]at h3;cases h3;exact .inr ⟨ψ,n,j',m,h1,h4⟩⟩
def Ev.get(e:Ev fs aM){t:SL}(h:aM[i]?=al (al t)):(fs[i]?=al (al t))\/∃ψ n n' m,t=.dE ψ n' m/\fs[i]?=al (al (.dE ψ n m)):=by
 rcases e.at' i with h2|⟨ψ,n,n',m,h1,h2⟩
 .exact .inl (h2.trans h)
 .rw[h]at h2;cases h2;exact .inr ⟨ψ,n,n',m,rfl,h1⟩
def Ev.same(e:Ev fs aM){t:SL}(h:fs[i]?=al (al t))(n:∀ψ j m,t≠.dE ψ j m):aM[i]?=al (al t):=(e.symm.get h).resolve_right λ⟨_,_,_,_,z,_⟩=>n _ _ _ z
def Ev.dE(e:Ev fs aM){m:Nat}(p:gq σ aM ψ m a):gq σ fs ψ m a:=by
 obtain⟨i,n,h1,h2⟩:=p;rcases e.get h1 with h|⟨_,j,_,_,h,k⟩
 .exact⟨i,n,h,h2⟩
 .cases h;exact⟨i,j,k,h2⟩
def Ev.fF(e:Ev fs aM)(p:cu σ aM a):cu σ fs a:=by
 obtain⟨i,t,x,h1,h2,h3,h4⟩:=p;rcases e.get h1 with h|⟨_,j,_,_,rfl,k⟩
 .exact⟨i,t,x,h,h2,h3,h4⟩
 .exact⟨i,_,x,k,rfl,h3,h4⟩
def cK.refl:cK σ fs H H:=⟨λ_ _ h _ _=>h,λ_ h=>h,.refl _,λ_ h=>h⟩
def cK.trans(a:cK σ fs H H1 ay)(b:cK σ ay H1 H2 fs2):cK σ fs H H2 fs2:=⟨λx o h n t=>b.keep x o (a.keep x o h n t) (λψ m p=>n ψ m (a.ev.dE p)) t,λx h=>a.there x (b.there x h),a.ev.trans b.ev,λx h=>b.x x (a.x x h)⟩
def cK.f(g:cK σ fs H H' aM):cJ σ fs H σ aM H':=⟨λa o h n=>⟨λt=>g.keep a o h (λ_ _ p=>n p.fF) t,λz=>n (g.ev.fF z)⟩,g.there,λa ψ m p=>.inl (g.ev.symm.dE p),g.x⟩
def cK.mn(g:cK σ fs H H' aM)(h:H a=al o)(n:¬cu σ fs a)(t:‹o.nt=true›):H' a=al o:=g.keep a o h (λ_ _ p=>n p.fF) t
def cK.same(h:fe H H'):cK σ fs H H':=⟨λa o e _ _=>h a o e,λa e=>(by
 cases z:H a with
 |none=>rfl
 |some o=>rw[h a o z]at e;cases e),.refl _,λ_ z=>h _ _ z⟩
def PB.ex{fd:O (Str×FD)}(h:PB K H ws fd){c:db}(hc:c∈Wq fd):∃vs,H c=al (.lst vs):=by
 induction h with
 |nil=>cases hc
 |v r t ih=>exact ih hc
 | @o n b vs l ws fd e r t ih=>
  rcases Au.mp (hc) with rfl|hc
  .exact⟨vs,e⟩
  .exact ih hc
def gL.ex{c:db}{s:SL}(h:gL K H a s)(ho:s.own=true)(hc:s.has a c):∃o,H c=al o/\(∀vs,o≠.tup vs)/\(∀ob u,o≠.cU ob u)/\o.ow=true:=by
 cases s with
 |val _=>exact h.elim
 |adr _ _ _ _=>cases ho
 |ol q l=>obtain⟨_,vs,e,_⟩:=h;rcases hc with rfl|hc;exact⟨_,e,by simp,by simp,rfl⟩;cases hc
 |oll bs ls=>
  obtain⟨e,_,_,hl,hb⟩:=h;rcases hc with rfl|hc
  .exact⟨_,e,by simp,by simp,rfl⟩
  .obtain⟨j,hj⟩:=Eb (hc);obtain⟨ws,e,_⟩:=hb j c _ hj (Af (by rw[<- hl];exact((Al.mp hj).1)));exact⟨_,e,by simp,by simp,rfl⟩
 |od l=>obtain⟨vs,e,_⟩:=h;rcases hc with rfl|hc;exact⟨_,e,by simp,by simp,rfl⟩;cases hc
 |ot l=>obtain⟨vs,e,_⟩:=h;rcases hc with rfl|hc;exact⟨_,e,by simp,by simp,rfl⟩;cases hc
 |dE ψ n m=>obtain⟨⟨_,vs,_,e,_⟩,_⟩:=h;rcases hc with rfl|hc;exact⟨_,e,by simp,by simp,rfl⟩;cases hc
 |ob q C fd=>
  obtain⟨_,_,_,_,_,dx,ws,e,r⟩:=h;rcases hc with rfl|hc
  .exact⟨_,e,by simp,by simp,rfl⟩
  .obtain⟨vs,e⟩:=r.ex hc;exact⟨_,e,by simp,by simp,rfl⟩
def aQ.ownAt(s:aQ K H σ fs){t:SL}(h1:fs[i]?=al (al t))(h2:t.own=true)(h3:σ[i]?=al (al (.ref a))):gL K H a t:=by
 obtain⟨u,e,r⟩:=s.at' i t h1;rw[h3]at e;cases e;rcases r with⟨v,rfl,_⟩|⟨b,e,r⟩
 .cases h2
 .cases e;exact r
def aQ.fF(s:aQ K H σ fs)(h:cu σ fs a):∃o,H a=al o/\(∀vs,o≠.tup vs)/\(∀ob u,o≠.cU ob u)/\o.ow=true:=by
 obtain⟨i,t,x,h1,h2,h3,h4⟩:=h;exact(s.ownAt h1 h2 h3).ex h2 h4
def aQ.noOwn(s:aQ K H σ fs)(h:H a=bn):¬cu σ fs a:=λz=>by
 obtain⟨o,e,_⟩:=s.fF z;rw[h]at e;cases e
def aQ.Vz(s:aQ K H σ fs)(h:H a=al (.tup vs)):¬cu σ fs a:=λz=>by
 obtain⟨o,e,n,_⟩:=s.fF z;rw[h]at e;cases e;exact n vs rfl
def aQ.VA(s:aQ K H σ fs){ob:Obj}(h:H a=al (.cU ob u)):¬cu σ fs a:=λz=>by
 obtain⟨o,e,_,n,_⟩:=s.fF z;rw[h]at e;cases e;exact n ob u rfl
def aQ.Vy(s:aQ K H σ fs)(h:H a=al (.ext φ)):¬cu σ fs a:=λz=>by
 obtain⟨o,e,_,_,n⟩:=s.fF z;rw[h]at e;cases e;cases n
def cJ.refl:cJ σ fs H σ fs H:=⟨λ_ _ h n=>⟨λ_=>h,n⟩,λ_ h=>h,λ_ _ _ h=>.inl h,λ_ h=>h⟩
def cJ.Rf(a:cJ σ fs H σ1 ay H1)(b:cJ σ1 ay H1 σ2 fs2 H2){x:db}(h:H x=al o)(n:¬cu σ fs x):¬cu σ2 fs2 x:=by
 cases z:H1 x with
 |none=>rw[a.there x z]at h;cases h
 |some o1=>exact(b.keep x o1 z ((a.keep x o h n).2)).2
def cJ.trans(a:cJ σ fs H σ1 ay H1)(b:cJ σ1 ay H1 σ2 fs2 H2):cJ σ fs H σ2 fs2 H2:=
 ⟨λx o h n=>⟨λt=>let ⟨h1,n1⟩:=a.keep x o h n;(b.keep x o (h1 t) n1).1 t,a.Rf b h n⟩,λx h=>a.there x (b.there x h),λx ψ m h=>(a.pk x ψ m h).elim (b.pk x ψ m) λ⟨n,j,vs,hj,e,p,q⟩=>.inr (let ⟨h1,n1⟩:=b.keep x _ e n;⟨n1,j,vs,hj,h1 rfl,p,λc hc=>b.x c (q c hc)⟩),λc h=>b.x c (a.x c h)⟩
def cJ.cC(g:cJ σ fs H σ' aM H')(s:aQ K H σ fs):br K H H':=
 ⟨λa vs h=>(g.keep a _ h (s.Vz h)).1 rfl,λa o u h=>(g.keep a _ h (s.VA h)).1 rfl,g.x⟩
def VR.tk{u:V}(t:br K H H')(r:VR K [] H u v):VR K [] H' u v:=r.mono t λ_ _ e=>e
def aL.tk{u:O V}{v:O PV}(t:br K H H')(r:aL K [] H u v):aL K [] H' u v:=r.mono t λ_ _ e=>e
def cJ.vr(g:cJ σ fs H σ' aM H')(s:aQ K H σ fs){u:V}(r:VR K [] H u v):VR K [] H' u v:=VR.tk (g.cC s) r
def cK.cC(g:cK σ fs H H' aM)(s:aQ K H σ fs):br K H H':=g.f.cC s
def cK.vr(g:cK σ fs H H' aM)(s:aQ K H σ fs){u:V}(r:VR K [] H u v):VR K [] H' u v:=VR.tk (g.cC s) r
def cK.Iq(g:cK σ fs H H' aM)(s:aQ K H σ fs){u:O V}{v:O PV}(r:aL K [] H u v):aL K [] H' u v:=aL.tk (g.cC s) r
def PB.mono{fd:O (Str×FD)}(t:br K H H')(h:PB K H ws fd)(e:∀c vs,c∈Wq fd->H c=al (.lst vs)->H' c=al (.lst vs)):PB K H' ws fd:=by
 induction h with
 |nil=>exact .nil
 |v r _ ih=>exact .v (VR.tk t r) (ih e)
 | @o n b vs l ws fd q r _ ih=>exact .o (e b vs (.head _) q) (aL.tk t r) (ih λc vs hc=>e c vs (.tail _ hc))
def gL.mono{s:SL}(t:br K H H')(e:∀c o,s.own=true->s.has a c->H c=al o->o.nt=true->H' c=al o)(h:gL K H a s):gL K H' a s:=by
 cases s with
 |val _=>exact h
 |adr _ _ _ _=>exact⟨h.1,aL.tk t h.2.1,h.2.2.tk t⟩
 |ol _ l=>obtain⟨z,vs,q,r⟩:=h;exact⟨z,vs,e _ _ rfl (.inl rfl) q rfl,aL.tk t r⟩
 |oll bs ls=>
  obtain⟨z,h1,h2,h3,h4⟩:=h;refine⟨e _ _ rfl (.inl rfl) z rfl,h1,h2,h3,λj b l hb hl=>?_⟩;obtain⟨ws,q,r⟩:=h4 j b l hb hl;exact⟨ws,e _ _ rfl (.inr (AI hb)) q rfl,aL.tk t r⟩
 |od l=>obtain⟨vs,q,k,r⟩:=h;exact⟨vs,e _ _ rfl (.inl rfl) q rfl,k,aL.tk t r⟩
 |ot l=>obtain⟨vs,q,k,r⟩:=h;exact⟨vs,e _ _ rfl (.inl rfl) q rfl,k,aL.tk t r⟩
 |dE ψ n m=>obtain⟨⟨j,vs,hj,q,k,z⟩,r⟩:=h;exact⟨⟨j,vs,hj,e _ _ rfl (.inl rfl) q rfl,k,λb hb=>t.x b (z b hb)⟩,r⟩
 |ob q C fd=>obtain⟨h0,h1,h2,h3,h4,dx,ws,q,r⟩:=h;exact⟨h0,h1,h2,h3,h4,dx,ws,e _ _ rfl (.inl rfl) q rfl,r.mono t λc vs hc q=>e c _ rfl (.inr hc) q rfl⟩
def oI.mono{u:V}{s:SL}(t:br K H H')(e:∀x a o,u=.ref x->s.own=true->s.has x a->H a=al o->o.nt=true->H' a=al o)(h:oI K H u s):oI K H' u s:=by
 rcases h with⟨v,q,r⟩|⟨a,q,r⟩
 .exact .inl ⟨v,q,VR.tk t r⟩
 .exact .inr ⟨a,q,r.mono t (λc o z y w nt=>e a c o q z y w nt)⟩
def aQ.same(s:aQ K H σ fs)(h:fe H H'):aQ K H' σ fs:=⟨s.len,λi t e=>let ⟨u,h1,h2⟩:=s.at' i t e;⟨u,h1,h2.mono h.eU (λ_ a o _ _ _ z _=>h a o z)⟩,s.nd,s.tb.same h⟩
def cJ.same(h:fe H H')(s:aQ K H σ fs):cJ σ fs H σ fs H':=⟨λa o e n=>⟨λ_=>h a o e,n⟩,λa e=>(by
 cases z:H a with
 |none=>rfl
 |some o=>rw[h a o z]at e;cases e),λa ψ m p=>.inl p,λ_ z=>h _ _ z⟩
inductive dC:aY->aY->Prop
 |nil:dC [] []
 |drop {s:Option SL}{a b:aY} (h:dC a b):dC (s::a) (bn::b)
 |keep {s:Option SL}{a b:aY} (h:dC a b):dC (s::a) (s::b)
 |bump {ψ:Nat->List V->Prop}{n n' m:Nat}{a b:aY} (h:dC a b) (k:n<=n'/\n'<=m):dC (al (.dE ψ n m)::a) (al (.dE ψ n' m)::b)
def W3(s t:SL):Prop:=s=t\/∃ψ n n' m,s=.dE ψ n m/\t=.dE ψ n' m/\n<=n'/\n'<=m
theorem dC.at{a b:aY}(h:dC a b):∀(i:Nat) (s:SL),b[i]?=al (al s)->∃t,a[i]?=al (al t)/\W3 t s:=by
 induction h with
 |nil=>intro i s e;simp at e
 |drop h ih=>intro i s e;cases i with|zero=>simp at e|succ i=>simp at e ⊢;exact ih i s e
 |keep h ih=>intro i s e;cases i with|zero=>exact⟨s,by simpa using e,.inl rfl⟩|succ i=>simp at e ⊢;exact ih i s e
 | @bump ψ n n' m a b h k ih=>intro i s e;cases i with|zero=>(simp at e;subst e;exact⟨_,rfl,.inr ⟨ψ,n,n',m,rfl,rfl,k⟩⟩)|succ i=>simp at e ⊢;exact ih i s e
theorem dC.length{a b:aY}(h:dC a b):a.length=b.length:=by induction h<;>simp_all
theorem dC.refl:∀a:aY,dC a a
 |[]=>.nil
 |_::a=>.keep (dC.refl a)
def W3.own{s t:SL}(h:W3 s t):s.own=t.own:=by rcases h with rfl|⟨_,_,_,_,rfl,rfl,_⟩<;>rfl
def W3.has{s t:SL}(h:W3 s t){x:db}(k:t.has x a):s.has x a:=by
 rcases h with rfl|⟨_,_,_,_,rfl,rfl,_⟩
 .exact k
 .exact k
def W3.slot{s t:SL}(h:W3 s t){u:V}(k:oI K H u s):oI K H u t:=by
 rcases h with rfl|⟨ψ,n,n',m,rfl,rfl,h1,h2⟩
 .exact k
 .rcases k with⟨v,e,_⟩|⟨a,e,⟨j,vs,hj,q⟩,_,hm⟩
  .cases e
  .exact .inr ⟨a,e,⟨j,vs,AE hj h1,q⟩,h2,hm⟩
def aQ.le(s:aQ K H σ fs)(h:dC fs aM):aQ K H σ aM:=⟨s.len.trans h.length,λi t e=>let ⟨_,e2,l⟩:=h.at i t e;let ⟨u,h1,h2⟩:=s.at' i _ e2;⟨u,h1,l.slot h2⟩,λi j t u x y a e1 e2 o1 o2 q1 q2 z1 z2=>let ⟨_,f1,l1⟩:=h.at i t e1;let ⟨_,f2,l2⟩:=h.at j u e2;s.nd i j _ _ x y a f1 f2 (l1.own▸o1) (l2.own▸o2) q1 q2 (l1.has z1) (l2.has z2),s.tb⟩
def cu.le(h:dC fs aM)(o:cu σ aM a):cu σ fs a:=let ⟨i,t,x,e1,e2,e3,e4⟩:=o;let ⟨t',f1,l⟩:=h.at i t e1;⟨i,t',x,f1,l.own▸e2,e3,l.has e4⟩
def aQ.free(s:aQ K H σ fs){m:Nat}(p:gq σ fs ψ m a):zh H a ψ m:=by
 obtain⟨i,n,e1,e2⟩:=p;obtain⟨⟨j,vs,hj,q⟩,h1,_⟩:=s.ownAt e1 rfl e2;exact⟨j,vs,AE hj h1,q⟩
def cJ.le(s:aQ K H σ fs)(h:dC fs aM):cJ σ fs H σ aM H:=⟨λa o e n=>⟨λ_=>e,λz=>n (z.le h)⟩,λ_ e=>e,λa ψ m p=>by
 have fr:=s.free p;obtain⟨i,n,e1,e2⟩:=p;by_cases c:cu σ aM a
 .obtain⟨j,t,x,c1,c2,c3,c4⟩:=c;obtain⟨t',f1,l⟩:=h.at j t c1;have ij:=s.nd i j _ t' a x a e1 f1 rfl (l.own▸c2) e2 c3 (.inl rfl) (l.has c4);subst ij;rw[e1]at f1;cases f1;rcases l with rfl|⟨_,_,n',_,l1,rfl,_⟩
  .exact .inl ⟨i,n,c1,e2⟩
  .cases l1;exact .inl ⟨i,n',c1,e2⟩
 .exact .inr ⟨c,fr⟩,λ_ h=>h⟩
def cM{l:O (Option α)}{x y:α}(h:(l.set i (al x))[j]?=al (al y)):(j=i/\y=x)\/(j≠i/\l[j]?=al (al y)):=by
 by_cases c:j=i
 .subst c;rw[E2]at h;simp at h;exact .inl ⟨rfl,h.2.symm⟩
 .rw[Cg (λz=>c z.symm)]at h;exact .inr ⟨c,h⟩
def bq{l:List α}{x:α}(h:i<l.length):(l.set i x)[i]?=al x:=by rw[E2];simp[h]
def aK{l:List α}{x:α}(h:j≠i):(l.set i x)[j]?=l[j]?:=Cg (λz=>h z.symm)
def aQ.put(s:aQ K H σ fs){u:V}{t:SL}(hr:oI K H u t)(hf:∀x a,u=.ref x->t.own=true->t.has x a->∀(j:Nat) (w:SL) (y:db),j≠i->fs[j]?=al (al w)->w.own=true->σ[j]?=al (al (.ref y))->¬w.has y a):aQ K H (σ.set i (al u)) (fs.set i (al t)):=by
 refine⟨by simp[s.len],λj w e=>?_,λj k w x b1 b2 a e1 e2 o1 o2 q1 q2 z1 z2=>?_,s.tb⟩
 .rcases cM e with⟨rfl,rfl⟩|⟨n,e⟩
  .have hl:j < σ.length:=by
    have:=(Al.mp e).1;rw[BS]at this;rw[s.len];exact this
   exact⟨u,bq hl,hr⟩
  .obtain⟨v,h1,h2⟩:=s.at' j w e;exact⟨v,by rw[aK n];exact h1,h2⟩
 .rcases cM e1 with⟨y1,y2⟩|⟨n1,f1⟩<;>rcases cM e2 with⟨y3,y4⟩|⟨n2,f2⟩
  .exact y1.trans y3.symm
  .subst y1;subst y2;rw[aK n2]at q2;have hl:j < σ.length:=by have:=(Al.mp q1).1;simpa using this
   rw[bq hl]at q1;cases q1;exact absurd z2 (hf _ a rfl o1 z1 k x b2 n2 f2 o2 q2)
  .subst y3;subst y4;rw[aK n1]at q1;have hl:k < σ.length:=by have:=(Al.mp q2).1;simpa using this
   rw[bq hl]at q2;cases q2;exact absurd z1 (hf _ a rfl o2 z2 j w b1 n1 f1 o1 q1)
  .rw[aK n1]at q1;rw[aK n2]at q2;exact s.nd j k w x b1 b2 a f1 f2 o1 o2 q1 q2 z1 z2
def aQ.gz(s:aQ K H σ fs){u:V}(hr:VR K [] H u v)(i:Nat):aQ K H (σ.set i (al u)) (fs.set i (al (.val v))):=s.put (.inl ⟨v,rfl,hr⟩) λ_ _ _ z=>by cases z
def xP{u:V}{t:SL}(o:cu (σ.set i (al u)) (fs.set i (al t)) a)(hl:σ.length=fs.length):cu σ fs a\/∃x,u=.ref x/\t.own=true/\t.has x a:=by
 obtain⟨j,w,x,e1,e2,e3,e4⟩:=o;rcases cM e1 with⟨rfl,rfl⟩|⟨n,e1⟩
 .have h2:j < σ.length:=by have:=(Al.mp e3).1;simpa using this
  rw[bq h2]at e3;cases e3;exact .inr ⟨x,rfl,e2,e4⟩
 .rw[aK n]at e3;exact .inl ⟨j,w,x,e1,e2,e3,e4⟩
def Jd(s:aQ K H σ fs){u:V}{t:SL}{m:Nat}(p:gq σ fs ψ m a)(hu:∀x,u=.ref x->t.own=true->t.has x a->∃n,t=.dE ψ n m):gq (σ.set i (al u)) (fs.set i (al t)) ψ m a\/¬cu (σ.set i (al u)) (fs.set i (al t)) a:=by
 obtain⟨j,n,e1,e2⟩:=p;by_cases c:j=i
 .subst c;by_cases c2:∃x,u=.ref x/\t.own=true/\t.has x a
  .obtain⟨x,c3,c4,c5⟩:=c2;obtain⟨n',rfl⟩:=hu x c3 c4 c5;rcases c5 with rfl|c5
   .exact .inl ⟨j,n',by rw[bq ((Al.mp e1).1)],by rw[bq ((Al.mp e2).1),c3]⟩
   .cases c5
  .refine .inr λo=>?_;obtain⟨k,w,y,q1,q2,q3,q4⟩:=o;rcases cM q1 with⟨rfl,rfl⟩|⟨n,q1⟩
   .rw[bq ((Al.mp e2).1)]at q3;cases q3;exact c2 ⟨y,rfl,q2,q4⟩
   .rw[aK n]at q3;exact n (s.nd k j w _ y a a q1 e1 q2 rfl q3 e2 q4 (.inl rfl))
 .exact .inl ⟨j,n,by rw[aK c];exact e1,by rw[aK c];exact e2⟩
def cJ.gz(s:aQ K H σ fs)(u:V)(v:PV)(i:Nat):cJ σ fs H (σ.set i (al u)) (fs.set i (al (.val v))) H:=
 ⟨λa o e n=>⟨λ_=>e,λz=>(xP z s.len).elim n λ⟨_,_,z,_⟩=>by cases z⟩,λ_ e=>e,λa ψ m p=>(Jd s p (λ_ _ z=>by cases z)).imp id λn=>⟨n,s.free p⟩,λ_ h=>h⟩
def aQ.MP(s:aQ K H σ fs){t:SL}(hr:gL K H a t)(hn:∀c,t.has a c->¬cu σ fs c)(i:Nat):aQ K H (σ.set i (al (.ref a))) (fs.set i (al t)):=s.put (.inr ⟨a,rfl,hr⟩) λx c e _ hc j w y n e1 e2 e3 z=>by
 cases e;exact hn c hc ⟨j,w,y,e1,e2,e3,z⟩
def vN{t:SL}(hi:t.N7=[]){c:db}(h:t.has a c):c=a:=by
 rcases h with h|h
 .exact h
 .rw[hi]at h;cases h
def aQ.qg(s:aQ K H σ fs){t:SL}(hr:gL K H a t)(hn:¬cu σ fs a)(i:Nat)(hi:‹t.N7=[]›):aQ K H (σ.set i (al (.ref a))) (fs.set i (al t)):=s.MP hr (λc hc=>by rw[vN hi hc];exact hn) i
def cJ.MP(s:aQ K H1 σ ay)(g:cK σ fs H H1 ay){t:SL}(hn:∀c,t.has a c->¬cu σ ay c)(h0:∀c,t.has a c->H c=bn)(i:Nat):cJ σ fs H (σ.set i (al (.ref a))) (ay.set i (al t)) H1:=by
 refine⟨λb o e n=>⟨(g.f.keep b o e n).1,λz=>(xP z s.len).elim (g.f.keep b o e n).2 λ⟨x,z,_,y⟩=>?_⟩,g.there,λb ψ m p=>?_,g.x⟩
 .cases z;rw[h0 b y]at e;cases e
 .have p:=g.ev.symm.dE p;refine(Jd s p (λx z o y=>?_)).imp id λn=>⟨n,s.free p⟩;cases z;exact absurd p.fF (hn b y)
def cJ.qg(s:aQ K H1 σ ay)(g:cK σ fs H H1 ay){t:SL}(hn:¬cu σ ay a)(h0:H a=bn)(i:Nat)(hi:‹t.N7=[]›):cJ σ fs H (σ.set i (al (.ref a))) (ay.set i (al t)) H1:=cJ.MP s g (λc hc=>by rw[vN hi hc];exact hn) (λc hc=>by rw[vN hi hc];exact h0) i
inductive uy:aY->aY->Prop
 |refl (a:aY):uy a a
 |keep {s:Option SL}{a b:aY} (h:uy a b):uy (s::a) (s::b)
 |bump {ψ:Nat->List V->Prop}{n n' m:Nat}{a b:aY} (k:n<=n'/\n'<=m) (h:uy a b):uy (al (.dE ψ n m)::a) (al (.dE ψ n' m)::b)
def uy.f{a b:aY}(h:uy a b):dC a b:=by
 induction h with
 |refl a=>exact .refl a
 |keep _ ih=>exact .keep ih
 |bump k _ ih=>exact .bump ih k
def Ev.cons{a b:aY}(e:Ev a b){s t:Option SL}(h:s=t\/∃ψ n n' m,s=al (.dE ψ n m)/\t=al (.dE ψ n' m)):Ev (s::a) (t::b):=⟨by simp[e.len],λi=>by
 cases i with
 |zero=>exact h.imp (λz=>by rw[z];rfl) λ⟨ψ,n,n',m,z,y⟩=>⟨ψ,n,n',m,by rw[z];rfl,by rw[y];rfl⟩
 |succ i=>simpa using e.at' i⟩
def uy.ev{a b:aY}(h:uy a b):Ev a b:=by
 induction h with
 |refl a=>exact .refl a
 |keep _ ih=>exact ih.cons (.inl rfl)
 | @bump ψ n n' m _ _ _ _ ih=>exact ih.cons (.inr ⟨ψ,n,n',m,rfl,rfl⟩)
def Ev.nd(ev:Ev fs aM)(s:aQ K H σ fs)(i j:Nat)(t u:SL)(x y a:db)(e1:aM[i]?=al (al t))(e2:aM[j]?=al (al u))(o1:t.own=true)(o2:u.own=true)(q1:σ[i]?=al (al (.ref x)))(q2:σ[j]?=al (al (.ref y)))(z1:t.has x a)(z2:u.has y a):i=j:=by
 have f:∀{j:Nat}{t:SL}{x:db},aM[j]?=al (al t)->t.own=true->t.has x a->∃t',fs[j]?=al (al t')/\t'.own=true/\t'.has x a:=λ{j t x} e o z=>by
  rcases ev.get e with k|⟨_,_,_,_,rfl,k⟩
  .exact⟨t,k,o,z⟩
  .exact⟨_,k,rfl,z⟩
 obtain⟨t',a1,a2,a3⟩:=f e1 o1 z1;obtain⟨u',b1,b2,b3⟩:=f e2 o2 z2;exact s.nd i j t' u' x y a a1 b1 a2 b2 q1 q2 a3 b3
def cK.le{a b:aY}(g:cK σ fs H H' a)(h:uy a b):cK σ fs H H' b:=⟨λc o e n t=>g.keep c o e n t,g.there,g.ev.trans h.ev,g.x⟩
def xQ(s:aQ K H σ fs){t t':SL}{c:db}(e1:fs[i]?=al (al t))(o:t.own=true)(np:∀ψ n m,t≠.dE ψ n m)(e2:σ[i]?=al (al (.ref a)))(hc:t.has a c)(xn:t'.has a c)(pJ:∀b,t'.has a b->t.has a b)(o':t'.own=true)(sx:kO c H H')(ht:br K H H'->gL K H' a t'):aQ K H' σ (fs.set i (al t'))/\cJ σ fs H σ (fs.set i (al t')) H':=by
 have oa:=s.ownAt e1 o e2;obtain⟨ob,q,n1,n2,n3⟩:=oa.ex o hc;have tk:br K H H':=⟨λb vs z=>sx b _ (λy=>by subst y;rw[q]at z;cases z;exact n1 _ rfl) z,λb o u z=>sx b _ (λy=>by subst y;rw[q]at z;cases z;exact n2 _ _ rfl) z,xk λb φ z=>sx b _ (λy=>by subst y;rw[q]at z;cases z;cases n3) z⟩;have oa':=ht tk;have hi:i<fs.length:=(Al.mp e1).1;have QT:∀b,cu σ (fs.set i (al t')) b->cu σ fs b:=λb z=>by
  obtain⟨j,w,x,z1,z2,z3,z4⟩:=z;rcases cM z1 with⟨rfl,rfl⟩|⟨n,z1⟩
  .rw[e2]at z3;cases z3;exact⟨j,t,a,e1,o,e2,pJ b z4⟩
  .exact⟨j,w,x,z1,z2,z3,z4⟩
 refine⟨⟨by simp[s.len],λj w e=>?_,λj k w x b1 b2 b z1 z2 o1 o2 q1 q2 y1 y2=>?_,s.tb.IV sx q (Nf n3) n2⟩,⟨λb ob e n=>⟨λ_=>sx b ob (λz=>by subst z;exact n ⟨i,t,a,e1,o,e2,hc⟩) e,λz=>n (QT b z)⟩,λb e=>?_,λb ψ m p=>?_,tk.x⟩⟩
 .rcases cM e with⟨rfl,rfl⟩|⟨n,e⟩
  .exact⟨_,e2,.inr ⟨a,rfl,oa'⟩⟩
  .obtain⟨u,h1,h2⟩:=s.at' j w e;refine⟨u,h1,h2.mono tk (λx b ob eb ow hb z _=>sx b ob (λy=>?_) z)⟩;subst y;subst eb;exact n (s.nd j i w t x a b e e1 ow o h1 e2 hb hc)
 .have f:∀{j:Nat}{w:SL}{y:db},(fs.set i (al t'))[j]?=al (al w)->w.own=true->σ[j]?=al (al (.ref y))->w.has y b->∃w',fs[j]?=al (al w')/\w'.own=true/\w'.has y b:=λ{j w y} z ow qy hy=>by
   rcases cM z with⟨rfl,rfl⟩|⟨n,z⟩
   .rw[e2]at qy;cases qy;exact⟨t,e1,o,pJ b hy⟩
   .exact⟨w,z,ow,hy⟩
  obtain⟨w',a1,a2,a3⟩:=f z1 o1 q1 y1;obtain⟨x',c1,c2,c3⟩:=f z2 o2 q2 y2;exact s.nd j k w' x' b1 b2 b a1 c1 a2 c2 q1 q2 a3 c3
 .cases z:H b with
  |none=>rfl
  |some ob=>
   by_cases cc:b=c
   .subst cc;obtain⟨o2,y,_⟩:=oa'.ex o' xn;rw[e]at y;cases y
   .rw[sx b ob cc z]at e;cases e
 .obtain⟨j,k,p1,p2⟩:=p;have ji:j≠i:=λz=>by subst z;rw[e1]at p1;cases p1;exact np ψ k m rfl
  exact .inl ⟨j,k,by rw[aK ji];exact p1,p2⟩
def kX(s:aQ K H σ fs){t t':SL}(e1:fs[i]?=al (al t))(o:t.own=true)(np:∀ψ n m,t≠.dE ψ n m)(e2:σ[i]?=al (al (.ref a)))(sx:kO a H H')(ht:br K H H'->gL K H' a t')(hi:‹t'.N7=t.N7›)(o':‹t'.own=true›):aQ K H' σ (fs.set i (al t'))/\cJ σ fs H σ (fs.set i (al t')) H':=
 xQ s e1 o np e2 (.inl rfl) (.inl rfl) (λb h=>by unfold SL.has at h ⊢;rw[hi]at h;exact h) o' sx ht
end
end
end FL
open FL.W renaming bind→am,ret→ap,run_bind→lw,ag→re,ai→sw,ao→wf,ext'→KF,bo→TD
local macro_rules | `($a\$b)=>`(am (ap $a) $b)
variable{u:L2.V}{fs aM ay fs2 fs3:FL.aY}{σ':L2.St}{wa wb wc:FL.W PL.PV}{wl:FL.W (O PL.PV)}
namespace FL
section
variable[bD]
variable{K:Aa}
def fE(K:Aa)(fs:aY)(w:W PV)(aM:aY:=fs):TE:=λσ H Q=>aQ K H σ fs/\w.run λv=>∀u H',cK σ fs H H' aM->aQ K H' σ aM->VR K [] H' u v->Q u H'
def fT(K:Aa)(fs:aY)(w:W Bool)(aM:aY:=fs):TT:=λσ H Q=>aQ K H σ fs/\w.run λb=>∀H',cK σ fs H H' aM->aQ K H' σ aM->Q b H'
def fO(K:Aa)(fs:aY)(w:W (Option Int))(aM:aY:=fs):TO:=λσ H Q=>aQ K H σ fs/\w.run λb=>∀H',cK σ fs H H' aM->aQ K H' σ aM->Q b H'
def fL(K:Aa)(fs:aY)(w:W (O PV))(aM:aY:=fs):TE:=λσ H Q=>aQ K H σ fs/\w.run λl=>∀a vs H',cK σ fs H H' aM->aQ K H' σ aM->H a=bn->H' a=al (.lst vs)->aL K [] H' vs l->Q (.ref a) H'
def W0(K:Aa)(H:Hp)(u:V)(l:O PV):Prop:=∃a vs,u=.ref a/\(Pz K H a vs\/H a=al (.tup vs))/\aL K [] H vs l
def Sr(K:Aa)(σ:L2.St)(fs:aY)(H:Hp)(u:V)(l:O PV):Prop:=W0 K H u l\/∃a,u=.ref a/\((¬cu σ fs a/\∃vs,H a=al (.lst vs)/\aL K [] H vs l)\/∃(i:Nat) (q:Option db),fs[i]?=al (al (.ol q l))/\σ[i]?=al (al (.ref a)))
def fQ(K:Aa)(fs:aY)(w:W (O PV))(aM:aY:=fs):TE:=λσ H Q=>aQ K H σ fs/\w.run λl=>∀u H',cK σ fs H H' aM->aQ K H' σ aM->Sr K σ aM H' u l->Q u H'
def fI(K:Aa)(fs:aY)(w:W (O PV))(aM:aY:=fs):TE:=λσ H Q=>aQ K H σ fs/\w.run λl=>∀u H',cK σ fs H H' aM->aQ K H' σ aM->W0 K H' u l->Q u H'
inductive AK where
 |v|p (ψ:Nat->List V->Prop) (d:Nat)|f (a:db) (us:List V) (ps:List PV) (fz:List (db×Obj))
inductive ed(K:Aa)(H:Hp):List V->List AK->List PV->Prop
 |nil:ed K H [] [] []
 |v {u:V}{x:PV}{vs:List V}{ks:List AK}{l:List PV} (r:VR K [] H u x) (t:ed K H vs ks l):ed K H (u::vs) (.v::ks) (x::l)
 |f {a:db}{us vs:List V}{ps:List PV}{fz:List (db×Obj)}{ks:List AK}{l:List PV} (r:aL K [] H us ps) (z:oK H fz) (t:ed K H vs ks l):ed K H (.ref a::vs) (.f a us ps fz::ks) l
def fA(K:Aa)(fs:aY)(ks:O AK)(w:W (O PV))(aM:aY:=fs):TA:=λσ H Q=>aQ K H σ fs/\w.run λl=>∀vs H',cK σ fs H H' aM->aQ K H' σ aM->ed K H' vs ks l->Q vs H'
structure EF(X:Cx)(K:Aa)(fs:aY)(e:pc)(w:W PV)(aM:aY:=fs):Prop where p:PE X e (fE K fs w aM)
structure LF(X:Cx)(K:Aa)(fs:aY)(e:pc)(w:W (List PV))(aM:aY:=fs):Prop where p:PE X e (fL K fs w aM)
structure QF(X:Cx)(K:Aa)(fs:aY)(e:pc)(w:W (List PV))(aM:aY:=fs):Prop where p:PE X e (fQ K fs w aM)
structure IF(X:Cx)(K:Aa)(fs:aY)(e:pc)(w:W (List PV))(aM:aY:=fs):Prop where p:PE X e (fI K fs w aM)
structure TF(X:Cx)(K:Aa)(fs:aY)(e:pc)(w:W Bool)(aM:aY:=fs):Prop where p:PT X e (fT K fs w aM)
structure sV(X:Cx)(K:Aa)(fs:aY)(e:pc)(w:W Bool)(aM:aY:=fs):Prop where p:PW X e (fT K fs w aM)
structure OF(X:Cx)(K:Aa)(fs:aY)(e:Option pc)(w:W (Option Int))(aM:aY:=fs):Prop where p:L2.PO X e (fO K fs w aM)
structure AF(X:Cx)(K:Aa)(fs:aY)(es:List pc)(ks:List AK){R:Type}(B:(List PV->W R)->W R)(aM:aY:=fs):Prop where
 p:∃w:W (List PV),PA X es (fA K fs ks w aM)/\∀k,B k=am w k
section
def W0.tk(t:br K H H')(h:W0 K H u l):W0 K H' u l:=by
 obtain⟨a,vs,e,q,r⟩:=h;exact⟨a,vs,e,q.imp (t.f _ _) (t.t _ _),aL.tk t r⟩
def Sr.go(h:Sr K σ fs H u l)(s:aQ K H σ fs)(g:cK σ fs H H' aM):Sr K σ aM H' u l:=by
 rcases h with h|⟨a,e,⟨n,vs,q,r⟩|q⟩
 .exact .inl (h.tk (g.cC s))
 .exact .inr ⟨a,e,.inl ⟨λz=>n (g.ev.fF z),vs,(g.mn q n),g.Iq s r⟩⟩
 .obtain⟨i,q0,h1,h2⟩:=q;exact .inr ⟨a,e,.inr ⟨i,q0,g.ev.same h1 (by simp),h2⟩⟩
def Sr.sq(h:Sr K σ fs H u l)(s:aQ K H σ fs):∃a vs,u=.ref a/\(du K H a vs\/dX K H a vs)/\aL K [] H vs l:=by
 rcases h with⟨a,vs,e,q,r⟩|⟨a,e,⟨n,vs,q,r⟩|⟨i,_,q1,q2⟩⟩
 .exact⟨a,vs,e,q.elim (λq=>.inl q.sq) λq=>.inr (dX.of q),r⟩
 .exact⟨a,vs,e,.inl (du.of q),r⟩
 .obtain⟨_,vs,q,r⟩:=s.ownAt q1 rfl q2;exact⟨a,vs,e,.inl (du.of q),r⟩
end
section
variable{a c o:pc}{rest:O pc}{w:W PV}
def ae(i:Nat){x:Str}(hs:‹fs[i]?=al (al (.val v))›)(hN:‹X.N[i]?=al x›)(hv:rN X.env.scope x:=by first|exact BA rfl|exact BE (BA rfl)|exact BE (BE rfl))(hd: ~~~(d6 x))(dr: ~~~(rP x)):EF X K fs (.Name x pos) (.ret v):=
 ⟨PE.imp (cO hN hv hd dr) λσ H Q ⟨sr,q⟩=>by
  obtain⟨u,e1,r⟩:=sr.at' i _ hs;rcases r with⟨w,e,r⟩|⟨a,_,r⟩
  .cases e;exact⟨u,e1,q u H .refl sr r⟩
  .exact r.elim⟩
def Xz{v:V}{p:PV}(hv:∀H,VR K [] H v p)(h:PE X e (tC v)):EF X K fs e (.ret p):=⟨PE.imp h λσ H Q ⟨sr,q⟩=>q v H .refl sr (hv _)⟩
def aq{i j}:EF X K fs (.Constant (.int i) j pos) (.ret (.int i)):=Xz (λ_=>.int i) jA
def iq{b j}:EF X K fs (.Constant (.bool b) j pos) (.ret (.bl b)):=Xz (λ_=>.bl b) YS
def qZ{j}:EF X K fs (.Constant .none j pos) (.ret .bx):=Xz (λ_=>.bx) vc
def aN{x j}:EF X K fs (.Constant (.str x) j pos) (.ret (.str x)):=Xz (λ_=>.str x) zY
def O1{x:Str}{i:Int}{t:Tok}(hm:X.mg x=al (.int i t))(hg:Gl X x)(hd: ~~~(d6 x)):EF X K fs (.Name x pos) (.ret (.int i)):=Xz (λ_=>.int i) (eM hg hm ⟨_,rfl⟩ hd)
def WG{x:Str}{i:Str}{t:Tok}(hm:X.mg x=al (.str i t))(hg:Gl X x)(hd: ~~~(d6 x)):EF X K fs (.Name x pos) (.ret (.str i)):=Xz (λ_=>.str i) (eM hg hm ⟨_,rfl⟩ hd)
def of2(m:M2)(x y:PV):W PV:=⟨λQ=>m.f x y [] λz h=>h=[]/\Q z,λf q=>m.mono (λ_ _ q=>⟨q.1,f _ q.2⟩) q⟩
def ZG(H:Hp):HR K [] H []:=⟨List.nodup_nil,rfl,λn a o e _=>by simp at e⟩
def pq0{Q:VK}{z:PV}{h:PH}(sr:aQ K H σ fs)(q:h=[]/\∀u H',cK σ fs H H'->aQ K H' σ fs->VR K [] H' u z->Q u H'):pQ K [] H Q z h:=λι' v H' g r x=>by
 obtain⟨e,q⟩:=q;subst e;have:ι'=[]:=Ci r.len;subst this;have sm:fe H H':=λa o z=>g.keep a o (by simp) z;exact q v H' (cK.same sm) (sr.same sm) x
def GW{r:R2}{m:M2}(hm:M2.Ok K r m){Q:VK}{v:V}{x y:PV}(sr:aQ K H σ fs)(hu:VR K [] H u x)(hv:VR K [] H v y)(q:(of2 m x y).run λz=>∀u H',cK σ fs H H'->aQ K H' σ fs->VR K [] H' u z->Q u H'):r u v H Q:=
 hm (ZG H) hu hv (m.mono (λz h q=>pq0 sr q) q)
def JH{r:R2}{m:M2}(hm:M2.Ok K r m):∀σ H Q,fE K fs (.bind wa λx=>.bind wb λy=>of2 m x y) fs2 σ H Q->UD r (fE K fs wa ay) (fE K ay wb fs2) σ H Q:=λσ H Q ⟨sr,q⟩=>
 ⟨sr,wa.mono (λx q1 u1 H1 g1 s1 v1=>⟨s1,wb.mono (λy q2 u2 H2 g2 s2 v2=>GW hm s2 (g2.vr s1 v1) v2 ((of2 m x y).mono (λz q u3 H3 g3 s3 v3=>q u3 H3 ((g1.trans g2).trans g3) s3 v3) q2)) q1⟩) q⟩
def OZ{op:Operator}{r:R2}{m:M2}(ho:gr X (wP op) r)(hm:M2.Ok K r m)(ha:EF X K fs a wa ay)(hb:EF X K ay b wb fs2):EF X K fs (.BinOp a op b pos) (.bind wa λx=>.bind wb λy=>of2 m x y) fs2:=⟨PE.imp (qh ho ha.p hb.p) (JH hm)⟩
def yK(ha:EF X K fs a wa ay)(hb:EF X K ay b wb fs2):EF X K fs (.BinOp a .Sub b pos) (.bind wa λx=>.bind wb λy=>of2 GY x y) fs2:=OZ Ng (zb λ_ _ _ _=>.int _) ha hb
def mJ(ha:EF X K fs a wa ay)(hb:EF X K ay b wb fs2):EF X K fs (.BinOp a .Mult b pos) (.bind wa λx=>.bind wb λy=>of2 jB x y) fs2:=OZ QX (wU λ_ _ _ _=>.int _) ha hb
def O2(ha:EF X K fs a wa ay)(hb:EF X K ay b wb fs2):EF X K fs (.BinOp a .FloorDiv b pos) (.bind wa λx=>.bind wb λy=>of2 oDiv x y) fs2:=OZ QY (wU λ_ _ _ _=>.int _) ha hb
def kJ(ha:EF X K fs a wa ay)(hb:EF X K ay b wb fs2):EF X K fs (.BinOp a .Mod b pos) (.bind wa λx=>.bind wb λy=>of2 oMod x y) fs2:=OZ Vl (wU λ_ _ _ _=>.int _) ha hb
def JP(ha:EF X K fs a wa ay)(hb:EF X K ay b wb fs2):EF X K fs (.BinOp a .Pow b pos) (.bind wa λx=>.bind wb λy=>of2 rY x y) fs2:=OZ Vj (wU λ_ _ _ _=>.int _) ha hb
def XB:PV->W Bool
 |.bl b=>.ret b
 |_=>.fail
def kK{m:M2}(hc:JC X K op b m)(ha:EF X K fs a wa ay)(hb:EF X K ay b wb fs2):EF X K fs (.Compare a [op] [b] pos) (.bind wa λx=>.bind wb λy=>of2 m x y) fs2:=let ⟨_,h1,h2⟩:=hc.p;⟨PE.imp (pD h1 ha.p hb.p hc.k) (JH h2)⟩
def Wt{w:W PV}:∀σ H Q,fT K fs (.bind w XB) ay σ H Q->(fE K fs w ay) σ H λx H'=>∃k,x=.bl k/\Q k H':=λσ H Q ⟨sr,q⟩=>⟨sr,w.mono (λx q1 u1 H1 g1 s1 v1=>by
 cases v1 with
 |bl b=>exact⟨b,rfl,q1 H1 g1 s1⟩
 |_=>exact q1.elim) q⟩
def dc{m:M2}(hc:JC X K op b m)(ha:EF X K fs a wa ay)(hb:EF X K ay b wb fs2):TF X K fs (.Compare a [op] [b] pos) (.bind wa λx=>.bind wb λy=>.bind (of2 m x y) XB) fs2:=let ⟨_,h1,h2⟩:=hc.p
 ⟨PT.imp (j5 h1 ha.p hb.p hc.k) λσ H Q q=>JH h2 σ H _ (Wt σ H Q q)⟩
def jV(z:PV)(w:W PV):W PV:=match z with
 |.bl true=>w
 |.bl false=>.ret (.bl false)
 |_=>.fail
def yG{r:R2}{m m':M2}(hm:M2.Ok K r m)(hm':M2.Ok K r' m'):∀σ H Q,fE K fs (.bind wa λx=>.bind wb λy=>.bind (of2 m x y) λz=>jV z (.bind wc λw=>of2 m' y w)) fs σ H Q->zI r r' (fE K fs wa) (fE K fs wb) (fE K fs wc) σ H Q:=λσ H Q ⟨sr,q⟩=>
 ⟨sr,wa.mono (λx q1 u1 H1 g1 s1 v1=>⟨s1,wb.mono (λy q2 u2 H2 g2 s2 v2=>GW hm s2 (g2.vr s1 v1) v2 ((of2 m x y).mono (λz q3 u3 H3 g3 s3 v3=>by
  have gg:=(g1.trans g2).trans g3;cases v3 with
  |bl k=>
   cases k with
   |true=>exact⟨true,rfl,by rw[if_pos rfl];exact⟨s3,wc.mono (λw q4 u4 H4 g4 s4 v4=>GW hm' s4 ((g3.trans g4).vr s2 v2) v4 ((of2 m' y w).mono (λz q u5 H5 g5 s5 v5=>q u5 H5 ((gg.trans g4).trans g5) s5 v5) q4)) q3⟩⟩
   |false=>exact⟨false,rfl,by rw[if_neg Bi];exact q3 _ H3 gg s3 (.bl _)⟩
  |_=>exact q3.elim) q2)) q1⟩) q⟩
def JR{m m':M2}(hc:JC X K op b m)(xn:JC X K LM c m')(ha:EF X K fs a wa)(hb:EF X K fs b wb)(hd:EF X K fs c wc)(hk:lastMarks [op,LM] [b,c]=false:=by with_unfolding_all rfl):EF X K fs (.Compare a [op,LM] [b,c] pos) (.bind wa λx=>.bind wb λy=>.bind (of2 m x y) λz=>jV z (.bind wc λw=>of2 m' y w)):=
 let ⟨_,h1,h2⟩:=hc.p;let ⟨_,h3,h4⟩:=xn.p;⟨PE.imp (Na h1 h3 ha.p hb.p hd.p hk) (yG h2 h4)⟩
def Ql{m m':M2}(hc:JC X K op b m)(xn:JC X K LM c m')(ha:EF X K fs a wa)(hb:EF X K fs b wb)(hd:EF X K fs c wc)(hk:lastMarks [op,LM] [b,c]=false:=by with_unfolding_all rfl):TF X K fs (.Compare a [op,LM] [b,c] pos) (.bind wa λx=>.bind wb λy=>.bind (of2 m x y) λz=>.bind (jV z (.bind wc λw=>of2 m' y w)) XB):=
 let ⟨_,h1,h2⟩:=hc.p;let ⟨_,h3,h4⟩:=xn.p;⟨PT.imp (MU h1 h3 ha.p hb.p hd.p hk) λσ H Q q=>yG h2 h4 σ H _ (Wt σ H Q q)⟩
def Pp(x:PV)(w:W PV):W PV:=match x with
 |.bl true=>w
 |.bl false=>.ret (.bl false)
 |_=>.fail
def orW(x:PV)(w:W PV):W PV:=match x with
 |.bl true=>.ret (.bl true)
 |.bl false=>w
 |_=>.fail
def Vw:PV->W PV
 |.bl b=>.ret (.bl (!b))
 |_=>.fail
def JS(ha:EF X K fs a wa ay)(hb:EF X K ay (.BoolOp .And (b::rest) pos) wb fs2)(hl:uy ay fs2:=by exact .refl _):EF X K fs (.BoolOp .And (a::b::rest) pos) (.bind wa λx=>Pp x wb) fs2:=⟨PE.imp (Nc ha.p hb.p) λσ H Q ⟨sr,q⟩=>⟨sr,wa.mono (λx q1 u1 H1 g1 s1 v1=>by
 cases v1 with
 |bl k=>
  cases k with
  |true=>exact⟨true,rfl,by rw[if_pos rfl];exact⟨s1,wb.mono (λ_ q u H' g s v=>q u H' (g1.trans g) s v) q1⟩⟩
  |false=>exact⟨false,rfl,by rw[if_neg Bi];exact q1 _ H1 (g1.le hl) (s1.le hl.f) (.bl _)⟩
 |_=>exact q1.elim) q⟩⟩
def aet(ha:EF X K fs a wa ay)(hb:EF X K ay (.BoolOp .Or (b::rest) pos) wb fs2)(hl:uy ay fs2:=by exact .refl _):EF X K fs (.BoolOp .Or (a::b::rest) pos) (.bind wa λx=>orW x wb) fs2:=⟨PE.imp (S9 ha.p hb.p) λσ H Q ⟨sr,q⟩=>⟨sr,wa.mono (λx q1 u1 H1 g1 s1 v1=>by
 cases v1 with
 |bl k=>
  cases k with
  |true=>exact⟨true,rfl,by rw[if_pos rfl];exact q1 _ H1 (g1.le hl) (s1.le hl.f) (.bl _)⟩
  |false=>exact⟨false,rfl,by rw[if_neg Bi];exact⟨s1,wb.mono (λ_ q u H' g s v=>q u H' (g1.trans g) s v) q1⟩⟩
 |_=>exact q1.elim) q⟩⟩
def yL{op}(h:EF X K fs a wa ay):EF X K fs (.BoolOp op [a] pos) wa ay:=⟨zZ h.p⟩
def aae(ha:EF X K fs a wa ay):EF X K fs (.UnaryOp .Not a pos) (.bind wa Vw) ay:=⟨PE.imp (M7 ha.p) λσ H Q ⟨sr,q⟩=>⟨sr,wa.mono (λx q1 u1 H1 g1 s1 v1=>by
 cases v1 with
 |bl k=>exact⟨_,rfl,q1 _ H1 g1 s1 (.bl _)⟩
 |_=>exact q1.elim) q⟩⟩
variable{ta tb tc:W Bool}
def iC(h:TF X K fs a ta ay):sV X K fs (.BoolOp .And [a] pos) ta ay:=⟨Jc h.p⟩
def mW(h:TF X K fs a ta ay):sV X K fs (.BoolOp .Or [a] pos) ta ay:=⟨zS h.p⟩
def jr(ha:TF X K fs a ta ay)(hb:sV X K ay (.BoolOp .And (b::rest) pos) tb fs2)(hl:uy ay fs2:=by exact .refl _):sV X K fs (.BoolOp .And (a::b::rest) pos) (.bind ta λk=>if k=true then tb else .ret false) fs2:=⟨PW.imp (MN ha.p hb.p) λσ H Q ⟨sr,q⟩=>⟨sr,ta.mono (λk q1 H1 g1 s1=>by
 cases k with
 |true=>exact jH ⟨s1,tb.mono (λ_ q H' g s=>q H' (g1.trans g) s) q1⟩
 |false=>exact gj (q1 H1 (g1.le hl) (s1.le hl.f))) q⟩⟩
def tm(ha:TF X K fs a ta ay)(hb:sV X K ay (.BoolOp .Or (b::rest) pos) tb fs2)(hl:uy ay fs2:=by exact .refl _):sV X K fs (.BoolOp .Or (a::b::rest) pos) (.bind ta λk=>if k=true then .ret true else tb) fs2:=⟨PW.imp (MM ha.p hb.p) λσ H Q ⟨sr,q⟩=>⟨sr,ta.mono (λk q1 H1 g1 s1=>by
 cases k with
 |true=>exact jH (q1 H1 (g1.le hl) (s1.le hl.f))
 |false=>exact gj ⟨s1,tb.mono (λ_ q H' g s=>q H' (g1.trans g) s) q1⟩) q⟩⟩
def sV.t(h:sV X K fs a ta ay):TF X K fs a ta ay:=⟨PW.pt h.p⟩
def fY(ha:TF X K fs a ta ay):TF X K fs (.UnaryOp .Not a pos) (.bind ta λk=>.ret (!k)) ay:=⟨PT.imp (m9 ha.p) λσ H Q ⟨sr,q⟩=>⟨sr,q⟩⟩
def R6(hc:TF X K fs c tc ay)(ha:EF X K ay a wa fs2)(hb:EF X K ay b wb fs2):EF X K fs (.IfExp c a b pos) (.bind tc λk=>if k=true then wa else wb) fs2:=⟨PE.imp (M8 hc.p ha.p hb.p) λσ H Q ⟨sr,q⟩=>⟨sr,tc.mono (λk q1 H1 g1 s1=>by
 cases k with
 |true=>exact jH ⟨s1,wa.mono (λ_ q u H' g s v=>q u H' (g1.trans g) s v) q1⟩
 |false=>exact gj ⟨s1,wb.mono (λ_ q u H' g s v=>q u H' (g1.trans g) s v) q1⟩) q⟩⟩
def di:PV->W Bool
 |.bx=>.ret false
 |.bl b=>.ret b
 |.int i=>.ret (i != 0)
 |.str y=>.d8 (y.length<=sizeLine) (.ret ((y.length:Int) != 0))
 |.tup l=>.ret (!l.isEmpty)
 |.cl l=>.ret (!l.isEmpty)
 |_=>.fail
def cV(hK:X.K=K)(ha:EF X K fs a wa ay)(he:∀Ä,isTrue a X.env Ä=(do let v <- Ä;Ix a.pos;sK [v] (truthy v))):TF X K fs a (.bind wa di) ay:=⟨PT.imp (tJ K hK ha.p he) λσ H Q ⟨sr,q⟩=>⟨sr,wa.mono (λx q1 u1 H1 g1 s1 v1=>by
 cases v1 with
 |bx=>exact⟨false,rfl,q1 H1 g1 s1⟩
 |bl b=>exact⟨b,rfl,q1 H1 g1 s1⟩
 |int i=>exact⟨_,rfl,q1 H1 g1 s1⟩
 |str y=>exact⟨_,⟨q1.1,rfl⟩,q1.2 H1 g1 s1⟩
 |ty _=>exact q1.elim
 |dk _ _ _=>exact q1.elim
 |dt _ _ _=>exact q1.elim
 |ob _ _ _ _ _=>exact q1.elim
 |hand _=>exact q1.elim
 |ref _=>exact q1.elim
 | @tup p vs l e rs=>
  refine⟨!vs.isEmpty,.inr (.inl ⟨_,dX.of e,rfl⟩),?_⟩;rw[<- jI rs];exact q1 H1 g1 s1
 | @cl p vs l e rs=>
  refine⟨!vs.isEmpty,.inl ⟨_,e.sq,rfl⟩,?_⟩;rw[<- jI rs];exact q1 H1 g1 s1) q⟩⟩
def SK(hK:X.K=K)(ha:QF X K fs a wl ay)(he:∀Ä,isTrue a X.env Ä=(do let v <- Ä;Ix a.pos;sK [v] (truthy v))):TF X K fs a (.bind wl λl=>.ret (!l.isEmpty)) ay:=⟨PT.imp (tJ K hK ha.p he) λσ H Q ⟨sr,q⟩=>⟨sr,wl.mono (λl q1 u1 H1 g1 s1 v1=>by
 obtain⟨b,vs,rfl,h,rs⟩:=v1.sq s1;refine⟨!vs.isEmpty,?_,?_⟩
 .exact h.elim (λh=>.inl ⟨_,h,rfl⟩) λh=>.inr (.inl ⟨_,h,rfl⟩)
 .rw[<- jI rs];exact q1 H1 g1 s1) q⟩⟩
variable{R:Type}{ks:O AK}{B:(O PV->W R)->W R}
def au:AF X K fs [] [] (R:=R) (λk=>k []):=⟨.ret [],PA.imp aJ λσ H Q ⟨sr,q⟩=>q [] H .refl sr .nil,λk=>rfl⟩
def af(ha:EF X K fs e w ay)(hr:AF X K ay es ks B fs2)(hs:‹dY X e es›):AF X K fs (e::es) (.v::ks) (λk=>.bind w λx=>B λl=>k (x::l)) fs2:=by
 obtain⟨wr,hp,hB⟩:=hr.p;refine⟨.bind w λx=>.bind wr λl=>.ret (x::l),PA.imp (aj ha.p hp hs) λσ H Q ⟨sr,q⟩=>?_,λk=>?_⟩
 .exact⟨sr,w.mono (λx q1 u1 H1 g1 s1 v1=>⟨s1,wr.mono (λl q2 vs H2 g2 s2 v2=>q2 _ H2 (g1.trans g2) s2 (.v (g2.vr s1 v1) v2)) q1⟩) q⟩
 .have:(λx=>B λl=>k (x::l))=λx=>am wr λl=>k (x::l):=funext λx=>hB _;rw[this];rfl
theorem ed.Iq:∀{vs:O V}{n:Nat}{l:O PV},ed K H vs (Ar n .v) l->aL K [] H vs l/\l.length=n
 |_,0,_,.nil=>⟨.nil,rfl⟩
 |_,n+1,_,.v r t=>⟨.cons r (ed.Iq t).1,by rw[Ap,(ed.Iq t).2]⟩
def aad{x1}{B:(O PV->W PV)->W PV}(h:AF X K fs es (Ar n .v) B ay)(hn: ~~~(n<=1000)):EF X K fs (.Tuple es x1 pos) (B λl=>.ret (.tup l)) ay:=by
 obtain⟨w,hp,hB⟩:=h.p;rw[hB];refine⟨PE.imp (Jf hp) λσ H Q ⟨sr,q⟩=>⟨sr,w.mono (λl q1 vs H1 g1 s1 v1=>?_) q⟩⟩;obtain⟨v2,hl⟩:=v1.Iq;exact⟨by rw[v2.length,hl];exact a6 hn,λp H2 s2 e2 n2=>q1 _ H2 (g1.trans (cK.same s2)) (s1.same s2) (.tup e2 (aL.tk s2.eU v2))⟩
def Tq{B:(O PV->W (O PV))->W (O PV)}(h:AF X K fs es (Ar n .v) B ay)(hn: ~~~(n<=1000)):LF X K fs (.List es pos) (B λl=>.ret l) ay:=by
 obtain⟨w,hp,hB⟩:=h.p;rw[hB];refine⟨PE.imp (Jg hp) λσ H Q ⟨sr,q⟩=>⟨sr,w.mono (λl q1 vs H1 g1 s1 v1=>?_) q⟩⟩;obtain⟨v2,hl⟩:=v1.Iq;exact⟨by rw[v2.length,hl];exact a6 hn,λp H2 s2 e2 n2=>q1 _ _ H2 (g1.trans (cK.same s2)) (s1.same s2) (g1.there p n2) e2 (aL.tk s2.eU v2)⟩
end
end
end FL
namespace L2
def Inv.Jz{σ:St}(I:Inv X Z σ H s)(e:H a=al (.lst vs)):∃o,Inv X Z σ (upd H a (.cU o (.lst vs))) s:=by
 obtain⟨z,ax,n,r,h1⟩:=(I.aX a _ e);exact⟨_,I.write (by rw[e];exact B5) (.inl rfl) (λb u _ z=>z) ⟨_,h1⟩ ⟨h1,z,ax,n,r,h1⟩⟩
def Inv.JA{σ:St}{az:O (Key×V)}(I:Inv X Z σ H s)(e:H a=al (.dK az)):∃o,Inv X Z σ (upd H a (.cU o (.dK az))) s:=by
 obtain⟨z,hs,vs,r,o,es,ep,h1,h2⟩:=(I.aX a _ e);exact⟨o,I.write (by rw[e];exact B5) (.inl rfl) (λb u _ z=>z) ⟨o,h1⟩ ⟨h1,z,hs,vs,r,o,es,ep,h1,h2⟩⟩
end L2
variable{t:FL.SL}{ks:O FL.AK}{B:(O PL.PV->FL.W PL.PV)->FL.W PL.PV}{wm:FL.W (O PL.PV)}{q0:Option AY}
namespace FL
section
variable[bD]
variable{K:Aa}
section
def pB(o':HO)(e:H a=al (.lst vs)):br K H (upd H a o'):=⟨λb ws q=>by rw[ah (xT q e (by intro z;cases z))];exact q,λb o u q=>by rw[ah (xT q e (by intro z;cases z))];exact q,xk λb φ q=>by rw[ah (xT q e (by intro z;cases z))];exact q⟩
def dvK(az:O (Key×PV)):PV:=.dv (az.map λkv=>kP kv.1) (az.map (·.2))
def dvT(az:O (O Key×PV)):PV:=.dv (az.map λkv=>.tup (kv.1.map kP)) (az.map (·.2))
def YU(h:o.ow=true):∀φ,o≠.ext φ:=λφ e=>by subst e;cases h
def fX{oh:HO}(o':HO)(e:H a=al oh)(n1:∀vs,oh≠.tup vs)(n2:∀o u,oh≠.cU o u)(n3:∀φ,oh≠.ext φ:=by first|(intro φ z;cases z;done)|exact YU (by assumption)):br K H (upd H a o'):=⟨λb ws q=>by rw[ah (λz=>by subst z;rw[e]at q;cases q;exact n1 _ rfl)];exact q,λb o u q=>by rw[ah (λz=>by subst z;rw[e]at q;cases q;exact n2 _ _ rfl)];exact q,xk λb φ q=>by rw[ah (λz=>by subst z;rw[e]at q;cases q;exact n3 _ rfl)];exact q⟩
def Tt{vs:O (O Key×V)}{az:O (O Key×PV)}(h:vs.map (·.1)=az.map (·.1)):(az.map λkv=>PV.tup (kv.1.map kP))=vs.map λkv=>PV.tup (kv.1.map kP):=by
 have:=congrArg (List.map λk:O Key=>PV.tup (k.map kP)) h;rw[BJ,BJ]at this;exact this.symm
def Tu{vs:O (Key×V)}{az:O (Key×PV)}(h:vs.map (·.1)=az.map (·.1)):(az.map λkv=>kP kv.1)=vs.map λkv=>kP kv.1:=by
 have:=congrArg (List.map kP) h;rw[BJ,BJ]at this;exact this.symm
def SL.bw:SL->Bool
 |.ol _ _=>true
 |.od _=>true
 |.ot _=>true
 |_=>false
def SL.bv:SL->PV
 |.ol _ l=>.cl l
 |.od az=>dvK az
 |.ot az=>dvT az
 |_=>.bx
def SL.Pd(h:t.bw=true):t.own=true:=by cases t<;>first|rfl|cases h
def Z0(I:Inv X Z σ' H s)(oa:gL K H a t)(hb:t.bw=true):∃ob o,H a=al o/\(∀vs,o≠.tup vs)/\(∀ob u,o≠.cU ob u)/\Inv X Z σ' (upd H a (.cU ob o)) s/\VR K [] (upd H a (.cU ob o)) (.ref a) t.bv:=by
 cases t with
 |ol q l=>
  obtain⟨_,vs,e,r⟩:=oa;obtain⟨ob,I2⟩:=I.Jz e;exact⟨ob,_,e,by simp,by simp,I2,.cl (.inl ⟨ob,aw⟩) (aL.tk (fX _ e (by simp) (by simp)) r)⟩
 |od l=>
  obtain⟨vs,e,k,r⟩:=oa;obtain⟨ob,I2⟩:=I.JA e;exact⟨ob,_,e,by simp,by simp,I2,.dk aw (Tu k) (aL.tk (fX _ e (by simp) (by simp)) r)⟩
 |ot l=>
  obtain⟨vs,e,k,r⟩:=oa;obtain⟨ob,I2⟩:=I.freeze e;exact⟨ob,_,e,by simp,by simp,I2,.dt aw (Tt k) (aL.tk (fX _ e (by simp) (by simp)) r)⟩
 |_=>cases hb
def aQ.ZZ{u:HO}(sr:aQ K H σ fs)(hs:fs[i]?=al (al t))(ho:t.own=true)(e1:σ[i]?=al (al (.ref a)))(h1:H a=al o)(n1:∀vs,o≠.tup vs)(n2:∀ob u,o≠.cU ob u)(vr:VR K [] (upd H a u) (.ref a) v):aQ K (upd H a u) σ (fs.set i (al (.val v))):=by
 have ow:o.ow=true:=by
  obtain⟨o',z1,_,_,z2⟩:=(sr.ownAt hs ho e1).ex ho (.inl rfl);rw[h1]at z1;cases z1;exact z2
 have nt:o.nt=true:=Nf ow;refine⟨by simp[sr.len],λj t' z=>?_,λj k t' u b1 b2 b z1 z2 o1 o2=>?_,sr.tb.IV (λb o n z=>by rw[ah n];exact z) h1 nt n2⟩
 .rcases cM z with⟨rfl,rfl⟩|⟨n,z⟩
  .exact⟨_,e1,.inl ⟨_,rfl,vr⟩⟩
  .obtain⟨u,k1,k2⟩:=sr.at' j t' z;exact⟨u,k1,k2.mono (fX _ h1 n1 n2) (λx b o eb ow hb zz _=>by
    subst eb;rw[ah (λy=>by subst y;exact n (sr.nd j i t' _ x b b z hs ow ho k1 e1 hb (.inl rfl)))];exact zz)⟩
 .rcases cM z1 with⟨rfl,rfl⟩|⟨n1,z1⟩
  .cases o1
  .rcases cM z2 with⟨rfl,rfl⟩|⟨n2,z2⟩
   .cases o2
   .exact sr.nd j k t' u b1 b2 b z1 z2 o1 o2
def aQ.side(s:aQ K H σ fs)(n:¬cu σ fs a)(e:H a=al (.lst vs))(o':HO):aQ K (upd H a o') σ fs:=⟨s.len,λi t q=>by
 obtain⟨u,h1,h2⟩:=s.at' i t q;exact⟨u,h1,h2.mono (pB o' e) (λx b o eb ow hb z _=>by subst eb;rw[ah (λy:b=a=>n ⟨i,t,x,q,ow,h1,y▸hb⟩)];exact z)⟩,s.nd,s.tb.IV (λb o n z=>by rw[ah n];exact z) e rfl (by simp)⟩
def cK.side(g:cK σ fs H H1 aM)(h0:H a=bn)(e0:∀φ,H1 a≠al (.ext φ))(o':HO):cK σ fs H (upd H1 a o') aM:=⟨λb o e n t=>by rw[ah (bB e h0)];exact g.keep b o e n t,λb e=>by
 by_cases c:b=a
 .subst c;exact h0
 .rw[ah c]at e;exact g.there b e,g.ev,λb z=>by
 have z:=g.x b z;unfold gs at z ⊢;rw[ah (λy=>by subst y;exact e0 _ z)];exact z⟩
end
section
variable{a:pc}{w:W PV}
def q8(h:LF X K fs e wl ay):EF X K fs e (.bind wl λl=>.ret (.cl l)) ay:=⟨λZ s σ H Q I ⟨sr,q⟩=>by
 refine bp (h.p Z s σ H (λu H1=>∃a vs l,u=.ref a/\cK σ fs H H1 ay/\aQ K H1 σ ay/\H a=bn/\H1 a=al (.lst vs)/\aL K [] H1 vs l/\∀u H',cK σ fs H H' ay->aQ K H' σ ay->VR K [] H' u (.cl l)->Q u H') I ⟨sr,wl.mono (λl q1 a vs H1 g1 s1 n e v=>⟨a,vs,l,rfl,g1,s1,n,e,v,q1⟩) q⟩) λu s1 ⟨v,H1,I1,r1,a,vs,l,e,g1,S0,n,ea,vr,q1⟩=>?_;subst e;obtain⟨ob,I2⟩:=I1.Jz ea;exact⟨.ref a,_,I2,r1,q1 _ _ (g1.side n (λφ=>by rw[ea];simp) _) (S0.side (λz=>sr.noOwn n (g1.ev.fF z)) ea _) (.cl (.inl ⟨ob,aw⟩) (aL.tk (pB _ ea) vr))⟩⟩
def bK:PV->W (O PV)
 |.tup l=>.ret l
 |.cl l=>.ret l
 |_=>.fail
def dw(h:EF X K fs e w ay):IF X K fs e (.bind w bK) ay:=⟨PE.imp h.p λσ H Q ⟨sr,q⟩=>⟨sr,w.mono (λx q1 u1 H1 g1 s1 v1=>by
 cases v1 with
 |tup e r=>exact q1 _ H1 g1 s1 ⟨_,_,rfl,.inr e,r⟩
 |cl e r=>exact q1 _ H1 g1 s1 ⟨_,_,rfl,.inl e,r⟩
 |_=>exact q1.elim) q⟩⟩
def TJ(h:LF X K fs e wl ay):IF X K fs e wl ay:=dw (q8 h)
theorem IF.q(h:IF X K fs e wl ay):QF X K fs e wl ay:=⟨PE.imp h.p λσ H Q ⟨sr,q⟩=>⟨sr,wl.mono (λl q1 u1 H1 g1 s1 v1=>q1 u1 H1 g1 s1 (.inl v1)) q⟩⟩
def b9(h:EF X K fs e w ay):QF X K fs e (.bind w bK) ay:=(dw h).q
def oj(h:LF X K fs e wl ay):QF X K fs e wl ay:=⟨PE.imp h.p λσ H Q ⟨sr,q⟩=>⟨sr,wl.mono (λl q1 a vs H1 g1 s1 n e v=>q1 _ H1 g1 s1 (.inr ⟨a,rfl,.inl ⟨λz=>sr.noOwn n (g1.ev.fF z),vs,e,v⟩⟩)) q⟩⟩
def de(i:Nat){x:Str}(hs:‹fs[i]?=al (al (.ol q0 l))›)(hN:‹X.N[i]?=al x›)(hv:rN X.env.scope x:=by first|exact BA rfl|exact BE (BA rfl)|exact BE (BE rfl))(hd: ~~~(d6 x))(dr: ~~~(rP x)):QF X K fs (.Name x pos) (.ret l):=
 ⟨PE.imp (cO hN hv hd dr) λσ H Q ⟨sr,q⟩=>by
  obtain⟨u,e1,r⟩:=sr.at' i _ hs;rcases r with⟨w,e,r⟩|⟨a,e,r⟩
  .cases e
  .subst e;exact⟨_,e1,q _ H .refl sr (.inr ⟨a,rfl,.inr ⟨i,q0,hs,e1⟩⟩)⟩⟩
def ixW(l:O PV):PV->W PV
 |.int i=>.Tc (fB l i)
 |_=>.fail
def cy(hK:X.K=K)(ha:QF X K fs a wl ay)(hb:EF X K ay b wb fs2)(hs:w9 b:=by exact λ_ _=>rfl):EF X K fs (.Subscript a b pos) (.bind wl λl=>.bind wb λy=>ixW l y) fs2:=⟨PE.imp (Jh (vH K hK) ha.p hb.p hs) λσ H Q ⟨sr,q⟩=>⟨sr,wl.mono (λl q1 u1 H1 g1 s1 v1=>⟨s1,wb.mono (λy q2 u2 H2 g2 s2 v2=>by
 cases v2 with
 |int i=>
  have q2:(W.Tc (fB l i)).run _:=q2;cases z:fB l i with
  |none=>rw[z]at q2;exact q2.elim
  |some x=>
   rw[z]at q2;obtain⟨ad,vs,rfl,h,rs⟩:=(v1.go s1 g2).sq s2;obtain⟨v,e1,e2⟩:=aL.fB rs z;have q3:=q2 v H2 (g1.trans g2) s2 e2;exact h.elim (λh=>.inl ⟨ad,vs,i,v,rfl,rfl,h,e1,q3⟩) λh=>.inr (.inl ⟨ad,vs,i,v,rfl,rfl,h,e1,q3⟩)
 |_=>exact q2.elim) q1⟩) q⟩⟩
def aah(ha:EF X K fs a wa ay)(hb:EF X K ay b wb fs2)(hs:w9 b):EF X K fs (.Subscript a b pos) (.bind wa λx=>.bind wb λy=>of2 Nt x y) fs2:=⟨PE.imp (Jh N2 ha.p hb.p hs) (JH Q9)⟩
def ql(m:ux)(l:O PV):W PV:=⟨λQ=>m.f l [] λz h=>h=[]/\Q z,λf q=>m.mono (λ_ _ q=>⟨q.1,f _ q.2⟩) q⟩
section
variable{x:Str}{id:String}{r:O V->Hp->VK->Prop}
def Np{m:ux}(hm:ux.Ok K r m){Q:VK}{us:O V}(sr:aQ K H σ fs)(hu:aL K [] H us l)(q:(ql m l).run λz=>∀u H',cK σ fs H H'->aQ K H' σ fs->VR K [] H' u z->Q u H'):r us H Q:=hm (ZG H) hu (m.mono (λz h q=>pq0 sr q) q)
def pM{m:ux}(hc:bP X (.builtin id) r)(hB:ux.Ok K r m)(hg:Gl X x)(hm:X.mg x=bn)(hv:u8 x=al (.builtin id))(ha:AF X K fs (e::es) (Ar n .v) B ay)(hn: ~~~(x≠"__name__"))(eY: ~~~(d6 x))(he:‹dY X e es›)(bZ:‹gw X pos es›):EF X K fs (.Call (.Name x p) (e::es) [] pos) (B (ql m)) ay:=by
 obtain⟨w,hp,Ĥ⟩:=ha.p;rw[Ĥ];exact⟨PE.imp (bM hc hg hm hv hp hn eY he bZ) λσ H Q ⟨sr,q⟩=>⟨sr,w.mono (λl q1 vs H1 g1 s1 v1=>Np hB s1 v1.Iq.1 ((ql m l).mono (λz q u H' g s v=>q u H' (g1.trans g) s v) q1)) q⟩⟩
def O3{m:ux}(hc:bP X (.type id) r)(hB:ux.Ok K r m)(hg:Gl X x)(hm:X.mg x=bn)(hv:u8 x=al (.type id))(ha:AF X K fs (e::es) (Ar n .v) B ay)(hn: ~~~(x≠"__name__"))(eY: ~~~(d6 x))(he:‹dY X e es›)(bZ:‹gw X pos es›):EF X K fs (.Call (.Name x p) (e::es) [] pos) (B (ql m)) ay:=by
 obtain⟨w,hp,Ĥ⟩:=ha.p;rw[Ĥ];exact⟨PE.imp (eu hc hg hm hv hp hn eY he bZ) λσ H Q ⟨sr,q⟩=>⟨sr,w.mono (λl q1 vs H1 g1 s1 v1=>Np hB s1 v1.Iq.1 ((ql m l).mono (λz q u H' g s v=>q u H' (g1.trans g) s v) q1)) q⟩⟩
def CQ(K:Aa)(r:O V->Hp->VK->Prop)(m:O PV->W PV):Prop:=∀{fs:aY}{σ:L2.St}{H:Hp}{Q:VK}{u:V}{l:O PV},aQ K H σ fs->Sr K σ fs H u l->((m l).run λz=>∀u H',cK σ fs H H'->aQ K H' σ fs->VR K [] H' u z->Q u H')->r [u] H Q
def CL(K:Aa)(r:O V->Hp->VK->Prop)(m:O PV->W (O PV)):Prop:=∀{fs:aY}{σ:L2.St}{H:Hp}{Q:VK}{u:V}{l:O PV},aQ K H σ fs->Sr K σ fs H u l->((m l).run λz=>∀a vs H',cK σ fs H H'->aQ K H' σ fs->H a=bn->H' a=al (.lst vs)->aL K [] H' vs z->Q (.ref a) H')->r [u] H Q
def O4{m:O PV->W PV}(hc:bP X (.builtin id) r)(hB:CQ K r m)(hg:Gl X x)(hm:X.mg x=bn)(hv:u8 x=al (.builtin id))(ha:QF X K fs e wl ay)(hn: ~~~(x≠"__name__"))(eY: ~~~(d6 x))(he:‹dY X e []›)(bZ:‹gw X pos []›):EF X K fs (.Call (.Name x p) [e] [] pos) (.bind wl m) ay:=⟨PE.imp (bM hc hg hm hv (aj ha.p aJ he) hn eY he bZ) λσ H Q ⟨sr,q⟩=>⟨sr,wl.mono (λl q1 u H1 g1 s1 v1=>hB s1 v1 ((m l).mono (λz q u H' g s v=>q u H' (g1.trans g) s v) q1)) q⟩⟩
def Li{m:O PV->W PV}(hc:bP X (.type id) r)(hB:CQ K r m)(hg:Gl X x)(hm:X.mg x=bn)(hv:u8 x=al (.type id))(ha:QF X K fs e wl ay)(hn: ~~~(x≠"__name__"))(eY: ~~~(d6 x))(he:‹dY X e []›)(bZ:‹gw X pos []›):EF X K fs (.Call (.Name x p) [e] [] pos) (.bind wl m) ay:=⟨PE.imp (eu hc hg hm hv (aj ha.p aJ he) hn eY he bZ) λσ H Q ⟨sr,q⟩=>⟨sr,wl.mono (λl q1 u H1 g1 s1 v1=>hB s1 v1 ((m l).mono (λz q u H' g s v=>q u H' (g1.trans g) s v) q1)) q⟩⟩
def abe{m:O PV->W (O PV)}(hc:bP X (.builtin id) r)(hB:CL K r m)(hg:Gl X x)(hm:X.mg x=bn)(hv:u8 x=al (.builtin id))(ha:QF X K fs e wl ay)(hn: ~~~(x≠"__name__"))(eY: ~~~(d6 x))(he:‹dY X e []›)(bZ:‹gw X pos []›):LF X K fs (.Call (.Name x p) [e] [] pos) (.bind wl m) ay:=⟨PE.imp (bM hc hg hm hv (aj ha.p aJ he) hn eY he bZ) λσ H Q ⟨sr,q⟩=>⟨sr,wl.mono (λl q1 u H1 g1 s1 v1=>hB s1 v1 ((m l).mono (λz q a vs H' g s n e v=>q a vs H' (g1.trans g) s (g1.there a n) e v) q1)) q⟩⟩
def NS{m:O PV->W (O PV)}(hc:bP X (.type id) r)(hB:CL K r m)(hg:Gl X x)(hm:X.mg x=bn)(hv:u8 x=al (.type id))(ha:QF X K fs e wl ay)(hn: ~~~(x≠"__name__"))(eY: ~~~(d6 x))(he:‹dY X e []›)(bZ:‹gw X pos []›):LF X K fs (.Call (.Name x p) [e] [] pos) (.bind wl m) ay:=⟨PE.imp (eu hc hg hm hv (aj ha.p aJ he) hn eY he bZ) λσ H Q ⟨sr,q⟩=>⟨sr,wl.mono (λl q1 u H1 g1 s1 v1=>hB s1 v1 ((m l).mono (λz q a vs H' g s n e v=>q a vs H' (g1.trans g) s (g1.there a n) e v) q1)) q⟩⟩
end
def vt(l:O PV):W PV:=.ret (.int l.length)
def Rn(K:Aa):CQ K (U3 K) vt:=λ{fs σ H Q u l} s v q=>by
 obtain⟨a,vs,rfl,h,rs⟩:=v.sq s;refine⟨_,vs.length,rfl,?_,?_⟩
 .exact h.elim (λh=>.inl ⟨_,h,rfl⟩) λh=>.inr ⟨_,h,rfl⟩
 .rw[rs.length];exact q _ H .refl s (.int _)
def zF(l:O PV):W PV:=.ret (.tup l)
def Qk(K:Aa):CQ K (MB K) zF:=λ{fs σ H Q u l} s v q=>by
 have fresh:∀{a:db}{vs:O V},du K H a vs->aL K [] H vs l->MB K [.ref a] H Q:=λ{a vs} h rs=>⟨a,vs,rfl,.inl ⟨h,λp H2 s2 e2 n2=>q _ H2 (cK.same s2) (s.same s2) (.tup e2 (aL.tk s2.eU rs))⟩⟩;rcases v with⟨a,vs,rfl,h|h,rs⟩|⟨a,rfl,⟨n,vs,h,rs⟩|⟨i,_,q1,q2⟩⟩
 .exact fresh h.sq rs
 .exact⟨a,vs,rfl,.inr ⟨dX.of h,q _ H .refl s (.tup h rs)⟩⟩
 .exact fresh (du.of h) rs
 .obtain⟨_,vs,h,rs⟩:=s.ownAt q1 rfl q2;exact fresh (du.of h) rs
end
end
end FL
variable{R:Type}{d:Nat}
namespace FL
section
variable[bD]
variable{K:Aa}
def w6(vs:O V)(ks:O AK)(ψ:Nat->O V->Prop)(d:Nat)(a:db):Prop:=∃i:Nat,ks[i]?=al (.p ψ d)/\vs[i]?=al (.ref a)
structure P6(n:Nat)(vs:List V)(ks:List AK)(H H':Hp):Prop where
 keep:∀a o,H a=al o->(∀ψ d,¬w6 vs ks ψ d a)->(nt:‹o.nt=true›)->H' a=al o
 tb:TB H'
 there:∀a,H' a=bn->H a=bn
 Vc:∀a ψ d,w6 vs ks ψ d a->zh H' a ψ (n+d)
 x:∀b,gs H b->gs H' b
inductive gW(K:Aa)(H:Hp)(n:Nat):List V->List AK->List PV->Prop
 |nil:gW K H n [] [] []
 |v {u:V}{x:PV}{vs:List V}{ks:List AK}{l:List PV} (r:VR K [] H u x) (t:gW K H n vs ks l):gW K H n (u::vs) (.v::ks) (x::l)
 |p {a:db}{ψ:Nat->List V->Prop}{d:Nat}{vs:List V}{ks:List AK}{l:List PV} (e:zh H a ψ n) (r:n+d<=uX) (t:gW K H n vs ks l):gW K H n (.ref a::vs) (.p ψ d::ks) l
 |f {a:db}{us vs:List V}{ps:List PV}{fz:List (db×Obj)}{ks:List AK}{l:List PV} (r:aL K [] H us ps) (z:oK H fz) (t:gW K H n vs ks l):gW K H n (.ref a::vs) (.f a us ps fz::ks) l
def n9(K:Aa)(ks:O AK)(m:O PV->W PV):Sp:=λvs H Q _=>TB H/\∃n l,gW K H n vs ks l/\(m l).run λv=>∀u H',P6 n vs ks H H'->VR K [] H' u v->Q u H'
def qa(K:Aa)(ks:O AK)(m:O PV->W (O PV)):Sp:=λvs H Q _=>TB H/\∃n l,gW K H n vs ks l/\(m l).run λz=>∀a ws H',P6 n vs ks H H'->H a=bn->H' a=al (.lst ws)->aL K [] H' ws z->Q (.ref a) H'
def uB(R:Type):Nat->Type
 |0=>W R
 |n+1=>PV->uB R n
def iB:(n:Nat)->uB R n->O PV->W R
 |0,m,[]=>m
 |n+1,m,x::l=>iB n (m x) l
 |0,_,_::_=>.fail
 |_+1,_,[]=>.fail
section
def ed.nop(h:ed K H vs ks l):¬w6 vs ks ψ d a:=by
 rintro⟨i,e1,e2⟩
 induction h generalizing i with
 |nil=>simp at e1
 |v r t ih=>cases i with|zero=>simp at e1|succ i=>exact ih i (by simpa using e1) (by simpa using e2)
 |f r z t ih=>cases i with|zero=>simp at e1|succ i=>exact ih i (by simpa using e1) (by simpa using e2)
def ed.c(h:ed K H vs ks l):gW K H n vs ks l:=by
 induction h with
 |nil=>exact .nil
 |v r t ih=>exact .v r ih
 |f r z t ih=>exact .f r z ih
def P6.caller(g:P6 n vs ks H H')(h:ed K H vs ks l)(s:aQ K H σ fs):aQ K H' σ fs/\cK σ fs H H':=by
 have gf:cK σ fs H H':=⟨λa o e _ t=>g.keep a o e (λ_ _=>h.nop) t,g.there,.refl _,g.x⟩;refine⟨⟨s.len,λi t e=>?_,s.nd,g.tb⟩,gf⟩;obtain⟨u,h1,h2⟩:=s.at' i t e;exact⟨u,h1,h2.mono (gf.cC s) λx a o _ _ _ z nt=>g.keep a o z (λ_ _=>h.nop) nt⟩
def P6.JX{m:Nat}(g:P6 n (.ref a::vs) (.p ψ d::ks) H H')(h:ed K H vs ks l)(s:aQ K H σ fs)(e1:fs[i]?=al (al (.dE ψ n m)))(e2:σ[i]?=al (al (.ref a)))(hd:n+d<=m):aQ K H' σ (fs.set i (al (.dE ψ (n+d) m)))/\cK σ fs H H' (fs.set i (al (.dE ψ (n+d) m))):=by
 have pa:∀{b ψ' d'},w6 (.ref a::vs) (.p ψ d::ks) ψ' d' b->b=a:=λ{b ψ' d'} ⟨j,z1,z2⟩=>by
  cases j with
  |zero=>simp at z2;exact z2.symm
  |succ j=>exact(h.nop ⟨j,by simpa using z1,by simpa using z2⟩).elim
 have hi:i<fs.length:=(Al.mp e1).1;have ev:Ev fs (fs.set i (al (.dE ψ (n+d) m))):=⟨by simp,λj=>by
  by_cases c:j=i
  .subst c;exact .inr ⟨ψ,n,n+d,m,e1,bq hi⟩
  .exact .inl (aK c).symm⟩
 have gf:cK σ fs H H' (fs.set i (al (.dE ψ (n+d) m))):=⟨λb o e q t=>g.keep b o e (λψ' d' p=>q ψ m ⟨i,n,e1,by rw[pa p];exact e2⟩) t,g.there,ev,g.x⟩;have tk:=gf.cC s;obtain⟨_,_,hm⟩:=s.ownAt e1 rfl e2;refine⟨⟨by simp[s.len],λj t e=>?_,ev.nd s,g.tb⟩,gf⟩
 .rcases cM e with⟨rfl,rfl⟩|⟨c,e⟩
  .exact⟨_,e2,.inr ⟨a,rfl,g.Vc a ψ d ⟨0,rfl,rfl⟩,hd,hm⟩⟩
  .obtain⟨u,h1,h2⟩:=s.at' j t e;refine⟨u,h1,h2.mono tk λx b o eb ow hb z nt=>g.keep b o z (λψ' d' p=>?_) nt⟩;subst eb;exact c (s.nd j i t _ x a b e e1 ow rfl h1 e2 hb (.inl (pa p)))
end
section
variable{x:Str}{n0 mx:Nat}
def WH{m:O PV->W PV}(G:LJ X.prog X.w X.K X.mg X.base x k ps (n9 K ks m))(hr:bI k' X.A)(hk:k<=k')(hg:Gl X x)(ha:AF X K fs (e::es) ks B ay)(eY: ~~~(d6 x))(he:‹dY X e es›)(bZ:‹gw X pos es›):EF X K fs (.Call (.Name x p) (e::es) [] pos) (B m) ay:=by
 obtain⟨w,hp,hB⟩:=ha.p;rw[hB];exact⟨PE.imp (vd G hr hk hg hp eY he bZ) λσ H Q ⟨sr,q⟩=>⟨sr,w.mono (λl q1 vs H1 g1 s1 v1=>⟨s1.tb,0,l,v1.c,(m l).mono (λz q2 u H2 g2 r2=>let ⟨s2,g3⟩:=g2.caller v1 s1;q2 u H2 (g1.trans g3) s2 r2) q1⟩) q⟩⟩
def VO{m:O PV->W (O PV)}{B:(O PV->W (O PV))->W (O PV)}(G:LJ X.prog X.w X.K X.mg X.base x k ps (qa K ks m))(hr:bI k' X.A)(hk:k<=k')(hg:Gl X x)(ha:AF X K fs (e::es) ks B ay)(eY: ~~~(d6 x))(he:‹dY X e es›)(bZ:‹gw X pos es›):LF X K fs (.Call (.Name x p) (e::es) [] pos) (B m) ay:=by
 obtain⟨w,hp,hB⟩:=ha.p;rw[hB];exact⟨PE.imp (vd G hr hk hg hp eY he bZ) λσ H Q ⟨sr,q⟩=>⟨sr,w.mono (λl q1 vs H1 g1 s1 v1=>⟨s1.tb,0,l,v1.c,(m l).mono (λz q2 a ws H2 g2 n2 e2 r2=>let ⟨s2,g3⟩:=g2.caller v1 s1;q2 a ws H2 (g1.trans g3) s2 (g1.there a n2) e2 r2) q1⟩) q⟩⟩
def OD{m:Nat}(s:aQ K H σ fs)(e:Ev fs ay)(h:ay[i]?=al (al (.dE ψ n m))):∃a,σ[i]?=al (al (.ref a))/\ay[i]?=al (al (.dE ψ n m)):=by
 rcases e.get h with z|⟨_,j,_,_,z,y⟩
 .obtain⟨u,e1,r⟩:=s.at' i _ z;rcases r with⟨v,e,_⟩|⟨a,rfl,_⟩
  .cases e
  .exact⟨a,e1,h⟩
 .cases z;obtain⟨u,e1,r⟩:=s.at' i _ y;rcases r with⟨v,e,_⟩|⟨a,rfl,_⟩
  .cases e
  .exact⟨a,e1,h⟩
def R9(i:Nat){m:O PV->W PV}(G:LJ X.prog X.w X.K X.mg X.base x k ps (n9 K (.p ψ d::ks) m))(hr:bI k' X.A)(hk:k<=k')(hg:Gl X x)(hs:fs[i]?=al (al (.dE ψ n0 mx)))(ha:AF X K fs es ks B ay)(my:ay[i]?=al (al (.dE ψ n mx)))(hd:n+d<=mx)(eY: ~~~(d6 x))(hN:‹X.N[i]?=al y›)(hv:rN X.env.scope y:=by first|exact BA rfl|exact BE (BA rfl)|exact BE (BE rfl))(V4: ~~~(d6 y))(dr: ~~~(rP y))(he:‹lm (.Name y py::es) X.env=(false,o0 (.Name y py) X.env)::lm es X.env›)(bZ:‹gw X pos es›):EF X K fs (.Call (.Name x p) (.Name y py::es) [] pos) (B m) (ay.set i (al (.dE ψ (n+d) mx))):=by
 obtain⟨w,hp,hB⟩:=ha.p;rw[hB];refine⟨PE.imp (vd G hr hk hg (aj (cO hN hv V4 dr) hp he) eY he bZ) λσ H Q ⟨sr,q⟩=>?_⟩;obtain⟨a,e1,_⟩:=OD sr (.refl _) hs;refine⟨_,e1,sr,w.mono (λl q1 vs H1 g1 s1 v1=>?_) q⟩;obtain⟨pt,h1,h2⟩:=s1.ownAt my rfl e1;exact⟨s1.tb,n,l,.p pt (AE hd h2) v1.c,(m l).mono (λz q2 u H2 g2 r2=>let ⟨s2,g3⟩:=g2.JX v1 s1 my e1 hd;q2 u H2 (g1.trans g3) s2 r2) q1⟩
def Ru(i:Nat){m:O PV->W (O PV)}{B:(O PV->W (O PV))->W (O PV)}(G:LJ X.prog X.w X.K X.mg X.base x k ps (qa K (.p ψ d::ks) m))(hr:bI k' X.A)(hk:k<=k')(hg:Gl X x)(hs:fs[i]?=al (al (.dE ψ n0 mx)))(ha:AF X K fs es ks B ay)(my:ay[i]?=al (al (.dE ψ n mx)))(hd:n+d<=mx)(eY: ~~~(d6 x))(hN:‹X.N[i]?=al y›)(hv:rN X.env.scope y:=by first|exact BA rfl|exact BE (BA rfl)|exact BE (BE rfl))(V4: ~~~(d6 y))(dr: ~~~(rP y))(he:‹lm (.Name y py::es) X.env=(false,o0 (.Name y py) X.env)::lm es X.env›)(bZ:‹gw X pos es›):LF X K fs (.Call (.Name x p) (.Name y py::es) [] pos) (B m) (ay.set i (al (.dE ψ (n+d) mx))):=by
 obtain⟨w,hp,hB⟩:=ha.p;rw[hB];refine⟨PE.imp (vd G hr hk hg (aj (cO hN hv V4 dr) hp he) eY he bZ) λσ H Q ⟨sr,q⟩=>?_⟩;obtain⟨a,e1,_⟩:=OD sr (.refl _) hs;refine⟨_,e1,sr,w.mono (λl q1 vs H1 g1 s1 v1=>?_) q⟩;obtain⟨pt,h1,h2⟩:=s1.ownAt my rfl e1;exact⟨s1.tb,n,l,.p pt (AE hd h2) v1.c,(m l).mono (λz q2 b ws H2 g2 n2 e2 r2=>let ⟨s2,g3⟩:=g2.JX v1 s1 my e1 hd;q2 b ws H2 (g1.trans g3) s2 (g1.there b n2) e2 r2) q1⟩
end
end
end FL
variable{T:Type}{p':Cv}
namespace FL
section
variable[bD]
variable{K:Aa}
inductive End where
 |nx (fs:aY)|nc (fs:aY)|ct (fs:aY)|rt (v:PV)|rl (l:List PV)|bk (fs:aY)|ro (v:PV) (a:db) (l:List PV)
def xg(σ:L2.St)(fs:aY)(H:Hp)(a:db):Prop:=H a=bn\/∃(i:Nat) (s:SL) (x:db),fs[i]?=al (al s)/\s.own=true/\(∀ψ n m,s≠.dE ψ n m)/\σ[i]?=al (al (.ref x))/\s.has x a
def bO(K:Aa)(x:Bool)(σ:L2.St)(fs:aY)(H:Hp)(D:Ends):End->Prop
 |.nx aM=>x=false->∀σ' H',cJ σ fs H σ' aM H'->aQ K H' σ' aM->D.nx σ' H'
 |.nc aM=>∀σ' H',cJ σ fs H σ' aM H'->aQ K H' σ' aM->(x=false->D.nx σ' H')/\D.ct σ' H'
 |.ct aM=>∀σ' H',cJ σ fs H σ' aM H'->aQ K H' σ' aM->D.ct σ' H'
 |.bk aM=>∀σ' H',cJ σ fs H σ' aM H'->aQ K H' σ' aM->D.bk σ' H'
 |.rt v=>∀u σ' aM H',cJ σ fs H σ' aM H'->aQ K H' σ' aM->VR K [] H' u v->D.rt u H'
 |.ro v a l=>∀u σ' aM H',cJ σ fs H σ' aM H'->aQ K H' σ' aM->(∃i:Nat,aM[i]?=al (al (.ol (al a) l)))->VR K [] H' u v->D.rt u H'
 |.rl l=>∀a ws σ' aM H',cJ σ fs H σ' aM H'->aQ K H' σ' aM->xg σ fs H a->H' a=al (.lst ws)->aL K [] H' ws l->D.rt (.ref a) H'
def fS(K:Aa)(x:Bool)(fs:aY)(w:W T)(out:T->End):TS:=λD σ H=>aQ K H σ fs/\w.run λt=>bO K x σ fs H D (out t)
structure SF(X:Cx)(K:Aa)(x:Bool)(fs:aY)(UK:List ut){T:Type}(w:W T)(out:T->End):Prop where p:nY X UK (fS K x fs w out)
section
variable{σ1:L2.St}{x:Bool}
def xg.go(g:cJ σ fs H σ1 ay H1)(s:aQ K H σ fs)(s1:aQ K H1 σ1 ay)(h:xg σ1 ay H1 a):xg σ fs H a:=by
 rcases h with h|⟨i,t,x,e1,e2,np,e3,e4⟩
 .exact .inl (g.there a h)
 .cases z:H a with
  |none=>exact .inl z
  |some o=>
   by_cases c:cu σ fs a
   .obtain⟨j,t',y,c1,c2,c3,c4⟩:=c;by_cases d:∃ψ n m,t'=.dE ψ n m
    .obtain⟨ψ,n,m,rfl⟩:=d;rcases c4 with rfl|c4
     .rcases g.pk a ψ m ⟨j,n,c1,c3⟩ with⟨k,_,k1,k2⟩|⟨n,_⟩
      .have:=s1.nd i k t _ x a a e1 k1 e2 rfl e3 k2 e4 (.inl rfl);subst this;rw[e1]at k1;cases k1;exact absurd rfl (np _ _ _)
      .exact absurd ⟨i,t,x,e1,e2,e3,e4⟩ n
     .cases c4
    .exact .inr ⟨j,t',y,c1,c2,λψ n m e=>d ⟨ψ,n,m,e⟩,c3,c4⟩
   .exact absurd ⟨i,t,x,e1,e2,e3,e4⟩ (g.keep a o z c).2
def bO.go(g:cJ σ fs H σ1 ay H1)(s:aQ K H σ fs)(s1:aQ K H1 σ1 ay){E:End}(h:bO K x σ fs H D E):bO K x σ1 ay H1 D E:=by
 cases E with
 |nx aM=>exact λhx σ' H' g' s'=>h hx σ' H' (g.trans g') s'
 |nc aM=>exact λσ' H' g' s'=>h σ' H' (g.trans g') s'
 |bk aM=>exact λσ' H' g' s'=>h σ' H' (g.trans g') s'
 |ct aM=>exact λσ' H' g' s'=>h σ' H' (g.trans g') s'
 |rt v=>exact λu σ' aM H' g' s' r=>h u σ' aM H' (g.trans g') s' r
 |ro v a l=>exact λu σ' aM H' g' s' o r=>h u σ' aM H' (g.trans g') s' o r
 |rl l=>exact λa ws σ' aM H' g' s' f e r=>h a ws σ' aM H' (g.trans g') s' (f.go g s s1) e r
def bO.exit{D':Ends}(h1:D'.rt=D.rt)(h2:D'.ct=D.ct)(h3:D'.bk=D.bk){E:End}(h:bO K x σ fs H D E):bO K true σ fs H D' E:=by
 cases E with
 |nx aM=>exact λhx=>nomatch hx
 |nc aM=>exact λσ' H' g' s'=>⟨λhx=>(nomatch hx),h2▸(h σ' H' g' s').2⟩
 |bk aM=>exact λσ' H' g' s'=>h3▸h σ' H' g' s'
 |ct aM=>exact λσ' H' g' s'=>h2▸h σ' H' g' s'
 |rt v=>exact λu σ' aM H' g' s' r=>h1▸h u σ' aM H' g' s' r
 |ro v a l=>exact λu σ' aM H' g' s' o r=>h1▸h u σ' aM H' g' s' o r
 |rl l=>exact λa ws σ' aM H' g' s' f e r=>h1▸h a ws σ' aM H' g' s' f e r
end
section
variable{X:Cx}{a b c e o:pc}{pos p:Pos}{fs aM ay:aY}{st:ut}{UK rest sa sb:O ut}{T T1:Type}{w wk:W T}{out:T->End}{we:W PV}{wl:W (O PV)}{x:Bool}
def End.qE:End->Prop
 |.rt _=>True
 |.rl _=>True
 |.ro _ _ _=>True
 |_=>False
def bO.YW{D':Ends}{y:Bool}{E:End}(ho:E.qE)(e:D'.rt=D.rt)(h:bO K x σ fs H D E):bO K y σ fs H D' E:=by
 cases E with
 |rt v=>exact λu σ' aM H' g s r=>e▸h u σ' aM H' g s r
 |rl v=>exact λa ws σ' aM H' g s f ea r=>e▸h a ws σ' aM H' g s f ea r
 |ro v a l=>exact λu σ' aM H' g s o r=>e▸h u σ' aM H' g s o r
 |_=>exact ho.elim
def xD(X:Cx)(K:Aa)(x:Bool)(rest:O ut){T:Type}(out:T->End):TS:=λD σ H=>∃aM w',SF X K x aM rest w' out/\fS K x aM w' out D σ H
def QA:nY X rest (xD X K x rest out):=λZ s σ H D I ⟨aM,w',h,q⟩=>h.p Z s σ H D I q
def Nw:nY X rest UE:=λ_ _ _ _ _ _ h=>h.elim
def SF.step{t:TS}(h:PS X st t)(hq:∀D σ H,fS K x fs w out D σ H->t {D with nx:=xD X K x rest out D} σ H):SF X K x fs (st::rest) w out:=⟨nY.imp (aW h QA) λD σ H q=>hq D σ H q⟩
def SF.last{t:TS}(h:PS X st t)(hq:∀D σ H,fS K x fs w out D σ H->t {D with nx:=λ_ _=>False} σ H):SF X K x fs (st::rest) w out:=⟨nY.imp (aW h Nw) λD σ H q=>hq D σ H q⟩
def SF.nil{t:T}(h:out t=.nx aM)(hl:dC fs aM):SF X K false fs [] (.ret t) out:=⟨nY.imp dH λD σ H ⟨sr,q⟩=>by
 have q:bO K false σ fs H D (out t):=q;rw[h]at q;exact q rfl σ H (cJ.le sr hl) (sr.le hl)⟩
def SF.me{t:T}(h:out t=.nc aM)(hl:dC fs aM):SF X K false fs [] (.ret t) out:=⟨nY.imp dH λD σ H ⟨sr,q⟩=>by
 have q:bO K false σ fs H D (out t):=q;rw[h]at q;exact(q σ H (cJ.le sr hl) (sr.le hl)).1 rfl⟩
def SF.cont{t:T}(h:out t=.nc aM\/out t=.ct aM)(hl:dC fs aM):SF X K x fs (.Continue pos::rest) (.ret t) out:=SF.last xJ λD σ H ⟨sr,q⟩=>by
 have q:bO K x σ fs H D (out t):=q;rcases h with h|h
 .rw[h]at q;exact(q σ H (cJ.le sr hl) (sr.le hl)).2
 .rw[h]at q;exact q σ H (cJ.le sr hl) (sr.le hl)
def SF.ret{k:PV->T}(he:EF X K fs e we ay)(h:∀v,out (k v)=.rt v):SF X K x fs (.Return (al e) pos::rest) (.bind we λv=>.ret (k v)) out:=SF.last (dq he.p) λD σ H ⟨sr,q⟩=>⟨sr,we.mono (λv q1 u H1 g1 s1 v1=>by
 have q1:bO K x σ fs H D (out (k v)):=q1;rw[h]at q1;exact q1 u σ ay H1 g1.f s1 v1) q⟩
def SF.dD{out:PV->End}(he:EF X K fs e we ay)(h:∀v,out v=.rt v):SF X K x fs (.Return (al e) pos::rest) we out:=SF.ret (k:=λv=>v) he h
def SF.acQ{k:O PV->T}(he:LF X K fs e wl ay)(h:∀l,out (k l)=.rl l):SF X K x fs (.Return (al e) pos::rest) (.bind wl λl=>.ret (k l)) out:=SF.last (dq he.p) λD σ H ⟨sr,q⟩=>⟨sr,wl.mono (λl q1 a ws H1 g1 s1 n e v1=>by
 have q1:bO K x σ fs H D (out (k l)):=q1;rw[h]at q1;exact q1 a ws σ ay H1 g1.f s1 (.inl n) e v1) q⟩
def SF.oi{out:O PV->End}(he:LF X K fs e wl ay)(h:∀v,out v=.rl v):SF X K x fs (.Return (al e) pos::rest) wl out:=SF.acQ he h
def SF.Yw(i:Nat){t:T}(hs:fs[i]?=al (al (.ol q0 l)))(h:out t=.rl l)(hN:‹X.N[i]?=al y›)(hv:rN X.env.scope y:=by first|exact BA rfl|exact BE (BA rfl)|exact BE (BE rfl))(hd: ~~~(d6 y))(dr: ~~~(rP y)):SF X K x fs (.Return (al (.Name y p)) pos::rest) (.ret t) out:=SF.last (dq (cO hN hv hd dr)) λD σ H ⟨sr,q⟩=>by
 have q:bO K x σ fs H D (out t):=q;rw[h]at q;obtain⟨u,e1,r⟩:=sr.at' i _ hs;rcases r with⟨v,e,_⟩|⟨a,e,r⟩
 .cases e
 .subst e;obtain⟨_,ws,q1,q2⟩:=r;exact⟨_,e1,q a ws σ fs H .refl sr (.inr ⟨i,_,_,hs,rfl,by simp,e1,.inl rfl⟩) q1 q2⟩
def SF.Yx(i:Nat){ad:db}{k:PV->T}(hs:fs[i]?=al (al (.ol (al ad) l)))(he:EF X K fs e we ay)(h:∀v,out (k v)=.ro v ad l):SF X K x fs (.Return (al e) pos::rest) (.bind we λv=>.ret (k v)) out:=SF.last (dq he.p) λD σ H ⟨sr,q⟩=>⟨sr,we.mono (λv q1 u H1 g1 s1 v1=>by
 have q1:bO K x σ fs H D (out (k v)):=q1;rw[h]at q1;exact q1 u σ ay H1 g1.f s1 ⟨i,g1.ev.same hs (by simp)⟩ v1) q⟩
def SF.expr{k:PV->W T}(he:EF X K fs e we ay)(hr:∀v,SF X K x ay rest (k v) out)(hs:‹r6 e bn pos.line X.env=pure false›):SF X K x fs (.Expr e pos::rest) (.bind we k) out:=SF.step (iH he.p hs) λD σ H ⟨sr,q⟩=>
 ⟨sr,we.mono (λv q1 u H1 g1 s1 v1=>⟨ay,k v,hr v,s1,(k v).mono (λt q2=>q2.go g1.f sr s1) q1⟩) q⟩
def SF.set{k:PV->W T}(hN:X.N.Nodup)(hi:X.N[i]?=al y)(hx:Loc X.env.scope y)(he:EF X K fs e we ay)(hr:∀v,SF X K x (ay.set i (al (.val v))) rest (k v) out)(hs:‹r6 e (al (.Name y p')) pos.line X.env=pure false›)(hf:Px X y:=by first|exact .inl rfl|exact .inr rfl|assumption):SF X K x fs (.Assign [.Name y p'] e pos::rest) (.bind we k) out:=SF.step (dI hN hi hx he.p hs hf) λD σ H ⟨sr,q⟩=>
 ⟨sr,we.mono (λv q1 u H1 g1 s1 v1=>⟨_,k v,hr v,s1.gz v1 i,(k v).mono (λt q2=>q2.go (g1.f.trans (cJ.gz s1 u v i)) sr (s1.gz v1 i)) q1⟩) q⟩
def SF.acL{k:O PV->W T}(hN:X.N.Nodup)(hi:X.N[i]?=al y)(hx:Loc X.env.scope y)(he:LF X K fs e wl ay)(hr:∀l,SF X K x (ay.set i (al (.ol bn l))) rest (k l) out)(hs:‹r6 e (al (.Name y p')) pos.line X.env=pure false›)(hf:Px X y:=by first|exact .inl rfl|exact .inr rfl|assumption):SF X K x fs (.Assign [.Name y p'] e pos::rest) (.bind wl k) out:=SF.step (dI hN hi hx he.p hs hf) λD σ H ⟨sr,q⟩=>by
 refine⟨sr,wl.mono (λl q1 a ws H1 g1 s1 n e v1=>?_) q⟩;have no:¬cu σ ay a:=λz=>sr.noOwn n (g1.ev.fF z);have s2:=s1.qg (t:=.ol bn l) ⟨by simp,ws,e,v1⟩ no i;exact⟨_,k l,hr l,s2,(k l).mono (λt q2=>q2.go (cJ.qg s1 g1 no n i) sr s2) q1⟩
def SF.cU(i:Nat){t:SL}(hs:fs[i]?=al (al t))(hr:SF X K x (fs.set i (al (.val t.bv))) UK w out)(hb:‹t.bw=true›):SF X K x fs UK w out:=⟨λZ s σ H D I ⟨sr,q⟩=>by
 obtain⟨u,e1,r⟩:=sr.at' i _ hs;have ho:=SL.Pd hb;rcases r with⟨v,e,_⟩|⟨a,e,oa⟩
 .subst e;cases hb
 .subst e;obtain⟨ob,o,h1,n1,n2,I2,vr⟩:=Z0 I oa hb;have ow:∀b,cu σ (fs.set i (al (.val t.bv))) b->cu σ fs b:=λb z=>by
   obtain⟨j,t,x,z1,z2,z3,z4⟩:=z;rcases cM z1 with⟨rfl,rfl⟩|⟨n,z1⟩
   .cases z2
   .exact⟨j,t,x,z1,z2,z3,z4⟩
  have s2:=sr.ZZ hs ho e1 h1 n1 n2 vr;have g2:cJ σ fs H σ (fs.set i (al (.val t.bv))) (upd H a (.cU ob o)):=by
   refine⟨λb o z n=>⟨?_,λy=>n (ow b y)⟩,λb z=>?_,λb ψ m z=>?_,λb z=>?_⟩
   .intro _;rw[ah (λy=>by subst y;exact n ⟨i,_,_,hs,ho,e1,.inl rfl⟩)];exact z
   .by_cases c:b=a
    .subst c;rw[aw]at z;cases z
    .rw[ah c]at z;exact z
   .obtain⟨j,k,z1,z2⟩:=z;have:j≠i:=λy=>by subst y;rw[hs]at z1;cases z1;cases hb
    exact .inl ⟨j,k,by rw[aK this];exact z1,z2⟩
   .have z':H b=_:=z;show upd H a _ b=_;rw[ah (λy=>by subst y;exact sr.Vy z' ⟨i,_,_,hs,ho,e1,.inl rfl⟩)];exact z'
  exact hr.p Z s σ _ D I2 ⟨s2,w.mono (λt q3=>q3.go g2 sr s2) q⟩⟩
variable{tc:W Bool}
def SF.TH(hc:TF X K fs c tc ay)(ha:SF X K x ay sa w out)(hb:SF X K x ay sb wk out):SF X K x fs [.If c sa sb pos] (.bind tc λb=>if b=true then w else wk) out:=⟨nY.imp (bu (jy hc.p ha.p hb.p)) λD σ H ⟨sr,q⟩=>⟨sr,tc.mono (λk q1 H1 g1 s1=>by
 cases k with
 |true=>exact jH ⟨s1,w.mono (λt q2=>q2.go g1.f sr s1) q1⟩
 |false=>exact gj ⟨s1,wk.mono (λt q2=>q2.go g1.f sr s1) q1⟩) q⟩⟩
def SF.t6(hc:TF X K fs c tc ay)(ha:SF X K true ay sa w out)(hb:SF X K x ay rest wk out):SF X K x fs (.If c sa [] pos::rest) (.bind tc λb=>if b=true then w else wk) out:=SF.step (jy hc.p ha.p dH) λD σ H ⟨sr,q⟩=>⟨sr,tc.mono (λk q1 H1 g1 s1=>by
 cases k with
 |true=>exact jH ⟨s1,w.mono (λt q2=>bO.exit (D:=D) (D':={D with nx:=xD X K x rest out D}) rfl rfl rfl (q2.go g1.f sr s1)) q1⟩
 |false=>exact gj ⟨ay,wk,hb,s1,wk.mono (λt q2=>q2.go g1.f sr s1) q1⟩) q⟩
def W7(X:Cx)(K:Aa)(x:Bool)(rest:O ut){T:Type}(w:W T)(out:T->End):End->Prop
 |.nx aM=>SF X K x aM rest w out
 |.nc aM=>False
 |.bk aM=>∃t,w=.ret t/\out t=.bk aM
 |.ct aM=>∃t,w=.ret t/\(out t=.ct aM\/out t=.nc aM)
 |.rt v=>∃t,w=.ret t/\out t=.rt v
 |.rl l=>∃t,w=.ret t/\out t=.rl l
 |.ro v a l=>∃t,w=.ret t/\out t=.ro v a l
def W7.r{E:End}(sr:aQ K H σ fs)(h:W7 X K x rest w out E)(q:w.run λt=>bO K x σ fs H D (out t)):bO K false σ fs H {D with nx:=xD X K x rest out D} E:=by
 cases E with
 |nx aM=>exact λ_ σ' H' g' s'=>⟨aM,w,h,s',w.mono (λt q2=>q2.go g' sr s') q⟩
 |nc aM=>exact h.elim
 |bk aM=>
  obtain⟨t,rfl,h⟩:=h;have q:bO K x σ fs H D (out t):=q;rw[h]at q;exact q
 |ct aM=>
  obtain⟨t,rfl,h⟩:=h;have q:bO K x σ fs H D (out t):=q;rcases h with h|h
  .rw[h]at q;exact q
  .rw[h]at q;exact λσ' H' g s=>(q σ' H' g s).2
 |rt v=>
  obtain⟨t,rfl,h⟩:=h;have q:bO K x σ fs H D (out t):=q;rw[h]at q;exact q
 |rl v=>
  obtain⟨t,rfl,h⟩:=h;have q:bO K x σ fs H D (out t):=q;rw[h]at q;exact q
 |ro v a l=>
  obtain⟨t,rfl,h⟩:=h;have q:bO K x σ fs H D (out t):=q;rw[h]at q;exact q
variable{w1 w2:W T1}{out1:T1->End}{k:T1->W T}
def SF.ifS(hc:TF X K fs c tc ay)(ha:SF X K false ay sa w1 out1)(hb:SF X K false ay sb w2 out1)(hr:∀t,W7 X K x rest (k t) out (out1 t)):SF X K x fs (.If c sa sb pos::rest) (.bind tc λb=>.bind (if b=true then w1 else w2) k) out:=SF.step (jy hc.p ha.p hb.p) λD σ H ⟨sr,q⟩=>⟨sr,tc.mono (λb q1 H1 g1 s1=>by
 have fin:∀t,(k t).run (λt=>bO K x σ fs H D (out t))->bO K false σ fs H {D with nx:=xD X K x rest out D} (out1 t):=λt q=>(hr t).r sr q;cases b with
 |true=>exact jH ⟨s1,w1.mono (λt q2=>(fin t q2).go g1.f sr s1) q1⟩
 |false=>exact gj ⟨s1,w2.mono (λt q2=>(fin t q2).go g1.f sr s1) q1⟩) q⟩
end
end
section
variable[bD]
variable{K:Aa}
def JF(K:Aa)(H:Hp)(J:It)(l:O PV):Prop:=l.length<=sizeLine/\∀H',br K H H'->(∀(i:Nat) (p:PV),l[i]?=al p->J.go i H'/\∀x H2,J.Qa i H' x H2->fe H' H2/\VR K [] H2 x p)/\J.stop l.length H'
def JF.tk{J:It}(t:br K H H')(h:JF K H J l):JF K H' J l:=⟨h.1,λH2 t2=>h.2 H2 (br.trans t t2)⟩
def fIt(K:Aa)(fs:aY)(w:W (O PV))(aM:aY:=fs):TI:=λσ H R=>aQ K H σ fs/\w.run λl=>∀J H',cK σ fs H H' aM->aQ K H' σ aM->JF K H' J l->R J H'
structure oJ(X:Cx)(K:Aa)(fs:aY)(tg e:pc)(w:W (List PV))(aM:aY:=fs):Prop where p:PI X tg e (fIt K fs w aM)
section
variable{a c:pc}{w:W PV}
def Ss{ad:db}(h:Pz K H ad vs)(r:aL K [] H vs l)(hz:l.length<=sizeLine):JF K H (Itl K ad) l:=⟨hz,λH' t=>by
 have e1:=(t.f _ _ h).sq;have e2:=aL.tk t r;refine⟨λi p hp=>?_,vs,e1,by rw[e2.length];exact Ah _⟩;obtain⟨v,h3,h4⟩:=e2.get hp;refine⟨⟨vs,v,e1,h3⟩,λx H3 y=>?_⟩;obtain⟨rfl,y⟩:=y;have:=y vs e1;rw[h3]at this;cases this;exact⟨fe.refl _,h4⟩⟩
def W4{ad:db}(h:H ad=al (.tup vs))(r:aL K [] H vs l)(hz:l.length<=sizeLine):JF K H (Itt K ad) l:=⟨hz,λH' t=>by
 have e1:=dX.of (K:=K) (t.t _ _ h);have e2:=aL.tk t r;refine⟨λi p hp=>?_,vs,e1,by rw[e2.length];exact Ah _⟩;obtain⟨v,h3,h4⟩:=e2.get hp;refine⟨⟨vs,v,e1,h3⟩,λx H3 y=>?_⟩;obtain⟨rfl,y⟩:=y;have:=y vs e1;rw[h3]at this;cases this;exact⟨fe.refl _,h4⟩⟩
def gk(hK:X.K=K)(h:IF X K fs e wl ay):oJ X K fs tg e wl ay:=⟨by
 subst hK;intro Z s σ H R I ⟨sr,q⟩;refine bp (h.p Z s σ H (λu H1=>∃l,W0 X.K H1 u l/\∀J,JF X.K H1 J l->R J H1) I ⟨sr,wl.mono (λl q1 u H1 g1 s1 v1=>⟨l,v1,λJ j=>q1 J H1 g1 s1 j⟩) q⟩) λv s1 ⟨x,H1,I1,r1,l,⟨ad,vs,e,hh,rs⟩,q1⟩=>?_;subst e;cases r1;rcases hh with hh|hh
 .obtain⟨ax,rv,pl,hz⟩:=I1.list hh.sq;refine EW pl.isList ?_;refine⟨s1.heap.objs.size,[s1.heap.objs.size],_,_,H1,rfl,I1.kept λb o e=>Ad _ e,Kb ad _,⟨_,Ak _ rfl,rfl,rfl⟩,λb hb=>?_,q1 _ (Ss hh rs (by rw[<- rs.length];exact hz))⟩;have e:b=s1.heap.objs.size:=by simpa using hb
  subst e;exact I1.yA (Ah _) (I1.aX.fresh (Ah _))
 .obtain⟨ax,rv,pl,hz⟩:=I1.tuple (dX.of hh);refine EI (pl) ?_;refine⟨s1.heap.objs.size,[s1.heap.objs.size],_,_,H1,rfl,I1.kept (t':=s1.toks) λb o e=>Ad _ e,zA ad _,⟨_,Ak _ rfl,rfl,rfl⟩,λb hb=>?_,q1 _ (W4 hh rs (by rw[<- rs.length];exact hz))⟩;have e:b=s1.heap.objs.size:=by simpa using hb
  subst e;exact I1.yA (Ah _) (I1.aX.fresh (Ah _))⟩
def okN(i j:Int):Prop:=-(2 ^ 62)<=i/\i<2 ^ 62/\-(2 ^ 62)<=j/\j<2 ^ 62/\(j-i).toNat<=sizeLine
def qe:PV->W (O PV)
 |.int j=>.d8 (okN 0 j) (.ret (jJ 0 j.toNat))
 |_=>.fail
def W5(lo:Int)(n:Nat)(hz:n<=sizeLine):JF K H (Itr lo n) (jJ lo n):=⟨by rw[kb];exact hz,λH' t=>⟨λi p hp=>by
  obtain⟨h1,rfl⟩:=nH hp;refine⟨h1,λx H2 y=>?_⟩;obtain⟨rfl,rfl⟩:=y;exact⟨fe.refl _,.int _⟩,by rw[kb];exact Ah _⟩⟩
theorem mq(hg:Gl X "range")(hm:X.mg "range"=bn)(ha:EF X K fs a wa ay)(hs:‹lm [a] X.env=[(false,o0 a X.env)]›):oJ X K fs tg (.Call (.Name "range" p) [a] [] pos) (.bind wa qe) ay:=
 ⟨PI.imp (Ks hg hm (aj ha.p aJ hs) hs) λσ H R ⟨sr,q⟩=>⟨sr,wa.mono (λx q1 u1 H1 g1 s1 v1=>by
  cases v1 with
  |int j=>exact⟨_,rfl,q1.1.2.2.1,q1.1.2.2.2.1,q1.2 _ H1 g1 s1 (W5 _ _ (by have:=q1.1.2.2.2.2;lia))⟩
  |_=>exact q1.elim) q⟩⟩
def zN:PV->W (O PV)
 |.str z=>.d8 (z.cps.size<=sizeLine) (.ret (z.cps.toList.map λc=>.str ⟨#[c]⟩))
 |_=>.fail
def VX(h:EF X K fs e w ay):oJ X K fs tg e (.bind w zN) ay:=⟨PI.imp (Vf h.p) λσ H R ⟨sr,q⟩=>⟨sr,w.mono (λx q1 u1 H1 g1 s1 v1=>by
 cases v1 with
 |str z=>
  refine⟨z,rfl,q1.2 _ H1 g1 s1 ⟨by simpa using q1.1,λH' t=>⟨λi p hp=>?_,?_⟩⟩⟩
  .rw[An]at hp;cases e:z.cps.toList[i]? with
   |none=>rw[e]at hp;cases hp
   |some c=>
    rw[e]at hp;have ep:=(Option.some.inj hp).symm;subst ep;have hi:=(Al.mp e).1;have vL:i<z.cps.size:=by simpa using hi
    refine⟨vL,λx H2 y=>?_⟩;obtain⟨rfl,d,hd,rfl⟩:=y;have:z.cps[i]?=al c:=by simpa using e
    rw[this]at hd;cases hd;exact⟨fe.refl _,.str _⟩
  .show z.cps.size<=_;simp
 |_=>exact q1.elim) q⟩⟩
def RE(hK:X.K=K)(hg:Gl X "enumerate")(hm:X.mg "enumerate"=bn)(h:IF X K fs e wl ay)(my:‹dY X e []›):oJ X K fs (.Tuple Ï kk tp) (.Call (.Name "enumerate" p1) [e] [] p2) (.bind wl λl=>.d8 (l.length<=sizeLine) (.ret (fw 0 l))) ay:=
 ⟨PI.imp (M4 K hK hg hm h.p my) λσ H R ⟨sr,q⟩=>⟨sr,wl.mono (λl q1 u1 H1 g1 s1 v1=>by
  obtain⟨ad,vs,rfl,hh,rs⟩:=v1;have yl:∀{H':Hp}{i:Nat}{x v:V}{y:PV}{pp:db},H' pp=bn->VR K [] H' v y->fe H' (upd H' pp (.tup [.int i,v]))/\VR K [] (upd H' pp (.tup [.int (i:Int),v])) (.ref pp) (.tup [.int ((0+i:Nat)),y]):=λ{H' i x v y pp} hn h4=>
   have sm:=eX hn (.tup [.int (i:Int),v])
   ⟨sm,.tup aw (.cons (by rw[Fu];exact .int _) (.cons (VR.tk sm.eU h4) .nil))⟩
  refine⟨ad,rfl,?_⟩;rcases hh with hh|hh
  .refine .inl ⟨⟨vs,hh.sq⟩,q1.2 _ H1 g1 s1 ⟨by rw[dA];exact q1.1,λH' t=>⟨λi p hp=>?_,vs,(t.f _ _ hh).sq,by rw[rs.length,dA];exact Ah _⟩⟩⟩;obtain⟨y,hy,rfl⟩:=ip hp;obtain⟨v,h3,h4⟩:=(aL.tk t rs).get hy;refine⟨⟨vs,v,(t.f _ _ hh).sq,h3⟩,λx H3 z=>?_⟩;obtain⟨pp,x0,rfl,hn,rfl,hz⟩:=z;have:=hz vs (t.f _ _ hh).sq;rw[h3]at this;cases this;exact yl (x:=.bx) hn h4
  .refine .inr ⟨⟨vs,dX.of hh⟩,q1.2 _ H1 g1 s1 ⟨by rw[dA];exact q1.1,λH' t=>⟨λi p hp=>?_,vs,dX.of (t.t _ _ hh),by rw[rs.length,dA];exact Ah _⟩⟩⟩;obtain⟨y,hy,rfl⟩:=ip hp;obtain⟨v,h3,h4⟩:=(aL.tk t rs).get hy;refine⟨⟨vs,v,dX.of (t.t _ _ hh),h3⟩,λx H3 z=>?_⟩;obtain⟨pp,x0,rfl,hn,rfl,hz⟩:=z;have:=hz vs (dX.of (t.t _ _ hh));rw[h3]at this;cases this;exact yl (x:=.bx) hn h4) q⟩⟩
end
def uQ:O Nat->O V->L2.St->L2.St
 |i::is,u::us,σ=>uQ is us (σ.set i (al u))
 |_,_,σ=>σ
def fG(K:Aa)(fs:aY)(is:O Nat)(wt:PV->W T)(fs2:T->aY):TG:=λv σ H Q=>∃p,aQ K H σ fs/\VR K [] H v p/\(wt p).run λt=>∀us,cJ σ fs H (uQ is us σ) (fs2 t) H->aQ K H (uQ is us σ) (fs2 t)->Q (uQ is us σ) H
structure GF(X:Cx)(K:Aa)(fs:aY)(tg:pc)(is:List Nat){T:Type}(wt:PV->W T)(fs2:T->aY):Prop where p:PG X tg (fG K fs is wt fs2)
def J9:PV->W (PV×PV)
 |.tup [a,b]=>.ret (a,b)
 |_=>.fail
section
def ZW(h:PG X tg (ig i)):GF X K fs tg [i] .ret (λp=>fs.set i (al (.val p))):=⟨PG.imp h λv σ H Q ⟨p,sr,r,q⟩=>q [v] (cJ.gz sr v p i) (sr.gz r i)⟩
def Xu(hK:X.K=K)(h:PG X tg (ZX X.K 2 (Ou (ig i) (Ou (ig j) ZY)))):GF X K fs tg [i,j] J9 (λt=>(fs.set i (al (.val t.1))).set j (al (.val t.2))):=⟨PG.imp h λv σ H Q ⟨p,sr,r,q⟩=>by
 unfold J9 at q
 split at q
 .cases r with
  |tup e rs=>
   cases rs with
   |cons ra t=>
   cases t with
   |cons rb t=>
   cases t;have s1:=sr.gz ra i;exact⟨_,_,rfl,dX.of e,rfl,_,_,rfl,_,_,rfl,rfl,q [_,_] ((cJ.gz sr _ _ i).trans (cJ.gz s1 _ _ j)) (s1.gz rb j)⟩
 .exact q.elim⟩
end
section
variable{S T:Type}
def jO:O PV->S->(PV->S->W S)->W S
 |[],s,_=>.ret s
 |x::r,s,f=>.bind (f x s) λs'=>jO r s' f
inductive Lp(S T:Type) where
 |go (s:S)|out (t:T)
def ik:O PV->S->(PV->S->W (Lp S T))->W (Lp S T)
 |[],s,_=>.ret (.go s)
 |x::r,s,f=>.bind (f x s) λo=>match o with
  |.go s'=>ik r s' f
  |.out t=>.ret (.out t)
def sF(k:S->W T)(inj:R->T):Lp S R->W T
 |.go s=>k s
 |.out r=>.ret (inj r)
@[simp] theorem qJ(k:S->W T)(inj:R->T)(s:S):sF k inj (.go s)=k s:=(rfl)
@[simp] theorem abu(k:S->W T)(inj:R->T)(r:R):sF k inj (.out r)=.ret (inj r):=(rfl)
def Th(hd:S->aY)(out:R->End):Lp S R->End
 |.go s=>.nc (hd s)
 |.out r=>out r
def iz(c:S->W Bool)(b:S->W S):Nat->S->W S
 |0,_=>.fail
 |n+1,s=>.bind (c s) λk=>if k=true then .bind (b s) (iz c b n) else .ret s
def uE(c:S->W Bool)(b:S->W S)(s:S):W S:=⟨λQ=>∃n,(iz c b n s).run Q,λh ⟨n,q⟩=>⟨n,(iz c b n s).mono h q⟩⟩
def fC(c:S->W Bool)(b:S->W (Lp S T)):Nat->S->W (Lp S T)
 |0,_=>.fail
 |n+1,s=>.bind (c s) λk=>if k=true then .bind (b s) (λo=>match o with
  |.go s'=>fC c b n s'
  |.out t=>.ret (.out t)) else .ret (.go s)
def pT(c:S->W Bool)(b:S->W (Lp S T))(s:S):W (Lp S T):=⟨λQ=>∃n,(fC c b n s).run Q,λh ⟨n,q⟩=>⟨n,(fC c b n s).mono h q⟩⟩
end
section
variable{c:pc}{rest:O ut}{S T T2:Type}{hd:S->aY}{s0:S}{wt:PV->W T2}{is:O Nat}{fs2:S->T2->aY}{k:S->W T}{out:T->End}{x:Bool}{R:Type}{inj:R->T}
theorem SF.aea{hd:Nat->S->aY}{hE:S->aY}{fs2:Nat->S->T2->aY}{f:PV->S->W S}{wb:T2->S->W S}(hp:Ch (lf X.prog X.w) X.A X.env X.xe)(hc:X.calm=true)(hi:oJ X K fs tg iter wl ay)(hl:dC ay (hd 0 s0))(hg:∀i s,GF X K (hd i s) tg is wt (fs2 i s))(hf:∀p s,f p s=.bind (wt p) λt=>wb t s)(hb:∀i s t,i<sizeLine->SF X K false (fs2 i s t) body (wb t s) λs'=>.nc (hd (i+1) s'))(hx:∀i s,i<=sizeLine->dC (hd i s) (hE s))(hr:∀s,SF X K x (hE s) rest (k s) out)(hs:rB X iter:=by intro _;rfl):SF X K x fs (.For tg iter body [] pos::rest) (.bind wl λl=>.bind (jO l s0 f) k) out:=by
 refine SF.step (MX (g:=λv σ H Q=>∃i s,fG K (hd i s) is wt (fs2 i s) v σ H Q) (tb:=λD σ H=>∃i s t,i<sizeLine/\fS K false (fs2 i s t) (wb t s) (λs'=>.nc (hd (i+1) s')) D σ H) hp hc hi.p (λZ s σ H v u Q I r ⟨i1,s1,q⟩=>(hg i1 s1).p Z s σ H v u Q I r q) (λZ s σ H D I ⟨i1,s1,t1,h1,q⟩=>(hb i1 s1 t1 h1).p Z s σ H D I q) hs) λD σ H ⟨sr,q⟩=>?_;refine⟨sr,wl.mono (λl q1 J H1 g1 s1 jf=>?_) q⟩;have hz:=jf.1;refine⟨λi m σ' H'=>∃s,aQ K H' σ' (hd i s)/\cJ σ fs H σ' (hd i s) H'/\JF K H' J l/\m=l.length-i/\i<=l.length/\(jO (l.drop i) s f).run λs'=>(k s').run λt=>bO K x σ fs H D (out t),⟨l.length,s0,s1.le hl,g1.f.trans (cJ.le s1 hl),jf,by simp,Bs _,by simpa using q1⟩,?_⟩;rintro i m σ2 H2 ⟨s,s2,g2,Ry,rfl,hi,q2⟩;obtain⟨j1,j2⟩:=Ry.2 H2 (br.refl H2);by_cases nJ:i<l.length
 .obtain⟨go,yl⟩:=j1 i _ (Af nJ);rw[(Bt nJ)]at q2;refine .inr ⟨go,λσ3 H3=>∃s',aQ K H3 σ3 (hd (i+1) s')/\cJ σ fs H σ3 (hd (i+1) s') H3/\JF K H3 J l/\(jO (l.drop (i+1)) s' f).run λs'=>(k s').run λt=>bO K x σ fs H D (out t),λσ3 H3 ⟨s',a1,a2,a3,a4⟩=>⟨l.length-(i+1),by lia,s',a1,a2,a3,rfl,nJ,a4⟩,λv H3 y=>?_⟩;obtain⟨sm,vx⟩:=yl v H3 y;have q2:(f l[i] s).run λs'=>(jO (l.drop (i+1)) s' f).run λs'=>(k s').run λt=>bO K x σ fs H D (out t):=q2;rw[hf]at q2;have s3:=s2.same sm;refine⟨i,s,_,s3,vx,(wt l[i]).mono (λt q4 us g4 s4=>?_) q2⟩;refine⟨i,s,t,by lia,s4,(wb t s).mono (λs' q5 σ5 H5 g5 s5=>?_) q4⟩;have fin:∃s',aQ K H5 σ5 (hd (i+1) s')/\cJ σ fs H σ5 (hd (i+1) s') H5/\JF K H5 J l/\(jO (l.drop (i+1)) s' f).run λs'=>(k s').run λt=>bO K x σ fs H D (out t):=⟨s',s5,((g2.trans (cJ.same sm s2)).trans g4).trans g5,Ry.tk (br.trans sm.eU (br.trans (g4.cC s3) (g5.cC s4))),q5⟩;exact⟨λ_=>fin,fin⟩
 .have e:i=l.length:=by lia
  subst e;rw[Fg]at q2;have le:=hx l.length s hz;exact .inl ⟨j2,hE s,k s,hr s,s2.le le,(k s).mono (λt q3=>q3.go (g2.trans (cJ.le s2 le)) sr (s2.le le)) q2⟩
def SF.for{f:PV->S->W S}{wb:T2->S->W S}(hp:Ch (lf X.prog X.w) X.A X.env X.xe)(hc:X.calm=true)(hi:oJ X K fs tg iter wl ay)(hl:dC ay (hd s0))(hg:∀s,GF X K (hd s) tg is wt (fs2 s))(hf:∀p s,f p s=.bind (wt p) λt=>wb t s)(hb:∀s t,SF X K false (fs2 s t) body (wb t s) λs'=>.nc (hd s'))(hr:∀s,SF X K x (hd s) rest (k s) out)(hs:rB X iter:=by intro _;rfl):SF X K x fs (.For tg iter body [] pos::rest) (.bind wl λl=>.bind (jO l s0 f) k) out:=SF.aea (hd:=λ_=>hd) (fs2:=λ_=>fs2) hp hc hi hl (λ_=>hg) hf (λ_ s t _=>hb s t) (λ_ s _=>.refl _) hr hs
theorem SF.Z3{hd:Nat->S->aY}{hE:S->aY}{fs2:Nat->S->T2->aY}{f:PV->S->W (Lp S R)}{wb:T2->S->W (Lp S R)}(hp:Ch (lf X.prog X.w) X.A X.env X.xe)(hc:X.calm=true)(hi:oJ X K fs tg iter wl ay)(hl:dC ay (hd 0 s0))(hg:∀i s,GF X K (hd i s) tg is wt (fs2 i s))(hf:∀p s,f p s=.bind (wt p) λt=>wb t s)(ho:∀t,(out (inj t)).qE)(hb:∀i s t,i<sizeLine->SF X K false (fs2 i s t) body (wb t s) (Th (hd (i+1)) λr=>out (inj r)))(hx:∀i s,i<=sizeLine->dC (hd i s) (hE s))(hr:∀s,SF X K x (hE s) rest (k s) out)(hs:rB X iter:=by intro _;rfl):SF X K x fs (.For tg iter body [] pos::rest) (.bind wl λl=>.bind (FL.ik l s0 f) (sF k inj)) out:=by
 refine SF.step (MX (g:=λv σ H Q=>∃i s,fG K (hd i s) is wt (fs2 i s) v σ H Q) (tb:=λD σ H=>∃i s t,i<sizeLine/\fS K false (fs2 i s t) (wb t s) (Th (hd (i+1)) λr=>out (inj r)) D σ H) hp hc hi.p (λZ s σ H v u Q I r ⟨i1,s1,q⟩=>(hg i1 s1).p Z s σ H v u Q I r q) (λZ s σ H D I ⟨i1,s1,t1,h1,q⟩=>(hb i1 s1 t1 h1).p Z s σ H D I q) hs) λD σ H ⟨sr,q⟩=>?_;refine⟨sr,wl.mono (λl q1 J H1 g1 s1 jf=>?_) q⟩;have hz:=jf.1;have lo:∀D' y t,D'.rt=D.rt->bO K x σ fs H D (out (inj t))->bO K y σ fs H D' (out (inj t)):=λD' y t e h=>bO.YW (ho t) e h;refine⟨λi m σ' H'=>∃s,aQ K H' σ' (hd i s)/\cJ σ fs H σ' (hd i s) H'/\JF K H' J l/\m=l.length-i/\i<=l.length/\(FL.ik (l.drop i) s f).run λo=>(sF k inj o).run λt=>bO K x σ fs H D (out t),⟨l.length,s0,s1.le hl,g1.f.trans (cJ.le s1 hl),jf,by simp,Bs _,by simpa using q1⟩,?_⟩;rintro i m σ2 H2 ⟨s,s2,g2,Ry,rfl,hi,q2⟩;obtain⟨j1,j2⟩:=Ry.2 H2 (br.refl H2);by_cases nJ:i<l.length
 .obtain⟨go,yl⟩:=j1 i _ (Af nJ);rw[(Bt nJ)]at q2;refine .inr ⟨go,λσ3 H3=>∃s',aQ K H3 σ3 (hd (i+1) s')/\cJ σ fs H σ3 (hd (i+1) s') H3/\JF K H3 J l/\(FL.ik (l.drop (i+1)) s' f).run λo=>(sF k inj o).run λt=>bO K x σ fs H D (out t),λσ3 H3 ⟨s',a1,a2,a3,a4⟩=>⟨l.length-(i+1),by lia,s',a1,a2,a3,rfl,nJ,a4⟩,λv H3 y=>?_⟩;obtain⟨sm,vx⟩:=yl v H3 y;have q2:(f l[i] s).run λo=>(match o with|.go s'=>FL.ik (l.drop (i+1)) s' f|.out t=>ap (.out t)).run λo=>(sF k inj o).run λt=>bO K x σ fs H D (out t):=q2;rw[hf]at q2;have s3:=s2.same sm;have g3:=g2.trans (cJ.same sm s2);refine⟨i,s,_,s3,vx,(wt l[i]).mono (λt q4 us g4 s4=>?_) q2⟩;refine⟨i,s,t,by lia,s4,(wb t s).mono (λo q5=>?_) q4⟩;cases o with
  |out t5=>
   refine bO.go (g3.trans g4) sr s4 (lo _ false t5 ?_ q5);rfl
  |go s'=>
   intro σ5 H5 g5 s5;have fin:∃s',aQ K H5 σ5 (hd (i+1) s')/\cJ σ fs H σ5 (hd (i+1) s') H5/\JF K H5 J l/\(FL.ik (l.drop (i+1)) s' f).run λo=>(sF k inj o).run λt=>bO K x σ fs H D (out t):=⟨s',s5,(g3.trans g4).trans g5,Ry.tk (br.trans sm.eU (br.trans (g4.cC s3) (g5.cC s4))),q5⟩;exact⟨λ_=>fin,fin⟩
 .have e:i=l.length:=by lia
  subst e;rw[Fg]at q2;have le:=hx l.length s hz;exact .inl ⟨j2,hE s,k s,hr s,s2.le le,(k s).mono (λt q3=>q3.go (g2.trans (cJ.le s2 le)) sr (s2.le le)) q2⟩
def SF.ik{f:PV->S->W (Lp S R)}{wb:T2->S->W (Lp S R)}(hp:Ch (lf X.prog X.w) X.A X.env X.xe)(hc:X.calm=true)(hi:oJ X K fs tg iter wl ay)(hl:dC ay (hd s0))(hg:∀s,GF X K (hd s) tg is wt (fs2 s))(hf:∀p s,f p s=.bind (wt p) λt=>wb t s)(ho:∀t,(out (inj t)).qE)(hb:∀s t,SF X K false (fs2 s t) body (wb t s) (Th hd λr=>out (inj r)))(hr:∀s,SF X K x (hd s) rest (k s) out)(hs:rB X iter:=by intro _;rfl):SF X K x fs (.For tg iter body [] pos::rest) (.bind wl λl=>.bind (FL.ik l s0 f) (sF k inj)) out:=SF.Z3 (hd:=λ_=>hd) (fs2:=λ_=>fs2) hp hc hi hl (λ_=>hg) hf ho (λ_ s t _=>hb s t) (λ_ s _=>.refl _) hr hs
def zy(N:Nat)(c:S->W Bool)(b:S->W S)(s:S):W S:=⟨λQ=>∃n,n<=N/\(iz c b n s).run Q,λh ⟨n,l,q⟩=>⟨n,l,(iz c b n s).mono h q⟩⟩
def uF(N:Nat)(c:S->W Bool)(b:S->W (Lp S T))(s:S):W (Lp S T):=⟨λQ=>∃n,n<=N/\(fC c b n s).run Q,λh ⟨n,l,q⟩=>⟨n,l,(fC c b n s).mono h q⟩⟩
theorem SF.zy{N:Nat}{hd:Nat->S->aY}{hE:S->aY}{cw:S->W Bool}{b:S->W S}(hp:Ch (lf X.prog X.w) X.A X.env X.xe)(hl:dC fs (hd 0 s0))(hc:∀i s,TF X K (hd i s) c (cw s))(hb:∀i s,i<N->SF X K false (hd i s) body (b s) λs'=>.nc (hd (i+1) s'))(hx:∀i s,i<=N->dC (hd i s) (hE s))(hr:∀s,SF X K x (hE s) rest (k s) out):SF X K x fs (.While c body [] pos::rest) (.bind (FL.zy N cw b s0) k) out:=by
 refine SF.step (lS (tc:=λσ H Q=>∃i s,fT K (hd i s) (cw s) (hd i s) σ H Q) (tb:=λD σ H=>∃i s,i<N/\fS K false (hd i s) (b s) (λs'=>.nc (hd (i+1) s')) D σ H) hp (λZ s σ H Q I ⟨i1,s1,q⟩=>(hc i1 s1).p Z s σ H Q I q) (λZ s σ H D I ⟨i1,s1,h1,q⟩=>(hb i1 s1 h1).p Z s σ H D I q)) λD σ H ⟨sr,n,hn,q⟩=>?_;refine⟨λm σ' H'=>∃i s,i+m<=N/\aQ K H' σ' (hd i s)/\cJ σ fs H σ' (hd i s) H'/\(iz cw b m s).run λs'=>(k s').run λt=>bO K x σ fs H D (out t),⟨n,0,s0,by lia,sr.le hl,cJ.le sr hl,q⟩,?_⟩;rintro m σ1 H1 ⟨i,s,him,s1,g1,q1⟩;cases m with
 |zero=>exact q1.elim
 |succ m=>
  refine⟨i,s,s1,(cw s).mono (λkk q2 H2 g2 s2=>?_) q1⟩;cases kk with
  |false=>
   have le:=hx i s ∅;exact gj ⟨hE s,k s,hr s,s2.le le,(k s).mono (λt q3=>q3.go ((g1.trans g2.f).trans (cJ.le s2 le)) sr (s2.le le)) q2⟩
  |true=>
   refine jH ?_;refine⟨λσ3 H3=>∃s,aQ K H3 σ3 (hd (i+1) s)/\cJ σ fs H σ3 (hd (i+1) s) H3/\(iz cw b m s).run λs'=>(k s').run λt=>bO K x σ fs H D (out t),λσ3 H3 ⟨s,a⟩=>⟨m,Cw m,i+1,s,by lia,a⟩,i,s,by lia,s2,(b s).mono (λs' q5 σ5 H5 g5 s5=>?_) q2⟩;have fin:∃s,aQ K H5 σ5 (hd (i+1) s)/\cJ σ fs H σ5 (hd (i+1) s) H5/\(iz cw b m s).run λs'=>(k s').run λt=>bO K x σ fs H D (out t):=⟨s',s5,(g1.trans g2.f).trans g5,q5⟩;exact⟨λ_=>fin,fin⟩
def SF.SG{cw:S->W Bool}{b:S->W S}(hp:Ch (lf X.prog X.w) X.A X.env X.xe)(hl:dC fs (hd s0))(hc:∀s,TF X K (hd s) c (cw s))(hb:∀s,SF X K false (hd s) body (b s) λs'=>.nc (hd s'))(hr:∀s,SF X K x (hd s) rest (k s) out):SF X K x fs (.While c body [] pos::rest) (.bind (uE cw b s0) k) out:=⟨λZ s σ H D I ⟨sr,n,q⟩=>(SF.zy (N:=n) (hd:=λ_=>hd) hp hl (λ_=>hc) (λ_ s _=>hb s) (λ_ s _=>.refl _) hr).p Z s σ H D I ⟨sr,n,Ah n,q⟩⟩
theorem SF.uF{N:Nat}{hd:Nat->S->aY}{hE:S->aY}{cw:S->W Bool}{b:S->W (Lp S R)}(hp:Ch (lf X.prog X.w) X.A X.env X.xe)(hl:dC fs (hd 0 s0))(hc:∀i s,TF X K (hd i s) c (cw s))(ho:∀t,(out (inj t)).qE)(hb:∀i s,i<N->SF X K false (hd i s) body (b s) (Th (hd (i+1)) λr=>out (inj r)))(hx:∀i s,i<=N->dC (hd i s) (hE s))(hr:∀s,SF X K x (hE s) rest (k s) out):SF X K x fs (.While c body [] pos::rest) (.bind (FL.uF N cw b s0) (sF k inj)) out:=by
 refine SF.step (lS (tc:=λσ H Q=>∃i s,fT K (hd i s) (cw s) (hd i s) σ H Q) (tb:=λD σ H=>∃i s,i<N/\fS K false (hd i s) (b s) (Th (hd (i+1)) λr=>out (inj r)) D σ H) hp (λZ s σ H Q I ⟨i1,s1,q⟩=>(hc i1 s1).p Z s σ H Q I q) (λZ s σ H D I ⟨i1,s1,h1,q⟩=>(hb i1 s1 h1).p Z s σ H D I q)) λD σ H ⟨sr,n,hn,q⟩=>?_;have lo:∀D' y t,D'.rt=D.rt->bO K x σ fs H D (out (inj t))->bO K y σ fs H D' (out (inj t)):=λD' y t e h=>bO.YW (ho t) e h;refine⟨λm σ' H'=>∃i s,i+m<=N/\aQ K H' σ' (hd i s)/\cJ σ fs H σ' (hd i s) H'/\(fC cw b m s).run λo=>(sF k inj o).run λt=>bO K x σ fs H D (out t),⟨n,0,s0,by lia,sr.le hl,cJ.le sr hl,q⟩,?_⟩;rintro m σ1 H1 ⟨i,s,him,s1,g1,q1⟩;cases m with
 |zero=>exact q1.elim
 |succ m=>
  refine⟨i,s,s1,(cw s).mono (λkk q2 H2 g2 s2=>?_) q1⟩;cases kk with
  |false=>
   have le:=hx i s ∅;exact gj ⟨hE s,k s,hr s,s2.le le,(k s).mono (λt q3=>q3.go ((g1.trans g2.f).trans (cJ.le s2 le)) sr (s2.le le)) q2⟩
  |true=>
   refine jH ?_;refine⟨λσ3 H3=>∃s,aQ K H3 σ3 (hd (i+1) s)/\cJ σ fs H σ3 (hd (i+1) s) H3/\(fC cw b m s).run λo=>(sF k inj o).run λt=>bO K x σ fs H D (out t),λσ3 H3 ⟨s,a⟩=>⟨m,Cw m,i+1,s,by lia,a⟩,i,s,by lia,s2,(b s).mono (λo q5=>?_) q2⟩;cases o with
   |out t5=>
    refine bO.go (g1.trans g2.f) sr s2 (lo _ false t5 ?_ q5);rfl
   |go s'=>
    intro σ5 H5 g5 s5;have fin:∃s,aQ K H5 σ5 (hd (i+1) s)/\cJ σ fs H σ5 (hd (i+1) s) H5/\(fC cw b m s).run λo=>(sF k inj o).run λt=>bO K x σ fs H D (out t):=⟨s',s5,(g1.trans g2.f).trans g5,q5⟩;exact⟨λ_=>fin,fin⟩
def SF.pT{cw:S->W Bool}{b:S->W (Lp S R)}(hp:Ch (lf X.prog X.w) X.A X.env X.xe)(hl:dC fs (hd s0))(hc:∀s,TF X K (hd s) c (cw s))(ho:∀t,(out (inj t)).qE)(hb:∀s,SF X K false (hd s) body (b s) (Th hd λr=>out (inj r)))(hr:∀s,SF X K x (hd s) rest (k s) out):SF X K x fs (.While c body [] pos::rest) (.bind (FL.pT cw b s0) (sF k inj)) out:=⟨λZ s σ H D I ⟨sr,n,q⟩=>(SF.uF (N:=n) (hd:=λ_=>hd) hp hl (λ_=>hc) ho (λ_ s _=>hb s) (λ_ s _=>.refl _) hr).p Z s σ H D I ⟨sr,n,Ah n,q⟩⟩
end
end
end FL
variable{f:PL.PV->FL.W (Option PL.PV)}{oC P0:FL.aY}{hd:Nat->FL.aY}
namespace FL
section
variable[bD]
variable{K:Aa}
def nA:O PV->(PV->W (Option PV))->W (O PV)
 |[],_=>.ret []
 |x::r,f=>.bind (f x) λo=>.bind (nA r f) λl=>.ret (o.toList++l)
def c9:O PV->(PV->W PV)->W (O PV)
 |[],_=>.ret []
 |x::r,f=>.bind (f x) λy=>.bind (c9 r f) λl=>.ret (y::l)
theorem vo(f:PV->W PV):∀l,c9 l f=nA l λp=>.bind (f p) λv=>.ret (al v)
 |[]=>rfl
 |x::r=>by
  show am (f x) (λy=>am (c9 r f) λl=>ap (y::l))=am (f x) λy=>am (nA r _) λl=>ap (y::l);rw[vo f r]
def bC(ix:O (Option Nat))(fs:aY):aY:=ix.map λo=>match o with|some j=>(fs[j]?).getD bn|none=>bn
section
def mM{s:SL}(h:(bC ix fs)[i]?=al (al s)):∃j,ix[i]?=al (al j)/\fs[j]?=al (al s):=by
 unfold bC at h;rw[An]at h;cases q:ix[i]? with
 |none=>rw[q]at h;cases h
 |some o=>
  rw[q]at h;cases o with
  |none=>cases h
  |some j=>
   refine⟨j,rfl,?_⟩;have h:(fs[j]?).getD bn=al s:=Option.some.inj h;cases z:fs[j]? with
   |none=>rw[z]at h;cases h
   |some y=>rw[z]at h;exact congrArg al h
def ki(h:ix[i]?=al (al j))(e:σ[j]?=al (al u)):(mL ix σ)[i]?=al (al u):=by
 unfold mL;rw[An,h];show al ((σ[j]?).getD bn)=_;rw[e];rfl
def aQ.d9(s:aQ K H σ fs)(inj:∀i i' j:Nat,ix[i]?=al (al j)->ix[i']?=al (al j)->i=i'):aQ K H (mL ix σ) (bC ix fs):=by
 refine⟨by unfold mL bC;simp,λi t e=>?_,λi i' t u x y a e1 e2 o1 o2 q1 q2 z1 z2=>?_,s.tb⟩
 .obtain⟨j,h1,h2⟩:=mM e;obtain⟨u,h3,h4⟩:=s.at' j t h2;exact⟨u,ki h1 h3,h4⟩
 .obtain⟨j,h1,h2⟩:=mM e1;obtain⟨j',gH,xo⟩:=mM e2;obtain⟨u1,h3,_⟩:=s.at' j t h2;obtain⟨u2,RO,_⟩:=s.at' j' u xo;rw[ki h1 h3]at q1;rw[ki gH RO]at q2;cases q1;cases q2;have:=s.nd j j' t u x y a h2 xo o1 o2 h3 RO z1 z2;subst this;exact inj i i' j h1 gH
structure Um(ix:List (Option Nat))(σ:L2.St)(fs:aY)(σ':L2.St)(aM:aY):Prop where
 own:∀(i:Nat) (t:SL),aM[i]?=al (al t)->t.own=true->∃j,ix[i]?=al (al j)/\fs[j]?=al (al t)/\σ'[i]?=σ[j]?
def Cap(ix:O (Option Nat))(σ σ':L2.St):Prop:=∀(i j:Nat) (u:V),ix[i]?=al (al j)->σ[j]?=al (al u)->σ'[i]?=al (al u)
def Cap.N7(c:Cap ix σ σ')(s:aQ K H σ fs):Um ix σ fs σ' (bC ix fs):=⟨λi t e _=>by
 obtain⟨j,h1,h2⟩:=mM e;obtain⟨u,h3,_⟩:=s.at' j t h2;exact⟨j,h1,h2,by rw[c i j u h1 h3,h3]⟩⟩
def Um.fF(h:Um ix σ fs σ' aM)(o:cu σ' aM a):cu σ fs a:=by
 obtain⟨i,t,x,e1,e2,e3,e4⟩:=o;obtain⟨j,h1,h2,h3⟩:=h.own i t e1 e2;exact⟨j,t,x,h2,e2,h3▸e3,e4⟩
def Um.dE(h:Um ix σ fs σ' aM){m:Nat}(o:gq σ' aM ψ m a):gq σ fs ψ m a:=by
 obtain⟨i,n,e1,e3⟩:=o;obtain⟨j,h1,h2,h3⟩:=h.own i _ e1 rfl;exact⟨j,n,h2,h3▸e3⟩
def Um.out{RU fsC:aY}(h:Um ix σ fs σ' aM)(cp:Cap ix σ σ')(s:aQ K H1 σ fs)(g:cK σ' aM H1 H2 fsC)(s2:aQ K H2 σ' (bC ix RU))(ev:Ev fs RU)(hc:∀j:Nat,fs[j]?=RU[j]?\/∃i':Nat,ix[i']?=al (al j)):aQ K H2 σ RU/\cK σ fs H1 H2 RU:=by
 have gf:cK σ fs H1 H2 RU:=⟨λa o e n t=>g.keep a o e (λψ m z=>n ψ m (h.dE z)) t,g.there,ev,g.x⟩;have d9:∀{i j:Nat}{t:SL},ix[i]?=al (al j)->RU[j]?=al (al t)->(bC ix RU)[i]?=al (al t):=λ{i j t} e1 e2=>by
  unfold bC;rw[An,e1];show al ((RU[j]?).getD bn)=_;rw[e2];rfl
 have tk:=gf.cC s;refine⟨⟨s.len.trans ev.len,λj t e=>?_,ev.nd s,s2.tb⟩,gf⟩
 .rcases hc j with e0|⟨i,hi⟩
  .rw[<- e0]at e;obtain⟨u,h1,h2⟩:=s.at' j t e;refine⟨u,h1,?_⟩;rcases h2 with⟨v,q,r⟩|⟨a,q,r⟩
   .exact .inl ⟨v,q,VR.tk tk r⟩
   .subst q;refine .inr ⟨a,rfl,?_⟩;by_cases c:∃b,t.own=true/\t.has a b/\cu σ' aM b
    .obtain⟨b,ow,hb,i,t',x,c1,c2,c3,c4⟩:=c;obtain⟨j',k1,k2,k3⟩:=h.own i t' c1 c2;have jj:=s.nd j j' t t' a x b e k2 ow c2 h1 (k3▸c3) hb c4;subst jj;rw[e]at k2;cases k2;exact s2.ownAt (d9 k1 (e0▸e)) c2 (k3.trans h1)
    .exact r.mono tk (λb o ow hb z nt=>g.mn z (λy=>c ⟨b,ow,hb,y⟩) nt)
  .obtain⟨u',h3,h4⟩:=s2.at' i t (d9 hi e);have he:∃t',fs[j]?=al (al t'):=by
    rcases ev.get e with z|⟨_,_,_,_,_,z⟩
    .exact⟨_,z⟩
    .exact⟨_,z⟩
   obtain⟨t',he⟩:=he;obtain⟨u,h1,_⟩:=s.at' j t' he;have:=cp i j u hi h1;rw[h3]at this;cases this;exact⟨_,h1,h4⟩
theorem kT:∀{is:O Nat}{us:O V}{σ:L2.St}{i:Nat},i∉is->(uQ is us σ)[i]?=σ[i]?
 |[],us,σ,i,_=>by cases us<;>rfl
 |j::is,[],σ,i,_=>rfl
 |j::is,u::us,σ,i,h=>by
  rw[uQ,kT (λz=>h (AH _ z))];exact aK (λz=>h (by rw[z];exact Bv))
end
section
variable{T2:Type}{wt:PV->W T2}{is:O Nat}{fs2:T2->aY}{tf:T2->W Bool}{te:T2->W PV}
structure FF(X:Cx)(K:Aa)(fs:aY)(É:List pc)(w:W Bool):Prop where p:XE X É (fT K fs w)
def Ow:FF X K fs [] (.ret true):=⟨λZ s σ H Q I ⟨sr,q⟩=>QO Z s σ H Q I (q H .refl sr)⟩
def HF{c:pc}{w:W Bool}(h:TF X K fs c w):FF X K fs [c] w:=⟨QN h.p⟩
def n5(is:O Nat)(oC:aY)(fs2:T2->aY):Prop:=∀t,(fs2 t).length=oC.length/\∀(i:Nat) (s:SL),(fs2 t)[i]?=al (al s)->(i∈is/\s.own=false)\/(i∉is/\oC[i]?=al (al s))
theorem T8{fs2 fs3:Nat->T2->aY}(S:bE X.env.scope X.N sc N' ix)(h0:uy ay (hd 0))(hx:∀i,i<=sizeLine->uy (hd i) P0)(hv:∀i,i<sizeLine->Ev (hd i) (hd (i+1)))(Xq:∀i j:Nat,(hd i)[j]?=(hd (i+1))[j]?\/∃i':Nat,ix[i']?=al (al j))(hf:∀p,f p=.bind (wt p) λt=>.bind (tf t) λk=>if k=true then .bind (te t) λv=>.ret (al v) else .ret bn)(hl:∀i,n5 is (bC ix (hd i)) (fs2 i))(TL:∀i t,i<sizeLine->dC (fs2 i t) (bC ix (hd (i+1))))(ZF:∀i t,i<sizeLine->dC (fs3 i t) (bC ix (hd (i+1))))(pJ:∀j∈is,ix[j]?=al bn):∀σ H Q,fL K fs (.bind wl λl=>nA l f) P0 σ H Q->tLc ix (fIt K fs wl ay) (λv σ H Q=>∃i,fG K (bC ix (hd i)) is wt (fs2 i) v σ H Q) (λσ H Q=>∃i t,fT K (fs2 i t) (tf t) (fs2 i t) σ H Q) (λσ H Q=>∃i t,i<sizeLine/\fE K (fs2 i t) (te t) (fs3 i t) σ H Q) σ H Q:=by
 rintro σ H Q ⟨sr,q⟩;refine⟨sr,wl.mono (λl q1 J H1 g1 s1 jf D hD=>?_) q⟩;have hz:=jf.1;have inj:∀i i' j:Nat,ix[i]?=al (al j)->ix[i']?=al (al j)->i=i':=λi i' j h1 h2=>by
  have hi:i<N'.length:=by rw[<- S.len];exact(Al.mp h1).1
  have vL:i'<N'.length:=by rw[<- S.len];exact(Al.mp h2).1
  have e2:=(S.at h2 (Af vL)).1;rw[((S.at h1 (Af hi)).1)]at e2;exact(List.getElem_inj S.nd).mp (Option.some.inj e2)
 have g1:=g1.le h0;have s1:=s1.le h0.f;have nD:∀i,Ev (hd 0) (hd i)->¬cu σ (hd i) D:=λi e z=>s1.noOwn hD (e.fF z);refine⟨λi m σ' ys H'=>∃acc,Ev (hd 0) (hd i)/\aQ K H' σ (hd i)/\cK σ fs H H' (hd i)/\aQ K H' σ' (bC ix (hd i))/\Cap ix σ σ'/\JF K H' J l/\H' D=al (.lst ys)/\aL K [] H' ys acc/\acc.length<=i/\m=l.length-i/\i<=l.length/\
  (nA (l.drop i) f).run λr=>∀a vs H',cK σ fs H H' P0->aQ K H' σ P0->H a=bn->H' a=al (.lst vs)->aL K [] H' vs (acc++r)->Q (.ref a) H',⟨l.length,[],?_⟩,?_⟩
 .have sm:=eX hD (.lst []);exact⟨.refl _,s1.same sm,g1.trans (cK.same sm),(s1.same sm).d9 inj,λi j u h1 h3=>ki h1 h3,jf.tk sm.eU,aw,.nil,Bs _,by simp,Bs _,by simpa using q1⟩
 rintro i m σ2 ys H2 ⟨acc,ev0,sO,gO,s2,cp,Ry,hy,vy,ZR,rfl,hi,q2⟩;refine⟨hy,?_⟩;obtain⟨j1,j2⟩:=Ry.2 H2 (br.refl H2);have N7:=cp.N7 sO;by_cases nJ:i<l.length
 .have Xn:i<sizeLine:=by lia
  have Ī:=ev0.trans (hv i Xn);obtain⟨go,yl⟩:=j1 i _ (Af nJ);rw[(Bt nJ)]at q2;refine .inr ⟨go,λv H3 y=>?_⟩;obtain⟨sm,vx⟩:=yl v H3 y;have q2:(f l[i]).run λo=>(nA (l.drop (i+1)) f).run λr=>∀a vs H',cK σ fs H H' P0->aQ K H' σ P0->H a=bn->H' a=al (.lst vs)->aL K [] H' vs (acc++(o.toList++r))->Q (.ref a) H':=q2;rw[hf]at q2;refine⟨_,_,(s2.same sm),vx,(wt l[i]).mono (λt q4 us g4 s4=>?_) q2⟩;have å:Cap ix σ (uQ is us σ2):=λi' j u h1 h3=>by
   rw[kT λz=>by have:=pJ i' z;rw[h1]at this;cases this];exact cp i' j u h1 h3
  have VZ:Um ix σ (hd i) (uQ is us σ2) (fs2 i t):=⟨λj u e o=>by
   rcases (hl i t).2 j u e with⟨_,z⟩|⟨n,z⟩
   .rw[z]at o;cases o
   .obtain⟨j',k1,k2,k3⟩:=N7.own j u z o;exact⟨j',k1,k2,by rw[kT n];exact k3⟩⟩
  refine⟨i,t,s4,(tf t).mono (λkk q5 H5 g5 s5=>?_) q4⟩;have nD4:¬cu (uQ is us σ2) (fs2 i t) D:=λz=>nD i ev0 (VZ.fF z);have hy5:=g5.mn (sm _ _ hy) nD4;have vy5:=aL.tk (g5.cC s4) (aL.tk sm.eU vy);have jf5:=(Ry.tk sm.eU).tk (g5.cC s4);have x5:∀φ,H2 D≠al (.ext φ):=λφ=>by rw[hy];simp
  cases kk with
  |false=>
   have s5':=s5.le (TL i t Xn);obtain⟨sO5,gO5⟩:=VZ.out å (sO.same sm) g5 s5' (hv i Xn) (Xq i);exact gj ⟨l.length-(i+1),by lia,acc,Ī,sO5,(gO.trans (cK.same sm)).trans gO5,s5',å,jf5,hy5,vy5,by lia,rfl,nJ,q5⟩
  |true=>
   refine jH ⟨i,t,Xn,s5,(te t).mono (λv6 q6 u6 H6 g6 s6 v6'=>?_) q5⟩;have s6':=s6.le (ZF i t Xn);obtain⟨sO6,ad7⟩:=VZ.out å (sO.same sm) (g5.trans g6) s6' (hv i Xn) (Xq i);have gO6:=(gO.trans (cK.same sm)).trans ad7;have Xm:=g6.mn hy5 nD4;have vy6:=aL.tk (g6.cC s5) vy5;have x6:∀φ,H6 D≠al (.ext φ):=λφ=>by rw[Xm];simp
   have nDi:=nD (i+1) Ī;refine⟨Xm,by rw[vy6.length];have:=Ry.1;lia,l.length-(i+1),by lia,acc++[v6],Ī,sO6.side nDi Xm _,gO6.side (g1.there D hD) x6 _,s6'.side (λz=>nDi ((å.N7 sO6).fF z)) Xm _,å,(jf5.tk (g6.cC s5)).tk (pB _ Xm),aw,aL.tk (pB (.lst (ys++[u6])) Xm) (vy6.append (.cons v6' .nil)),by rw[Ag];simp;lia,rfl,nJ,?_⟩;refine(nA (l.drop (i+1)) f).mono (λr q7 a vs H7 g7 s7 n e v7=>q7 a vs H7 g7 s7 n e ?_) q6;simpa using v7
 .have e:i=l.length:=by lia
  subst e;rw[Fg]at q2;have le:=hx l.length hz;exact .inl ⟨j2,q2 D ys H2 (gO.le le) (sO.le le.f) (g1.there D hD) hy (by simpa using vy)⟩
end
end
end FL
namespace L2
def oY(l:db)(items:Array ce)(n:Nat)(b:db)(iT:Array ce)(n2:Nat)(sl:Array (Option ce))(ZP:¬(!items.isEmpty&&Builtin.List.listTooLong (items.size+iT.size))=true)(Ġ:items.size<=sizeLine)(xm:items.size+iT.size<=sizeLine+1):Meets (Fk.«list.extend» ⟨[.ref l,.ref b],[]⟩) (λ_ R s=>s.heap.get? l=al {cls:=.type "list",dict:=bn,data:=.seq items n,slots:=#[]}/\s.heap.get? b=al {cls:=.type "list",dict:=bn,data:=.seq iT n2,slots:=sl}/\R (.ok (.ret AO)) {s with heap:=s.heap.update l (CU λx=>x++iT),toks:=s.toks}):=
 .of_wp λprog w A R s h=>by
  obtain⟨hp,g,d,tk,os⟩:=s;obtain⟨hl,hb,h⟩:=h;have f5:=D8;
  wp_walk using (Ee hl rfl),B8 hl,B8 hb;exact⟨_,rfl,h⟩
def YG(K:Aa):V->O V->Hp->VK->Prop:=λx vs H Q=>∃l b xs zs,x=.ref l/\vs=[.ref b]/\H l=al (.lst xs)/\(du K H b zs\/dX K H b zs)/\xs.length+zs.length<=sizeLine/\xC H l (.lst (xs++zs)) (Q .bx)
theorem Rh(K:Aa)(hK:X.K=K):Il X "list.extend" (YG K):=by
 subst hK;intro Z s σ H x vs v us Q I rx rv h;obtain⟨l,b,xs,zs,rfl,rfl,hH,hB|hB,hz,q⟩:=h
 .cases rx;obtain⟨u,rfl,ru⟩:=rv.one;cases ru;obtain⟨z,ax,n,r,hl,e⟩:=I.kZ hH;obtain⟨cQ,r2,⟨⟨cls,dd,data,sl⟩,n2,e2,hc,hd,Wf⟩,z2⟩:=I.list hB;subst hc hd Wf;have RK:=r2.length;have hsz:ax.toArray.size+cQ.toArray.size<=sizeLine:=by rw[Ai,Ai];lia
  have qI:¬(!ax.toArray.isEmpty&&Builtin.List.listTooLong (ax.toArray.size+cQ.toArray.size))=true:=by
   rw[g8 hsz,EK];exact Bi
  refine wE EC ⟨_,e,rfl⟩ Ei (D7 _ _)
   (oY l ax.toArray n b cQ.toArray n2 sl qI (by rw[Ai];lia) ∅) ⟨e,e2,?_⟩
  refine⟨.bx,_,I.G9 hH e (by simp) (r.append r2) ?_,rfl,q.at⟩;rw[Ag];lia
 .exact xV Z s σ H _ _ v us Q I rx rv ⟨l,b,xs,zs,rfl,rfl,hH,hB,hz,q⟩
end L2
variable{wi we:FL.W PL.PV}{z:BN}
namespace FL
section
variable[bD]
variable{K:Aa}
section
variable{T2:Type}{wt:PV->W T2}{is:O Nat}{fs2:T2->aY}{tf:T2->W Bool}{te:T2->W PV}
def Zj{fs2 fs3:Nat->T2->aY}(hc:X.calm=true)(S:bE X.env.scope X.N sc N' ix)(hi:oJ X K fs tg iter wl ay)(hg:∀cl C s2 H2 fp i,GF (d9 X sc N' cl C s2 H2 fp) K (bC ix (hd i)) tg is wt (fs2 i))(RM:∀cl C s2 H2 fp i t,FF (d9 X sc N' cl C s2 H2 fp) K (fs2 i t) É (tf t))(he:∀cl C s2 H2 fp i t,i<sizeLine->EF (d9 X sc N' cl C s2 H2 fp) K (fs2 i t) Å (te t) (fs3 i t))(hf:∀p,f p=.bind (wt p) λt=>.bind (tf t) λk=>if k=true then .bind (te t) λv=>.ret (al v) else .ret bn)(hl:∀i,n5 is (bC ix (hd i)) (fs2 i))(pJ:∀j∈is,ix[j]?=al bn)(h0:uy ay (hd 0))(hx:∀i,i<=sizeLine->uy (hd i) P0)(hv:∀i,i<sizeLine->Ev (hd i) (hd (i+1)))(Xq:∀i j:Nat,(hd i)[j]?=(hd (i+1))[j]?\/∃i':Nat,ix[i']?=al (al j))(TL:∀i t,i<sizeLine->dC (fs2 i t) (bC ix (hd (i+1))))(ZF:∀i t,i<sizeLine->dC (fs3 i t) (bC ix (hd (i+1))))(hs:rB X iter:=by intro _;rfl):LF X K fs (.ListComp Å [⟨tg,iter,É,0⟩] sc pos) (.bind wl λl=>nA l f) P0:=
 ⟨PE.imp (YO hc S hi.p (λcl C s2 H2 fp Z s σ H v u Q I r ⟨i,q⟩=>(hg cl C s2 H2 fp i).p Z s σ H v u Q I r q) (λcl C s2 H2 fp Z s σ H Q I ⟨i,t,q⟩=>(RM cl C s2 H2 fp i t).p Z s σ H Q I q) (λcl C s2 H2 fp Z s σ H Q I ⟨i,t,h,q⟩=>(he cl C s2 H2 fp i t h).p Z s σ H Q I q) hs) (T8 S h0 hx hv Xq hf hl TL ZF pJ)⟩
def Zk(hc:X.calm=true)(S:bE X.env.scope X.N sc N' ix)(hi:oJ X K fs tg iter wl ay)(hg:∀cl C s2 H2 fp,GF (d9 X sc N' cl C s2 H2 fp) K (bC ix ay) tg is wt fs2)(RM:∀cl C s2 H2 fp t,FF (d9 X sc N' cl C s2 H2 fp) K (fs2 t) É (tf t))(he:∀cl C s2 H2 fp t,EF (d9 X sc N' cl C s2 H2 fp) K (fs2 t) Å (te t))(hf:∀p,f p=.bind (wt p) λt=>.bind (tf t) λk=>if k=true then .bind (te t) λv=>.ret (al v) else .ret bn)(hl:n5 is (bC ix ay) fs2/\∀t,dC (fs2 t) (bC ix ay))(pJ:∀j∈is,ix[j]?=al bn)(hs:rB X iter:=by intro _;rfl):LF X K fs (.ListComp Å [⟨tg,iter,É,0⟩] sc pos) (.bind wl λl=>nA l f) ay:=Zj (hd:=λ_=>ay) (fs2:=λ_=>fs2) (fs3:=λ_=>fs2) hc S hi (λcl C s2 H2 fp _=>hg cl C s2 H2 fp) (λcl C s2 H2 fp _=>RM cl C s2 H2 fp) (λcl C s2 H2 fp _ t _=>he cl C s2 H2 fp t) hf (λ_=>hl.1) pJ (.refl _) (λ_ _=>.refl _) (λ_ _=>.refl _) (λ_ _=>.inl rfl) (λ_ t _=>hl.2 t) (λ_ t _=>hl.2 t) hs
def Rj{f:PV->W PV}(hf:∀p,f p=.bind (wt p) te):(λl=>c9 l f)=λl=>nA l λp=>.bind (wt p) λt=>.bind (.ret true) λk=>if k=true then .bind (te t) λv=>.ret (al v) else .ret bn:=funext λl=>by
 rw[vo];congr 1;funext p;rw[hf];rfl
def Tp{f:PV->W PV}(hc:X.calm=true)(S:bE X.env.scope X.N sc N' ix)(hi:oJ X K fs tg iter wl ay)(hg:∀cl C s2 H2 fp,GF (d9 X sc N' cl C s2 H2 fp) K (bC ix ay) tg is wt fs2)(he:∀cl C s2 H2 fp t,EF (d9 X sc N' cl C s2 H2 fp) K (fs2 t) Å (te t))(hf:∀p,f p=.bind (wt p) te)(hl:n5 is (bC ix ay) fs2/\∀t,dC (fs2 t) (bC ix ay))(pJ:∀j∈is,ix[j]?=al bn)(hs:rB X iter:=by intro _;rfl):LF X K fs (.ListComp Å [⟨tg,iter,[],0⟩] sc pos) (.bind wl λl=>c9 l f) ay:=by
 rw[Rj hf];exact Zk hc S hi hg (λ_ _ _ _ _ _=>Ow) he (λp=>rfl) hl pJ hs
def fAs(K:Aa)(fs:aY)(i:Nat)(w:W (O PV))(aM:aY:=fs):TS:=λD σ H=>aQ K H σ fs/\w.run λl=>∀a vs H',cK σ fs H H' aM->aQ K H' σ aM->H a=bn->H' a=al (.lst vs)->aL K [] H' vs l->D.nx (σ.set i (al (.ref a))) H'
structure AS(X:Cx)(K:Aa)(fs:aY)(st:ut)(i:Nat)(w:W (List PV))(aM:aY:=fs):Prop where p:PS X st (fAs K fs i w aM)
variable{rest:O ut}{T:Type}{out:T->End}{x:Bool}{k:O PV->W T}
def SF.as{st:ut}(h:AS X K fs st i wl ay)(hr:∀l,SF X K x (ay.set i (al (.ol bn l))) rest (k l) out):SF X K x fs (st::rest) (.bind wl k) out:=SF.step h.p λD σ H ⟨sr,q⟩=>⟨sr,wl.mono (λl q1 a ws H1 g1 s1 n e v1=>by
 have no:¬cu σ ay a:=λz=>sr.noOwn n (g1.ev.fF z);have s2:=s1.qg (t:=.ol bn l) ⟨by simp,ws,e,v1⟩ no i;exact⟨_,k l,hr l,s2,(k l).mono (λt q2=>q2.go (cJ.qg s1 g1 no n i) sr s2) q1⟩) q⟩
def WU{fs2 fs3:Nat->T2->aY}(hc:X.calm=true)(hN:X.N.Nodup)(vL:X.N[i]?=al y)(sE:X.env.scope.names.lookup y=al .local)(S:bE X.env.scope X.N sc N' ix)(hi:oJ X K fs tg iter wl ay)(hg:∀cl C s2 H2 fp i,GF (d9 X sc N' cl C s2 H2 fp) K (bC ix (hd i)) tg is wt (fs2 i))(RM:∀cl C s2 H2 fp i t,FF (d9 X sc N' cl C s2 H2 fp) K (fs2 i t) É (tf t))(he:∀cl C s2 H2 fp i t,i<sizeLine->EF (d9 X sc N' cl C s2 H2 fp) K (fs2 i t) Å (te t) (fs3 i t))(hf:∀p,f p=.bind (wt p) λt=>.bind (tf t) λk=>if k=true then .bind (te t) λv=>.ret (al v) else .ret bn)(hl:∀i,n5 is (bC ix (hd i)) (fs2 i))(pJ:∀j∈is,ix[j]?=al bn)(h0:uy ay (hd 0))(hx:∀i,i<=sizeLine->uy (hd i) P0)(hv:∀i,i<sizeLine->Ev (hd i) (hd (i+1)))(Xq:∀i j:Nat,(hd i)[j]?=(hd (i+1))[j]?\/∃i':Nat,ix[i']?=al (al j))(TL:∀i t,i<sizeLine->dC (fs2 i t) (bC ix (hd (i+1))))(ZF:∀i t,i<sizeLine->dC (fs3 i t) (bC ix (hd (i+1))))(o5:‹r6 (.ListComp Å [⟨tg,iter,É,0⟩] sc pos) (al (.Name y px)) ko.line X.env=pure true›)(hs:rB X iter:=by intro _;rfl):AS X K fs (.Assign [.Name y px] (.ListComp Å [⟨tg,iter,É,0⟩] sc pos) ko) i (.bind wl λl=>nA l f) P0:=
 ⟨PS.imp (MV hc hN vL sE S hi.p (λcl C s2 H2 fp Z s σ H v u Q I r ⟨i,q⟩=>(hg cl C s2 H2 fp i).p Z s σ H v u Q I r q) (λcl C s2 H2 fp Z s σ H Q I ⟨i,t,q⟩=>(RM cl C s2 H2 fp i t).p Z s σ H Q I q) (λcl C s2 H2 fp Z s σ H Q I ⟨i,t,h,q⟩=>(he cl C s2 H2 fp i t h).p Z s σ H Q I q) o5 hs) λD σ H ⟨sr,q⟩=>T8 (K:=K) S h0 hx hv Xq hf hl TL ZF pJ σ H _ ⟨sr,q⟩⟩
def Uj(hc:X.calm=true)(hN:X.N.Nodup)(vL:X.N[i]?=al y)(hx:X.env.scope.names.lookup y=al .local)(S:bE X.env.scope X.N sc N' ix)(hi:oJ X K fs tg iter wl ay)(hg:∀cl C s2 H2 fp,GF (d9 X sc N' cl C s2 H2 fp) K (bC ix ay) tg is wt fs2)(RM:∀cl C s2 H2 fp t,FF (d9 X sc N' cl C s2 H2 fp) K (fs2 t) É (tf t))(he:∀cl C s2 H2 fp t,EF (d9 X sc N' cl C s2 H2 fp) K (fs2 t) Å (te t))(hf:∀p,f p=.bind (wt p) λt=>.bind (tf t) λk=>if k=true then .bind (te t) λv=>.ret (al v) else .ret bn)(hl:n5 is (bC ix ay) fs2/\∀t,dC (fs2 t) (bC ix ay))(pJ:∀j∈is,ix[j]?=al bn)(o5:‹r6 (.ListComp Å [⟨tg,iter,É,0⟩] sc pos) (al (.Name y px)) ko.line X.env=pure true›)(hs:rB X iter:=by intro _;rfl):AS X K fs (.Assign [.Name y px] (.ListComp Å [⟨tg,iter,É,0⟩] sc pos) ko) i (.bind wl λl=>nA l f) ay:=
 WU (hd:=λ_=>ay) (fs2:=λ_=>fs2) (fs3:=λ_=>fs2) hc hN vL hx S hi (λcl C s2 H2 fp _=>hg cl C s2 H2 fp) (λcl C s2 H2 fp _=>RM cl C s2 H2 fp) (λcl C s2 H2 fp _ t _=>he cl C s2 H2 fp t) hf (λ_=>hl.1) pJ (.refl _) (λ_ _=>.refl _) (λ_ _=>.refl _) (λ_ _=>.inl rfl) (λ_ t _=>hl.2 t) (λ_ t _=>hl.2 t) o5 hs
def SF.SX(hc:X.calm=true)(hN:X.N.Nodup)(vL:X.N[i]?=al y)(hx:X.env.scope.names.lookup y=al .local)(S:bE X.env.scope X.N sc N' ix)(hi:oJ X K fs tg iter wl ay)(hg:∀cl C s2 H2 fp,GF (d9 X sc N' cl C s2 H2 fp) K (bC ix ay) tg is wt fs2)(RM:∀cl C s2 H2 fp t,FF (d9 X sc N' cl C s2 H2 fp) K (fs2 t) É (tf t))(he:∀cl C s2 H2 fp t,EF (d9 X sc N' cl C s2 H2 fp) K (fs2 t) Å (te t))(hf:∀p,f p=.bind (wt p) λt=>.bind (tf t) λk=>if k=true then .bind (te t) λv=>.ret (al v) else .ret bn)(hl:n5 is (bC ix ay) fs2/\∀t,dC (fs2 t) (bC ix ay))(pJ:∀j∈is,ix[j]?=al bn)(hr:∀l,SF X K x (ay.set i (al (.ol bn l))) rest (k l) out)(o5:‹r6 (.ListComp Å [⟨tg,iter,É,0⟩] sc pos) (al (.Name y px)) ko.line X.env=pure true›)(hs:rB X iter:=by intro _;rfl):SF X K x fs (.Assign [.Name y px] (.ListComp Å [⟨tg,iter,É,0⟩] sc pos) ko::rest) (.bind (.bind wl λl=>nA l f) k) out:=SF.as (Uj hc hN vL hx S hi hg RM he hf hl pJ o5 hs) hr
end
section
theorem vv:∀{l:aY}{i:Nat} (s:Option SL),l[i]?=al bn->dC (l.set i s) l
 |[],_,_,h=>by simp at h
 |x::l,0,s,h=>by
  simp at h;subst h;exact .drop (dC.refl l)
 |x::l,i+1,s,h=>by
  exact .keep (vv s (by simpa using h))
def dC.trans{a b c:aY}(h1:dC a b)(h2:dC b c):dC a c:=by
 induction h1 generalizing c with
 |nil=>exact h2
 |drop h ih=>cases h2 with|drop h2=>exact .drop (ih h2)|keep h2=>exact .drop (ih h2)
 |keep h ih=>cases h2 with|drop h2=>exact .drop (ih h2)|keep h2=>exact .keep (ih h2)|bump h2 k=>exact .bump (ih h2) k
 |bump h k ih=>cases h2 with|drop h2=>exact .drop (ih h2)|keep h2=>exact .bump (ih h2) k|bump h2 k2=>exact .bump (ih h2) ⟨AE k.1 k2.1,k2.2⟩
def qC{l:aY}{is:O Nat}(hl:l.length=oC.length/\∀(j:Nat) (s:SL),l[j]?=al (al s)->(j∈is/\s.own=false)\/(j∉is/\oC[j]?=al (al s)))(hi:oC[i]?=al bn):(l.set i (al (.val v))).length=oC.length/\∀(j:Nat) (s:SL),(l.set i (al (.val v)))[j]?=al (al s)->(j∈is++[i]/\s.own=false)\/(j∉is++[i]/\oC[j]?=al (al s)):=by
 refine⟨by rw[BS];exact hl.1,λj s e=>?_⟩;rcases cM e with⟨rfl,rfl⟩|⟨n,e⟩
 .exact .inl ⟨by simp,rfl⟩
 .rcases hl.2 j s e with⟨h1,h2⟩|⟨h1,h2⟩
  .exact .inl ⟨by simp[h1],h2⟩
  .exact .inr ⟨by simp[h1,n],h2⟩
def Tj(oC:aY):oC.length=oC.length/\∀(j:Nat) (s:SL),oC[j]?=al (al s)->(j∈([]:O Nat)/\s.own=false)\/(j∉([]:O Nat)/\oC[j]?=al (al s)):=⟨rfl,λj s e=>.inr ⟨by simp,e⟩⟩
def VM(hi:oC[i]?=al bn):n5 [i] oC (λp=>oC.set i (al (.val p)))/\∀t,dC (oC.set i (al (.val t))) oC:=⟨λt=>qC (Tj oC) hi,λt=>vv _ hi⟩
def Mn{l:aY}{s:Option SL}(h:l[j]?=al bn)(n:j≠i):(l.set i s)[j]?=al bn:=by rw[aK n];exact h
def Rp(hi:oC[i]?=al bn)(hj:oC[j]?=al bn)(n:j≠i):n5 [i,j] oC (λt:PV×PV=>(oC.set i (al (.val t.1))).set j (al (.val t.2)))/\∀t:PV×PV,dC ((oC.set i (al (.val t.1))).set j (al (.val t.2))) oC:=
 ⟨λt=>qC (qC (Tj oC) hi) hj,λt=>(vv _ (Mn hj n)).trans (vv _ hi)⟩
end
section
variable{rest:O ut}{T:Type}{out:T->End}{x:Bool}
def c8(sr:aQ K H σ fs)(hs:fs[i]?=al (al (.ol q0 l))):∃a ws,σ[i]?=al (al (.ref a))/\H a=al (.lst ws)/\aL K [] H ws l:=by
 obtain⟨u,e1,r⟩:=sr.at' i _ hs;rcases r with⟨v,e,_⟩|⟨a,e,z,ws,q1,q2⟩
 .cases e
 .subst e;exact⟨a,ws,e1,q1,q2⟩
def gD{sZ:O V}{l':O PV}(sr:aQ K H σ fs)(hs:fs[i]?=al (al (.ol q0 l)))(e1:σ[i]?=al (al (.ref a)))(sx:kO a H H')(h':H' a=al (.lst sZ))(r:aL K [] H sZ l'):aQ K H' σ (fs.set i (al (.ol q0 l')))/\cJ σ fs H σ (fs.set i (al (.ol q0 l'))) H':=
 kX sr hs rfl (by simp) e1 sx λtk=>⟨(sr.ownAt hs rfl e1).1,sZ,h',aL.tk tk r⟩
def pj(l:O PV)(v:PV):W (O PV):=.d8 (l.length<sizeLine) (.ret (l++[v]))
theorem SF.append(i:Nat){k:O PV->W T}(hs:fs[i]?=al (al (.ol q0 l)))(hK:X.K=K)(hN:X.N[i]?=al y)(hv:rN X.env.scope y)(he:EF X K fs e we ay)(hr:∀l',SF X K x (ay.set i (al (.ol q0 l'))) rest (k l') out)(hd: ~~~(d6 y))(dr: ~~~(rP y))(cY:‹sB (.Name y p) "append" X.env (o0 (.Name y p) X.env)=o0 (.Name y p) X.env›)(nK:‹W6 X bN [e]›)(dR:‹P7 Á bN›)(k6:‹dY X e []›)(eI:‹gw X bN []›)(o5:‹r6 (.Call (.Attribute (.Name y p) "append" Á) [e] [] bN) bn pos.line X.env=pure false›):SF X K x fs (.Expr (.Call (.Attribute (.Name y p) "append" Á) [e] [] bN) pos::rest) (.bind we λv=>.bind (pj l v) k) out:=
 SF.step (iH (ni K hK Cm E6 E5 qr (cO hN hv hd dr) (aj he.p aJ k6) cY nK dR k6 eI) o5) λD σ H ⟨sr,q⟩=>by
  obtain⟨a,ws,e1,h1,r1⟩:=c8 sr hs;refine⟨_,e1,.inl ⟨rfl,_,du.of h1⟩,sr,we.mono (λv q1 u H1 g1 s1 v1=>?_) q⟩;obtain⟨a',sZ,wF,gH,zl⟩:=c8 s1 (g1.ev.same hs (by simp));rw[e1]at wF;cases wF;refine⟨a,sZ,u,rfl,rfl,gH,by rw[zl.length];exact q1.1,λH2 sx h2=>?_⟩;obtain⟨s2,g2⟩:=gD s1 (g1.ev.same hs (by simp)) e1 sx h2 (zl.append (.one v1));exact⟨_,k _,hr _,s2,(k _).mono (λt q2=>q2.go (g1.f.trans g2) sr s2) q1.2⟩
def OA(l m:O PV):W (O PV):=.d8 (l.length+m.length<=sizeLine) (.ret (l++m))
theorem SF.extend(i:Nat){k:O PV->W T}(hs:fs[i]?=al (al (.ol q0 l)))(hK:X.K=K)(hN:X.N[i]?=al y)(hv:rN X.env.scope y)(he:QF X K fs e wl ay)(hr:∀l',SF X K x (ay.set i (al (.ol q0 l'))) rest (k l') out)(hd: ~~~(d6 y))(dr: ~~~(rP y))(cY:‹sB (.Name y p) "extend" X.env (o0 (.Name y p) X.env)=o0 (.Name y p) X.env›)(nK:‹W6 X bN [e]›)(dR:‹P7 Á bN›)(k6:‹dY X e []›)(eI:‹gw X bN []›)(o5:‹r6 (.Call (.Attribute (.Name y p) "extend" Á) [e] [] bN) bn pos.line X.env=pure false›):SF X K x fs (.Expr (.Call (.Attribute (.Name y p) "extend" Á) [e] [] bN) pos::rest) (.bind wl λm=>.bind (OA l m) k) out:=
 SF.step (iH (ni K hK Cm PySem.F.slot_list_extend PySem.F.type_list_extend (Rh K hK) (cO hN hv hd dr) (aj he.p aJ k6) cY nK dR k6 eI) o5) λD σ H ⟨sr,q⟩=>by
  obtain⟨a,ws,e1,h1,r1⟩:=c8 sr hs;refine⟨_,e1,.inl ⟨rfl,_,du.of h1⟩,sr,wl.mono (λm q1 u H1 g1 s1 v1=>?_) q⟩;obtain⟨a',sZ,wF,gH,zl⟩:=c8 s1 (g1.ev.same hs (by simp));rw[e1]at wF;cases wF;obtain⟨b,zs,rfl,hb,rb⟩:=v1.sq s1;refine⟨a,b,sZ,zs,rfl,rfl,gH,hb,by rw[zl.length,rb.length];exact q1.1,λH2 sx h2=>?_⟩;obtain⟨s2,g2⟩:=gD s1 (g1.ev.same hs (by simp)) e1 sx h2 (zl.append rb);exact⟨_,k _,hr _,s2,(k _).mono (λt q2=>q2.go (g1.f.trans g2) sr s2) q1.2⟩
def uY(l:O PV):W (O PV×PV):=match l.getLast? with
 |some v=>.ret (l.dropLast,v)
 |none=>.fail
def Mg{l:O PV}(h:l.getLast?=al v):l=l.dropLast++[v]:=by
 rw[List.getLast?_eq_some_iff]at h;obtain⟨ys,rfl⟩:=h;simp
theorem aL.snoc:∀{ws:O V}{l:O PV}{v:PV},aL K [] H ws (l++[v])->∃Xa u,ws=Xa++[u]/\aL K [] H Xa l/\VR K [] H u v
 |_,[],_,.cons r .nil=>⟨[],_,rfl,.nil,r⟩
 |_,x::l,v,.cons r t=>by
  obtain⟨Xa,u,rfl,h1,h2⟩:=aL.snoc t;exact⟨_::Xa,u,rfl,.cons r h1,h2⟩
def SF.uZ(i j:Nat){k:O PV×PV->W T}(hs:fs[i]?=al (al (.ol q0 l)))(PZ:j≠i)(hK:X.K=K)(hN:X.N[i]?=al y)(hv:rN X.env.scope y)(hNd:X.N.Nodup)(hj:X.N[j]?=al z)(hx:Loc X.env.scope z)(hr:∀t:O PV×PV,SF X K x ((fs.set i (al (.ol q0 t.1))).set j (al (.val t.2))) rest (k t) out)(hd: ~~~(d6 y))(dr: ~~~(rP y))(cY:‹sB (.Name y p) "pop" X.env (o0 (.Name y p) X.env)=o0 (.Name y p) X.env›)(dR:‹P7 Á bN›)(o5:‹r6 (.Call (.Attribute (.Name y p) "pop" Á) [] [] bN) (al (.Name z p')) pos.line X.env=pure false›)(hf:Px X z:=by first | exact .inl rfl | exact .inr rfl | assumption):SF X K x fs (.Assign [.Name z p'] (.Call (.Attribute (.Name y p) "pop" Á) [] [] bN) pos::rest) (.bind (uY l) k) out:=
 SF.step (dI hNd hj hx (QR K hK Cm PySem.F.slot_list_pop PySem.F.type_list_pop Rg (cO hN hv hd dr) cY dR) o5 hf) λD σ H ⟨sr,q⟩=>by
  obtain⟨a,ws,e1,h1,r1⟩:=c8 sr hs;have q:(uY l).run λt=>(k t).run λt=>bO K x σ fs H D (out t):=q;unfold uY at q;cases hl:l.getLast? with
  |none=>rw[hl]at q;exact q.elim
  |some v=>
   rw[hl]at q;have el:=Mg hl;rw[el]at r1;obtain⟨Xa,u,rfl,r0,ru⟩:=aL.snoc r1;refine⟨_,e1,.inl ⟨rfl,_,du.of h1⟩,a,Xa,u,rfl,rfl,h1,λH2 sx h2=>?_⟩;obtain⟨s2,g2⟩:=gD sr hs e1 sx h2 r0;have ru2:VR K [] H2 u v:=g2.vr sr ru;have s3:=s2.gz ru2 j;exact⟨_,k _,hr (l.dropLast,v),s3,(k _).mono (λt q2=>q2.go (g2.trans (cJ.gz s2 _ _ j)) sr s3) q⟩
def oP(l:O PV)(i v:PV):W (O PV):=match i with
 |.int k=>match sC l.length k with
  |some j=>.ret (l.set j v)
  |none=>.fail
 |_=>.fail
def SF.US(i:Nat){ei:pc}{k:O PV->W T}(hs:fs[i]?=al (al (.ol q0 l)))(hN:X.N[i]?=al y)(hv:rN X.env.scope y)(he:EF X K fs e we ay)(hi:EF X K ay ei wi fs2)(hr:∀l',SF X K x (fs2.set i (al (.ol q0 l'))) rest (k l') out)(ha:∀v,KB (.Subscript (.Name y p) ei kl) X.env v=(do
   let ov <- sK [v] (o0 (.Name y p) X.env)
   let iv <- sK [v,ov] (o0 ei X.env)
   Ix kl
   sK [v,ov,iv] (Rs ov iv v)
   release [v,ov,iv] []):=by intro _;rfl)(hd: ~~~(d6 y))(dr: ~~~(rP y))(ZD:‹xL [.Subscript (.Name y p) ei kl] e pos.line X.env=pure false›)(hw:‹zn [.Subscript (.Name y p) ei kl] e X.env=pure bn›)(h1:‹(IR [.Subscript (.Name y p) ei kl] X.env).map (·.2)=[KB (.Subscript (.Name y p) ei kl) X.env]›):SF X K x fs (.Assign [.Subscript (.Name y p) ei kl] e pos::rest) (.bind we λv=>.bind wi λn=>.bind (oP l n v) k) out:=
 SF.step (zV he.p (zX (cO hN hv hd dr) hi.p m5 ha) ZD hw h1) λD σ H ⟨sr,q⟩=>by
  refine⟨sr,we.mono (λv q1 u H1 g1 s1 v1=>?_) q⟩;obtain⟨a,ws,e1,h1,r1⟩:=c8 s1 (g1.ev.same hs (by simp));refine⟨_,e1,s1,wi.mono (λn q2 u2 H2 g2 s2 v2=>?_) q1⟩;obtain⟨a',sZ,wF,gH,zl⟩:=c8 s2 ((g1.trans g2).ev.same hs (by simp));rw[e1]at wF;cases wF;cases v2 with
  |int kk=>
   have q2:(match sC l.length kk with|some j=>ap (l.set j v)|none=>W.fail).run _:=q2;cases hj:sC l.length kk with
   |none=>rw[hj]at q2;exact q2.elim
   |some j=>
    rw[hj]at q2;refine⟨a,sZ,kk,j,rfl,rfl,gH,by rw[zl.length];exact hj,λH3 sx h3=>?_⟩;obtain⟨s3,g3⟩:=gD s2 ((g1.trans g2).ev.same hs (by simp)) e1 sx h3 (zl.set (g2.vr s1 v1) j);exact⟨_,k _,hr _,s3,(k _).mono (λt q3=>q3.go ((g1.trans g2).f.trans g3) sr s3) q2⟩
  |_=>exact q2.elim
end
end
end FL
variable{f fa:AY}{qs:O PL.PV}
namespace FL
section
variable[bD]
variable{K:Aa}
def gB(n:Nat):O AK->O PV->aY
 |[],_=>[]
 |.v::ks,x::l=>al (.val x)::gB n ks l
 |.v::_,[]=>[]
 |.p ψ d::ks,l=>al (.dE ψ n (n+d))::gB n ks l
 |.f a us ps fz::ks,l=>al (.adr a us ps fz)::gB n ks l
def ph(n:Nat)(ks:O AK)(l:O PV)(N:Nat):aY:=gB n ks l++Ar (N-ks.length) bn
def rq(ks:O AK):Prop:=∀i j:Nat,(∃ψ d,ks[i]?=al (.p ψ d))->(∃ψ d,ks[j]?=al (.p ψ d))->i=j
theorem gC:∀{n:Nat}{m:uB R n}{l:O PV}{Q:R->Prop},(iB n m l).run Q->l.length=n
 |0,_,[],_,_=>rfl
 |0,_,_::_,_,h=>h.elim
 |n+1,_,[],_,h=>h.elim
 |n+1,m,x::l,Q,h=>by rw[Ap,gC (n:=n) h]
section
theorem gW.len(h:gW K H n vs ks l):vs.length=ks.length:=by induction h<;>simp_all
def gW.slot(h:gW K H n vs ks l):(gB n ks l).length=vs.length/\∀(i:Nat) (s:SL),(gB n ks l)[i]?=al (al s)->∃u,vs[i]?=al u/\oI K H u s/\(s.own=true->∃ψ d,s=.dE ψ n (n+d)/\ks[i]?=al (.p ψ d)):=by
 induction h with
 |nil=>exact⟨rfl,λi s e=>by simp[gB]at e⟩
 | @v u x vs ks l r t ih=>
  refine⟨by simp[gB,ih.1],λi s e=>?_⟩;cases i with
  |zero=>simp[gB]at e;subst e;exact⟨u,rfl,.inl ⟨x,rfl,r⟩,λz=>by cases z⟩
  |succ i=>simp[gB]at e;obtain⟨w,h1,h2,h3⟩:=ih.2 i s e;exact⟨w,by simpa using h1,h2,by simpa using h3⟩
 | @p a ψ d vs ks l e0 r t ih=>
  refine⟨by simp[gB,ih.1],λi s e=>?_⟩;cases i with
  |zero=>simp[gB]at e;subst e;exact⟨_,rfl,.inr ⟨a,rfl,e0,Bo _ _,r⟩,λ_=>⟨ψ,d,rfl,rfl⟩⟩
  |succ i=>simp[gB]at e;obtain⟨w,h1,h2,h3⟩:=ih.2 i s e;exact⟨w,by simpa using h1,h2,by simpa using h3⟩
 | @f a us vs ps fz ks l r z t ih=>
  refine⟨by simp[gB,ih.1],λi s e=>?_⟩;cases i with
  |zero=>simp[gB]at e;subst e;exact⟨_,rfl,.inr ⟨a,rfl,rfl,r,z⟩,λz=>by cases z⟩
  |succ i=>simp[gB]at e;obtain⟨w,h1,h2,h3⟩:=ih.2 i s e;exact⟨w,by simpa using h1,h2,by simpa using h3⟩
def gW.Vc(h:gW K H n vs ks l)(e:ks[i]?=al (.p ψ d)):(gB n ks l)[i]?=al (al (.dE ψ n (n+d))):=by
 induction h generalizing i with
 |nil=>simp at e
 |v r t ih=>cases i with|zero=>simp at e|succ i=>simp[gB];exact ih (by simpa using e)
 |p e0 r t ih=>cases i with|zero=>simp at e;obtain⟨rfl,rfl⟩:=e;rfl|succ i=>simp[gB];exact ih (by simpa using e)
 |f r z t ih=>cases i with|zero=>simp at e|succ i=>simp[gB];exact ih (by simpa using e)
theorem mN{N:Nat}{s:SL}(h:(ph n ks l N)[i]?=al (al s)):(gB n ks l)[i]?=al (al s):=by
 unfold ph at h;by_cases c:i<(gB n ks l).length
 .rw[A1 c]at h;exact h
 .rw[A5 ∅,BC]at h
  split at h<;>cases h
def jZ{N:O Str}(h:vs[i]?=al u):(L2.start N vs)[i]?=al (al u):=by
 unfold L2.start;rw[A1 (by rw[Am];exact(Al.mp h).1),An,h];rfl
def tE{N:O Str}(h:(L2.start N vs)[i]?=al (al u)):vs[i]?=al u:=by
 unfold L2.start at h;by_cases c:i<vs.length
 .rw[A1 (by simpa using c),An]at h;cases z:vs[i]? with
  |none=>rw[z]at h;cases h
  |some q=>rw[z]at h;cases h;rfl
 .rw[A5 (by simpa using c),BC]at h
  split at h<;>cases h
def gW.beg(h:gW K H n vs ks l)(tb:TB H)(one:rq ks)(N:O Str):aQ K H (L2.start N vs) (ph n ks l N.length):=by
 obtain⟨hl,hs⟩:=h.slot;refine⟨?_,λi s e=>?_,λi j s t x y a e1 e2 o1 o2 q1 q2 z1 z2=>?_,tb⟩
 .unfold L2.start ph;rw[Ag,Ag,Am,hl,B4,B4,h.len]
 .obtain⟨u,h1,h2,_⟩:=hs i s (mN e);exact⟨u,jZ h1,h2⟩
 .obtain⟨_,_,_,h3⟩:=hs i s (mN e1);obtain⟨_,_,_,h4⟩:=hs j t (mN e2);obtain⟨φ,d,_,k1⟩:=h3 o1;obtain⟨ψ,d',_,k2⟩:=h4 o2;exact one i j ⟨φ,d,k1⟩ ⟨ψ,d',k2⟩
def gW.go(h:gW K H n vs ks l){N:O Str}(g:cJ (L2.start N vs) (ph n ks l N.length) H σ' aM H')(s':aQ K H' σ' aM):P6 n vs ks H H':=by
 obtain⟨hl,hs⟩:=h.slot;refine⟨λa o e q=>(g.keep a o e λz=>?_).1,s'.tb,g.there,λa ψ d p=>?_,g.x⟩
 .obtain⟨i,s,x,e1,e2,e3,e4⟩:=z;obtain⟨u,h1,h2,h3⟩:=hs i s (mN e1);obtain⟨ψ,d,rfl,k⟩:=h3 e2;rcases e4 with rfl|e4
  .exact q ψ d ⟨i,k,tE e3⟩
  .cases e4
 .obtain⟨i,e1,e2⟩:=p;have e3:=h.Vc e1;have e4:(ph n ks l N.length)[i]?=al (al (.dE ψ n (n+d))):=by unfold ph;rw[A1 ((Al.mp e3).1)];exact e3
  rcases g.pk a ψ (n+d) ⟨i,n,e4,jZ e2⟩ with p|⟨_,k⟩
  .exact s'.free p
  .exact k
end
section
variable{x:Str}{st:ut}{N:O Str}
def fnV{m:uB PV n}(Fn:lz K x qual st f fd)(S:bW N ps (ak st))(K3:ks.length=ps.length)(one:rq ks)(Æ:∀(j:Nat) (l:O PV),l.length=n->∀(bX:ce) (A:BT) (outer:O Env) (s:gt) (H:Hp) (E:XK),bI k (A.deeper (Db qual (ak st) s.heap.objs.size f bX))->SF (ku jo P w K mg base N qual (ak st) f bX A outer s H E).Ky K false (ph j ks l N.length) (a9 st) (iB n m l) .rt):bz P w K mg base jo (k+1) f fd ps (n9 K ks (iB n m)):=by
 refine Fn.ok S (λvs H Q E h=>?_) (λbX A outer s H vs Q E hr h=>?_)
 .obtain⟨_,_,l,h,_⟩:=h;rw[h.len];exact K3
 obtain⟨tb,j,l,h,q⟩:=h;refine⟨_,(Æ j l (gC q) bX A outer s H E hr).p,h.beg tb one N,(iB n m l).mono (λv q1 u σ' aM H' g s' r=>q1 u H' (h.go g s') r) q⟩
def fnL{m:uB (O PV) n}(Fn:lz K x qual st f fd)(S:bW N ps (ak st))(K3:ks.length=ps.length)(one:rq ks)(Æ:∀(j:Nat) (l:O PV),l.length=n->∀(bX:ce) (A:BT) (outer:O Env) (s:gt) (H:Hp) (E:XK),bI k (A.deeper (Db qual (ak st) s.heap.objs.size f bX))->SF (ku jo P w K mg base N qual (ak st) f bX A outer s H E).Ky K false (ph j ks l N.length) (a9 st) (iB n m l) .rl):bz P w K mg base jo (k+1) f fd ps (qa K ks (iB n m)):=by
 refine Fn.ok S (λvs H Q E h=>?_) (λbX A outer s H vs Q E hr h=>?_)
 .obtain⟨_,_,l,h,_⟩:=h;rw[h.len];exact K3
 obtain⟨tb,j,l,h,q⟩:=h;refine⟨_,(Æ j l (gC q) bX A outer s H E hr).p,(h.beg tb one N),(iB n m l).mono (λz q1 a ws σ' aM H' g s' fr e r=>q1 a ws H' (h.go g s') ?_ e r) q⟩;rcases fr with fr|⟨i,t,x,e1,e2,np,e3,e4⟩
 .exact fr
 .obtain⟨_,_,_,h3⟩:=h.slot.2 i t (mN e1);obtain⟨ψ,d,e,_⟩:=h3 e2;exact absurd e (np _ _ _)
end
def vi:rq []:=λi j ⟨_,_,h⟩=>by simp at h
def Tb{k:AK}(h:rq ks)(hk:∀ψ d,k≠.p ψ d):rq (k::ks):=λi j ⟨φ,d,a⟩ ⟨ψ,d',b⟩=>by
 cases i with
 |zero=>simp at a;exact absurd a (hk _ _)
 |succ i=>
  cases j with
  |zero=>simp at b;exact absurd b (hk _ _)
  |succ j=>rw[h i j ⟨φ,d,by simpa using a⟩ ⟨ψ,d',by simpa using b⟩]
def Jm(h:rq ks):rq (.v::ks):=Tb h (by simp)
def Y3{us:O V}(h:rq ks):rq (.f fa us qs fz::ks):=Tb h (by simp)
end
end FL
namespace L2
def YI(K:Aa):R2:=λx y H Q=>∃a b xs zs,x=.ref a/\y=.ref b/\du K H a xs/\du K H b zs/\xs.length+zs.length<=sizeLine/\kr H (.lst (xs++zs)) Q
theorem Q0(K:Aa)(hK:X.K=K):gr X (wP .Add) (YI K):=by
 subst hK;intro Z s σ H x y v u Q I rx ry h;obtain⟨l,b,xs,zs,rfl,rfl,hH,hB,hz,q⟩:=h;cases rx;cases ry;obtain⟨ax,r,⟨⟨cls,dd,data,sl⟩,n,ho,hc,hd,Wf⟩,_⟩:=I.list hH;obtain⟨cQ,r2,⟨⟨aaq,ä,data2,Xe⟩,n2,PX,Xr,ß,ZN⟩,_⟩:=I.list hB;subst hc hd Wf Xr ß ZN;have e:ax.toArray++cQ.toArray=(ax++cQ).toArray:=by simp
 have hl:=r.length;have RK:=r2.length;refine concat_meets ⟨_,ho,rfl⟩ ⟨_,PX,rfl⟩ noFill_list_add seq_list_add PySem.F.slot_list_add PySem.F.entry_list_add (PySem.F.args_list_add_2 _ _) (list_addW l b ax.toArray cQ.toArray n n2 bn bn sl Xe (by simp;lia)) ⟨ho,PX,?_⟩;rw[e];exact⟨.ref _,_,I.VH (r.append r2) (by rw[Ag];lia),rfl,q.at _ I.fresh⟩
end L2
variable{o:BV}{neg:Bool}
namespace FL
section
variable[bD]
variable{K:Aa}
section
variable{a c:pc}{w:W PV}
def gA(l m:O PV):W (O PV):=.d8 (l.length+m.length<=sizeLine) (.ret (l++m))
def fQL(K:Aa)(fs:aY)(w:W (O PV))(aM:aY:=fs):TE:=λσ H Q=>aQ K H σ fs/\w.run λl=>∀u H',cK σ fs H H' aM->aQ K H' σ aM->Sr K σ aM H' u l->(∀f2 Ā,cK σ aM H' Ā f2->aQ K Ā σ f2->∃a vs,u=.ref a/\du K Ā a vs/\aL K [] Ā vs l)->Q u H'
structure LB(X:Cx)(K:Aa)(fs:aY)(e:pc)(w:W (List PV))(aM:aY:=fs):Prop where p:PE X e (fQL K fs w aM)
def bL(h:LF X K fs e wl ay):LB X K fs e wl ay:=⟨PE.imp h.p λσ H Q ⟨sr,q⟩=>⟨sr,wl.mono (λl q1 a vs H1 g1 s1 n e v=>q1 _ H1 g1 s1 (.inr ⟨a,rfl,.inl ⟨λz=>sr.noOwn n (g1.ev.fF z),vs,e,v⟩⟩) λ_ H2 g2 s2=>⟨a,vs,rfl,du.of (g2.mn e λz=>sr.noOwn n (g1.ev.fF z)),g2.Iq s1 v⟩) q⟩⟩
def fZ(i:Nat){x:Str}(hs:‹fs[i]?=al (al (.ol q0 l))›)(hN:‹X.N[i]?=al x›)(hv:rN X.env.scope x:=by first|exact BA rfl|exact BE (BA rfl)|exact BE (BE rfl))(hd: ~~~(d6 x))(dr: ~~~(rP x)):LB X K fs (.Name x pos) (.ret l):=
 ⟨PE.imp (cO hN hv hd dr) λσ H Q ⟨sr,q⟩=>by
  obtain⟨a,ws,e1,h1,r1⟩:=c8 sr hs;refine⟨_,e1,q _ H .refl sr (.inr ⟨a,rfl,.inr ⟨i,q0,hs,e1⟩⟩) λ_ H2 g2 s2=>?_⟩;obtain⟨a',sZ,wF,gH,zl⟩:=c8 s2 (g2.ev.same hs (by simp));rw[e1]at wF;cases wF;exact⟨a,sZ,rfl,du.of gH,zl⟩⟩
def qx:PV->W (O PV)
 |.cl l=>.ret l
 |_=>.fail
def iG(h:EF X K fs e w ay):LB X K fs e (.bind w qx) ay:=⟨PE.imp h.p λσ H Q ⟨sr,q⟩=>⟨sr,w.mono (λx q1 u1 H1 g1 s1 v1=>by
 cases v1 with
 |cl e r=>exact q1 _ H1 g1 s1 (.inl ⟨_,_,rfl,.inl e,r⟩) λ_ H2 g2 s2=>⟨_,_,rfl,((g2.cC s1).f _ _ e).sq,g2.Iq s1 r⟩
 |_=>exact q1.elim) q⟩⟩
def hV(hK:X.K=K)(ha:LB X K fs a wl ay)(hb:LB X K ay b wm fs2):LF X K fs (.BinOp a .Add b pos) (.bind wl λl=>.bind wm λm=>gA l m) fs2:=⟨PE.imp (qh (Q0 K hK) ha.p hb.p) λσ H Q ⟨sr,q⟩=>⟨sr,wl.mono (λl q1 u1 H1 g1 s1 _ v1=>⟨s1,wm.mono (λm q2 u2 H2 g2 s2 _ v2=>by
 obtain⟨a,vs,rfl,h1,r1⟩:=v1 _ H2 g2 s2;obtain⟨b,ws,rfl,h2,r2⟩:=v2 _ H2 .refl s2;refine⟨a,b,vs,ws,rfl,rfl,h1,h2,by rw[r1.length,r2.length];exact q2.1,λp H3 s3 h3 n3=>?_⟩;have gg:=g1.trans g2;exact q2.2 p _ H3 (gg.trans (cK.same s3)) (s2.same s3) (gg.there p n3) h3 (aL.tk s3.eU (r1.append r2))) q1⟩) q⟩⟩
def Jo{Q:VK}(g1:cK σ fs H H1 ay)(s1:aQ K H1 σ ay)(r:aL K [] H1 vs l)(q:∀a vs H',cK σ fs H H' ay->aQ K H' σ ay->H a=bn->H' a=al (.lst vs)->aL K [] H' vs l->Q (.ref a) H'):kr H1 (.lst vs) Q:=λp H2 s2 h2 n2=>q p vs H2 (g1.trans (cK.same s2)) (s1.same s2) (g1.there p n2) h2 (aL.tk s2.eU r)
def NK(K:Aa):CL K (MF K) .ret:=λ{fs σ H Q u l} s v q=>by
 obtain⟨a,vs,rfl,h,rs⟩:=v.sq s;exact⟨a,vs,rfl,h,Jo .refl s rs q⟩
def NR(hK:X.K=K)(hg:Gl X "list")(hm:X.mg "list"=bn)(ha:QF X K fs e wl ay)(he:‹dY X e []›)(bZ:‹gw X pos []›):LF X K fs (.Call (.Name "list" p) [e] [] pos) wl ay:=NS (HW K hK) (NK K) hg hm boot_list ha ⋯ ⋯ he bZ
def wu(hK:X.K=K)(hg:Gl X "tuple")(hm:X.mg "tuple"=bn)(ha:QF X K fs e wl ay)(he:‹dY X e []›)(bZ:‹gw X pos []›):EF X K fs (.Call (.Name "tuple" p) [e] [] pos) (.bind wl zF) ay:=Li (Ln K hK) (Qk K) hg hm Pi ha ⋯ ⋯ he bZ
def nR(hK:X.K=K)(hg:Gl X "len")(hm:X.mg "len"=bn)(ha:QF X K fs e wl ay)(he:‹dY X e []›)(bZ:‹gw X pos []›):EF X K fs (.Call (.Name "len" p) [e] [] pos) (.bind wl vt) ay:=O4 (fR K hK) (Rn K) hg hm boot_len ha ⋯ ⋯ he bZ
def Pu(ha:EF X K fs e w ay)(he:lm [e] X.env=(false,o0 e X.env)::lm [] X.env):AF X K fs [e] (Ar 1 .v) (R:=R) (λk=>.bind w λx=>k [x]) ay:=af ha au he
def df(hK:X.K=K)(hg:Gl X "len")(hm:X.mg "len"=bn)(ha:EF X K fs e w ay)(he:‹dY X e []›)(bZ:‹gw X pos []›):EF X K fs (.Call (.Name "len" p) [e] [] pos) (.bind w λx=>ql dF [x]) ay:=pM (fR K hK) (Sj K) hg hm boot_len (Pu ha he) ⋯ ⋯ he bZ
def Ub(hg:Gl X "abs")(hm:X.mg "abs"=bn)(ha:EF X K fs e w ay)(he:‹dY X e []›)(bZ:‹gw X pos []›):EF X K fs (.Call (.Name "abs" p) [e] [] pos) (.bind w λx=>ql y8 [x]) ay:=pM Pc Sl hg hm boot_abs (Pu ha he) ⋯ ⋯ he bZ
def JO(hg:Gl X "int")(hm:X.mg "int"=bn)(ha:EF X K fs e w ay)(he:‹dY X e []›)(bZ:‹gw X pos []›):EF X K fs (.Call (.Name "int" p) [e] [] pos) (.bind w λx=>ql y7 [x]) ay:=O3 Lw Sk hg hm boot_int (Pu ha he) ⋯ ⋯ he bZ
def Ua(hc:X.calm=true)(hg:Gl X "max")(hm:X.mg "max"=bn)(ha:EF X K fs a wa ay)(hb:EF X K ay b wb fs2)(he:‹lm [a,b] X.env=(false,o0 a X.env)::lm [b] X.env›)(Oi:‹dY X b []›)(bZ:‹(KM pos (lm [b] X.env)).any (·.1)=false›):EF X K fs (.Call (.Name "max" p) [a,b] [] pos) (.bind wa λx=>.bind wb λy=>ql Ly [x,y]) fs2:=pM (n:=2) (Lr hc) Si hg hm boot_max (af ha (af hb au Oi) he) ⋯ ⋯ he bZ
def aaf(hc:X.calm=true)(hg:Gl X "min")(hm:X.mg "min"=bn)(ha:EF X K fs a wa ay)(hb:EF X K ay b wb fs2)(he:‹lm [a,b] X.env=(false,o0 a X.env)::lm [b] X.env›)(Oi:‹dY X b []›)(bZ:‹(KM pos (lm [b] X.env)).any (·.1)=false›):EF X K fs (.Call (.Name "min" p) [a,b] [] pos) (.bind wa λx=>.bind wb λy=>ql Pl [x,y]) fs2:=pM (n:=2) (Lq hc) Sg hg hm boot_min (af ha (af hb au Oi) he) ⋯ ⋯ he bZ
def Zh(hK:X.K=K)(hc:X.calm=true)(Wc:Gl X "list")(V9:X.mg "list"=bn)(Wb:Gl X "reversed")(V8:X.mg "reversed"=bn)(he:LB X K fs e wl ay)(my:‹lm [.Call (.Name "reversed" p3) [e] [] p4] X.env=(false,o0 (.Call (.Name "reversed" p3) [e] [] p4) X.env)::lm [] X.env›)(xm:‹dY X e []›):LF X K fs (.Call (.Name "list" p1) [.Call (.Name "reversed" p3) [e] [] p4] [] p2) (.bind wl λl=>.ret l.reverse) ay:=⟨PE.imp (z9 K hK hc Wc V9 Wb V8 he.p my xm) λσ H Q ⟨sr,q⟩=>⟨sr,wl.mono (λl q1 u1 H1 g1 s1 _ v1=>by
 obtain⟨a,vs,rfl,h1,r1⟩:=v1 _ H1 .refl s1;exact⟨a,vs,rfl,h1,Jo g1 s1 r1.reverse q1⟩) q⟩⟩
def bsW:O PV->W (O Bool)
 |[]=>.ret []
 |.bl b::r=>.bind (bsW r) λl=>.ret (b::l)
 |_=>.fail
theorem JY:∀{l:O PV}{Q:O Bool->Prop},(bsW l).run Q->∃bs:O Bool,l=bs.map PV.bl/\Q bs
 |[],Q,h=>⟨[],rfl,h⟩
 |.bl b::r,Q,h=>by
  obtain⟨bs,e,q⟩:=JY (l:=r) h;exact⟨b::bs,by rw[e];rfl,q⟩
 |.bx::r,Q,h=>h.elim
 |.int _::r,Q,h=>h.elim
 |.str _::r,Q,h=>h.elim
 |.tup _::r,Q,h=>h.elim
 |.ref _::r,Q,h=>h.elim
 |.ty _::r,Q,h=>h.elim
 |.cl _::r,Q,h=>h.elim
@[simp] theorem JZ:∀bs:O Bool,bsW (bs.map PV.bl)=.ret bs
 |[]=>rfl
 |b::bs=>by
  show am (bsW (bs.map PV.bl)) _=_;rw[JZ bs];rfl
def nW(l:O PV):W PV:=.bind (bsW l) λbs=>.ret (.bl (bs.all id))
def uf(hK:X.K=K)(hc:X.calm=true)(hg:Gl X "all")(hm:X.mg "all"=bn)(ha:LB X K fs e wl ay)(he:‹dY X e []›)(bZ:‹gw X pos []›):EF X K fs (.Call (.Name "all" p) [e] [] pos) (.bind wl nW) ay:=⟨PE.imp (bM (Lx K hK hc) hg hm boot_all (aj ha.p aJ he) ⋯ ⋯ he bZ) λσ H Q ⟨sr,q⟩=>⟨sr,wl.mono (λl q1 u1 H1 g1 s1 _ v1=>by
 obtain⟨bs,e,q2⟩:=JY q1;obtain⟨a,vs,rfl,h1,r1⟩:=v1 _ H1 .refl s1;rw[e]at r1;have:=uo r1;subst this;exact⟨a,bs,rfl,h1,q2 _ H1 g1 s1 (.bl _)⟩) q⟩⟩
def dZ(k:Kd)(x:PV):W PV:=match x with
 |.ref _=>.fail
 |.ty _=>.fail
 |.ob _ _=>.fail
 |.hand=>.fail
 |x=>.ret (.bl (k.is x))
def Jb(K:Aa):O V->Hp->VK->Prop:=λxs H Q=>∃x c t b,xs=[x,.ty c]/\(jW K H x t\/(t=.type "tuple"/\∃a vs,x=.ref a/\dX K H a vs)\/(t=.type "list"/\∃a vs,x=.ref a/\du K H a vs)\/(t=.type "dict"/\∃a,x=.ref a/\IsD H a))/\AJ K t (.type c)=al b/\Q (.bl b) H
def uk(hK:X.K=K):bP X (.builtin "isinstance") (Jb K):=by
 subst hK;intro Z s σ H xs us Q I r h;obtain⟨x,c,t,b,rfl,ty|ty|⟨rfl,a,vs,rfl,hL⟩|⟨rfl,a,rfl,hD⟩,e,q⟩:=h
 .exact gJ Z s σ H _ us Q I r ⟨x,c,t,b,rfl,ty,e,q⟩
 .exact Lu X.K rfl Z s σ H _ us Q I r ⟨x,c,t,b,rfl,.inr ty,e,q⟩
 .obtain⟨u,w,rfl,r1,r2⟩:=vals2 r;cases r1;cases r2;obtain⟨ax,_,⟨o,n,h1,h2,_⟩,_⟩:=I.list hL;exact Bb EO I.fm ⟨o,h1,h2⟩ e (λz=>nomatch z) λtk=>⟨.bl b,H,I.tok _,rfl,q⟩
 .obtain⟨u,w,rfl,r1,r2⟩:=vals2 r;cases r1;cases r2;have:∃o,s.heap.get? a=al o/\o.cls=.type "dict":=by
   rcases hD with⟨az,e⟩|⟨az,e⟩
   .obtain⟨_,_,vs,_,o,_,_,h1,h2,_⟩:=yT I.aX e;exact⟨o,h1,h2.1⟩
   .obtain⟨_,_,xs,_,o,_,_,h1,h2,_⟩:=yS I.aX e;exact⟨o,h1,h2.1⟩
  obtain⟨o,h1,h2⟩:=this;exact Bb ER I.fm ⟨o,h1,h2⟩ e (λz=>nomatch z) λtk=>⟨.bl b,H,I.tok _,rfl,q⟩
def dm(hK:X.K=K)(k:Kd){x:Str}(hg:Gl X "isinstance")(hm:X.mg "isinstance"=bn)(ha:EF X K fs a wa ay)(hgx:Gl X x)(hmx:X.mg x=bn)(hv:u8 x=al (.type k.name))(hn: ~~~(x≠"__name__"))(hd: ~~~(d6 x))(he:‹lm [a,.Name x p2] X.env=(false,o0 a X.env)::lm [.Name x p2] X.env›)(Oi:‹lm [Expr.Name x p2] X.env=(false,o0 (.Name x p2) X.env)::lm [] X.env›)(bZ:‹(KM pos (lm [Expr.Name x p2] X.env)).any (·.1)=false›):EF X K fs (.Call (.Name "isinstance" p) [a,.Name x p2] [] pos) (.bind wa (dZ k)) ay:=
 ⟨PE.imp (bM (uk hK) hg hm FB (aj ha.p (aj (lY (v:=.ty k.name) hgx hmx hv rfl hn hd) aJ Oi) he) ⋯ ⋯ he bZ) λσ H Q ⟨sr,q⟩=>⟨sr,wa.mono (λx q1 u1 H1 g1 s1 v1=>by
  have fin:∀{t:ce}{y:PV},jW K H1 u1 t->AJ K t (.type k.name)=al (k.is y)->Q (.bl (k.is y)) H1->Jb K [u1,.ty k.name] H1 Q:=λty e q=>⟨_,_,_,_,rfl,.inl ty,e,q⟩;cases v1 with
  |bx=>exact fin .bx (by rw[(gF K).1 k];cases k<;>rfl) (q1 _ H1 g1 s1 (.bl _))
  |bl b=>exact fin (.bl b) (NU K b k) (q1 _ H1 g1 s1 (.bl _))
  |int b=>exact fin (.int b) (pG K b k) (q1 _ H1 g1 s1 (.bl _))
  |str b=>exact fin (.str b) (Jt K b k) (q1 _ H1 g1 s1 (.bl _))
  |ty n=>exact q1.elim
  |ref n=>exact q1.elim
  |ob _ _ _ _ _=>exact q1.elim
  |hand _=>exact q1.elim
  | @dk a o az ks l e k1 r=>exact⟨_,_,_,_,rfl,.inr (.inr (.inr ⟨rfl,_,rfl,.inl ⟨_,.inr ⟨_,e⟩⟩⟩)),(show _=al (k.is (.dv ks l)) by rw[(gF K).2.2 k];cases k<;>rfl),q1 _ H1 g1 s1 (.bl _)⟩
  | @dt a o az ks l e k1 r=>exact⟨_,_,_,_,rfl,.inr (.inr (.inr ⟨rfl,_,rfl,.inr ⟨_,.inr ⟨_,e⟩⟩⟩)),(show _=al (k.is (.dv ks l)) by rw[(gF K).2.2 k];cases k<;>rfl),q1 _ H1 g1 s1 (.bl _)⟩
  | @cl p vs l e r=>exact⟨_,_,_,_,rfl,.inr (.inr (.inl ⟨rfl,_,_,rfl,e.sq⟩)),(show _=al (k.is (.cl l)) by rw[(gF K).2.1 k];cases k<;>rfl),q1 _ H1 g1 s1 (.bl _)⟩
  | @tup p vs l e r=>exact⟨_,_,_,_,rfl,.inr (.inl ⟨rfl,_,_,rfl,dX.of e⟩),Js K _ k,q1 _ H1 g1 s1 (.bl _)⟩) q⟩⟩
def QB(l:O PV):PV->W (O PV)
 |.int k=>.d8 (-(2 ^ 63)<=k/\k<2 ^ 63/\l.length*k.toNat<=sizeLine) (.ret (Ar k.toNat l).flatten)
 |_=>.fail
def Zi(ha:LF X K fs a wl ay)(hb:EF X K ay b wb fs2):LF X K fs (.BinOp a .Mult b pos) (.bind wl λl=>.bind wb λy=>QB l y) fs2:=⟨PE.imp (qh Vi ha.p hb.p) λσ H Q ⟨sr,q⟩=>⟨sr,wl.mono (λl q1 a vs H1 g1 s1 n e v=>⟨s1,wb.mono (λy q2 u2 H2 g2 s2 v2=>by
 cases v2 with
 |int k=>
  have r2:=g2.Iq s1 v;refine⟨a,k,vs,rfl,rfl,((g2.mn e (λz=>sr.noOwn n (g1.ev.fF z)))),q2.1.1,q2.1.2.1,by rw[r2.length];exact q2.1.2.2,λp hp=>?_⟩;have sm:=eX hp (.lst (Ar k.toNat vs).flatten);have gg:=g1.trans g2;exact q2.2 p _ _ (gg.trans (cK.same sm)) (s2.same sm) (gg.there p hp) aw (aL.tk sm.eU (r2.rep k.toNat))
 |_=>exact q2.elim) q1⟩) q⟩⟩
def part:PV->W (Option Int)
 |.int i=>.ret (al i)
 |_=>.fail
def cE:OF X K fs bn (.ret bn):=⟨PO.imp QK λσ H Q ⟨sr,q⟩=>q H .refl sr⟩
def bG(h:EF X K fs e w ay):OF X K fs (al e) (.bind w part) ay:=⟨PO.imp (QJ h.p) λσ H Q ⟨sr,q⟩=>⟨sr,w.mono (λx q1 u1 H1 g1 s1 v1=>by
 cases v1 with
 |int i=>exact⟨_,rfl,q1 H1 g1 s1⟩
 |_=>exact q1.elim) q⟩⟩
variable{el eh:Option pc}{lo hi:W (Option Int)}
def He(hK:X.K=K)(he:LB X K fs e wl ay)(hl:OF X K ay el lo fs2)(hh:OF X K fs2 eh hi fs3):LF X K fs (.Subscript e (.Slice el eh bn p2) pos) (.bind wl λl=>.bind lo λi=>.bind hi λj=>.ret (jU l i j)) fs3:=⟨PE.imp (xN (Mh K hK) he.p hl.p hh.p) λσ H Q ⟨sr,q⟩=>⟨sr,wl.mono (λl q1 u1 H1 g1 s1 _ v1=>⟨s1,lo.mono (λi q2 H2 g2 s2=>⟨s2,hi.mono (λj q3 H3 g3 s3=>by
 obtain⟨a,vs,rfl,h1,r1⟩:=v1 _ H3 (g2.trans g3) s3;exact⟨a,vs,rfl,h1,Jo ((g1.trans g2).trans g3) s3 (r1.cut i j) q3⟩) q2⟩) q1⟩) q⟩⟩
def jm(x:PV)(i j:Option Int):W PV:=match x with
 |.str z=>.d8 (z.length<=sizeLine) (.ret (.str (Er z i j)))
 |_=>.fail
def fy(he:EF X K fs e w ay)(hl:OF X K ay el lo fs2)(hh:OF X K fs2 eh hi fs3):EF X K fs (.Subscript e (.Slice el eh bn p2) pos) (.bind w λx=>.bind lo λi=>.bind hi λj=>jm x i j) fs3:=⟨PE.imp (xN UQ he.p hl.p hh.p) λσ H Q ⟨sr,q⟩=>⟨sr,w.mono (λx q1 u1 H1 g1 s1 v1=>⟨s1,lo.mono (λi q2 H2 g2 s2=>⟨s2,hi.mono (λj q3 H3 g3 s3=>by
 cases v1 with
 |str z=>exact⟨_,rfl,q3.1,q3.2 _ H3 ((g1.trans g2).trans g3) s3 (.str _)⟩
 |_=>exact q3.elim) q2⟩) q1⟩) q⟩⟩
def oE(h:LB X K fs e wl ay):∀σ H Q,fE K fs (.bind wl λl=>.ret (.bl (if neg then !l.isEmpty else l.isEmpty))) ay σ H Q->UD (λx y H Q=>∃p q xs,x=.ref p/\y=.ref q/\du K H p xs/\du K H q []/\Q (.bl (if neg then !xs.isEmpty else xs.isEmpty)) H) (fQL K fs wl ay) (fL K ay (.ret [])) σ H Q:=λσ H Q ⟨sr,q⟩=>
 ⟨sr,wl.mono (λl q1 u1 H1 g1 s1 _ v1=>⟨s1,λa2 vs2 H2 g2 s2 n2 e2 r2=>by
  cases r2;obtain⟨a,vs,rfl,h1,r1⟩:=v1 _ H2 g2 s2;refine⟨a,a2,vs,rfl,rfl,h1,du.of e2,?_⟩;rw[OW r1];exact q1 _ H2 (g1.trans g2) s2 (.bl _)⟩) q⟩
def Tn:LF X K fs (.List [] pos) (.ret []):=Tq (n:=0) au
theorem af5(hK:X.K=K)(hu:X.A.units+200<GE)(h:LB X K fs e wl ay)(hk:‹wn .Eq (.List [] p2)=false›):EF X K fs (.Compare e [.Eq] [.List [] p2] pos) (.bind wl λl=>.ret (.bl l.isEmpty)) ay:=⟨PE.imp (pD (GR K hK ∅) h.p Tn.p hk) (oE (neg:=false) h)⟩
theorem SM(hK:X.K=K)(hu:X.A.units+200<GE)(h:LB X K fs e wl ay)(hk:‹wn .NotEq (.List [] p2)=false›):TF X K fs (.Compare e [.NotEq] [.List [] p2] pos) (.bind wl λl=>.ret (!l.isEmpty)) ay:=⟨PT.imp (j5 (Fl K hK ∅) h.p Tn.p hk) λσ H Q q=>oE (neg:=true) h σ H _ (Wt σ H Q q)⟩
def oB:O PV->W (O Int)
 |[]=>.ret []
 |.int i::r=>.bind (oB r) λl=>.ret (i::l)
 |_=>.fail
theorem ka:∀{l:O PV}{Q:O Int->Prop},(oB l).run Q->∃ns:O Int,l=ns.map PV.int/\Q ns
 |[],Q,h=>⟨[],rfl,h⟩
 |.int b::r,Q,h=>by
  obtain⟨bs,e,q⟩:=ka (l:=r) h;exact⟨b::bs,by rw[e];rfl,q⟩
 |.bx::r,Q,h=>h.elim
 |.bl _::r,Q,h=>h.elim
 |.str _::r,Q,h=>h.elim
 |.tup _::r,Q,h=>h.elim
 |.ref _::r,Q,h=>h.elim
 |.ty _::r,Q,h=>h.elim
 |.cl _::r,Q,h=>h.elim
@[simp] theorem hZ:∀bs:O Int,oB (bs.map PV.int)=.ret bs
 |[]=>rfl
 |b::bs=>by
  show am (oB (bs.map PV.int)) _=_;rw[hZ bs];rfl
end
end
end FL
variable{f1 f2:FL.aY}{xI:Cv}{kt k2:Nat}
namespace FL
section
variable[bD]
variable{K:Aa}
abbrev b2(m:M2)(wa wb:W PV):W PV:=.bind wa λx=>.bind wb λy=>of2 m x y
abbrev t2(m:M2)(wa wb:W PV):W Bool:=.bind wa λx=>.bind wb λy=>.bind (of2 m x y) XB
abbrev c1(m:ux)(w:W PV):W PV:=.bind w λx=>ql m [x]
abbrev gQ(wl:W (O PV))(wb:W PV):W PV:=.bind wl λl=>.bind wb λy=>ixW l y
abbrev uH(a b:W Bool):W Bool:=.bind a λk=>if k=true then b else .ret false
abbrev Xc(a b:W Bool):W Bool:=.bind a λk=>if k=true then .ret true else b
abbrev km(a:W Bool):W Bool:=.bind a λk=>.ret (!k)
abbrev c6{α:Type}(t:W Bool)(a b:W α):W α:=.bind t λk=>if k=true then a else b
section
variable{a c:pc}{rest:O ut}{S T T2:Type}{hd:S->aY}{s0:S}{w:W PV}{wt:PV->W T2}{is:O Nat}{fs2:S->T2->aY}{k:S->W T}{out:T->End}{x:Bool}
def SF.Wm{f:PV->S->W S}(hp:Ch (lf X.prog X.w) X.A X.env X.xe)(hc:X.calm=true)(hi:oJ X K fs tg iter wl f1)(hl:dC f1 (hd s0))(hg:PG X tg (ig i))(hb:∀s p,SF X K false ((hd s).set i (al (.val p))) body (f p s) λs'=>.nc (hd s'))(hr:∀s,SF X K x (hd s) rest (k s) out)(hs:rB X iter:=by intro _;rfl):SF X K x fs (.For tg iter body [] pos::rest) (.bind wl λl=>.bind (jO l s0 f) k) out:=SF.for hp hc hi hl (λs=>ZW hg) (λ_ _=>rfl) hb hr hs
def SF.Ov{inj:R->T}{f:PV->S->W (Lp S R)}(hp:Ch (lf X.prog X.w) X.A X.env X.xe)(hc:X.calm=true)(hi:oJ X K fs tg iter wl f1)(hl:dC f1 (hd s0))(hg:PG X tg (ig i))(ho:∀t,(out (inj t)).qE)(hb:∀s p,SF X K false ((hd s).set i (al (.val p))) body (f p s) (Th hd λr=>out (inj r)))(hr:∀s,SF X K x (hd s) rest (k s) out)(hs:rB X iter:=by intro _;rfl):SF X K x fs (.For tg iter body [] pos::rest) (.bind wl λl=>.bind (FL.ik l s0 f) (sF k inj)) out:=SF.ik hp hc hi hl (λs=>ZW hg) (λ_ _=>rfl) ho hb hr hs
def SF.TZ{inj:R->T}{wb:T2->S->W (Lp S R)}(hp:Ch (lf X.prog X.w) X.A X.env X.xe)(hc:X.calm=true)(hi:oJ X K fs tg iter wl f1)(hl:dC f1 (hd s0))(hg:∀s,GF X K (hd s) tg is wt (fs2 s))(ho:∀t,(out (inj t)).qE)(hb:∀s t,SF X K false (fs2 s t) body (wb t s) (Th hd λr=>out (inj r)))(hr:∀s,SF X K x (hd s) rest (k s) out)(hs:rB X iter:=by intro _;rfl):SF X K x fs (.For tg iter body [] pos::rest) (.bind wl λl=>.bind (FL.ik l s0 λp s=>.bind (wt p) λt=>wb t s) (sF k inj)) out:=SF.ik hp hc hi hl hg (λ_ _=>rfl) ho hb hr hs
def SF.par{k:PV->PV->W T}(hc:X.calm=true)(hN:X.N.Nodup)(hi:X.N[i]?=al y)(hj:X.N[j]?=al z)(PZ:i≠j)(hx:X.env.scope.names.lookup y=al .local)(hy:X.env.scope.names.lookup z=al .local)(ha:EF X K fs a wa f1)(hb:EF X K f1 b wb f2)(hr:∀u v,SF X K x ((f2.set i (al (.val u))).set j (al (.val v))) rest (k u v) out)(hw:‹zn [.Tuple [.Name y px,.Name z py] kt pt] (.Tuple [a,b] k2 xI) X.env=pure (al [y,z])›)(hs:‹xL [.Tuple [.Name y px,.Name z py] kt pt] (.Tuple [a,b] k2 xI) pos.line X.env=pure false›)(he:‹lm [a,b] X.env=(false,o0 a X.env)::lm [b] X.env›)(Oi:‹dY X b []›):SF X K x fs (.Assign [.Tuple [.Name y px,.Name z py] kt pt] (.Tuple [a,b] k2 xI) pos::rest) (.bind wa λu=>.bind wb λv=>k u v) out:=
 SF.step (MW hc hN hi hj PZ hx hy (aj ha.p (aj hb.p aJ Oi) he) hw hs) λD σ H ⟨sr,q⟩=>⟨sr,wa.mono (λu q1 u1 H1 g1 s1 v1=>⟨s1,wb.mono (λv q2 u2 H2 g2 s2 v2=>by
  have s3:=s2.gz (g2.vr s1 v1) i;have s4:=s3.gz v2 j;exact⟨_,_,rfl,_,k u v,hr u v,s4,(k u v).mono (λt q3=>q3.go (((g1.trans g2).f.trans (cJ.gz s2 _ _ i)).trans (cJ.gz s3 _ _ j)) sr s4) q2⟩) q1⟩) q⟩
def L9(l:O PV):W (O PV):=.d8 (sP l=true) (.ret l)
mutual
theorem VR.mK{ι:O db}{H H':Hp}(t:∀p vs,H p=al (.tup vs)->H' p=al (.tup vs)):∀{v:V}{q:PV},VR K ι H v q->q.dat=true->VR K [] H' v q
 |_,_,.bx,_=>.bx
 |_,_,.bl b,_=>.bl b
 |_,_,.int i,_=>.int i
 |_,_,.str x,_=>.str x
 |_,_,.ty n,h=>by rw[PV.dat]at h;cases h
 |_,_,.tup e r,h=>.tup (t _ _ e) (aL.mK t r (by rw[PV.dat]at h;exact h))
 |_,_,.cl e r,h=>by rw[PV.dat]at h;cases h
 |_,_,.dk _ _ _,h=>by rw[PV.dat]at h;cases h
 |_,_,.dt _ _ _,h=>by rw[PV.dat]at h;cases h
 |_,_,.ob _ _ _ _ _,h=>by rw[PV.dat]at h;cases h
 |_,_,.hand _,h=>by rw[PV.dat]at h;cases h
 |_,_,.ref e,h=>by rw[PV.dat]at h;cases h
theorem aL.mK{ι:O db}{H H':Hp}(t:∀p vs,H p=al (.tup vs)->H' p=al (.tup vs)):∀{v:O V}{q:O PV},aL K ι H v q->sP q=true->aL K [] H' v q
 |_,_,.nil,_=>.nil
 |_,_,.cons r s,h=>by
  rw[sP,AB]at h;exact .cons (VR.mK t r h.1) (aL.mK t s h.2)
end
def bor(I:Inv X Z σ H s)(sr:aQ K H σ fs)(hs:fs[i]?=al (al t))(hb:t.bw=true):∃a o ob,Inv X Z σ (upd H a (.cU ob o)) s/\aQ K (upd H a (.cU ob o)) σ (fs.set i (al (.val t.bv)))/\ ∀σ' s' H1 f1,Inv X Z σ' H1 s'->cK σ (fs.set i (al (.val t.bv))) (upd H a (.cU ob o)) H1 f1->aQ K H1 σ f1->Inv X Z σ' (upd H1 a o) s'/\cK σ fs H (upd H1 a o) (f1.set i (al t))/\aQ K (upd H1 a o) σ (f1.set i (al t))/\(∀p vs,H1 p=al (.tup vs)->upd H1 a o p=al (.tup vs))/\∀p vs,p≠a->H1 p=al (.lst vs)->upd H1 a o p=al (.lst vs):=by
 have ho:=SL.Pd hb;obtain⟨u,e1,⟨v,e,_⟩|⟨a,e,oa⟩⟩:=sr.at' i _ hs
 .subst e;cases hb
 subst e;obtain⟨ob,o,h1,n1,n2,I2,vr⟩:=Z0 I oa hb;have h0:∀o u,X.H₀ a≠al (.cU o u):=λo u z=>by
  have:=I.base.mC a o u z;rw[h1]at this;exact n2 _ _ (Option.some.inj this)
 refine⟨a,o,ob,I2,sr.ZZ hs ho e1 h1 n1 n2 vr,λσ' s' H1 f1 J g s1=>?_⟩;have pf:∀ψ m b,gq σ (fs.set i (al (.val t.bv))) ψ m b->gq σ fs ψ m b:=λψ m b ⟨j,k,z1,z3⟩=>by
  rcases cM z1 with⟨_,z⟩|⟨n,z1⟩
  .cases z
  .exact⟨j,k,z1,z3⟩
 have npa:∀ψ m,¬gq σ fs ψ m a:=λψ m ⟨j,k,z1,z3⟩=>by
  have:=sr.nd j i _ _ a a a z1 hs rfl ho z3 e1 (.inl rfl) (.inl rfl);subst this;rw[hs]at z1;cases z1;cases hb
 have e2:=g.keep a _ aw λψ m p=>npa ψ m (pf ψ m a p);have hk:=Ob J.aX e2;have ow:o.ow=true:=by
  obtain⟨o',z1,_,_,z2⟩:=oa.ex ho (.inl rfl);rw[h1]at z1;cases z1;exact z2
 have hi:i<fs.length:=(Al.mp hs).1;have K5:i<f1.length:=by rw[<- g.ev.len,BS];exact hi
 have ev:Ev fs (f1.set i (al t)):=⟨by rw[BS,<- g.ev.len,BS],λj=>by
  by_cases c:j=i
  .subst c;exact .inl (by rw[hs,bq K5])
  .have:=g.ev.at' j;rw[aK c]at this;rw[aK c];exact this⟩
 have xx:∀b,gs H1 b->gs (upd H1 a o) b:=λb z=>by
  have z':H1 b=_:=z;show upd H1 a o b=_;rw[ah (λy=>by subst y;rw[e2]at z';cases z')];exact z'
 have ge:cK σ fs H (upd H1 a o) (f1.set i (al t)):=by
  refine⟨λb o z n nt=>?_,λb z=>?_,ev,λb z=>xx b (g.x b ?_)⟩
  .by_cases c:b=a
   .subst c;rw[h1]at z;cases z;exact aw
   .rw[ah c];exact g.keep b o (by rw[ah c];exact z) (λψ m p=>n ψ m (pf ψ m b p)) nt
  .by_cases c:b=a
   .subst c;rw[aw]at z;cases z
   .rw[ah c]at z;have:=g.there b z;rw[ah c]at this;exact this
  .have z':H b=_:=z;show upd H a _ b=_;rw[ah (λy=>by subst y;rw[h1]at z';cases z';cases ow)];exact z'
 refine⟨J.Uy e2 h0 (hk a _ aw) hk,ge,⟨sr.len.trans ev.len,λj t' z=>?_,ev.nd sr,s1.tb.Uy J.aX e2 ow⟩,λp vs z=>?_,λp vs n z=>by rw[ah n];exact z⟩
 .by_cases c:∃ψ k m,t'=.dE ψ k m
  .obtain⟨ψ,k,m,rfl⟩:=c;have ji:j≠i:=λy=>by subst y;rw[bq K5]at z;cases z;cases hb
   rw[aK ji]at z;obtain⟨u,k1,⟨v,y,_⟩|⟨b,y,⟨j',vs,y1,y2,y3,y4⟩,y5⟩⟩:=s1.at' j _ z
   .cases y
   .exact⟨u,k1,.inr ⟨b,y,⟨j',vs,y1,by rw[ah (λw=>by subst w;rw[e2]at y2;cases y2)];exact y2,y3,λb hb=>xx b (y4 b hb)⟩,y5⟩⟩
  .have z0:=ev.symm.same z λψ k m y=>c ⟨ψ,k,m,y⟩;obtain⟨u,k1,k2⟩:=sr.at' j t' z0;refine⟨u,k1,k2.mono (ge.cC sr) (λx b o eb ow hb zz nt=>ge.keep b o zz (λψ m ⟨j',k,p1,p3⟩=>?_) nt)⟩;subst eb;have:=sr.nd j j' t' _ x b b z0 p1 ow rfl k1 p3 hb (.inl rfl);subst this;rw[z0]at p1;cases p1;exact c ⟨ψ,k,m,rfl⟩
 .rw[ah (λy=>by subst y;rw[e2]at z;cases z)];exact z
end
end
end FL
variable{G:Nat->O Int->Prop}
namespace FL
section
variable[bD]
variable{K:Aa}
def Yo(K:Aa)(m:O PV->O PV->W (PV×O PV)):Sp:=λvs H Q _=>TB H/\∃a J8 ws lo l,vs=.ref a::J8/\H a=al (.lst ws)/\aL K [] H ws lo/\aL K [] H J8 l/\(m lo l).run λt=>∀u sZ H',(∀c o,c≠a->H c=al o->o.nt=true->H' c=al o)->TB H'->(∀b,H' b=bn->H b=bn)->H' a=al (.lst sZ)->aL K [] H' sZ t.2->VR K [] H' u t.1->Q u H'
section
variable{x:Str}{st:ut}{N:O Str}
def Pj(a:db)(lo l:O PV)(n:Nat):aY:=al (.ol (al a) lo)::(l.map λv=>al (SL.val v))++Ar (n-1-l.length) bn
def aL.slot(r:aL K [] H vs l){s:SL}(h:(l.map λv=>al (SL.val v))[i]?=al (al s)):∃u v,vs[i]?=al u/\s=.val v/\VR K [] H u v:=by
 rw[An]at h;cases e:l[i]? with
 |none=>rw[e]at h;cases h
 |some v=>
  rw[e]at h;obtain⟨u,h1,h2⟩:=r.get e;cases h;exact⟨u,v,h1,rfl,h2⟩
theorem fnO{m:O PV->uB (PV×O PV) n}(Fn:lz K x qual st f fd)(S:bW N ps (ak st))(hn:n+1=ps.length)(Æ:∀(a:db) (lo l:O PV),l.length=n->∀(bX:ce) (A:BT) (outer:O Env) (s:gt) (H:Hp) (E:XK),bI k (A.deeper (Db qual (ak st) s.heap.objs.size f bX))->SF (ku jo P w K mg base N qual (ak st) f bX A outer s H E).Ky K false (Pj a lo l N.length) (a9 st) (iB n (m lo) l) λt=>.ro t.1 a t.2):bz P w K mg base jo (k+1) f fd ps (Yo K λlo l=>iB n (m lo) l):=by
 refine Fn.ok S (λvs H Q E h=>?_) (λbX A outer s H vs Q E hr h=>?_)
 .obtain⟨_,a,J8,ws,lo,l,rfl,_,_,r,q⟩:=h;rw[Ap,r.length,gC q];exact hn
 obtain⟨tb,a,J8,ws,lo,l,rfl,ha,Kn,r,q⟩:=h;have TL:=r.length;have RQ:∀{i:Nat}{s:SL},(Pj a lo l N.length)[i]?=al (al s)->(i=0/\s=.ol (al a) lo)\/∃j u v,i=j+1/\J8[j]?=al u/\s=.val v/\VR K [] H u v:=λ{i s} e=>by
  unfold Pj at e;cases i with
  |zero=>simp at e;exact .inl ⟨rfl,e.symm⟩
  |succ j=>
   by_cases c:j<l.length
   .rw[A1 (by simpa using c)]at e;obtain⟨u,v,h1,h2,h3⟩:=aL.slot r e;exact .inr ⟨j,u,v,rfl,h1,h2,h3⟩
   .rw[A5 (by simpa using c),BC]at e
    split at e<;>cases e
 have sr:aQ K H (L2.start N (.ref a::J8)) (Pj a lo l N.length):=by
  refine⟨?_,λi s e=>?_,λi j s t x y b e1 e2 o1 o2 q1 q2 _ _=>?_,tb⟩
  .unfold L2.start Pj;rw[Ag,Am,B4,Ag,Ap,Ap,Am,B4];lia
  .rcases RQ e with⟨rfl,rfl⟩|⟨j,u,v,rfl,h1,rfl,h3⟩
   .exact⟨.ref a,jZ rfl,.inr ⟨a,rfl,λb z=>Option.some.inj z,ws,ha,Kn⟩⟩
   .exact⟨u,jZ (by simpa using h1),.inl ⟨v,rfl,h3⟩⟩
  .rcases RQ e1 with⟨rfl,rfl⟩|⟨j1,u,v,rfl,h1,rfl,h3⟩
   .rcases RQ e2 with⟨rfl,rfl⟩|⟨j1,u,v,rfl,h1,rfl,h3⟩
    .rfl
    .cases o2
   .cases o1
 refine⟨_,(Æ a lo l (gC q) bX A outer s H E hr).p,sr,(iB n (m lo) l).mono (λt q1 u σ' aM H' g s' ho rv=>?_) q⟩;obtain⟨i,e⟩:=ho;obtain⟨u',e',r'⟩:=s'.at' i _ e;rcases r' with⟨v,z,_⟩|⟨b,rfl,hb,sZ,h1,h2⟩
 .cases z
 have hba:=hb a rfl;subst hba;refine q1 u sZ H' (λc o nc e=>(g.keep c o e λz=>?_).1) s'.tb g.there h1 h2 rv;obtain⟨j,t',x,z1,z2,z3,z4⟩:=z;rcases RQ z1 with⟨rfl,rfl⟩|⟨j1,u,v,rfl,_,rfl,_⟩
 .have:=tE z3;simp at this;rcases z4 with rfl|z4
  .exact nc this.symm
  .cases z4
 .cases z2
def ly(G:Nat->O Int->Prop):Nat->O V->Prop:=λn ws=>∃ns:O Int,ws=ns.map V.int/\G n ns
def tK{b:db}:V.ref b∉ns.map V.int:=λh=>by obtain⟨_,_,e⟩:=AR.mp h;cases e
theorem Vd{m:O PV->O PV->W (PV×O PV)}{mp:O PV->W PV}(F:bz P w K mg base jo k f fd ps (Yo K m))(hm:∀j ns l Q,G j ns->j+d<=uX->(mp l).run Q->(m (ns.map PV.int) l).run λt=>Q t.1/\∃Vu:O Int,t.2=Vu.map PV.int/\G (j+d) Vu):bz P w K mg base jo k f fd ps (n9 K (.p (ly G) d::Ar n .v) mp):=F.imp λvs H Q E h=>by
 obtain⟨tb,jj,l,ha,q⟩:=h;cases ha with
 | @p a _ _ vs ks l e r t=>
  obtain⟨j,_,hj,e,⟨ns,rfl,hG⟩,_⟩:=e;have tv:∀{n:Nat}{vs:O V}{l:O PV},gW K H jj vs (Ar n .v) l->aL K [] H vs l:=by
   intro n
   induction n with
   |zero=>intro vs l h;cases h;exact .nil
   |succ n ih=>intro vs l h;cases h with|v r t=>exact .cons r (ih t)
  refine⟨tb,a,vs,ns.map V.int,ns.map PV.int,l,rfl,e,pH _ _ ns,tv t,(m _ _).mono (λt q1 u sZ H' sx tb' hth e' r' rv=>?_) (hm j ns l _ hG ∅ q)⟩;obtain⟨q1,Vu,et,hG'⟩:=q1;rw[et]at r';have:=j9 r';subst this;refine q1 u H' ⟨λb o eb nb nt=>sx b o (λz=>?_) eb nt,tb',hth,λb ψ d' p=>?_,λb z=>sx b _ (λy=>by subst y;rw[show H b=_ from z]at e;cases e) z rfl⟩ rv
  .subst z;exact nb _ _ ⟨0,rfl,rfl⟩
  .obtain⟨i,e1,e2⟩:=p;cases i with
   |zero=>simp at e1 e2;obtain⟨rfl,rfl⟩:=e1;subst e2;exact⟨j+d,_,by lia,e',⟨Vu,rfl,hG'⟩,λb hb=>(tK hb).elim⟩
   |succ i=>
    simp at e1;rw[BC]at e1
    split at e1<;>simp at e1
end
section
variable{UK:O ut}{T:Type}{w:W T}{out:T->End}{x:Bool}
def YL(G:O Int->Prop)(l:O PV)(w:W T):W T:=.d8 (∃ns:O Int,l=ns.map PV.int/\G ns) w
def SF.dE(i m:Nat)(hs:fs[i]?=al (al (.ol bn l)))(hr:SF X K x (fs.set i (al (.dE (ly G) 0 m))) UK w out)(hm: ~~~(m<=uX)):SF X K x fs UK (YL (G 0) l w) out:=⟨λZ s σ H D I ⟨sr,q⟩=>by
 obtain⟨⟨ns,el,hG⟩,q⟩:=q;obtain⟨a,ws,e1,h1,r1⟩:=c8 sr hs;subst el;have:=j9 r1;subst this;obtain⟨s2,g2⟩:=kX (t':=.dE (ly G) 0 m) sr hs rfl (by simp) e1 (λ_ _ _ z=>z:kO a H H) λtk=>⟨⟨0,_,Ah 0,h1,⟨ns,rfl,hG⟩,λb hb=>(tK hb).elim⟩,Bs m,hm⟩;exact hr.p Z s σ H D I ⟨s2,w.mono (λt q2=>q2.go g2 sr s2) q⟩⟩
end
end
end FL
variable{W':FL.W PL.PV}
namespace FL
section
variable[bD]
variable{K:Aa}
abbrev chB(m m':M2)(wa wb wc:W PV):W PV:=.bind wa λx=>.bind wb λy=>.bind (of2 m x y) λz=>jV z (.bind wc λw=>of2 m' y w)
abbrev chT(m m':M2)(wa wb wc:W PV):W Bool:=.bind wa λx=>.bind wb λy=>.bind (of2 m x y) λz=>.bind (jV z (.bind wc λw=>of2 m' y w)) XB
abbrev Sn(wa wb:W PV):W PV:=.bind wa λx=>Pp x wb
abbrev orB(wa wb:W PV):W PV:=.bind wa λx=>orW x wb
abbrev yz(wl:W (O PV)):W PV:=.bind wl λl=>.ret (.cl l)
abbrev VL(t:W Bool)(w:W PV):W (Option PV):=.bind t λk=>if k=true then .bind w λv=>.ret (al v) else .ret bn
section
variable{c:pc}{x:Str}{WL:W (O PV)}
def R7{m:O PV->W PV}(G:LJ X.prog X.w X.K X.mg X.base x k ps (n9 K ks m))(hr:bI k' X.A)(hk:k<=k')(hg:Gl X x)(ha:AF X K fs (e::es) ks B f1)(hW:W'=B m)(eY: ~~~(d6 x))(he:‹dY X e es›)(bZ:‹gw X pos es›):EF X K fs (.Call (.Name x p) (e::es) [] pos) W' f1:=hW▸WH G hr hk hg ha eY he bZ
def Rt{m:O PV->W (O PV)}{B:(O PV->W (O PV))->W (O PV)}(G:LJ X.prog X.w X.K X.mg X.base x k ps (qa K ks m))(hr:bI k' X.A)(hk:k<=k')(hg:Gl X x)(ha:AF X K fs (e::es) ks B f1)(hW:WL=B m)(eY: ~~~(d6 x))(he:‹dY X e es›)(bZ:‹gw X pos es›):LF X K fs (.Call (.Name x p) (e::es) [] pos) WL f1:=hW▸VO G hr hk hg ha eY he bZ
def gS{x1}(h:AF X K fs es (Ar n .v) B f1)(hW:W'=B λl=>.ret (.tup l))(hn: ~~~(n<=1000)):EF X K fs (.Tuple es x1 pos) W' f1:=hW▸aad h hn
def bj{B:(O PV->W (O PV))->W (O PV)}(h:AF X K fs es (Ar n .v) B f1)(hW:WL=B λl=>.ret l)(hn: ~~~(n<=1000)):LF X K fs (.List es pos) WL f1:=hW▸Tq h hn
variable{T2:Type}{wt:PV->W T2}{is:O Nat}{fs2:T2->aY}{tf:T2->W Bool}{te:T2->W PV}
def jG{f:PV->W PV}(hc:X.calm=true)(S:bE X.env.scope X.N sc N' ix)(hi:oJ X K fs tg iter wl f1)(hg:∀cl C s2 H2 fp,PG (d9 X sc N' cl C s2 H2 fp) tg (ig i))(he:∀cl C s2 H2 fp t,EF (d9 X sc N' cl C s2 H2 fp) K ((bC ix f1).set i (al (.val t))) Å (f t))(h0:ix[i]?=al bn)(hs:rB X iter:=by intro _;rfl):LF X K fs (.ListComp Å [⟨tg,iter,[],0⟩] sc pos) (.bind wl λl=>c9 l f) f1:=
 have h1:(bC ix f1)[i]?=al bn:=by unfold bC;rw[An,h0];rfl
 Tp hc S hi (λcl C s2 H2 fp=>ZW (hg cl C s2 H2 fp)) he (λ_=>rfl) (VM h1) (λj hj=>by rw[Cz]at hj;subst hj;exact h0) hs
def VN(hc:X.calm=true)(S:bE X.env.scope X.N sc N' ix)(hi:oJ X K fs tg iter wl f1)(hg:∀cl C s2 H2 fp,GF (d9 X sc N' cl C s2 H2 fp) K (bC ix f1) tg is wt fs2)(he:∀cl C s2 H2 fp t,EF (d9 X sc N' cl C s2 H2 fp) K (fs2 t) Å (te t))(hl:n5 is (bC ix f1) fs2/\∀t,dC (fs2 t) (bC ix f1))(pJ:∀j∈is,ix[j]?=al bn)(hs:rB X iter:=by intro _;rfl):LF X K fs (.ListComp Å [⟨tg,iter,[],0⟩] sc pos) (.bind wl λl=>c9 l λp=>.bind (wt p) te) f1:=Tp hc S hi hg he (λ_=>rfl) hl pJ hs
def Ts(hc:X.calm=true)(S:bE X.env.scope X.N sc N' ix)(hi:oJ X K fs tg iter wl f1)(hg:∀cl C s2 H2 fp,GF (d9 X sc N' cl C s2 H2 fp) K (bC ix f1) tg is wt fs2)(hf:∀cl C s2 H2 fp t,TF (d9 X sc N' cl C s2 H2 fp) K (fs2 t) c (tf t))(he:∀cl C s2 H2 fp t,EF (d9 X sc N' cl C s2 H2 fp) K (fs2 t) Å (te t))(hl:n5 is (bC ix f1) fs2/\∀t,dC (fs2 t) (bC ix f1))(pJ:∀j∈is,ix[j]?=al bn)(hs:rB X iter:=by intro _;rfl):LF X K fs (.ListComp Å [⟨tg,iter,[c],0⟩] sc pos) (.bind wl λl=>nA l λp=>.bind (wt p) λt=>VL (tf t) (te t)) f1:=Zk hc S hi hg (λcl C s2 H2 fp t=>HF (hf cl C s2 H2 fp t)) he (λ_=>rfl) hl pJ hs
variable{rest:O ut}{T:Type}{out:T->End}{x0:Bool}{kk:O PV->W T}
def Rk{wt:PV->W T2}{te:T2->W PV}:(λl=>c9 l λp=>.bind (wt p) te)=λl=>nA l λp=>.bind (wt p) λt=>.bind (.ret true) λk=>if k=true then .bind (te t) λv=>.ret (al v) else .ret bn:=funext λl=>by
 rw[vo];rfl
def SF.Qw(hc:X.calm=true)(hN:X.N.Nodup)(vL:X.N[i]?=al y)(hx:X.env.scope.names.lookup y=al .local)(S:bE X.env.scope X.N sc N' ix)(hi:oJ X K fs tg iter wl f1)(hg:∀cl C s2 H2 fp,GF (d9 X sc N' cl C s2 H2 fp) K (bC ix f1) tg is wt fs2)(he:∀cl C s2 H2 fp t,EF (d9 X sc N' cl C s2 H2 fp) K (fs2 t) Å (te t))(hl:n5 is (bC ix f1) fs2/\∀t,dC (fs2 t) (bC ix f1))(pJ:∀j∈is,ix[j]?=al bn)(hr:∀l,SF X K x0 (f1.set i (al (.ol bn l))) rest (kk l) out)(o5:‹r6 (.ListComp Å [⟨tg,iter,[],0⟩] sc pos) (al (.Name y px)) ko.line X.env=pure true›)(hs:rB X iter:=by intro _;rfl):SF X K x0 fs (.Assign [.Name y px] (.ListComp Å [⟨tg,iter,[],0⟩] sc pos) ko::rest) (.bind (.bind wl λl=>c9 l λp=>.bind (wt p) te) kk) out:=by
 rw[Rk];exact SF.SX hc hN vL hx S hi hg (λ_ _ _ _ _ _=>Ow) he (λp=>rfl) hl pJ hr o5 hs
def SF.IT{f:PV->W PV}(hc:X.calm=true)(hN:X.N.Nodup)(vL:X.N[i]?=al y)(hx:X.env.scope.names.lookup y=al .local)(S:bE X.env.scope X.N sc N' ix)(hi:oJ X K fs tg iter wl f1)(hg:∀cl C s2 H2 fp,PG (d9 X sc N' cl C s2 H2 fp) tg (ig j))(he:∀cl C s2 H2 fp t,EF (d9 X sc N' cl C s2 H2 fp) K ((bC ix f1).set j (al (.val t))) Å (f t))(h0:ix[j]?=al bn)(hr:∀l,SF X K x0 (f1.set i (al (.ol bn l))) rest (kk l) out)(o5:‹r6 (.ListComp Å [⟨tg,iter,[],0⟩] sc pos) (al (.Name y px)) ko.line X.env=pure true›)(hs:rB X iter:=by intro _;rfl):SF X K x0 fs (.Assign [.Name y px] (.ListComp Å [⟨tg,iter,[],0⟩] sc pos) ko::rest) (.bind (.bind wl λl=>c9 l f) kk) out:=
 have h1:(bC ix f1)[j]?=al bn:=by unfold bC;rw[An,h0];rfl
 SF.Qw hc hN vL hx S hi (λcl C s2 H2 fp=>ZW (hg cl C s2 H2 fp)) he (VM h1) (λm hj=>by rw[Cz]at hj;subst hj;exact h0) hr o5 hs
def SF.UR(hc:X.calm=true)(hN:X.N.Nodup)(vL:X.N[i]?=al y)(hx:X.env.scope.names.lookup y=al .local)(S:bE X.env.scope X.N sc N' ix)(hi:oJ X K fs tg iter wl f1)(hg:∀cl C s2 H2 fp,GF (d9 X sc N' cl C s2 H2 fp) K (bC ix f1) tg is wt fs2)(hf:∀cl C s2 H2 fp t,TF (d9 X sc N' cl C s2 H2 fp) K (fs2 t) c (tf t))(he:∀cl C s2 H2 fp t,EF (d9 X sc N' cl C s2 H2 fp) K (fs2 t) Å (te t))(hl:n5 is (bC ix f1) fs2/\∀t,dC (fs2 t) (bC ix f1))(pJ:∀j∈is,ix[j]?=al bn)(hr:∀l,SF X K x0 (f1.set i (al (.ol bn l))) rest (kk l) out)(o5:‹r6 (.ListComp Å [⟨tg,iter,[c],0⟩] sc pos) (al (.Name y px)) ko.line X.env=pure true›)(hs:rB X iter:=by intro _;rfl):SF X K x0 fs (.Assign [.Name y px] (.ListComp Å [⟨tg,iter,[c],0⟩] sc pos) ko::rest) (.bind (.bind wl λl=>nA l λp=>.bind (wt p) λt=>VL (tf t) (te t)) kk) out:=SF.SX hc hN vL hx S hi hg (λcl C s2 H2 fp t=>HF (hf cl C s2 H2 fp t)) he (λ_=>rfl) hl pJ hr o5 hs
end
def T4(h:∀vs H Q E,¬sp vs H Q E):bz P w K mg base jo k f fd ps sp:=⟨λvs H Q E q=>(h _ _ _ _ q).elim,λA outer s H args us vs Q E _ _ _ _ q=>(h _ _ _ _ q).elim⟩
def UP{m:uB PV n}(h:∀l Q,l.length=n->¬(iB n m l).run Q):∀vs H Q E,¬n9 K ks (iB n m) vs H Q E:=λvs H Q E ⟨_,_,l,_,q⟩=>h l _ (gC q) q
def Qs{m:uB (O PV) n}(h:∀l Q,l.length=n->¬(iB n m l).run Q):∀vs H Q E,¬qa K ks (iB n m) vs H Q E:=λvs H Q E ⟨_,_,l,_,q⟩=>h l _ (gC q) q
theorem bA(hr:bI k A):A.units+200<GE:=by have:=hr.un;lia
end
section
variable[bD]
variable{K:Aa}
mutual
def PV.fv:PV->Bool
 |.tup l=>eJ l
 |.cl l=>eJ l
 |.ref _=>false
 |.ty _=>false
 |.dv _ _=>false
 |.ob _ _=>false
 |.hand=>false
 |_=>true
def eJ:O PV->Bool
 |[]=>true
 |x::l=>PV.fv x&&eJ l
end
mutual
def PV.il:PV->Nat
 |.tup l=>dS l+1
 |.cl l=>dS l+1
 |_=>0
def dS:O PV->Nat
 |[]=>0
 |x::l=>max (PV.il x) (dS l)
end
mutual
def kf:PV->PV->Bool
 |.bx,.bx=>true
 |.bl a,.bl b=>a==b
 |.bl a,.int b=>(if a then 1 else 0)==b
 |.int a,.bl b=>a==(if b then 1 else 0)
 |.int a,.int b=>a==b
 |.str a,.str b=>a==b
 |.tup l,.tup m=>gm l m
 |.cl l,.cl m=>gm l m
 |_,_=>false
def gm:O PV->O PV->Bool
 |[],[]=>true
 |x::l,y::m=>kf x y&&gm l m
 |_,_=>false
end
theorem qP:∀{l:O PV}{j:Nat}{x:PV},eJ l=true->l[j]?=al x->PV.fv x=true
 |[],_,_,_,e=>by simp at e
 |y::l,0,x,h,e=>by
  simp at e;subst e;rw[eJ,AB]at h;exact h.1
 |y::l,j+1,x,h,e=>by
  rw[eJ,AB]at h;exact qP h.2 (by simpa using e)
theorem uc:∀{l:O PV}{j:Nat}{x:PV},l[j]?=al x->PV.il x<=dS l
 |[],_,_,e=>by simp at e
 |y::l,0,x,e=>by
  simp at e;subst e;rw[dS];lia
 |y::l,j+1,x,e=>by
  have:=uc (by simpa using e);rw[dS];lia
mutual
theorem yE:∀(x:PV),PV.fv x=true->kf x x=true
 |.bx,_=>by rw[kf]
 |.bl b,_=>by rw[kf];simp
 |.int i,_=>by rw[kf];simp
 |.str i,_=>by rw[kf];simp
 |.tup l,h=>by rw[kf];exact ke l (by rw[PV.fv]at h;exact h)
 |.cl l,h=>by rw[kf];exact ke l (by rw[PV.fv]at h;exact h)
 |.ref _,h=>by rw[PV.fv]at h;cases h
 |.ty _,h=>by rw[PV.fv]at h;cases h
 |.dv _ _,h=>by rw[PV.fv]at h;cases h
 |.ob _ _,h=>by rw[PV.fv]at h;cases h
 |.hand,h=>by rw[PV.fv]at h;cases h
theorem ke:∀(l:O PV),eJ l=true->gm l l=true
 |[],_=>by rw[gm]
 |x::l,h=>by
  rw[eJ,AB]at h;rw[gm,yE x h.1,ke l h.2];rfl
end
def OQ(l m:O PV)(j:Nat):Bool:=match l[j]?,m[j]? with|some x,al y=>kf x y|_,_=>true
theorem mF:∀(l m:O PV),((AW (min l.length m.length)).all (OQ l m)&&l.length==m.length)=gm l m
 |[],[]=>by rw[gm];rfl
 |[],_::_=>by
  rw[gm]
  .simp
  .intros;simp_all
  .intros;simp_all
 |_::_,[]=>by
  rw[gm]
  .simp
  .intros;simp_all
  .intros;simp_all
 |x::l,y::m=>by
  rw[gm,<- mF l m];have e:min (x::l).length (y::m).length=min l.length m.length+1:=by simp only[Ap];lia
  rw[e,List.range_succ_eq_map,List.all_cons,FC];have e2:((x::l).length==(y::m).length)=(l.length==m.length):=by simp
  rw[e2,Bool.and_assoc];rfl
def Ox{m:O PV}(h:l.length≠m.length):gm l m=false:=by
 rw[<- mF];have:(l.length==m.length)=false:=by simpa using h
 rw[this,EK]
section
def yx(I:Inv X Z σ H s)(h:Pz X.K H a xs):H a≠al (.ext φ):=λe=>by
 rcases h with⟨o,h⟩|⟨o,_,_,h,_⟩
 .rw[e]at h;cases h
 .have:=(I.bs a o (I.mod.NV a o h)).2;rw[e]at this;cases this
mutual
theorem VR.LQ(I:Inv X Z σ H s):∀{v:V}{x y:PV},VR X.K [] H v x->VR X.K [] H v y->x=y
 |_,_,_,.bx,h=>by cases h;rfl
 |_,_,_,.bl b,h=>by cases h;rfl
 |_,_,_,.int b,h=>by cases h;rfl
 |_,_,_,.str b,h=>by cases h;rfl
 |_,_,_,.ty b,h=>by cases h;rfl
 |_,_,_,.ref e,h=>by simp at e
 |_,_,_,.tup e r,h=>by
  cases h with
  |tup e' r'=>
   have ee:=I.jX (dX.of e) (dX.of e');subst ee;rw[aL.LQ I r r']
  |ref e=>simp at e
  |cl e' r'=>
   obtain⟨ax,_,⟨o,n,h1,h2,_⟩,_⟩:=I.list e'.sq;obtain⟨its',_,⟨o',gH,xo,_⟩,_⟩:=I.tuple (dX.of e);rw[h1]at gH;cases gH;rw[h2]at xo;simp at xo
  |dk e' _ _=>rw[e]at e';cases e'
  |dt e' _ _=>rw[e]at e';cases e'
  |ob e' _ _ _ _=>rw[e]at e';cases e'
  |hand e'=>have e':_=_:=e';rw[e]at e';cases e'
 |_,_,_,.ob e c na k r,h=>by
  cases h with
  |ob e' _ _ k' r'=>rw[e]at e';cases e';rw[k,k',aL.LQ I r r']
  |hand e'=>have e':_=_:=e';rw[e]at e';cases e'
  |dk e' _ _=>rw[e]at e';cases e'
  |dt e' _ _=>rw[e]at e';cases e'
  |ref e=>simp at e
  |tup e' _=>rw[e]at e';cases e'
  |cl e' r'=>
   obtain⟨ax,_,⟨o,n,h1,h2,_⟩,_⟩:=I.list e'.sq;obtain⟨_,_,_,_,gH,_⟩:=I.aX _ _ e;rw[h1]at gH;cases gH;simp at h2
 |_,_,_,.dk e k r,h=>by
  cases h with
  |dk e' k' r'=>rw[e]at e';cases e';rw[k,k',aL.LQ I r r']
  |dt e' _ _=>rw[e]at e';cases e'
  |ob e' _ _ _ _=>rw[e]at e';cases e'
  |hand e'=>have e':_=_:=e';rw[e]at e';cases e'
  |ref e=>simp at e
  |tup e' _=>rw[e]at e';cases e'
  |cl e' r'=>
   obtain⟨ax,_,⟨o,n,h1,h2,_⟩,_⟩:=I.list e'.sq;obtain⟨_,_,vs,_,o',_,_,gH,xo,_⟩:=yT I.aX (.inr ⟨_,e⟩);rw[h1]at gH;cases gH;have h3:=xo.1;rw[h2]at h3;simp at h3
 |_,_,_,.dt e k r,h=>by
  cases h with
  |dt e' k' r'=>rw[e]at e';cases e';rw[k,k',aL.LQ I r r']
  |ob e' _ _ _ _=>rw[e]at e';cases e'
  |hand e'=>have e':_=_:=e';rw[e]at e';cases e'
  |dk e' _ _=>rw[e]at e';cases e'
  |ref e=>simp at e
  |tup e' _=>rw[e]at e';cases e'
  |cl e' r'=>
   obtain⟨ax,_,⟨o,n,h1,h2,_⟩,_⟩:=I.list e'.sq;obtain⟨_,_,vs,_,o',_,_,gH,xo,_⟩:=yS I.aX (.inr ⟨_,e⟩);rw[h1]at gH;cases gH;have h3:=xo.1;rw[h2]at h3;simp at h3
 |_,_,_,.hand e,h=>by
  have e:_=al _:=e;cases h with
  |hand _=>rfl
  |ob e' _ _ _ _=>rw[e]at e';cases e'
  |dk e' _ _=>rw[e]at e';cases e'
  |dt e' _ _=>rw[e]at e';cases e'
  |ref e=>simp at e
  |tup e' _=>rw[e]at e';cases e'
  |cl e' r'=>exact absurd e (yx I e')
 |_,_,_,.cl e r,h=>by
  cases h with
  |hand e'=>exact absurd (show _=al _ from e') (yx I e)
  |ob e' _ _ _ _=>
   obtain⟨ax,_,⟨o,n,h1,h2,_⟩,_⟩:=I.list e.sq;obtain⟨_,_,_,_,gH,_⟩:=I.aX _ _ e';rw[h1]at gH;cases gH;simp at h2
  |dk e' _ _=>
   obtain⟨ax,_,⟨o,n,h1,h2,_⟩,_⟩:=I.list e.sq;obtain⟨_,_,vs,_,o',_,_,gH,xo,_⟩:=yT I.aX (.inr ⟨_,e'⟩);rw[h1]at gH;cases gH;have h3:=xo.1;rw[h2]at h3;simp at h3
  |dt e' _ _=>
   obtain⟨ax,_,⟨o,n,h1,h2,_⟩,_⟩:=I.list e.sq;obtain⟨_,_,vs,_,o',_,_,gH,xo,_⟩:=yS I.aX (.inr ⟨_,e'⟩);rw[h1]at gH;cases gH;have h3:=xo.1;rw[h2]at h3;simp at h3
  |cl e' r'=>
   obtain⟨ax,k,⟨o,n,h1,h2,h3,h4⟩,_⟩:=I.list e.sq;obtain⟨its',k',⟨o',n',gH,xo,RO,Wk⟩,_⟩:=I.list e'.sq;rw[h1]at gH;cases gH;rw[h4]at Wk;have:ax=its':=by injection Wk with a b;simpa using a
   subst this;have ee:=Vals.inj k k';subst ee;rw[aL.LQ I r r']
  |ref e=>simp at e
  |tup e' r'=>
   obtain⟨ax,_,⟨o,n,h1,h2,_⟩,_⟩:=I.list e.sq;obtain⟨its',_,⟨o',gH,xo,_⟩,_⟩:=I.tuple (dX.of e');rw[h1]at gH;cases gH;rw[h2]at xo;simp at xo
theorem aL.LQ(I:Inv X Z σ H s):∀{v:O V}{x y:O PV},aL X.K [] H v x->aL X.K [] H v y->x=y
 |_,_,_,.nil,h=>by cases h;rfl
 |_,_,_,.cons r t,h=>by
  cases h with
  |cons r' t'=>rw[VR.LQ I r r',aL.LQ I t t']
end
structure Cmp(A:BT)(s:gt)(w w':ce)(b:Bool):Prop where
 rc:SeqAt.RcAt A s w w' b
 ne:SeqAt.RcNeAt A s w w' (!b)
 eq:Ey A s w w' b
def aac(I:Inv X Z σ H s){ws:O V}{m:O PV}(r:Vals vs ax)(r':Vals ws its')(r1:aL X.K [] H vs l)(r2:aL X.K [] H ws m)(ih:∀(j:Nat) (x y:PV) (v v':V) (w w':ce),l[j]?=al x->m[j]?=al y->VR X.K [] H v x->VR X.K [] H v' y->RelV v w->RelV v' w'->Ey A s w w' (kf x y)):∀j (g1:j<ax.toArray.size) (g2:j<its'.toArray.size),Ey A s ax.toArray[j] its'.toArray[j] (OQ l m j):=λj g1 g2=>by
 have h1:j<ax.length:=by simpa using g1
 have h2:j<its'.length:=by simpa using g2
 have hl:j<l.length:=by rw[<- r1.length,r.length];exact h1
 have hm:j<m.length:=by rw[<- r2.length,r'.length];exact h2
 obtain⟨v,v1,v2⟩:=r1.get (Af hl);obtain⟨v',Ă,XW⟩:=r2.get (Af hm);obtain⟨u,u1,u2⟩:=r.get v1;obtain⟨u',Xb,u2'⟩:=r'.get Ă;rw[Af h1]at u1;rw[Af h2]at Xb;cases u1;cases Xb;unfold OQ;rw[Af hl,Af hm];have:=ih j _ _ v v' _ _ (Af hl) (Af hm) v2 XW u2 u2';simpa using this
inductive Sh(X:Cx)(H:Hp)(s:gt):PV->ce->Prop
 |bx:Sh X H s .bx .none
 |bl (b:Bool):Sh X H s (.bl b) (.bool b)
 |int (i:Int) (t:Tok):Sh X H s (.int i) (.int i t)
 |str (x:Str) (t:Tok):Sh X H s (.str x) (.str x t)
 |tup {p:db}{vs:List V}{ax:List ce}{l:List PV} (e:VR X.K [] H (.ref p) (.tup l)) (k:Vals vs ax) (r:aL X.K [] H vs l) (h:s.heap.IsTuple p ax.toArray):Sh X H s (.tup l) (.ref p)
 |cl {p:db}{vs:List V}{ax:List ce}{l:List PV} (e:VR X.K [] H (.ref p) (.cl l)) (k:Vals vs ax) (r:aL X.K [] H vs l) (h:s.heap.IsList p ax.toArray):Sh X H s (.cl l) (.ref p)
def Sh.of(I:Inv X Z σ H s){v:V}{x:PV}{w:ce}(h:VR X.K [] H v x)(r:RelV v w)(d:PV.fv x=true):Sh X H s x w:=by
 cases h with
 |ref e=>simp at e
 |bx=>cases r;exact .bx
 |bl a=>cases r;exact .bl a
 |int a=>obtain⟨t,rfl⟩:=r;exact .int a t
 |str a=>obtain⟨t,rfl⟩:=r;exact .str a t
 |tup e q=>
  cases r;obtain⟨ax,k,ht,_⟩:=I.tuple (dX.of e);exact .tup (.tup e q) k q ht
 |cl e q=>
  cases r;obtain⟨ax,k,pl,_⟩:=I.list e.sq;exact .cl (.cl e q) k q pl.isList
 |_=>rw[PV.fv]at d;cases d
set_option maxHeartbeats 8000000 in
theorem WM(hK:X.K=K)(I:Inv X Z σ H s):∀(n:Nat) (x y:PV) (A:BT) (v v':V) (w w':ce),PV.il x<=n->PV.fv x=true->PV.fv y=true->VR K [] H v x->VR K [] H v' y->RelV v w->RelV v' w'->A.units+n+1<GE->Cmp A s w w' (kf x y):=by
 subst hK;intro n
 induction n using Nat.strongRecOn with
 |ind n ih=>
 intro x y A v v' w w' hd dx dy hv ô r1 r2 hu;have a:=Sh.of I hv r1 dx;have b:=Sh.of I ô r2 dy;clear hv ô r1 r2;have el:∀{l m:O PV}{vs ws:O V}{ax cQ:O ce},eJ l=true->eJ m=true->dS l<n->Vals vs ax->Vals ws cQ->aL X.K [] H vs l->aL X.K [] H ws m->ax.toArray.size=l.length/\cQ.toArray.size=m.length/\∀j g1 (g2:j<cQ.toArray.size),Ey A.in1 s ax.toArray[j] cQ.toArray[j] (OQ l m j):=λd1 d2 hd k1 k2 r r'=>⟨by rw[Ai,<- k1.length,r.length],by rw[Ai,<- k2.length,r'.length],aac I k1 k2 r r' λj x y v v' w w' hx hy vx vy rx ry=>(ih _ hd x y A.in1 v v' w w' (uc hx) (qP d1 hx) (qP d2 hy) vx vy rx ry (by show A.units+1+_+1<_;lia)).eq⟩;have fin:∀{pa pb:db}{l m:O PV},(pa=pb->l=m)->eJ l=true->SeqAt.RcAt A s (.ref pa) (.ref pb) (gm l m)->Ey A s (.ref pa) (.ref pb) (gm l m):=λ{pa pb l m} h d q=>by
  by_cases ZS:pa=pb
  .rw[h ZS,ke _ (h ZS▸d),ZS];exact Ey.same _
  .exact Ey.of_refs ZS q
 cases a<;>cases b
 case tup.tup pa vs ax l e k r ht pb ws cQ m e2 k2 r2 Hq=>
  rw[PV.il]at hd;obtain⟨z1,z2,ie⟩:=el dx dy ∅ k k2 r r2;have q1:=SeqAt.RcAt.tuples ht Hq ∅ ie;have q2:=SeqAt.RcNeAt.tuples ht Hq (A:=A) ∅ ie;rw[z1,z2,mF]at q1 q2;exact⟨q1,q2,fin (λz=>by subst z;have:=VR.LQ I e e2;injection this) dx q1⟩
 case cl.cl pa vs ax l e k r ht pb ws cQ m e2 k2 r2 Hq=>
  rw[PV.il]at hd;obtain⟨z1,z2,ie⟩:=el dx dy ∅ k k2 r r2;by_cases hz:l.length=m.length
  .have q1:=GH ht Hq (by rw[z1,z2];exact hz) (A:=A) ∅ ie;have q2:=Gn ht Hq (by rw[z1,z2];exact hz) (A:=A) ∅ ie;have ef:(AW l.length).all (OQ l m)=gm l m:=by rw[<- mF,hz,Nat.min_self,beq_self_eq_true,Bool.and_true]
   rw[z1,ef]at q1 q2;exact⟨q1,q2,fin (λz=>by subst z;have:=VR.LQ I e e2;injection this) dx q1⟩
  .have q1:=E4 (A:=A) ht Hq (by rw[z1,z2];simpa using hz) ∅;have q2:=Ex (A:=A) ht Hq (by rw[z1,z2];simpa using hz) ∅;have ef:=Ox hz;rw[<- ef]at q1;have q2:SeqAt.RcNeAt A s (.ref pa) (.ref pb) (!gm l m):=by rw[ef];exact q2
   exact⟨q1,q2,fin (λz=>by subst z;have:=VR.LQ I e e2;injection this) dx q1⟩
 all_goals
  clear ih el fin;rw[kf]<;>try (intros;simp_all;done)
  refine⟨?_,?_,?_⟩<;>(try simp)<;>first|with_reducible exact .none_none|with_reducible exact .none_bool _|with_reducible exact .none_int _ _|with_reducible exact .none_str _ _|with_reducible exact .none_tuple ‹_› ∅ | with_reducible exact .none_list ‹_› ∅ | with_reducible exact .bool_none _|with_reducible exact .bool_str _ _ _|with_reducible exact .bool_tuple _ ‹_› ∅ | with_reducible exact .bool_list _ ‹_› ∅ | with_reducible exact .int_none _ _|with_reducible exact .int_str _ _ _ _|with_reducible exact .int_tuple _ _ ‹_› ∅ | with_reducible exact .int_list _ _ ‹_› ∅ | with_reducible exact .str_none _ _|with_reducible exact .str_bool _ _ _|with_reducible exact .str_int _ _ _ _|with_reducible exact .str_tuple _ _ ‹_› ∅ | with_reducible exact .str_list _ _ ‹_› ∅ | with_reducible exact .tuple_none ‹_› ∅ | with_reducible exact .tuple_bool _ ‹_› ∅ | with_reducible exact .tuple_int _ _ ‹_› ∅ | with_reducible exact .tuple_str _ _ ‹_› ∅ | with_reducible exact .tuple_list ‹_› ‹_› ∅ | with_reducible exact .list_none ‹_› ∅ | with_reducible exact .list_bool _ ‹_› ∅ | with_reducible exact .list_int _ _ ‹_› ∅ | with_reducible exact .list_str _ _ ‹_› ∅ | with_reducible exact .list_tuple ‹_› ‹_› ∅ | exact .same _|exact .bool_bool _ _|exact .bool_int _ _ _|exact .int_bool _ _ _|exact .int_int _ _ _ _|exact .str_str _ _ _ _
end
end
section
variable[bD]
variable{K:Aa}
mutual
theorem VR.md{ι:O db}{H:Hp}:∀{v:V}{q:PV},VR K ι H v q->PV.fv q=true->VR K [] H v q
 |_,_,.bx,_=>.bx
 |_,_,.bl b,_=>.bl b
 |_,_,.int i,_=>.int i
 |_,_,.str x,_=>.str x
 |_,_,.ty n,h=>by rw[PV.fv]at h;cases h
 |_,_,.dk _ _ _,h=>by rw[PV.fv]at h;cases h
 |_,_,.dt _ _ _,h=>by rw[PV.fv]at h;cases h
 |_,_,.ob _ _ _ _ _,h=>by rw[PV.fv]at h;cases h
 |_,_,.hand _,h=>by rw[PV.fv]at h;cases h
 |_,_,.tup e r,h=>.tup e (aL.md r (by rw[PV.fv]at h;exact h))
 |_,_,.cl e r,h=>.cl e (aL.md r (by rw[PV.fv]at h;exact h))
 |_,_,.ref e,h=>by rw[PV.fv]at h;cases h
theorem aL.md{ι:O db}{H:Hp}:∀{v:O V}{q:O PV},aL K ι H v q->eJ q=true->aL K [] H v q
 |_,_,.nil,_=>.nil
 |_,_,.cons r s,h=>by
  rw[eJ,AB]at h;exact .cons (VR.md r h.1) (aL.md s h.2)
end
def Ld(x y:PV):Prop:=PV.fv x=true/\PV.fv y=true/\PV.il x<=150
def kq:M2:=⟨λx y h Q=>Ld x y/\Q (.bl (kf x y)) h,λf q=>⟨q.1,f _ _ q.2⟩⟩
def iL:M2:=⟨λx y h Q=>Ld x y/\Q (.bl (!kf x y)) h,λf q=>⟨q.1,f _ _ q.2⟩⟩
def QE(K:Aa)(neg:Bool):R2:=λu v H Q=>∃x y,VR K [] H u x/\VR K [] H v y/\Ld x y/\Q (.bl (if neg then !kf x y else kf x y)) H
section
theorem Vm(hK:X.K=K)(hu:X.A.units+200<GE):gr X (r9 .Eq) (QE K false):=λZ s σ H u v w w' Q I r1 r2 ⟨x,y,h1,h2,⟨o1,o2,o3⟩,q⟩=>by
 exact FK (WM hK I 150 x y X.A u v w w' o3 o1 o2 h1 h2 r1 r2 ∅).rc ⟨.bl _,H,I,rfl,q⟩
theorem Vk(hK:X.K=K)(hu:X.A.units+200<GE):gr X (r9 .NotEq) (QE K true):=λZ s σ H u v w w' Q I r1 r2 ⟨x,y,h1,h2,⟨o1,o2,o3⟩,q⟩=>by
 exact EU (WM hK I 150 x y X.A u v w w' o3 o1 o2 h1 h2 r1 r2 ∅).ne ⟨.bl _,H,I,rfl,q⟩
def Rb:M2.Ok K (QE K false) kq:=λ{ι H h u v x y Q} hr hu hv q=>⟨x,y,VR.md hu q.1.1,VR.md hv q.1.2.1,q.1,q.2 ι _ H (Go.refl _ _) hr (.bl _)⟩
def Q8:M2.Ok K (QE K true) iL:=λ{ι H h u v x y Q} hr hu hv q=>⟨x,y,VR.md hu q.1.1,VR.md hv q.1.2.1,q.1,q.2 ι _ H (Go.refl _ _) hr (.bl _)⟩
def kH(hK:X.K=K)(hu:X.A.units+200<GE):JC X K .Eq b kq:=⟨⟨_,Vm hK hu,Rb⟩,fg _⟩
def kG(hK:X.K=K)(hu:X.A.units+200<GE):JC X K .NotEq b iL:=⟨⟨_,Vk hK hu,Q8⟩,fg _⟩
end
end
end FL
variable{xs ys:Array A2}{b b1:Bool}{z i1 i2 a1 a2:AY}{k1:Nat}{e2:BV}
namespace L2
def rm(b:Bool)(h:nn)(it a:db)(k:Nat):Prop:=match b with
 |true=>h.IsListIter it a k
 |false=>h.IsTupleIter it a k
def gV(b:Bool)(h:nn)(a:db)(xs:Array ce):Prop:=match b with
 |true=>h.IsList a xs
 |false=>h.IsTuple a xs
def rm.move(x:rm b h it a k)(g:∀o,h.get? it=al o->h'.get? it=al o):rm b h' it a k:=by
 cases b with
 |true=>obtain⟨o,e,p⟩:=(x);exact(⟨o,g o e,p⟩)
 |false=>obtain⟨o,e,p⟩:=(x);exact(⟨o,g o e,p⟩)
def gV.move(x:gV b h a xs)(g:∀o,h.get? a=al o->h'.get? a=al o):gV b h' a xs:=by
 cases b with
 |true=>obtain⟨o,e,p⟩:=(x);exact(⟨o,g o e,p⟩)
 |false=>obtain⟨o,e,p⟩:=(x);exact(⟨o,g o e,p⟩)
def rm.obj(x:rm b h it a k):∃o,h.get? it=al o/\∀v,o.data≠.cell v:=by
 cases b with
 |true=>obtain⟨o,e,_,d⟩:=(x);exact⟨o,e,λv z=>by rw[d]at z;cases z⟩
 |false=>obtain⟨o,e,_,d⟩:=(x);exact⟨o,e,λv z=>by rw[d]at z;cases z⟩
def gV.lt(x:gV b h a xs):a<h.objs.size:=by
 cases b with
 |true=>obtain⟨o,e,p⟩:=(x);exact Aj e
 |false=>obtain⟨o,e,p⟩:=(x);exact Aj e
section
def jC{t:db}{x:ce}(h:rm b s.heap it t i)(ht:gV b s.heap t items)(hx:items[i]?=al x)(q:∀h':nn,rm b h' it t (i+1)->Cc it s.heap h'->Q x {s with heap:=h'}):f8 (lf prog w) A (Builtin.SmallTypes.nextOf (.ref it)) Q E s:=by
 cases b with
 |true=>exact wpAny_nextOf_list_item h ht hx λh' a b=>q h' a b
 |false=>exact gE h ht hx q
def qp{t:db}(hA:A.handled=bn)(h:rm b s.heap it t i)(ht:gV b s.heap t items)(hx:items[i]?=bn)(q:∀(h':nn) (e:db),GN it s.heap h'->(∃o,h'.get? e=al o/\o.cls=.type "StopIteration")->E (.ref e) {s with heap:=h'}):f8 (lf prog w) A (Builtin.SmallTypes.nextOf (.ref it)) Q E s:=by
 cases b with
 |true=>exact wpAny_nextOf_list_end hA h ht hx λh' e a b=>q h' e a b
 |false=>exact g9 hA h ht hx q
def KU:Bool->String
 |true=>"list_iterator"
 |false=>"tuple_iterator"
def tI(h:gV b s.heap a xs)(q:Q (.ref s.heap.objs.size) {s with heap:=s.heap.push {cls:=.type (KU b),data:=.fields #[.ref a,.int 0 0]}}):f8 (lf prog w) A (pyIter (.ref a)) Q E s:=by
 cases b with
 |true=>exact EW h q
 |false=>exact EI h q
def IB(e:h.get? it=al {cls:=.type (KU b),data:=.fields #[.ref a,.int 0 0]}):rm b h it a 0:=by
 cases b with
 |true=>exact(⟨_,e,rfl,rfl⟩)
 |false=>exact(⟨_,e,rfl,rfl⟩)
end
structure jd(b1 b2:Bool)(h:nn)(z TI TO i1 i2 a1 a2:db)(f0:ce)(k1 k2:Nat):Prop where
 zip:IsZip h z TI TO f0
 ti:SC h TI (.ref i1) (.ref i2)
 to:∃a b,SC h TO a b
 it1:rm b1 h i1 a1 k1
 it2:rm b2 h i2 a2 k2
def pP{E:ce->gt->Prop}{b2:Bool}{TI TO:db}{x y:ce}(hA:ZipApart z TI TO i1 i2 a1 a2)(hz:jd b1 b2 s.heap z TI TO i1 i2 a1 a2 .none k1 k2)(TK:gV b1 s.heap a1 xs)(Hq:gV b2 s.heap a2 ys)(hx:xs[k1]?=al x)(hy:ys[k2]?=al y)(q:∀h':nn,jd b1 b2 h' z TI TO i1 i2 a1 a2 (pr s.heap.objs.size) (k1+1) (k2+1)->SC h' s.heap.objs.size x y->(∀c o,c≠z->c≠TO->c≠i1->c≠i2->s.heap.get? c=al o->h'.get? c=al o)->Q (.ref s.heap.objs.size) {s with heap:=h'}):f8 (lf prog w) A (Fk.«zip.__next__» {pos:=[.ref z]}) (λfin s'=>∃v,fin=FZ (Fc v)/\Q v s') E s:=by
 obtain⟨hz,RH,⟨ta,tb,Đ⟩,K5,Oh⟩:=hz;show f8 _ _ (field (.ref z) 2 >>= λr=>_) _ _ s;refine Ab (AG hz rfl rfl ?_);refine Ab (AG hz rfl rfl ?_);refine Ab (BX RH rfl ?_);refine Ab ?_;refine Ab (AG hz rfl rfl ?_);refine Ae ?_;refine Ab (CY ?_);refine Ab (AG hz rfl rfl ?_);refine Ab (AU hz (show 0 < 5 by decide) λh1 z1 b1=>?_);show f8 _ _ ((forIn [(Ao i1,0),(Ao i2,1)] _ _) >>= λr=>_) _ _ _;refine Ab ?_;rw[Cq];have sG:=b1.2;refine Ab ?_;refine Ab (DY ?_);refine Ab (jC (K5.move λo e=>(sG _ hA.i1z).trans e) (TK.move λo e=>(sG _ hA.l1z).trans e) hx λh2 j2 b2=>Ae ?_);have Ot:∀b,b≠z->b≠i1->h2.get? b=s.heap.get? b:=λb n1 n2=>(b2.2 b n2).trans (sG b n1);have à:=(Ot _ hA.TOz hA.TOi1).trans Đ;refine Ab (BX à rfl ?_);refine Ab (D9 à λh3 t3 b3=>?_);have Ò:∀b,b≠z->b≠i1->b≠TO->h3.get? b=s.heap.get? b:=λb n1 n2 n3=>(b3.2 b n3).trans (Ot b n1 n2);refine Ab (CP (Ae ?_));show f8 _ _ (forIn [(Ao i2,1)] _ _) _ _ _;rw[Cq];refine Ab ?_;refine Ab (DY ?_);refine Ab (jC (Oh.move λo e=>(Ò _ hA.i2z hA.i12.symm hA.TOi2.symm).trans e) (Hq.move λo e=>(Ò _ hA.l2z hA.l2i1 hA.l2TO).trans e) hy λh4 j4 b4=>Ae ?_);have to4:=(b4.2 _ hA.TOi2).trans t3;refine Ab (BX to4 rfl ?_);refine Ab (D9 to4 λh5 t5 b5=>?_);have to5:=t5;refine Ab (CP (Ae ?_));refine Ae ?_;refine Ab (BX to5 rfl ?_);have ą:=b5.1.trans (b4.1.trans (b3.1.trans (b2.1.trans b1.1)));refine Ab (Dc ?_ (by show 2<=sizeLine;decide));have ZV:∀b,b≠z->b≠i1->b≠TO->b≠i2->h5.get? b=s.heap.get? b:=λb n1 n2 n3 n4=>(b5.2 b n3).trans ((b4.2 b n4).trans (Ò b n1 n2 n3));have kp:∀b o,h5.get? b=al o->(h5.push {cls:=.type "tuple",data:=.seq #[x,y]}).get? b=al o:=λb o e=>Ad _ e;refine Ab ?_;refine Ab (AU (kp _ _ ((b5.2 _ hA.TOz.symm).trans ((b4.2 _ hA.i2z.symm).trans ((b3.2 _ hA.TOz.symm).trans ((b2.2 _ hA.i1z.symm).trans z1))))) (show 0 < 5 by decide) λh7 z7 b7=>?_);refine AU z7 (show 1 < 5 by decide) λh8 z8 b8=>?_;have K8:∀b,b≠z->h8.get? b=(h5.push {cls:=.type "tuple",data:=.seq #[x,y]}).get? b:=λb n=>(b8.2 b n).trans (b7.2 b n);have nz:s.heap.objs.size≠z:=λe=>by have:=Aj hz;rw[<- e]at this;exact AQ _ this
 refine Ae ⟨.ref h5.objs.size,rfl,?_⟩;rw[ą];refine q h8 ⟨?_,?_,?_,?_,?_⟩ ?_ ?_
 .rw[<- ą];exact z8
 .rw[SC,K8 _ hA.TIz];exact kp _ _ ((ZV _ hA.TIz hA.TIi1 hA.TITO hA.TIi2).trans RH)
 .exact⟨x,y,by rw[SC,K8 _ hA.TOz];exact kp _ _ to5⟩
 .refine j2.move λo e=>?_;rw[K8 _ hA.i1z];exact kp _ _ ((b5.2 _ hA.TOi1.symm).trans ((b4.2 _ hA.i12).trans ((b3.2 _ hA.TOi1.symm).trans e)))
 .refine j4.move λo e=>?_;rw[K8 _ hA.i2z];exact kp _ _ ((b5.2 _ hA.TOi2.symm).trans e)
 .rw[SC,K8 _ nz,<- ą];exact(Ak _ rfl)
 .intro c o n1 n2 n3 n4 e;rw[K8 _ n1];exact kp _ _ ((ZV _ n1 n3 n2 n4).trans e)
def rS{b2:Bool}{TI TO:db}{Q:PySem.Fin->gt->Prop}(hh:A.handled=bn)(hA:ZipApart z TI TO i1 i2 a1 a2)(hz:jd b1 b2 s.heap z TI TO i1 i2 a1 a2 .none k1 k2)(TK:gV b1 s.heap a1 xs)(Hq:gV b2 s.heap a2 ys)(hx:xs[k1]?=bn\/ys[k2]?=bn)(q:∀(h':nn) (e:db),(∀c o,c≠z->c≠TO->c≠i1->c≠i2->s.heap.get? c=al o->h'.get? c=al o)->(∃o,h'.get? e=al o/\o.cls=.type "StopIteration")->E (.ref e) {s with heap:=h'}):f8 (lf prog w) A (Fk.«zip.__next__» {pos:=[.ref z]}) Q E s:=by
 obtain⟨hz,RH,⟨ta,tb,Đ⟩,K5,Oh⟩:=hz;show f8 _ _ (field (.ref z) 2 >>= λr=>_) _ _ s;refine Ab (AG hz rfl rfl ?_);refine Ab (AG hz rfl rfl ?_);refine Ab (BX RH rfl ?_);refine Ab ?_;refine Ab (AG hz rfl rfl ?_);refine Ae ?_;refine Ab (CY ?_);refine Ab (AG hz rfl rfl ?_);refine Ab (AU hz (show 0 < 5 by decide) λh1 z1 b1'=>?_);show f8 _ _ ((forIn [(Ao i1,0),(Ao i2,1)] _ _) >>= λr=>_) _ _ _;refine Ab ?_;have sG:=b1'.2;refine Ab ?_;refine Ab (DY ?_);have fin:∀{h2:nn}{e:db}{R:ce->gt->Prop},h2.get? z=al {cls:=.type "zip",data:=.fields #[.ellipsis,.bool false,.bool false,.ref TI,.ref TO]}->(∃o,h2.get? e=al o/\o.cls=.type "StopIteration")->(∀c o,c≠z->c≠TO->c≠i1->c≠i2->s.heap.get? c=al o->h2.get? c=al o)->f8 (lf prog w) A (PP (.ref z) 0 .none) (λ_ s'=>E (.ref e) s') R {s with heap:=h2}:=λ{h2 e R} z2 ex k=>by
  refine AU z2 (show 0<5 by decide) λh3 z3 b3=>?_;refine q h3 e (λc o n1 n2 n3 n4 ec=>?_) ?_
  .rw[b3.2 _ n1];exact k c o n1 n2 n3 n4 ec
  .obtain⟨o,eo,hc⟩:=ex;by_cases he:e=z
   .subst he;rw[z2]at eo;cases eo;exact absurd (show CD "zip"=CD "StopIteration" from hc) ⋯
   .exact⟨o,(b3.2 _ he).trans eo,hc⟩
 cases Zy:xs[k1]? with
 |none=>
  exact Ab (qp hh (K5.move λo e=>(sG _ hA.i1z).trans e) (TK.move λo e=>(sG _ hA.l1z).trans e) Zy λh2 e k ex=>fin (k _ _ hA.i1z.symm z1) ex λc o n1 n2 n3 n4 ec=>k _ _ n3 ((sG _ n1).trans ec))
 |some x=>
  have hy:ys[k2]?=bn:=by
   rcases hx with h|h
   .rw[Zy]at h;cases h
   .exact h
  refine Ab (jC (K5.move λo e=>(sG _ hA.i1z).trans e) (TK.move λo e=>(sG _ hA.l1z).trans e) Zy λh2 j2 b2'=>Ae ?_);have Ot:∀b,b≠z->b≠i1->h2.get? b=s.heap.get? b:=λb n1 n2=>(b2'.2 b n2).trans (sG b n1);have à:=(Ot _ hA.TOz hA.TOi1).trans Đ;refine Ab (BX à rfl ?_);refine Ab (D9 à λh3 t3 b3=>?_);have Ò:∀b,b≠z->b≠i1->b≠TO->h3.get? b=s.heap.get? b:=λb n1 n2 n3=>(b3.2 b n3).trans (Ot b n1 n2);exact Ab (CP (Ae (Ab (Ab (DY (Ab (qp hh (Oh.move λo e=>(Ò _ hA.i2z hA.i12.symm hA.TOi2.symm).trans e) (Hq.move λo e=>(Ò _ hA.l2z hA.l2i1 hA.l2TO).trans e) hy λh4 e k ex=>fin (k _ _ hA.i2z.symm ((b3.2 _ hA.TOz.symm).trans ((b2'.2 _ hA.i1z.symm).trans z1))) ex λc o n1 n2 n3 n4 ec=>k _ _ n4 ((Ò _ n1 n3 n2).trans ec))))))))
def m6{b2:Bool}{TI TO:db}{x y:ce}{Q:Option ce->gt->Prop}(hA:ZipApart z TI TO i1 i2 a1 a2)(hz:jd b1 b2 s.heap z TI TO i1 i2 a1 a2 .none k1 k2)(TK:gV b1 s.heap a1 xs)(Hq:gV b2 s.heap a2 ys)(hx:xs[k1]?=al x)(hy:ys[k2]?=al y)(q:∀h':nn,jd b1 b2 h' z TI TO i1 i2 a1 a2 (pr s.heap.objs.size) (k1+1) (k2+1)->SC h' s.heap.objs.size x y->(∀c o,c≠z->c≠TO->c≠i1->c≠i2->s.heap.get? c=al o->h'.get? c=al o)->Q (al (.ref s.heap.objs.size)) {s with heap:=h'}):f8 (lf prog w) A (pyNext (.ref z)) Q E s:=by
 have ty:s.TypeIs (.ref z) "zip":=⟨_,hz.zip,rfl⟩;refine Ab (Ct (AZ ty Ec (Bw Ec ty F.entry_zip_next ?_ (F.args_zip_next_1 _))));exact pP hA hz TK Hq hx hy λh' a b c=>Ae (q h' a b c)
def oQ{b2:Bool}{TI TO:db}{Q:Option ce->gt->Prop}(hh:A.handled=bn)(hA:ZipApart z TI TO i1 i2 a1 a2)(hz:jd b1 b2 s.heap z TI TO i1 i2 a1 a2 .none k1 k2)(TK:gV b1 s.heap a1 xs)(Hq:gV b2 s.heap a2 ys)(hx:xs[k1]?=bn\/ys[k2]?=bn)(q:∀h':nn,(∀c o,c≠z->c≠TO->c≠i1->c≠i2->s.heap.get? c=al o->h'.get? c=al o)->Q bn {s with heap:=h'}):f8 (lf prog w) A (pyNext (.ref z)) Q E s:=by
 have ty:s.TypeIs (.ref z) "zip":=⟨_,hz.zip,rfl⟩;refine Ab (Ct (AZ ty Ec (Bw Ec ty F.entry_zip_next ?_ (F.args_zip_next_1 _))));refine rS hh hA hz TK Hq hx λh' e k ex=>?_;obtain⟨o,eo,hc⟩:=ex;exact Ab (DT ⟨o,eo,hc⟩ isSubtype_stop (Ae (q h' k)))
def qu(b1 b2:Bool)(a1 a2:db)(xs ys:Array ce):Meets (Fk.«zip.__new__» {pos:=[.type "zip",.ref a1,.ref a2]}) (λ_ R s=>gV b1 s.heap a1 xs/\gV b2 s.heap a2 ys/\
  ∀h':nn,jd b1 b2 h' (s.heap.objs.size+4) (s.heap.objs.size+2) (s.heap.objs.size+3) s.heap.objs.size (s.heap.objs.size+1) a1 a2 .none 0 0->(∀b o,s.heap.get? b=al o->h'.get? b=al o)->R (.ok (.ret (.ref (s.heap.objs.size+4)))) {s with heap:=h'}):=
 .of_wp λprog w A R s h=>by
  obtain⟨h1,h2,q⟩:=h;refine Ab ?_;refine Ab (Cf rfl ?_);refine Ab (Cf sub_zip ?_);refine Ae ?_;refine Ab ?_;refine Ab ?_;rw[Cq];refine Ab ?_;refine Ab (Ba (tI h1 (Ae ?_)));have k1:∀b o,s.heap.get? b=al o->(s.heap.push {cls:=.type (KU b1),data:=.fields #[.ref a1,.int 0 0]}).get? b=al o:=λb o e=>Ad _ e;have g1:(s.heap.push {cls:=.type (KU b1),data:=.fields #[.ref a1,.int 0 0]}).get? s.heap.objs.size=al {cls:=.type (KU b1),data:=.fields #[.ref a1,.int 0 0]}:=Ak _ rfl;have z1:(s.heap.push {cls:=.type (KU b1),data:=.fields #[.ref a1,.int 0 0]}).objs.size=s.heap.objs.size+1:=Bf ..;generalize s.heap.push {cls:=.type (KU b1),data:=.fields #[.ref a1,.int 0 0]}=rL at k1 g1 z1 ⊢;show f8 _ _ (forIn [Ao a2] _ _) _ _ _;rw[Cq];refine Ab ?_;refine Ab (Ba (tI (h2.move λo e=>k1 _ _ e) (Ae ?_)));show f8 _ _ (forIn [] _ _) _ _ _;refine Ae (Ae ?_);have k2:∀b o,rL.get? b=al o->(rL.push {cls:=.type (KU b2),data:=.fields #[.ref a2,.int 0 0]}).get? b=al o:=λb o e=>Ad _ e;have g2:(rL.push {cls:=.type (KU b2),data:=.fields #[.ref a2,.int 0 0]}).get? rL.objs.size=al {cls:=.type (KU b2),data:=.fields #[.ref a2,.int 0 0]}:=Ak _ rfl;have z2:(rL.push {cls:=.type (KU b2),data:=.fields #[.ref a2,.int 0 0]}).objs.size=rL.objs.size+1:=Bf ..;show f8 _ _ (newTuple [.ref s.heap.objs.size,.ref rL.objs.size] >>= λr=>_) _ _ {s with heap:=rL.push {cls:=.type (KU b2),data:=.fields #[.ref a2,.int 0 0]}};generalize rL.push {cls:=.type (KU b2),data:=.fields #[.ref a2,.int 0 0]}=zr at k2 g2 z2 ⊢;refine Ab (Dc ?_ (by show 2<=sizeLine;decide));have k3:∀b o,zr.get? b=al o->(zr.push {cls:=.type "tuple",data:=.seq [Ao s.heap.objs.size,Ao rL.objs.size].toArray}).get? b=al o:=λb o e=>Ad _ e;have g3:(zr.push {cls:=.type "tuple",data:=.seq [Ao s.heap.objs.size,Ao rL.objs.size].toArray}).get? zr.objs.size=al {cls:=.type "tuple",data:=.seq #[.ref s.heap.objs.size,.ref rL.objs.size]}:=Ak _ rfl;have z3:(zr.push {cls:=.type "tuple",data:=.seq [Ao s.heap.objs.size,Ao rL.objs.size].toArray}).objs.size=zr.objs.size+1:=Bf ..;generalize zr.push {cls:=.type "tuple",data:=.seq [Ao s.heap.objs.size,Ao rL.objs.size].toArray}=K2 at k3 g3 z3 ⊢;refine Ab (Dc ?_ (by show 2<=sizeLine;decide));have k4:∀b o,K2.get? b=al o->(K2.push {cls:=.type "tuple",data:=.seq [AO,AO].toArray}).get? b=al o:=λb o e=>Ad _ e;have g4:(K2.push {cls:=.type "tuple",data:=.seq [AO,AO].toArray}).get? K2.objs.size=al {cls:=.type "tuple",data:=.seq #[.none,.none]}:=Ak _ rfl;have z4:(K2.push {cls:=.type "tuple",data:=.seq [AO,AO].toArray}).objs.size=K2.objs.size+1:=Bf ..;show f8 _ _ (newObj (.type "zip") (.fields #[.none,.bool false,.bool false,.ref zr.objs.size,.ref K2.objs.size]) >>= λr=>_) _ _ {s with heap:=K2.push {cls:=.type "tuple",data:=.seq [AO,AO].toArray}};generalize K2.push {cls:=.type "tuple",data:=.seq [AO,AO].toArray}=TN at k4 g4 z4 ⊢;refine Ab (BM ?_ (by simp[sizeOk];decide));have k5:∀b o,TN.get? b=al o->(TN.push {cls:=.type "zip",data:=.fields #[.none,.bool false,.bool false,.ref zr.objs.size,.ref K2.objs.size]}).get? b=al o:=λb o e=>Ad _ e;have g5:(TN.push {cls:=.type "zip",data:=.fields #[.none,.bool false,.bool false,.ref zr.objs.size,.ref K2.objs.size]}).get? TN.objs.size=al {cls:=.type "zip",data:=.fields #[.none,.bool false,.bool false,.ref zr.objs.size,.ref K2.objs.size]}:=Ak _ rfl;have e1:=z1;have e2:zr.objs.size=s.heap.objs.size+2:=by rw[z2,e1]
  have e3:K2.objs.size=s.heap.objs.size+3:=by rw[z3,e2]
  have e4:TN.objs.size=s.heap.objs.size+4:=by rw[z4,e3]
  refine Ae ⟨.ref TN.objs.size,rfl,?_⟩;rw[e2,e3]at g5 k5 ⊢;rw[e4]at g5 ⊢;rw[e3]at g4;rw[e1,e2]at g3;rw[e1]at g2;refine q _ ⟨g5,k5 _ _ (k4 _ _ g3),⟨_,_,k5 _ _ g4⟩,IB (k5 _ _ (k4 _ _ (k3 _ _ (k2 _ _ g1)))),IB (k5 _ _ (k4 _ _ (k3 _ _ g2)))⟩ λb o e=>k5 _ _ (k4 _ _ (k3 _ _ (k2 _ _ (k1 _ _ e))))
def Ll{b2:Bool}(h1:gV b1 s.heap a1 xs)(h2:gV b2 s.heap a2 ys)(q:∀h':nn,jd b1 b2 h' (s.heap.objs.size+4) (s.heap.objs.size+2) (s.heap.objs.size+3) s.heap.objs.size (s.heap.objs.size+1) a1 a2 .none 0 0->(∀b o,s.heap.get? b=al o->h'.get? b=al o)->Q (.ref (s.heap.objs.size+4)) {s with heap:=h'}):f8 (lf prog w) A (call (.type "zip") [.ref a1,.ref a2]) Q E s:=
 callType_new F.called_zip ⋯ (F.typeCall_zip_2 _ _) (F.newCall_zip_2 _ _) (λo=>F.args_object_init_3 o _ _) F.entry_zip_new (qu b1 b2 a1 a2 xs ys) ⟨h1,h2,λh' z k=>⟨⟨_,z.zip,rfl⟩,q h' z k⟩⟩
def LU(b:Bool)(K:Aa)(H:Hp)(a:db)(xs:O V):Prop:=match b with
 |true=>du K H a xs
 |false=>dX K H a xs
def Inv.Xd{xs:O V}(I:Inv X Z σ H s)(h:LU b X.K H a xs):∃ax:O ce,Vals xs ax/\gV b s.heap a ax.toArray/\xs.length<=sizeLine:=by
 cases b with
 |true=>obtain⟨ax,r,p,z⟩:=I.list (h);exact⟨ax,r,p.isList,z⟩
 |false=>obtain⟨ax,r,p,z⟩:=I.tuple (h);exact⟨ax,r,p,z⟩
def Inv.IA{xs ys:O V}(I:Inv X Z σ H s)(h:LU b X.K H a xs)(h':LU b X.K H a ys):xs=ys:=by
 cases b with
 |true=>
  obtain⟨ax,k,⟨o,n,h1,h2,h3,h4⟩,_⟩:=I.list (h);obtain⟨its',k',⟨o',n',gH,xo,RO,Wk⟩,_⟩:=I.list (h');rw[h1]at gH;cases gH;rw[h4]at Wk;have:ax=its':=by injection Wk with a b;simpa using a
  subst this;exact Vals.inj k k'
 |false=>exact I.jX h h'
def aaI(b1 b2:Bool)(K:Aa)(a1 a2:db):It where
 go:=λi H=>∃xs ys x y,LU b1 K H a1 xs/\LU b2 K H a2 ys/\xs[i]?=al x/\ys[i]?=al y
 Qa:=λi H v H'=>∃p x y,v=.ref p/\H p=bn/\H'=upd H p (.tup [x,y])/\(∀xs,LU b1 K H a1 xs->xs[i]?=al x)/\∀ys,LU b2 K H a2 ys->ys[i]?=al y
 stop:=λi H=>∃xs ys,LU b1 K H a1 xs/\LU b2 K H a2 ys/\(xs.length<=i\/ys.length<=i)
theorem Ka{K:Aa}{b2:Bool}{TI TO:db}(hA:ZipApart z TI TO i1 i2 a1 a2):Turn P w K (.Tuple Ï kk pos) (aaI b1 b2 K a1 a2) [z,TI,TO,i1,i2] z (λi h=>jd b1 b2 h z TI TO i1 i2 a1 a2 .none i i) where
 mem:=by simp
 obj:=λi h st b hb=>by
  simp at hb;rcases hb with rfl|rfl|rfl|rfl|rfl
  .exact⟨_,st.zip,λv z=>by cases z⟩
  .exact⟨_,st.ti,λv z=>by cases z⟩
  .obtain⟨_,_,e⟩:=st.to;exact⟨_,e,λv z=>by cases z⟩
  .exact st.it1.obj
  .exact st.it2.obj
 keep:=λi h h' st k=>⟨k z (by simp) _ st.zip,k TI (by simp) _ st.ti,let ⟨a,b,e⟩:=st.to;⟨a,b,k TO (by simp) _ e⟩,st.it1.move λo e=>k i1 (by simp) _ e,st.it2.move λo e=>k i2 (by simp) _ e⟩
 item:=by
  intro X hP hw hK hc i Z s σ H E I hf st hg;subst hP hw hK;obtain⟨xs,ys,x,y,hx,hy,gx,gy⟩:=hg;obtain⟨ax,rx,tx,_⟩:=I.Xd hx;obtain⟨cQ,ry,ty,_⟩:=I.Xd hy;obtain⟨u,gu,ru⟩:=lK rx gx;obtain⟨v,gv,rv⟩:=lK ry gy;refine m6 hA st tx ty (by simpa using gu) (by simpa using gv) λh' zt np k=>?_;refine⟨_,rfl,?_⟩;refine Ab (wpAny_load zt.zip ?_);show f8 _ _ (if ((["enumerate","zip","dict_itemiterator","dict_reverseitemiterator","odict_iterator","itertools.zip_longest","itertools.pairwise"].contains "zip"&&(al (pr s.heap.objs.size)==al (pr s.heap.objs.size)))=true) then (do rule "for.unpacks-the-owned-tuple";PP (.ref z) 0 .none) else pure ()) _ _ _;rw[if_pos (by rw[beq_self_eq_true];decide)];refine Ab (CY ?_);refine AU zt.zip (show 0 < 5 by decide) λh2 z2 b2=>?_;have lt:∀b∈[z,TI,TO,i1,i2],b < s.heap.objs.size:=λb hb=>by
   simp only[Au,BI,or_false]at hb;rcases hb with rfl|rfl|rfl|rfl|rfl
   .exact Aj st.zip
   .exact Aj st.ti
   .obtain⟨_,_,e⟩:=st.to;exact Aj e
   .obtain⟨o,e,_⟩:=st.it1.obj;exact Aj e
   .obtain⟨o,e,_⟩:=st.it2.obj;exact Aj e
  have VP:∀b o,b∉[z,TI,TO,i1,i2]->s.heap.get? b=al o->h2.get? b=al o:=λb o hb e=>by
   have Jw:b≠z:=λq=>hb (by simp[q]);rw[b2.2 b Jw];exact k b o Jw (λq=>hb (by simp[q])) (λq=>hb (by simp[q])) (λq=>hb (by simp[q])) e
  refine⟨.ref s.heap.objs.size,upd H s.heap.objs.size (.tup [x,y]),I.lM hf VP (Ah _) ⟨by show 2<=sizeLine;decide,[u,v],.cons ru (.cons rv .nil),⟨_,((b2.2 _ (λe=>AQ _ (by have:=lt z (by simp);rw[<- e]at this;exact this))).trans np),rfl,_,rfl⟩,_,((b2.2 _ (λe=>AQ _ (by have:=lt z (by simp);rw[<- e]at this;exact this))).trans np),rfl⟩,rfl,⟨_,x,y,rfl,(I.aX.fresh (Ah s.heap.objs.size)),rfl,λxs' h'=>?_,λys' h'=>?_⟩,⟨z2,(b2.2 _ hA.TIz).trans zt.ti,let ⟨p,q,e⟩:=zt.to;⟨p,q,(b2.2 _ hA.TOz).trans e⟩,zt.it1.move λo e=>(b2.2 _ hA.i1z).trans e,zt.it2.move λo e=>(b2.2 _ hA.i2z).trans e⟩,λb hb=>?_⟩
  .rw[I.IA h' hx];exact gx
  .rw[I.IA h' hy];exact gy
  .rw[ah (AD (lt b hb))];exact(hf b hb).1
 done:=by
  intro X hP hw hK hc i Z s σ H E I hf st hg;subst hP hw hK;obtain⟨xs,ys,hx,hy,hl⟩:=hg;obtain⟨ax,rx,tx,_⟩:=I.Xd hx;obtain⟨cQ,ry,ty,_⟩:=I.Xd hy;have el:=rx.length;have el2:=ry.length;refine oQ (I.ok.hd hc) hA st tx ty ?_ λh' k=>⟨rfl,I.pA (t':=s.toks) hf λb o hb e=>k b o (λz=>hb (by simp[z])) (λz=>hb (by simp[z])) (λz=>hb (by simp[z])) (λz=>hb (by simp[z])) e⟩;rcases hl with hl|hl
  .exact .inl (by simp;lia)
  .exact .inr (by simp;lia)
 self:=λA i s Q E st h=>wpAny_pyIter_zip st.zip h
def Zu(K:Aa)(t1 t2:TE):TI:=λσ H R=>t1 σ H λx H1=>t2 σ H1 λy H2=>∃b1 b2 a b,x=.ref a/\y=.ref b/\(∃xs,LU b1 K H2 a xs)/\(∃ys,LU b2 K H2 b ys)/\R (aaI b1 b2 K a b) H2
def QL(K:Aa)(hK:X.K=K){t2:TE}(hg:Gl X "zip")(hm:X.mg "zip"=bn)(h1:PE X e1 t1)(h2:PE X e2 t2)(my:‹lm [e1,e2] X.env=(false,o0 e1 X.env)::lm [e2] X.env›)(xm:‹dY X e2 []›)(bZ:‹(KM p2 (lm [e2] X.env)).any (·.1)=false›):PI X (.Tuple Ï kk tp) (.Call (.Name "zip" p1) [e1,e2] [] p2) (Zu K t1 t2):=by
 subst hK;intro Z s σ H R I h;refine AM (gc I hg hm boot_zip ?_ ⋯ ⋯);refine A9 ?_ my bZ;rw[my,xm];refine A7 (bp (h1 Z s σ H _ I h) λu1 s1 ⟨x,H1,I1,r1,q1⟩=>?_);refine A7 (bp (h2 Z s1 σ H1 _ I1 q1) λu2 s2 ⟨y,H2,I2,r2,b1,b2,a,b,ex,ey,⟨xs,hx⟩,⟨ys,hy⟩,q⟩=>BL ?_);subst ex;subst ey;cases r1;cases r2;obtain⟨ax,rx,tx,_⟩:=I2.Xd hx;obtain⟨cQ,ry,ty,_⟩:=I2.Xd hy;refine Ll tx ty λh' zt k=>?_;refine wpAny_pyIter_zip zt.zip ?_;have dd:∀i j:Nat,i≠j->s2.heap.objs.size+i≠s2.heap.objs.size+j:=λi j n e=>n (Nat.add_left_cancel e);have na:∀i:Nat,a≠s2.heap.objs.size+i:=λi=>AD (Av tx.lt (Bo _ _));have nb:∀i:Nat,b≠s2.heap.objs.size+i:=λi=>AD (Av ty.lt (Bo _ _));have hA:ZipApart (s2.heap.objs.size+4) (s2.heap.objs.size+2) (s2.heap.objs.size+3) s2.heap.objs.size (s2.heap.objs.size+1) a b:=
  ⟨dd 2 4 ⋯,dd 3 4 ⋯,dd 0 4 ⋯,dd 1 4 ⋯,dd 2 3 ⋯,dd 2 0 ⋯,dd 2 1 ⋯,dd 3 0 ⋯,dd 3 1 ⋯,dd 0 1 ⋯,na 4,na 3,na 0,na 1,nb 4,nb 3,nb 0,nb 1⟩
 refine⟨_,_,_,_,H2,rfl,I2.kept k,Ka hA,zt,λc hc=>?_,q⟩;have Ñ:s2.heap.objs.size<=c:=by
  simp at hc;rcases hc with rfl|rfl|rfl|rfl|rfl
  .exact Bo _ _
  .exact Bo _ _
  .exact Bo _ _
  .exact Ah _
  .exact Bo _ _
 exact I2.yA Ñ (I2.aX.fresh Ñ)
def YH(K:Aa):R2:=λx y H Q=>∃a b xs ys,x=.ref a/\y=.ref b/\dX K H a xs/\dX K H b ys/\xs.length+ys.length<=sizeLine/\
 (xs=[]->Q (.ref b) H)/\(xs≠[]->ys=[]->Q (.ref a) H)/\(xs≠[]->ys≠[]->kr H (.tup (xs++ys)) Q)
def QZ(K:Aa)(hK:X.K=K):gr X (wP .Add) (YH K):=by
 subst hK;intro Z s σ H x y v u Q I rx ry h;obtain⟨a,b,xs,ys,rfl,rfl,ha,hb,hz,q0,q1,q2⟩:=h;by_cases c:xs=[]
 .cases rx;cases ry;obtain⟨ax,r1,p1,_⟩:=I.tuple ha;obtain⟨cQ,r2,p2,_⟩:=I.tuple hb;obtain⟨⟨cls,dd,data,sl⟩,ho,hc,n,hd⟩:=id p1;obtain⟨⟨aaq,ä,data2,Xe⟩,PX,Xr,n2,ß⟩:=id p2;subst hc hd Xr ß;exact concat_meets ⟨_,ho,rfl⟩ ⟨_,PX,rfl⟩ noFill_tuple_add seq_tuple_add DD Dx (Dr _ _)
   (tuple_addW0 a b ax.toArray cQ.toArray n n2 dd ä sl Xe (by rw[r1.iM.mpr c];rfl)) ⟨ho,PX,.ref b,H,I,rfl,q0 c⟩
 .exact Jk Z s σ H _ _ v u Q I rx ry ⟨a,b,xs,ys,rfl,rfl,ha,hb,c,hz,q1 c,λn p hp=>(q2 c n).at p hp⟩
end L2
variable{a:BV}
namespace FL
section
variable[bD]
variable{K:Aa}
section
variable{b:pc}
def addW:PV->PV->W PV
 |.int i,.int j=>.ret (.int (i+j))
 |.str a,.str b=>.d8 (a.length+b.length<=sizeLine) (.ret (.str (a++b)))
 |.tup a,.tup b=>.d8 (a.length+b.length<=sizeLine) (.ret (.tup (a++b)))
 |_,_=>.fail
def aO(hK:X.K=K)(ha:EF X K fs a wa f1)(hb:EF X K f1 b wb f2):EF X K fs (.BinOp a .Add b pos) (.bind wa λx=>.bind wb λy=>addW x y) f2:=
 ⟨PE.imp (qh ((Jl K hK).or (QZ K hK)) ha.p hb.p) λσ H Q ⟨sr,q⟩=>⟨sr,wa.mono (λx q1 u1 H1 g1 s1 v1=>⟨s1,wb.mono (λy q2 u2 H2 g2 s2 v2=>by
  have Ă:=g2.vr s1 v1;cases Ă with
  |int i=>
   cases v2 with
   |int j=>exact .inl ⟨_,rfl,q2 _ H2 (g1.trans g2) s2 (.int _)⟩
   |_=>exact q2.elim
  |str i=>
   cases v2 with
   |str j=>exact .inl ⟨_,rfl,q2.1,q2.2 _ H2 (g1.trans g2) s2 (.str _)⟩
   |_=>exact q2.elim
  | @tup p vs l e r=>
   cases v2 with
   | @tup p' J8 l' e' r'=>
    refine .inr ⟨p,p',vs,J8,rfl,rfl,dX.of e,dX.of e',by rw[r.length,r'.length];exact q2.1,λz=>?_,λ_ z=>?_,λ_ _ q H3 s3 h3 n3=>?_⟩
    .have z':=(PL.aL.iM r).mp z;subst z';exact q2.2 _ H2 (g1.trans g2) s2 (.tup e' r')
    .have z':=(PL.aL.iM r').mp z;subst z';have q2:=q2.2;rw[A8]at q2;exact q2 _ H2 (g1.trans g2) s2 (.tup e r)
    .exact q2.2 _ H3 ((g1.trans g2).trans (cK.same s3)) (s2.same s3) (.tup h3 (aL.tk s3.eU (r.append r')))
   |_=>exact q2.elim
  |_=>exact q2.elim) q1⟩) q⟩⟩
theorem iy:∀(l m:O PV),(kj l m).length=min l.length m.length
 |[],m=>by rw[kj];simp;intros;simp_all
 |x::l,[]=>by rw[kj];simp;intros;simp_all
 |x::l,y::m=>by rw[kj,Ap,iy l m];simp only[Ap];lia
def uC(l m:O PV):W (O PV):=.d8 (l.length<=sizeLine) (.ret (kj l m))
def SV(h:W0 K H u l):∃(b:Bool) (a:db) (vs:O V),u=.ref a/\aL K [] H vs l/\∀H',br K H H'->LU b K H' a vs:=by
 obtain⟨a,vs,e,h|h,r⟩:=h
 .exact⟨true,a,vs,e,r,λH' t=>(t.f _ _ h).sq⟩
 .exact⟨false,a,vs,e,r,λH' t=>dX.of (t.t _ _ h)⟩
theorem vI(hK:X.K=K)(hg:Gl X "zip")(hm:X.mg "zip"=bn)(ha:IF X K fs a wl)(hb:IF X K fs b wm)(my:‹lm [a,b] X.env=(false,o0 a X.env)::lm [b] X.env›)(xm:‹dY X b []›)(bZ:‹(KM p2 (lm [b] X.env)).any (·.1)=false›):oJ X K fs (.Tuple Ï kk tp) (.Call (.Name "zip" p1) [a,b] [] p2) (.bind wl λl=>.bind wm λm=>uC l m):=
 ⟨PI.imp (QL K hK hg hm ha.p hb.p my xm bZ) λσ H R ⟨sr,q⟩=>⟨sr,wl.mono (λl q1 u1 H1 g1 s1 v1=>⟨s1,wm.mono (λm q2 u2 H2 g2 s2 v2=>by
  obtain⟨b1,a1,vs,rfl,r1,x1⟩:=SV (v1.tk (g2.cC s1));obtain⟨b2,a2,ws,rfl,r2,x2⟩:=SV v2;have tr:br K H2 H2:=br.refl H2;refine⟨b1,b2,a1,a2,rfl,rfl,⟨vs,x1 H2 tr⟩,⟨ws,x2 H2 tr⟩,q2.2 _ H2 (g1.trans g2) s2 ⟨by rw[iy];have:=q2.1;lia,λH' t=>⟨λi pp hp=>?_,vs,ws,x1 H' t,x2 H' t,?_⟩⟩⟩
  .obtain⟨x,y,hx,hy,rfl⟩:=lI hp;obtain⟨v,h3,h4⟩:=(aL.tk t r1).get hx;obtain⟨v',RO,Wk⟩:=(aL.tk t r2).get hy;refine⟨⟨vs,ws,v,v',x1 H' t,x2 H' t,h3,RO⟩,λz H3 yl=>?_⟩;obtain⟨p,x',y',rfl,hn,rfl,e1,e2⟩:=yl;have e1:=e1 vs (x1 H' t);have e2:=e2 ws (x2 H' t);rw[h3]at e1;rw[RO]at e2;cases e1;cases e2;have sm:=eX hn (.tup [v,v']);exact⟨sm,.tup aw (.cons (VR.tk sm.eU h4) (.cons (VR.tk sm.eU Wk) .nil))⟩
  .rw[iy,r1.length,r2.length];lia) q1⟩) q⟩⟩
end
end
end FL
namespace L2
def KI:O Int->Int
 |[]=>0
 |x::l=>l.foldl max x
theorem vV(l:O Int)(x:Int):x<=l.foldl max x/\(∀y∈l,y<=l.foldl max x)/\(l.foldl max x=x\/l.foldl max x∈l):=by
 induction l generalizing x with
 |nil=>exact⟨GO _,by simp,.inl rfl⟩
 |cons y l ih=>
  obtain⟨h1,h2,h3⟩:=ih (max x y);refine⟨by rw[Du];lia,λz hz=>?_,?_⟩
  .rw[Du];rcases Au.mp hz with rfl|hz
   .omega
   .exact h2 z hz
  .rw[Du];rcases h3 with h3|h3
   .rw[h3];by_cases c:x<=y
    .right;rw[Int.max_eq_right c];exact .head _
    .left;lia
   .exact .inr (.tail _ h3)
def Ro{l:O Int}{x:Int}(h:x∈l):x<=KI l:=by
 cases l with
 |nil=>cases h
 |cons y l=>
  rcases Au.mp h with rfl|h
  .exact(vV l _).1
  .exact(vV l y).2.1 x h
def NF{l:O Int}(h:l≠[]):KI l∈l:=by
 cases l with
 |nil=>exact absurd rfl h
 |cons y l=>
  rcases (vV l y).2.2 with e|e
  .show l.foldl max y∈_;rw[e];exact .head _
  .exact .tail _ e
def MH(K:Aa)(C:O Int->Prop)(g:O Int->Int):O V->Hp->VK->Prop:=λxs H Q=>∃(p:db) (ns:O Int),xs=[.ref p]/\du K H p (ns.map V.int)/\C ns/\Q (.int (g ns)) H
section
theorem KG{l:db}{vs:O ce}(hh:A.handled=bn)(hl:s.heap.IsList l vs.toArray)(hi:TM vs ns)(LP:ns≠[])(h:∀(h':nn) (t:Tok) tk,(∀b o,s.heap.get? b=al o->h'.get? b=al o)->Q (.int (KI ns) t) {s with heap:=h',toks:=tk}):f8 (lf prog w) A (call (.builtin "max") [.ref l]) Q E s:=by
 obtain⟨xs,e⟩:=hi.allInts.items;have PY:ns=xs.toList.map (·.1):=by rw[<- hi.numsOf,<- nums_intItems,<- e]
 have hsz:0<xs.size:=by
  have h3:=Bx.mpr LP;rw[PY,Am,El]at h3;exact h3
 rw[e]at hl;refine max_intList hh hl hsz λv h' tk hv hk=>?_;obtain⟨t,rfl⟩:=intItems_at hv;obtain⟨h1,h2⟩:=argBest_gt (numAt xs) (xs.size-1);have e1:numAt xs (argBest (λi j=>decide (numAt xs i > numAt xs j)) (xs.size-1))=KI ns:=by
  apply Int.le_antisymm
  .refine Ro ?_;rw[PY,numAt_eq];exact getD_mem (by rw[Am,El];lia)
  .have hm:=NF LP;rw[PY]at hm;obtain⟨j,hj,ej⟩:=mem_getD hm;rw[Am,El]at hj;rw[<- PY]at ej;rw[<- ej,PY,<- numAt_eq];exact h2 j ∅
 rw[e1];exact h h' t tk hk
end
def Lv{b:String}{C:O Int->Prop}{g:O Int->Int}(K:Aa)(hK:X.K=K)(hc:X.calm=true)(Ø:∀{s:gt}{l:db}{vs:O ce}{ns:O Int}{Q:ce->gt->Prop},X.A.handled=bn->s.heap.IsList l vs.toArray->TM vs ns->C ns->(∀(h':nn) (t:Tok) tk,(∀b o,s.heap.get? b=al o->h'.get? b=al o)->Q (.int (g ns) t) {s with heap:=h',toks:=tk})->f8 (lf X.prog X.w) X.A (call (.builtin b) [.ref l]) Q X.xe s):bP X (.builtin b) (MH K C g):=by
 subst hK;intro Z s σ H xs us Q I r h;obtain⟨p,ns,rfl,hq,hC,q⟩:=h;obtain⟨u,rfl,rx⟩:=vals1 r;cases rx;obtain⟨ax,r',pl,hz⟩:=I.list hq;exact Ø (I.ok.hd hc) pl.isList (intsAre_of r') hC λh' t tk hk=>⟨.int _,H,I.kept hk,⟨t,rfl⟩,q⟩
def ff(ns:O Int):Nat:=(firstMet (λi=>ns.getD i 0) ns.length).length
theorem range_getD(ns:O Int):(AW ns.length).map (λi=>ns.getD i 0)=ns:=by
 refine C8 λi=>?_;rw[An];by_cases h:i<ns.length
 .rw[Af (by simpa using h),List.getElem_range,Af h];show al (ns.getD i 0)=_;rw[AX,Af h];rfl
 .rw[A6 (by simpa using h),A6 ∅];rfl
theorem O7{K:Type}[DecidableEq K](l:O K):∀acc:O K,(l.foldl step_dedup acc).length=acc.length+l.length↔l.Nodup/\∀x∈l,x∉acc:=by
 induction l with
 |nil=>intro acc;simp
 |cons x l ih=>
  intro acc;rw[Du];have Ñ:=foldl_step_dedup_length_le (step_dedup acc x) l;unfold step_dedup at Ñ ⊢;by_cases c:acc.any (·==x)=true
  .rw[if_pos c]at Ñ ⊢;have hx:x∈acc:=by
    obtain⟨y,hy,e⟩:=List.any_eq_true.mp c;have:y=x:=by simpa using e
    exact this▸hy
   constructor
   .intro h;rw[Ap]at h;lia
   .intro h;exact absurd hx (h.2 x (.head _))
  .rw[if_neg c]at Ñ ⊢;have hx:x∉acc:=λz=>c (List.any_eq_true.mpr ⟨x,z,by simp⟩);have:=ih (acc++[x]);rw[Ag,DR]at this;have e:acc.length+(x::l).length=acc.length+1+l.length:=by rw[Ap];lia
   rw[e,show(l.foldl (λσ k=>if σ.any (·==k) then σ else σ++[k]) (acc++[x])).length=(l.foldl step_dedup (acc++[x])).length from rfl,this,C3]
   constructor
   .rintro⟨h1,h2⟩;refine⟨⟨λz=>h2 x z (by simp),h1⟩,λy hy=>?_⟩;rcases Au.mp hy with rfl|hy
    .exact hx
    .exact λz=>h2 y hy (by simp[z])
   .rintro⟨⟨h0,h1⟩,h2⟩;refine⟨h1,λy hy z=>?_⟩;rcases Cp.mp z with z|z
    .exact h2 y (.tail _ hy) z
    .have:y=x:=by simpa using z
     exact h0 (this▸hy)
def j3(ns:O Int):ff ns=ns.length↔ns.Nodup:=by
 unfold ff firstMet;rw[range_getD];have:=O7 ns [];simp at this;exact this
section
variable{b:pc}{ta:TA}
def Qo(K:Aa)(ta:TA):TE:=λσ H Q=>ta σ H λvs H1=>∃(q:db) (ns:O Int),vs=[.ref q]/\du K H1 q (ns.map V.int)/\ns.length+1<scanBound/\Q (.int (ff ns)) H1
theorem Kt(K:Aa)(hK:X.K=K)(hc:X.calm=true)(Wc:Gl X "len")(V9:X.mg "len"=bn)(Wb:Gl X "set")(V8:X.mg "set"=bn)(ha:PA X [e] ta)(ø:‹lm [.Call (.Name "set" p1) [e] [] p2] X.env=(false,o0 (.Call (.Name "set" p1) [e] [] p2) X.env)::lm [] X.env›)(hs:‹dY X e []›)(bZ:‹gw X p2 []›):PE X (.Call (.Name "len" p) [.Call (.Name "set" p1) [e] [] p2] [] pos) (Qo K ta):=by
 subst hK;intro Z s σ H Q I h;refine AM (gc I Wc V9 boot_len ?_ ⋯ ⋯);refine DU ?_ ø rfl;refine A7 ?_;refine Call_ (gc I Wb V8 (show u8 "set"=al (.type "set") by rfl) (A9 (bp (ha p2 Z s σ H _ I h) λus s1 ⟨vs,H1,I1,r1,q1⟩=>?_) hs bZ));obtain⟨l,ns,rfl,hq,hb,q⟩:=q1;obtain⟨u,rfl,rx⟩:=vals1 r1;cases rx;obtain⟨ax,r',pl,hz⟩:=I1.list hq;have hi:=intsAre_of r';have Â:ax.length=ns.length:=by rw[<- r'.length,Am]
 refine PySem.call_set_list (I1.ok.hd hc) pl.isList (by simpa using hi) (by rw[Ai,Â];exact hb) λh' tk hS hk=>?_;have hsz:ax.toArray.size=ns.length:=by rw[Ai,Â]
 rw[hsz]at hS;refine BL ?_;obtain⟨o,es,ep,t,ho,ě,hd,_,_,V6,hf,hn⟩:=hS;have h4:=V6;refine call_len_set ho ě hd hf (by unfold scanBound at h4;lia) ?_;rw[hn];exact⟨.int _,H1,(I1.kept λb o e=>hk b o (Aj e) e).tok _,⟨_,rfl⟩,q⟩
end
end L2
namespace FL
section
variable[bD]
variable{K:Aa}
section
open Classical in
noncomputable def Lf(K:Aa)(H:Hp)(x:PV)(w:ce):Bool:=decide (∃p v,RelV v w/\VR K [] H v p/\kf p x=true)
open Classical in
def OS(hK:X.K=K)(I:Inv X Z σ H s){x p:PV}{v:V}{w:ce}(r:RelV v w)(h:VR K [] H v p):Lf K H x w=kf p x:=by
 subst hK;cases e:kf p x with
 |true=>exact decide_eq_true ⟨p,v,r,h,e⟩
 |false=>
  refine decide_eq_false ?_;rintro⟨p',v',r',h',e'⟩;have:=Mw r r';subst this;rw[VR.LQ I h h',e']at e;cases e
theorem wq(hK:X.K=K)(I:Inv X Z σ H s){x:PV}:∀{vs:O V}{ax:O ce}{l:O PV},Vals vs ax->aL K [] H vs l->ax.map (Lf K H x)=l.map λy=>kf y x
 |_,_,_,.nil,.nil=>rfl
 |_,_,_,.cons r t,.cons q z=>by rw[A4,A4,OS hK I r q,wq hK I t z]
def V1(x:PV)(l:O PV):Prop:=PV.fv x=true/\eJ l=true/\dS l<=150
theorem qU(hK:X.K=K)(I:Inv X Z σ H s){x:PV}{v:V}{w:ce}(hx:VR K [] H v x)(rx:RelV v w)(dx:PV.fv x=true)(hu:A.units+150+1<GE):∀{vs:O V}{ax:O ce}{l:O PV},Vals vs ax->aL K [] H vs l->eJ l=true->dS l<=150->∀u∈ax,Ey A s u w (Lf K H x u)
 |_,_,_,.nil,.nil,_,_,u,hu=>by cases hu
 |_,_,_,.cons r t,.cons q z,d,dd,u,hm=>by
  rw[eJ,AB]at d;rw[dS]at dd;rcases Au.mp hm with rfl|hm
  .rw[OS hK I r q];exact(WM hK I 150 _ x A _ v _ w ∅ d.1 dx q hx r rx hu).eq
  .exact qU hK I hx rx dx hu t z d.2 ∅ u hm
end
def yq(x:PV)(l:O PV):Bool:=l.any λy=>kf y x
def U7(K:Aa)(neg:Bool):R2:=λx y H Q=>∃p vs l xp,y=.ref p/\(du K H p vs\/dX K H p vs)/\aL K [] H vs l/\VR K [] H x xp/\V1 xp l/\Q (.bl (if neg then !yq xp l else yq xp l)) H
section
theorem any_map'(f:α->Bool):∀l:List α,l.any f=(l.map f).any id
 |[]=>rfl
 |x::l=>by rw[CG,A4,CG,any_map' f l];rfl
theorem acZ(K:Aa)(hK:X.K=K)(hu:X.A.units+200<GE):gr X (r9 .In) (U7 K false):=by
 intro Z s σ H x y v u Q I rx ry h;obtain⟨p,vs,l,xp,rfl,hq,hl,hx,ok,q⟩:=h;cases ry;have ZA:X.A.in1.units+150+1<GE:=by show X.A.units+1+150+1<_;lia
 have fin:∀{ax:O ce},Vals vs ax->ax.toArray.any (Lf K H xp)=yq xp l:=λ{ax} r=>by
  rw[show ax.toArray.any (Lf K H xp)=ax.any (Lf K H xp) by simp,any_map',wq hK I r hl,<- any_map'];rfl
 rcases hq with hq|hq
 .obtain⟨ax,r,pl,hz⟩:=I.list (show du X.K H p vs by rw[hK];exact hq);refine SeqAt.in_listAt (Lf K H xp) pl.isList (λw hw=>qU hK I hx rx ok.1 ZA r hl ok.2.1 ok.2.2 w (by simpa using hw)) ⟨.bl _,H,I,rfl,?_⟩;rw[fin r];exact q
 .obtain⟨ax,r,pl,hz⟩:=I.tuple (show dX X.K H p vs by rw[hK];exact hq);refine SeqAt.in_tupleAt (Lf K H xp) pl (λw hw=>qU hK I hx rx ok.1 ZA r hl ok.2.1 ok.2.2 w (by simpa using hw)) ⟨.bl _,H,I,rfl,?_⟩;rw[fin r];exact q
theorem QW(K:Aa)(hK:X.K=K)(hu:X.A.units+200<GE):gr X (r9 .NotIn) (U7 K true):=by
 intro Z s σ H x y v u Q I rx ry h;obtain⟨p,vs,l,xp,rfl,hq,hl,hx,ok,q⟩:=h;cases ry;have ZA:X.A.in1.units+150+1<GE:=by show X.A.units+1+150+1<_;lia
 have fin:∀{ax:O ce},Vals vs ax->ax.toArray.any (Lf K H xp)=yq xp l:=λ{ax} r=>by
  rw[show ax.toArray.any (Lf K H xp)=ax.any (Lf K H xp) by simp,any_map',wq hK I r hl,<- any_map'];rfl
 rcases hq with hq|hq
 .obtain⟨ax,r,pl,hz⟩:=I.list (show du X.K H p vs by rw[hK];exact hq);refine SeqAt.notIn_listAt (Lf K H xp) pl.isList (λw hw=>qU hK I hx rx ok.1 ZA r hl ok.2.1 ok.2.2 w (by simpa using hw)) ⟨.bl _,H,I,rfl,?_⟩;rw[fin r];exact q
 .obtain⟨ax,r,pl,hz⟩:=I.tuple (show dX X.K H p vs by rw[hK];exact hq);refine SeqAt.notIn_tupleAt (Lf K H xp) pl (λw hw=>qU hK I hx rx ok.1 ZA r hl ok.2.1 ok.2.2 w (by simpa using hw)) ⟨.bl _,H,I,rfl,?_⟩;rw[fin r];exact q
end
end
section
variable[bD]
variable{K:Aa}
section
variable{b c:pc}
def N8(neg:Bool)(x:PV)(l:O PV):W Bool:=.d8 (V1 x l) (.ret (if neg then !yq x l else yq x l))
def Wr:∀σ H Q,fT K fs (.bind wa λx=>.bind wl λl=>N8 neg x l) fs σ H Q->UD (U7 K neg) (fE K fs wa) (fQ K fs wl) σ H λx H'=>∃k,x=.bl k/\Q k H':=λσ H Q ⟨sr,q⟩=>
 ⟨sr,wa.mono (λx q1 u1 H1 g1 s1 v1=>⟨s1,wl.mono (λl q2 u2 H2 g2 s2 v2=>by
  obtain⟨ad,vs,rfl,h,rs⟩:=v2.sq s2;exact⟨ad,vs,l,x,rfl,h,rs,g2.vr s1 v1,q2.1,_,rfl,q2.2 H2 (g1.trans g2) s2⟩) q1⟩) q⟩
def Mb(hK:X.K=K)(hu:X.A.units+200<GE)(ha:EF X K fs a wa)(hb:QF X K fs b wl)(hk:‹wn .NotIn b=false›):TF X K fs (.Compare a [.NotIn] [b] pos) (.bind wa λx=>.bind wl λl=>N8 true x l):=⟨PT.imp (j5 (QW K hK hu) ha.p hb.p hk) (Wr)⟩
abbrev Zt(neg:Bool)(wa:W PV)(wl:W (O PV)):W Bool:=.bind wa λx=>.bind wl λl=>N8 neg x l
def xZ(l:O PV):W PV:=.bind (oB l) λns=>.d8 (ns≠[]) (.ret (.int (KI ns)))
def iD(l:O PV):W PV:=.bind (oB l) λns=>.d8 (ns.length+1<scanBound) (.ret (.int (ff ns)))
def KZ{C:O Int->Prop}{g:O Int->Int}{f:O PV->W PV}(hf:∀{l:O PV}{Q:PV->Prop},(f l).run Q->∃ns:O Int,l=ns.map PV.int/\C ns/\Q (.int (g ns))):∀σ H Q,fE K fs (.bind wl f) fs σ H Q->tCB (MH K C g) (SO (fQL K fs wl) X4) σ H Q:=λσ H Q ⟨sr,q⟩=>⟨sr,wl.mono (λl q1 u1 H1 g1 s1 _ v1=>by
 obtain⟨ns,el,hC,q2⟩:=hf q1;obtain⟨a,vs,rfl,h1,r1⟩:=v1 _ H1 .refl s1;rw[el]at r1;have:=j9 r1;subst this;exact⟨a,ns,rfl,h1,hC,q2 _ H1 g1 s1 (.int _)⟩) q⟩
def KH{Q:PV->Prop}(h:(xZ l).run Q):∃ns:O Int,l=ns.map PV.int/\ns≠[]/\Q (.int (KI ns)):=let ⟨ns,e,q⟩:=ka h;⟨ns,e,q.1,q.2⟩
def WD(hK:X.K=K)(hc:X.calm=true)(hg:Gl X "max")(hm:X.mg "max"=bn)(ha:LB X K fs e wl)(he:‹dY X e []›)(bZ:‹gw X pos []›):EF X K fs (.Call (.Name "max" p) [e] [] pos) (.bind wl xZ):=⟨PE.imp (bM (Lv K hK hc λa b c d q=>KG a b c d q) hg hm boot_max (aj ha.p aJ he) ⋯ ⋯ he bZ) (KZ KH)⟩
def yM(hK:X.K=K)(hc:X.calm=true)(Wc:Gl X "len")(V9:X.mg "len"=bn)(Wb:Gl X "set")(V8:X.mg "set"=bn)(ha:LB X K fs e wl)(ø:‹lm [.Call (.Name "set" p1) [e] [] p2] X.env=(false,o0 (.Call (.Name "set" p1) [e] [] p2) X.env)::lm [] X.env›)(hs:‹dY X e []›)(bZ:‹gw X p2 []›):EF X K fs (.Call (.Name "len" p) [.Call (.Name "set" p1) [e] [] p2] [] pos) (.bind wl iD):=⟨PE.imp (Kt K hK hc Wc V9 Wb V8 (aj ha.p aJ hs) ø hs bZ) λσ H Q ⟨sr,q⟩=>⟨sr,wl.mono (λl q1 u1 H1 g1 s1 _ v1=>by
 obtain⟨ns,el,hC,q2⟩:=ka q1;obtain⟨a,vs,rfl,h1,r1⟩:=v1 _ H1 .refl s1;rw[el]at r1;have:=j9 r1;subst this;exact⟨a,ns,rfl,h1,hC,q2 _ H1 g1 s1 (.int _)⟩) q⟩⟩
end
end
section
variable[bD]
variable{K:Aa}
section
variable{rest:O ut}{T:Type}{out:T->End}{x:Bool}
def adp(l:O PV):PV->W PV
 |.int k=>.d8 (0<=k/\k<1000) (.Tc l[k.toNat]?)
 |_=>.fail
def Yr(l:O PV)(i j:PV)(m:O PV):W (O PV):=match i,j with
 |.int a,.int c=>.d8 (0<=a/\a<=c/\c<=l.length/\l.length+m.length<=sizeLine) (.ret (l.take a.toNat++m++l.drop c.toNat))
 |_,_=>.fail
def SF.Yq(i:Nat){lo hi:pc}{k:O PV->W T}(hs:fs[i]?=al (al (.ol q0 l)))(hN:X.N[i]?=al y)(hv:rN X.env.scope y)(he:LF X K fs e wl)(hl:EF X K fs lo wa)(hh:EF X K fs hi wb)(hr:∀l',SF X K x (fs.set i (al (.ol q0 l'))) rest (k l') out)(ha:∀v,KB (.Subscript (.Name y p) (.Slice (al lo) (al hi) bn p2) kl) X.env v=(do
   let ov <- sK [v] (o0 (.Name y p) X.env)
   let iv <- sK [v,ov] (o0 (.Slice (al lo) (al hi) bn p2) X.env)
   Ix kl
   sK [v,ov,iv] (Rs ov iv v)
   release [iv,v,ov] []):=by intro _;rfl)(hd: ~~~(d6 y))(dr: ~~~(rP y))(ZD:‹xL [.Subscript (.Name y p) (.Slice (al lo) (al hi) bn p2) kl] e pos.line X.env=pure false›)(hw:‹zn [.Subscript (.Name y p) (.Slice (al lo) (al hi) bn p2) kl] e X.env=pure bn›)(h1:‹(IR [.Subscript (.Name y p) (.Slice (al lo) (al hi) bn p2) kl] X.env).map (·.2)=[KB (.Subscript (.Name y p) (.Slice (al lo) (al hi) bn p2) kl) X.env]›):SF X K x fs (.Assign [.Subscript (.Name y p) (.Slice (al lo) (al hi) bn p2) kl] e pos::rest) (.bind wl λm=>.bind wa λa=>.bind wb λb=>.bind (Yr l a b m) k) out:=
 SF.step (zV he.p (M5 (cO hN hv hd dr) hl.p hh.p ha) ZD hw h1) λD σ H ⟨sr,q⟩=>by
  refine⟨sr,wl.mono (λm q1 b vb H1 g1 s1 nb eb rb=>?_) q⟩;obtain⟨a,ws,e1,h1,r1⟩:=c8 s1 hs;refine⟨_,e1,s1,wa.mono (λi1 q2 u2 H2 g2 s2 v2=>⟨s2,wb.mono (λj1 q3 u3 H3 g3 s3 v3=>?_) q2⟩) q1⟩;obtain⟨a',ā,e3',RO,í⟩:=c8 s3 hs;rw[e1]at e3';cases e3';have XW:=g3.vr s2 v2;have no:¬cu σ fs b:=sr.noOwn nb;have eb3:=(g2.trans g3).mn eb no;have rb3:=(g2.trans g3).Iq s1 rb;have ne:a≠b:=λz=>no ⟨i,_,a,hs,rfl,e1,.inl z.symm⟩;cases XW with
  |int aa=>
   cases v3 with
   |int cc=>
    have q3:(0<=aa/\aa<=cc/\cc<=l.length/\l.length+m.length<=sizeLine)/\(k (l.take aa.toNat++m++l.drop cc.toNat)).run _:=q3;obtain⟨⟨c1,c2,c3,c4⟩,q3⟩:=q3;refine⟨a,b,ā,vb,aa,cc,rfl,rfl,rfl,rfl,RO,eb3,ne,c1,c2,by rw[í.length];exact c3,by rw[í.length,rb3.length];exact c4,?_⟩;have sx:kO a H3 (upd H3 a (.lst (ā.take aa.toNat++vb++ā.drop cc.toNat))):=λz o n hz=>by rw[ah n];exact hz
    obtain⟨s4,g4⟩:=gD s3 hs e1 sx aw (((í.take aa.toNat).append rb3).append (í.drop cc.toNat));exact⟨_,k _,hr _,s4,(k _).mono (λt q4=>q4.go (((g1.trans g2).trans g3).f.trans g4) sr s4) q3⟩
   |_=>exact q3.elim
  |_=>exact q3.elim
def UZ(l:O PV)(v:PV):W (O PV):=match v with
 |.int k=>.bind (oB l) λns=>.d8 (k∈ns) (.ret ((ns.erase k).map PV.int))
 |_=>.fail
theorem SF.remove(i:Nat){k:O PV->W T}(hs:fs[i]?=al (al (.ol q0 l)))(hK:X.K=K)(hN:X.N[i]?=al y)(hv:rN X.env.scope y)(he:EF X K fs e we)(hr:∀l',SF X K x (fs.set i (al (.ol q0 l'))) rest (k l') out)(hd: ~~~(d6 y))(dr: ~~~(rP y))(cY:‹sB (.Name y p) "remove" X.env (o0 (.Name y p) X.env)=o0 (.Name y p) X.env›)(nK:‹W6 X bN [e]›)(dR:‹P7 Á bN›)(k6:‹dY X e []›)(eI:‹gw X bN []›)(o5:‹r6 (.Call (.Attribute (.Name y p) "remove" Á) [e] [] bN) bn pos.line X.env=pure false›):SF X K x fs (.Expr (.Call (.Attribute (.Name y p) "remove" Á) [e] [] bN) pos::rest) (.bind we λv=>.bind (UZ l v) k) out:=
 SF.step (iH (ni K hK Cm PySem.F.slot_list_remove PySem.F.type_list_remove G1 (cO hN hv hd dr) (aj he.p aJ k6) cY nK dR k6 eI) o5) λD σ H ⟨sr,q⟩=>by
  obtain⟨a,ws,e1,h1,r1⟩:=c8 sr hs;refine⟨_,e1,.inl ⟨rfl,_,du.of h1⟩,sr,we.mono (λv q1 u H1 g1 s1 v1=>?_) q⟩;obtain⟨a',sZ,wF,gH,zl⟩:=c8 s1 hs;rw[e1]at wF;cases wF;cases v1 with
  |int kk=>
   obtain⟨ns,el,hk,q2⟩:=ka (l:=l) q1;subst el;have:=j9 zl;subst this;refine⟨a,ns,kk,rfl,rfl,gH,hk,λH2 sx h2=>?_⟩;obtain⟨s2,g2⟩:=gD s1 hs e1 sx h2 (pH _ _ (ns.erase kk));exact⟨_,k _,hr _,s2,(k _).mono (λt q3=>q3.go (g1.f.trans g2) sr s2) q2⟩
  |_=>exact q1.elim
end
end
end FL
variable{vs:O (L2.Key×L2.V)}{az:O (L2.Key×PL.PV)}{q:L2.Key×PL.PV}
namespace FL
section
variable[bD]
variable{K:Aa}
abbrev w2(f:PV->PV->W PV)(wa wb:W PV):W PV:=.bind wa λx=>.bind wb λy=>f x y
def spC(K:Aa)(us:O V)(qs:O PV)(fz:O (db×Obj))(sp:Sp):Sp:=λvs H Q E=>aL K [] H us qs/\oK H fz/\sp vs H Q E
structure W8(P:tz)(w:wS)(K:Aa)(mg:Str->Option ce)(base:nn)(f:db)(us:List V)(qs:List PV)(fz:List (db×Obj))(k:Nat)(ps:List Str)(sp:Sp) where
 fd:wp
 ok:bz P w K mg base jo k f fd ps (spC K us qs fz sp)
 bi:Binds K fd ps []
 kp:∀h:nn,K.In h->(∀b o,base.get? b=al o->h.get? b=al o)->(∀p∈fz,h.get? p.1=al p.2)->Dz f h
section
variable{x:Str}{R:Type}{B:(O PV->W R)->W R}{us:O V}
def aeD(hg:Gl X x)(hm:X.mg x=al (.ref fa))(hr:AF X K fs es ks B)(hd: ~~~(d6 x))(k6:‹lm (.Name x pos::es) X.env=(false,o0 (.Name x pos) X.env)::lm es X.env›):AF X K fs (.Name x pos::es) (.f fa [] [] []::ks) B:=by
 obtain⟨wr,hp,hB⟩:=hr.p;exact⟨wr,PA.imp (aj (eM (v:=.ref fa) hg hm rfl hd) hp k6) λσ H Q ⟨sr,q⟩=>⟨sr,wr.mono (λl q2 vs H2 g2 s2 v2=>q2 _ H2 g2 s2 (.f .nil .nil v2)) q⟩,hB⟩
def R8{m:O PV->W PV}{B:(O PV->W PV)->W PV}(i:Nat)(G:W8 X.prog X.w X.K X.mg X.base fa us qs fz k ps (n9 K ks m))(hK:X.K=K)(hr:bI k' X.A)(hk:k<=k')(hs:fs[i]?=al (al (.adr fa us qs fz)))(ha:AF X K fs (e::es) ks B)(hW:W'=B m)(hN:‹X.N[i]?=al x›)(hv:rN X.env.scope x:=by first|exact BA rfl|exact BE (BA rfl)|exact BE (BE rfl))(hd: ~~~(d6 x))(dr: ~~~(rP x))(he:‹dY X e es›)(bZ:‹gw X pos es›):EF X K fs (.Call (.Name x p) (e::es) [] pos) W':=by
 subst hW hK;obtain⟨w,hp,hB⟩:=ha.p;rw[hB];refine⟨λZ s σ H Q I ⟨sr,q⟩=>?_⟩;obtain⟨u,e1,r⟩:=sr.at' i _ hs;rcases r with⟨v,e,_⟩|⟨a,e,r⟩
 .cases e
 obtain⟨rfl,rv,rz⟩:a=fa/\aL X.K [] H us qs/\oK H fz:=r;subst e;refine AM (bp (cO hN hv hd dr Z s σ H (λy H1=>y=.ref a/\H1=H) I ⟨_,e1,rfl,rfl⟩) λv s1 ⟨y,H1,I1,r1,ey,eH⟩=>?_);subst ey;subst eH;cases r1;have kz:∀{σ':L2.St}{H':Hp}{s':gt},Inv X Z σ' H' s'->oK H' fz->Dz a s'.heap:=λJ z=>G.kp _ J.fm J.bk λp hp=>let ⟨u,e⟩:=z p hp;(J.aX _ _ e).1;refine Eu (kz I1 rz) (bp (hp pos Z s1 σ H1 (λvs H2=>oK H2 fz/\spC X.K us qs fz (n9 X.K ks m) (vs++[]) H2 Q E0) I1 ⟨sr,w.mono (λl q1 vs H1' g1 S0 v1=>?_) q⟩) λă s2 ⟨vs,H2,I2,r,z2,q2⟩=>⟨kz I2 z2,qd G.ok (hr.mono hk) G.bi .nil om I2 r q2⟩) he bZ;have z1:=rz.tk (g1.cC sr);show oK H1' fz/\spC X.K us qs fz (n9 X.K ks m) (vs++[]) H1' Q E0;rw[A8];exact⟨z1,aL.tk (g1.cC sr) rv,z1,S0.tb,0,l,v1.c,(m l).mono (λz q2 u H2 g2 r2=>let ⟨s2,g3⟩:=g2.caller v1 S0;q2 u H2 (g1.trans g3) s2 r2) q1⟩
end
def Hg:PV->W Key
 |.int i=>.ret (.inl i)
 |.str s=>.ret (.inr s)
 |_=>.fail
def o6(az:O (Key×PV))(k:Key):Bool:=az.any λkv=>decide (kv.1=k)
def zT(az:O (Key×PV))(k:Key)(v:PV):O (Key×PV):=if o6 az k=true then az.map (λkv=>if kv.1=k then (kv.1,v) else kv) else az++[(k,v)]
def dW(K:Aa)(H:Hp)(vs:O (Key×V))(az:O (Key×PV)):Prop:=vs.map (·.1)=az.map (·.1)/\aL K [] H (vs.map (·.2)) (az.map (·.2))
section
def dW.cons_inv{p:Key×V}(h:dW K H (p::vs) (q::az)):p.1=q.1/\VR K [] H p.2 q.2/\dW K H vs az:=by
 obtain⟨h1,h2⟩:=h;injection h1 with a b;cases h2 with
 |cons r t=>exact⟨a,r,b,t⟩
def dW.mk{p:Key×V}(e:p.1=q.1)(r:VR K [] H p.2 q.2)(h:dW K H vs az):dW K H (p::vs) (q::az):=⟨by rw[A4,A4,e,h.1],.cons r h.2⟩
theorem dW.ind{C:O (Key×V)->O (Key×PV)->Prop}(h0:C [] [])(h1:∀p q vs az,p.1=q.1->VR K [] H p.2 q.2->dW K H vs az->C vs az->C (p::vs) (q::az)):∀{vs az},dW K H vs az->C vs az
 |[],[],_=>h0
 |[],_::_,h=>by simp[dW]at h
 |_::_,[],h=>by simp[dW]at h
 |p::vs,q::az,h=>let ⟨a,b,c⟩:=h.cons_inv;h1 p q vs az a b c (dW.ind h0 h1 c)
def dW.has(h:dW K H vs az)(k:Key):(oM vs k).isSome=o6 az k:=by
 rw[<- lL];refine dW.ind (C:=λvs az=>(vs.any λkv=>decide (kv.1=k))=az.any λkv=>decide (kv.1=k)) rfl (λp q vs az e _ _ ih=>?_) h;rw[CG,CG,ih,e]
def dW.put(h:dW K H vs az)(k:Key)(r:VR K [] H u v):dW K H (putK vs k u) (zT az k v):=by
 have hh:(vs.any λkv=>decide (kv.1=k))=o6 az k:=by rw[lL];exact h.has k
 unfold putK zT;rw[hh]
 split
 .refine dW.ind (C:=λvs az=>dW K H (vs.map λkv=>if kv.1=k then (kv.1,u) else kv) (az.map λkv=>if kv.1=k then (kv.1,v) else kv)) ⟨rfl,.nil⟩ (λp q vs az e rr _ ih=>?_) h;rw[A4,A4];by_cases c:p.1=k
  .rw[if_pos c,if_pos (e▸c)];exact dW.mk e r ih
  .rw[if_neg c,if_neg (e▸c)];exact dW.mk e rr ih
 .refine dW.ind (C:=λvs az=>dW K H (vs++[(k,u)]) (az++[(k,v)])) ⟨rfl,.cons r .nil⟩ (λp q vs az e rr _ ih=>dW.mk e rr ih) h
def dW.length(h:dW K H vs az):vs.length=az.length:=by
 have:=congrArg Dg h.1;simpa using this
end
section
variable{ei:pc}{rest:O ut}{T:Type}{out:T->End}{x:Bool}
def vg(sr:aQ K H σ fs)(hs:fs[i]?=al (al (.od az))):∃a vs,σ[i]?=al (al (.ref a))/\H a=al (.dK vs)/\dW K H vs az:=by
 obtain⟨u,e1,r⟩:=sr.at' i _ hs;rcases r with⟨v,e,_⟩|⟨a,e,vs,q1,q2,q3⟩
 .cases e
 .subst e;exact⟨a,vs,e1,q1,q2,q3⟩
def SF.acM{k:W T}(hN:X.N.Nodup)(hi:X.N[i]?=al y)(hx:Loc X.env.scope y)(hr:SF X K x (fs.set i (al (.od []))) rest k out)(hs:‹r6 (.Dict [] [] p2) (al (.Name y p')) pos.line X.env=pure false›)(hf:Px X y:=by first|exact .inl rfl|exact .inr rfl|assumption):SF X K x fs (.Assign [.Name y p'] (.Dict [] [] p2) pos::rest) k out:=SF.step (dI hN hi hx M9 hs hf) λD σ H ⟨sr,q⟩=>λa H1 s1 e1 n1=>by
 have no:=sr.noOwn n1;have s2:=(sr.same s1).qg (t:=.od []) ⟨[],e1,rfl,.nil⟩ no i;exact⟨_,k,hr,s2,k.mono (λt q2=>q2.go (cJ.qg (sr.same s1) (cK.same s1) no n1 i) sr s2) q⟩
def Tv{Q:Key->Prop}(r:VR K [] H u v)(q:(Hg v).run Q):∃k,u=kV k/\Q k:=by
 cases r with
 |int i=>exact⟨.inl i,rfl,q⟩
 |str s=>exact⟨.inr s,rfl,q⟩
 |_=>exact q.elim
def RG(i:Nat)(hs:fs[i]?=al (al (.od az)))(hN:X.N[i]?=al y):∀σ H Q,fT K fs (.bind wa λx=>.bind (Hg x) λk=>.ret (if neg then !o6 az k else o6 az k)) fs σ H Q->(fE K fs wa) σ H λu H1=>(UB i) σ H1 λz H2=>∃a o,z=.ref a/\LG H2 a u o/\(∃b,(V.bl (if neg then !o.isSome else o.isSome))=.bl b/\Q b H2):=λσ H Q ⟨sr,q⟩=>
 ⟨sr,wa.mono (λv q1 u H1 g1 s1 v1=>by
  obtain⟨k,rfl,q2⟩:=Tv v1 q1;obtain⟨a,vs,e1,h1,r1⟩:=vg s1 hs;refine⟨_,e1,a,_,rfl,LG.k h1,_,rfl,?_⟩;rw[r1.has k];exact q2 H1 g1 s1) q⟩
theorem XZ(i:Nat)(hs:fs[i]?=al (al (.od az)))(hu:X.A.units+200<GE)(ha:EF X K fs a wa)(hN:‹X.N[i]?=al y›)(hv:rN X.env.scope y:=by first|exact BA rfl|exact BE (BA rfl)|exact BE (BE rfl))(hd: ~~~(d6 y))(dr: ~~~(rP y))(hk:‹wn .In (.Name y p)=false›):TF X K fs (.Compare a [.In] [.Name y p] pos) (.bind wa λx=>.bind (Hg x) λk=>.ret (o6 az k)):=⟨PT.imp (Va (Vh ∅ ha.p (cO hN hv hd dr)) hk) (RG (neg:=false) i hs hN)⟩
def U9(az:O (Key×PV))(n v:PV):W (O (Key×PV)):=.bind (Hg n) λkk=>.d8 (az.length<sizeLine) (.ret (zT az kk v))
theorem SF.putD(i:Nat){k:O (Key×PV)->W T}(hs:fs[i]?=al (al (.od az)))(hu:X.A.units+200<GE)(hN:X.N[i]?=al y)(hv:rN X.env.scope y)(he:EF X K fs e we)(hi:EF X K fs ei wi)(hr:∀l',SF X K x (fs.set i (al (.od l'))) rest (k l') out)(hd: ~~~(d6 y))(dr: ~~~(rP y))(o5:‹r6 e (al (.Subscript (.Name y p) ei kl)) pos.line X.env=pure false›):SF X K x fs (.Assign [.Subscript (.Name y p) ei kl] e pos::rest) (.bind we λv=>.bind wi λn=>.bind (U9 az n v) k) out:=
 SF.step (QI ∅ (cO hN hv hd dr) hi.p he.p o5) λD σ H ⟨sr,q⟩=>by
  refine⟨sr,we.mono (λv q1 u H1 g1 s1 v1=>?_) q⟩;obtain⟨a,vs,e1,h1,r1⟩:=vg s1 hs;refine⟨_,e1,s1,wi.mono (λn q2 u2 H2 g2 s2 v2=>?_) q1⟩;obtain⟨kk,rfl,hz,q3⟩:=Tv v2 q2;obtain⟨a',J8,wF,gH,zl⟩:=vg s2 hs;rw[e1]at wF;cases wF;refine⟨a,_,rfl,PJ.k gH (by rw[zl.length];exact hz),?_⟩;have sx:kO a H2 (upd H2 a (.dK (putK J8 kk u))):=λz o n hz=>by rw[ah n];exact hz
  obtain⟨s3,g3⟩:=kX (t':=.od (zT az kk v)) s2 hs rfl (by simp) e1 sx λtk=>⟨_,aw,(zl.put kk (g2.vr s1 v1)).1,aL.tk tk (zl.put kk (g2.vr s1 v1)).2⟩;exact⟨_,k _,hr _,s3,(k _).mono (λt q4=>q4.go ((g1.trans g2).f.trans g3) sr s3) q3⟩
end
end
section
variable[bD]
variable{K:Aa}
section
variable{st:ut}
def WW(b0:Nat)(hs:fs[b0]?=al (al t))(h:AS X K (fs.set b0 (al (.val t.bv))) st i wl f1)(hb:‹t.bw=true›):AS X K fs st i (.bind wl L9) (f1.set b0 (al t)):=⟨λZ s σ H D I ⟨sr,q⟩=>by
 obtain⟨a,o,ob,I2,s2,İ⟩:=bor I sr hs hb;refine bp (h.p Z s σ _ {nx:=λσ' H1=>∃b vs l',σ'=σ.set i (al (.ref b))/\cK σ (fs.set b0 (al (.val t.bv))) (upd H a (.cU ob o)) H1 f1/\aQ K H1 σ f1/\upd H a (.cU ob o) b=bn/\H1 b=al (.lst vs)/\aL K [] H1 vs l'/\sP l'=true/\∀a vs H',cK σ fs H H' (f1.set b0 (al t))->aQ K H' σ (f1.set b0 (al t))->H a=bn->H' a=al (.lst vs)->aL K [] H' vs l'->D.nx (σ.set i (al (.ref a))) H',rt:=D.rt,bk:=D.bk,ct:=D.ct} I2 ⟨s2,wl.mono (λl' q1 b vs H1 g1 s1 n e v1=>⟨b,vs,l',rfl,g1,s1,n,e,v1,q1.1,q1.2⟩) q⟩) λf s1 q1=>?_;cases f with
 |next=>
  obtain⟨σ',H1,I1,b,vs,l',rfl,g1,S0,n,eb,v1,d,q1⟩:=q1;obtain⟨I3,g3,s3,t3,k3⟩:=İ _ s1 H1 _ I1 g1 S0;have nb:b≠a:=λy=>by subst y;rw[aw]at n;cases n
  exact⟨_,_,I3,q1 b vs _ g3 s3 (by rw[ah nb]at n;exact n) (k3 b vs nb eb) (aL.mK t3 v1 d)⟩
 |ret v=>exact q1
 |brk=>exact q1
 |cont=>exact q1⟩
end
section
variable{c:pc}{T2:Type}{wt:PV->W T2}{tf:T2->W Bool}{te:T2->W PV}
def WV{tf:PV->W Bool}{te:PV->W PV}(hc:X.calm=true)(hN:X.N.Nodup)(vL:X.N[i]?=al y)(hx:X.env.scope.names.lookup y=al .local)(S:bE X.env.scope X.N sc N' ix)(hi:oJ X K fs tg iter wl f1)(hg:∀cl C s2 H2 fp,PG (d9 X sc N' cl C s2 H2 fp) tg (ig j))(hf:∀cl C s2 H2 fp t,TF (d9 X sc N' cl C s2 H2 fp) K ((bC ix f1).set j (al (.val t))) c (tf t))(he:∀cl C s2 H2 fp t,EF (d9 X sc N' cl C s2 H2 fp) K ((bC ix f1).set j (al (.val t))) Å (te t))(h0:ix[j]?=al bn)(o5:‹r6 (.ListComp Å [⟨tg,iter,[c],0⟩] sc pos) (al (.Name y px)) ko.line X.env=pure true›)(hs:rB X iter:=by intro _;rfl):AS X K fs (.Assign [.Name y px] (.ListComp Å [⟨tg,iter,[c],0⟩] sc pos) ko) i (.bind wl λl=>nA l λp=>VL (tf p) (te p)) f1:=
 have h1:(bC ix f1)[j]?=al bn:=by unfold bC;rw[An,h0];rfl
 Uj (wt:=.ret) (tf:=tf) (te:=te) hc hN vL hx S hi (λcl C s2 H2 fp=>ZW (hg cl C s2 H2 fp)) (λcl C s2 H2 fp t=>HF (hf cl C s2 H2 fp t)) he (λ_=>rfl) (VM h1) (λm hj=>by rw[Cz]at hj;subst hj;exact h0) o5 hs
end
end
section
variable[bD]
variable{K:Aa}
section
variable{rest:O ut}{t1 t2:Pos}{T:Type}{out:T->End}{x:Bool}{w1:W PV}{w2:O PV->W PV}
def SF.acN(i:Nat){k:O PV->W T}(hs:fs[i]?=al (al (.ol q0 l)))(hK:X.K=K)(hc:X.calm=true)(hN:X.N[i]?=al y)(hv:rN X.env.scope y)(he:EF X K fs e we)(h1:EF X K fs e1 w1)(h2:∀l1,EF X K (fs.set i (al (.ol q0 l1))) e2 (w2 l1))(hr:∀l',SF X K x (fs.set i (al (.ol q0 l'))) rest (k l') out)(ha1:∀v,KB (.Subscript (.Name y p) e1 t1) X.env v=(do
   let ov <- sK [v] (o0 (.Name y p) X.env)
   let iv <- sK [v,ov] (o0 e1 X.env)
   Ix t1
   sK [v,ov,iv] (Rs ov iv v)
   release [v,ov,iv] []):=by intro _;rfl)(ha2:∀v,KB (.Subscript (.Name y p1) e2 t2) X.env v=(do
   let ov <- sK [v] (o0 (.Name y p1) X.env)
   let iv <- sK [v,ov] (o0 e2 X.env)
   Ix t2
   sK [v,ov,iv] (Rs ov iv v)
   release [v,ov,iv] []):=by intro _;rfl)(hd: ~~~(d6 y))(dr: ~~~(rP y))(ZD:‹xL [.Tuple [.Subscript (.Name y p) e1 t1,.Subscript (.Name y p1) e2 t2] kt pt] e pos.line X.env=pure false›)(hw:‹zn [.Tuple [.Subscript (.Name y p) e1 t1,.Subscript (.Name y p1) e2 t2] kt pt] e X.env=pure bn›)(h3:‹(IR [.Tuple [.Subscript (.Name y p) e1 t1,.Subscript (.Name y p1) e2 t2] kt pt] X.env).map (·.2)=[KB (.Tuple [.Subscript (.Name y p) e1 t1,.Subscript (.Name y p1) e2 t2] kt pt) X.env]›):SF X K x fs (.Assign [.Tuple [.Subscript (.Name y p) e1 t1,.Subscript (.Name y p1) e2 t2] kt pt] e pos::rest) (.bind we λv=>.bind (J9 v) λt=>.bind w1 λn=>.bind (oP l n t.1) λl1=>.bind (w2 l1) λm=>.bind (oP l1 m t.2) k) out:=
 SF.step (zV he.p (kU hc (cf (zX (cO hN hv hd dr) h1.p m5 ha1) (cf (zX (cO hN hv hd dr) (t:=MC) (ti:=λσ H Q=>∃l1,fE K (fs.set i (al (.ol q0 l1))) (w2 l1) (fs.set i (al (.ol q0 l1))) σ H Q) (λZ s σ H Q I ⟨l1,q⟩=>(h2 l1).p Z s σ H Q I q) m5 ha2) iJ))) ZD hw h3) λD σ H ⟨sr,q⟩=>by
  subst hK;refine⟨sr,we.mono (λv q1 u H1 g1 s1 v1=>?_) q⟩;have q1:(J9 v).run _:=q1;unfold J9 at q1
  split at q1
  .rename_i a b _;cases v1 with
   |tup ea rs=>
    cases rs with
    |cons ra rs=>
    cases rs with
    |cons rb rs=>
    cases rs;refine⟨_,_,rfl,dX.of ea,rfl,_,_,rfl,?_⟩;obtain⟨ad,ws,k1,k2,k3⟩:=c8 s1 hs;refine⟨_,k1,s1,w1.mono (λn q2 u2 H2 g2 s2 v2=>?_) q1⟩;obtain⟨ad',sZ,Tz,Xk,Tw⟩:=c8 s2 hs;rw[k1]at Tz;cases Tz;cases v2 with
    |int kk=>
     have q2:(match sC l.length kk with|some j=>ap (l.set j a)|none=>W.fail).run _:=q2;cases hj:sC l.length kk with
     |none=>rw[hj]at q2;exact q2.elim
     |some j=>
      rw[hj]at q2;refine⟨ad,sZ,kk,j,rfl,rfl,Xk,by rw[Tw.length];exact hj,λH3 sx h3=>?_⟩;obtain⟨s3,g3⟩:=gD s2 hs k1 sx h3 (Tw.set (g2.vr s1 ra) j);have q2:(w2 (l.set j a)).run _:=q2;have hs3:(fs.set i (al (SL.ol q0 (l.set j a))))[i]?=al (al (.ol q0 (l.set j a))):=bq (Al.mp hs).1;refine⟨_,_,rfl,_,k1,_,s3,(w2 (l.set j a)).mono (λm q3 u4 H4 g4 s4 v4=>?_) q2⟩;obtain⟨ad',ws4,Tz,Xk,Tw⟩:=c8 s4 hs3;rw[k1]at Tz;cases Tz;cases v4 with
      |int k5=>
       have q3:(match sC (l.set j a).length k5 with|some j2=>ap ((l.set j a).set j2 b)|none=>W.fail).run _:=q3;cases RL:sC (l.set j a).length k5 with
       |none=>rw[RL]at q3;exact q3.elim
       |some j2=>
        rw[RL]at q3;have rb4:VR _ [] H4 _ b:=g4.vr s3 (g3.vr s2 (g2.vr s1 rb));refine⟨ad,ws4,k5,j2,rfl,rfl,Xk,by rw[Tw.length];exact RL,λH5 sx5 h5=>⟨rfl,?_⟩⟩;obtain⟨s5,g5⟩:=gD s4 hs3 k1 sx5 h5 (Tw.set rb4 j2);have ee:(fs.set i (al (SL.ol q0 (l.set j a)))).set i (al (SL.ol q0 ((l.set j a).set j2 b)))=fs.set i (al (SL.ol q0 ((l.set j a).set j2 b))):=List.set_set ..;rw[ee]at s5 g5;exact⟨_,k _,hr _,s5,(k _).mono (λt q5=>q5.go ((g1.trans g2).f.trans (g3.trans (g4.f.trans g5))) sr s5) q3⟩
      |_=>exact q3.elim
    |_=>exact q2.elim
  .exact q1.elim
end
end
section
variable[bD]
variable{K:Aa}
def aaK(K:Aa)(H:Hp)(vs:O (O Key×V))(az:O (O Key×PV)):Prop:=vs.map (·.1)=az.map (·.1)/\aL K [] H (vs.map (·.2)) (az.map (·.2))
def Sy(K:Aa)(H:Hp)(ob:HO)(v:PV):Prop:=(∃vs az,ob=.dK vs/\v=dvK az/\dW K H vs az)\/∃vs az,ob=.dT vs/\v=dvT az/\aaK K H vs az
def fDv(K:Aa)(fs:aY)(w:W PV):TE:=λσ H Q=>aQ K H σ fs/\w.run λv=>∀a ob H',cK σ fs H H'->aQ K H' σ fs->H a=bn->H' a=al ob->Sy K H' ob v->Q (.ref a) H'
structure DVF(X:Cx)(K:Aa)(fs:aY)(e:pc)(w:W PV):Prop where p:PE X e (fDv K fs w)
section
variable{σ:L2.St}{fs:aY}{H:Hp}{a:db}{ob:HO}{v:PV}
def aQ.Ys(s:aQ K H σ fs)(n:¬cu σ fs a)(e:H a=al ob)(n1:∀vs,ob≠.tup vs)(n2:∀o u,ob≠.cU o u)(n3:ob.ow=true)(o':HO):aQ K (upd H a o') σ fs:=⟨s.len,λi t q=>by
 obtain⟨u,h1,h2⟩:=s.at' i t q;exact⟨u,h1,h2.mono (fX o' e n1 n2) (λx b o eb ow hb z _=>by subst eb;rw[ah (λy:b=a=>n ⟨i,t,x,q,ow,h1,y▸hb⟩)];exact z)⟩,s.nd,s.tb.IV (λb o n z=>by rw[ah n];exact z) e (Nf n3) n2⟩
def Sy.cU{X:Cx}{Z:O (db×Obj)}{s:gt}{σ':L2.St}(I:Inv X Z σ' H s)(e:H a=al ob)(d:Sy K H ob v):∃u,Inv X Z σ' (upd H a u) s/\VR K [] (upd H a u) (.ref a) v/\(∀vs,ob≠.tup vs)/\(∀o u,ob≠.cU o u)/\ob.ow=true:=by
 rcases d with⟨vs,az,rfl,rfl,d1,d2⟩|⟨vs,az,rfl,rfl,d1,d2⟩
 .obtain⟨o,I2⟩:=I.JA e;exact⟨_,I2,.dk aw (Tu d1) (aL.tk (fX _ e (by simp) (by simp)) d2),by simp,by simp,rfl⟩
 .obtain⟨o,I2⟩:=I.freeze e;exact⟨_,I2,.dt aw (Tt d1) (aL.tk (fX _ e (by simp) (by simp)) d2),by simp,by simp,rfl⟩
end
section
variable{w:W PV}
def aeu(h:DVF X K fs e w):EF X K fs e w:=⟨λZ s σ H Q I ⟨sr,q⟩=>by
 refine bp (h.p Z s σ H (λu H1=>∃a ob v,u=.ref a/\cK σ fs H H1/\aQ K H1 σ fs/\H a=bn/\H1 a=al ob/\Sy K H1 ob v/\∀u H',cK σ fs H H'->aQ K H' σ fs->VR K [] H' u v->Q u H') I ⟨sr,w.mono (λv q1 a ob H1 g1 s1 n e d=>⟨a,ob,v,rfl,g1,s1,n,e,d,q1⟩) q⟩) λu s1 ⟨v,H1,I1,r1,a,ob,v',e,g1,S0,n,ea,d,q1⟩=>?_;subst e;obtain⟨o',I2,vr,n1,n2,n3⟩:=d.cU I1 ea;exact⟨.ref a,_,I2,r1,q1 _ _ (g1.side n (λφ z=>by rw[ea]at z;cases z;cases n3) _) (S0.Ys (λz=>sr.noOwn n z) ea n1 n2 n3 _) vr⟩⟩
def aam:DVF X K fs (.Dict [] [] pos) (.ret (dvK [])):=⟨PE.imp xO λσ H Q ⟨sr,q⟩ p hp=>by
 have sm:=eX hp (.dK []);exact q p _ _ (cK.same sm) (sr.same sm) hp aw (.inl ⟨[],[],rfl,rfl,rfl,.nil⟩)⟩
end
end
section
variable[bD]
variable{K:Aa}
mutual
def PV.pd:PV->PyData
 |.bx=>.none
 |.bl b=>.bool b
 |.int i=>.int i
 |.str x=>.str x
 |.tup l=>.tuple (QS l)
 |.cl l=>.list (QS l)
 |_=>.none
def QS:O PV->O PyData
 |[]=>[]
 |x::l=>PV.pd x::QS l
end
section
mutual
theorem VR.reads(I:Inv X Z σ H s):∀{v:V}{x:PV},VR X.K [] H v x->PV.fv x=true->∀{u},RelV v u->∃as,Reads s.heap u (PV.pd x) as
 |_,_,.bx,_,u,r=>by cases r;rw[PV.pd];exact⟨_,.none⟩
 |_,_,.bl b,_,u,r=>by cases r;rw[PV.pd];exact⟨_,.bool b⟩
 |_,_,.int i,_,u,r=>by obtain⟨t,r⟩:=(show ∃t,u=Cu i t from r);cases r;rw[PV.pd];exact⟨_,.int i t⟩
 |_,_,.str i,_,u,r=>by obtain⟨t,r⟩:=(show ∃t,u=Ep i t from r);cases r;rw[PV.pd];exact⟨_,.str i t⟩
 |_,_,.ty n,h,_,_=>by rw[PV.fv]at h;cases h
 |_,_,.dk _ _ _,h,_,_=>by rw[PV.fv]at h;cases h
 |_,_,.dt _ _ _,h,_,_=>by rw[PV.fv]at h;cases h
 |_,_,.ob _ _ _ _ _,h,_,_=>by rw[PV.fv]at h;cases h
 |_,_,.hand _,h,_,_=>by rw[PV.fv]at h;cases h
 |_,_,.ref e,h,_,_=>by simp at e
 |_,_,.tup e r,h,u,q=>by
  cases q;obtain⟨ax,rv,⟨o,h1,h2,n,h3⟩,_⟩:=I.tuple (dX.of (K:=X.K) e);obtain⟨as,ra⟩:=aL.reads I r (by rw[PV.fv]at h;exact h) rv;rw[PV.pd];exact⟨as,.tuple h1 h2 h3 (by simpa using ra)⟩
 |_,_,.cl e r,h,u,q=>by
  cases q;obtain⟨ax,rv,⟨o,n,h1,h2,_,h3⟩,_⟩:=I.list e.sq;obtain⟨as,ra⟩:=aL.reads I r (by rw[PV.fv]at h;exact h) rv;rw[PV.pd];exact⟨_,.list h1 h2 h3 (by simpa using ra)⟩
theorem aL.reads(I:Inv X Z σ H s):∀{v:O V}{x:O PV},aL X.K [] H v x->eJ x=true->∀{u},Vals v u->∃as,ReadsAll s.heap u (QS x) as
 |_,_,.nil,_,u,r=>by cases r;rw[QS];exact⟨_,.nil⟩
 |_,_,.cons a t,h,u,r=>by
  rw[eJ,AB]at h;cases r with
  |cons r1 r2=>
  obtain⟨as,ra⟩:=VR.reads I a h.1 r1;obtain⟨bs,rb⟩:=aL.reads I t h.2 r2;rw[QS];exact⟨_,.cons ra rb⟩
end
mutual
theorem tL:∀x:PV,(PV.pd x).hasDict=false
 |.bx=>by simp[PV.pd,BR]
 |.bl _=>by simp[PV.pd,BR]
 |.int _=>by simp[PV.pd,BR]
 |.str _=>by simp[PV.pd,BR]
 |.tup l=>by rw[PV.pd,BR];exact kW l
 |.cl l=>by rw[PV.pd,BR];exact kW l
 |.ref _=>by simp[PV.pd,BR]
 |.ty _=>by simp[PV.pd,BR]
 |.dv _ _=>by simp[PV.pd,BR]
 |.ob _ _=>by simp[PV.pd,BR]
 |.hand=>by simp[PV.pd,BR]
theorem kW:∀x:O PV,ES (QS x)=false
 |[]=>by simp[QS,ES]
 |x::l=>by rw[QS,ES,tL x,kW l];rfl
end
end
def Mm(x:PV):Prop:=PV.fv x=true/\(PV.pd x).showable=true/\(PV.pd x).depth<=100/\(PV.pd x).shown.length<=sizeLine
def zJ(x:PV):W PV:=match x with
 |.int i=>.d8 (Mm x) (.ret (.str (PV.pd x).shown))
 |.tup l=>.d8 (Mm x) (.ret (.str (PV.pd x).shown))
 |.cl l=>.d8 (Mm x) (.ret (.str (PV.pd x).shown))
 |_=>.fail
section
def TC(b:Bool):PV->Prop
 |.int _=>b=true
 |.tup _=>True
 |.cl _=>True
 |_=>False
def YA(K:Aa)(b:Bool):O V->Hp->VK->Prop:=λxs H Q=>∃v x,xs=[v]/\VR K [] H v x/\Mm x/\TC b x/\Q (.str (PV.pd x).shown) H
theorem Lo(hK:X.K=K)(hg:X.A.guards=al [])(hu:X.A.units+200 < GE):bP X (.type "str") (YA K true):=by
 subst hK;intro Z s σ H xs us Q I r ⟨v,x,e,hv,⟨o1,o2,o3,o4⟩,hx,q⟩;subst e;obtain⟨u,rfl,ru⟩:=vals1 r;have rf:∀a,u=.ref a->f8 (lf X.prog X.w) X.A (call (.type "str") [u]) (EP X Z σ Q) X.xe s:=λa e=>by
  subst e;obtain⟨as,rd⟩:=VR.reads I hv o1 ru;exact str_of_reads rd o2 (PyData.noDict_hsm (tL x)) hg ∅ (λ_ _ e=>e) (λh' u tk hk=>⟨.str _,H,I.kept (t':=tk) hk,⟨_,rfl⟩,q⟩) o4
 cases hv with
 |int i=>
  obtain⟨t,ru⟩:=(show ∃t,u=Cu i t from ru);subst ru;simp only[PV.pd,PyData.showable,decide_eq_true_iff,Gu]at o2 q;exact P.str_of_int o2 ⟨.str _,H,I.tok _,⟨_,rfl⟩,q⟩
 |tup _ _=>exact rf _ ru
 |cl _ _=>exact rf _ ru
 |_=>exact hx.elim
def OY(hK:X.K=K)(hr:bI k X.A)(hg:Gl X "str")(hm:X.mg "str"=bn)(ha:EF X K fs a wa)(he:‹dY X a []›)(bZ:‹gw X pos []›):EF X K fs (.Call (.Name "str" p) [a] [] pos) (.bind wa zJ):=
 ⟨PE.imp (eu (Lo hK hr.gd (bA hr)) hg hm GT (aj ha.p aJ he) ⋯ ⋯ he bZ) λσ H Q ⟨sr,q⟩=>⟨sr,wa.mono (λx q1 u H1 g1 s1 v1=>by
  have h:Mm x/\TC true x/\∀u H',cK σ fs H H'->aQ K H' σ fs->VR K [] H' u (.str (PV.pd x).shown)->Q u H':=by
   cases x with
   |int i=>exact⟨q1.1,(by first|rfl|trivial),q1.2⟩
   |tup l=>exact⟨q1.1,(by first|rfl|trivial),q1.2⟩
   |cl l=>exact⟨q1.1,(by first|rfl|trivial),q1.2⟩
   |_=>exact q1.elim
  exact⟨u,x,rfl,v1,h.1,h.2.1,h.2.2 _ H1 g1 s1 (.str _)⟩) q⟩⟩
end
end
end FL
namespace My
def c7(ns:O Int):Prop:=∃g s:Int,ns=[g,s]/\0<=g/\0<=s/\s<2305843009213693951
end My
namespace FL
section
variable[bD]
def drawn(m:Int):W PV:=.any λv=>∃d:Int,v=.int d/\0<=d/\d<m
def bh:PV->W PV
 |.int m=>.d8 (0<m/\m<=2000) (drawn m)
 |_=>.fail
end
end FL
namespace My
def kY(eV:PV):W (O PV):=
 []\λlq=>
 am (eV\λx3=>ap [x3]) λeg=>
 am (uE (λs4=>(s4.2\λl5=>ap (!l5.isEmpty))) (λs4=>(
 am (uY s4.2) λt7=>
 t7.2\λx9=>am (pj s4.1 x9) λlj=>
 c6 (km (am (am (ap t7.2) (dZ .str)) di)) (
 am (am (ap t7.2) bK) λZn=>am (OA t7.1 Zn) λfV=>
 ap (lj,fV)) (
 ap (lj,t7.1)))) (lq,eg)) λs4=>
 (s4.1\λZm=>ap Zm.reverse)
def pF(eV:PV):W PV:=
 []\λzG=>
 []\λvp=>
 am (eV\λx3=>kY x3) λl30=>am (jO l30 (zG,vp) λvf s4=>(
 am (am (am (ap vf) (dZ .str)) di) λb=>am (if b=true then (
 vf\λJ5=>am (pj s4.1 J5) λIu=>
 ap (Iu,s4.2)) else (
 am (uY s4.2) λt20=>
 am (uY t20.1) λt22=>
 am (t22.2\λUr=>t20.2\λx25=>ap (.tup [Ur,x25])) λXU=>am (pj s4.1 XU) λIr=>
 ap (Ir,t22.1))) λUW=>
 am (b2 GY (am (ap UW.1) vt) (ap (.int 1))) λXS=>am (pj UW.2 XS) λya=>
 ap (UW.1,ya))) λs4=>
 (am (ap s4.1) zF)
def f6(bJ:PV):W PV:=
 (Sn (am (ap bJ) (dZ .int)) (am (am (ap bJ) (dZ .bool)) Vw))
def f7(bJ:PV)(hJ:PV):W PV:=
 (Sn (am (ap bJ) (dZ .tup)) (b2 kq (c1 dF (ap bJ)) (ap hJ)))
def j6(bJ:PV):W PV:=
 c6 (Xc (km (am (am (ap bJ) (dZ .str)) di)) (km (chT oLe oLe (ap (.int 1)) (c1 dF (ap bJ)) (ap (.int 8))))) (
 (ap (.bl false))) (
 (am (am (am (ap bJ) zN) λl1=>c9 l1 λp2=>(b2 Nu (ap p2) (ap (.str "abcdefghijklmnopqrstuvwxyz")))) nW))
def iQ(bJ:PV)(GU:PV):W PV:=
 am (bJ\λx3=>ap [x3]) λeg=>
 am (pT (λs4=>(s4.2\λl5=>ap (!l5.isEmpty))) (λs4=>(
 am (uY s4.2) λt7=>
 c6 (am (t7.2\λx8=>(.int 2)\λx9=>f7 x8 x9) di) (
 am (am (ap t7.2) bK) λZn=>am (OA t7.1 Zn) λfV=>
 ap (.go (s4.1,fV))) (
 c6 (Xc (km (am (t7.2\λJ6=>j6 J6) di)) (uH (t7.2\λUv=>am (Hg Uv) λk13=>ap (o6 s4.1 k13)) (km (am (ap GU) di)))) (
 (.bl false)\λzv=>ap (Lp.out zv)) (
 (.bl true)\λxv=>t7.2\λJ5=>am (U9 s4.1 J5 xv) λIU=>
 ap (.go (IU,t7.1)))))) ([],eg)) (sF (λs4=>
 (ap (.bl true))) id)
def iR(bJ:PV):W PV:=
 (bJ\λx1=>(.bl false)\λx2=>iQ x1 x2)
def eN(kd:PV)(jP:PV):W (O PV):=
 (am (am (am (ap kd) bK) λl1=>am (am (ap jP) bK) λl2=>uC l1 l2) λl3=>nA l3 λp4=>am (J9 p4) λt5=>VL (km (am (am (ap t5.1) (dZ .str)) di)) (ap t5.2))
def j7(kd:PV)(jP:PV)(nI:PV):W PV:=
 c6 (am (am (gQ (am (ap kd) bK) (ap nI)) (dZ .str)) di) (
 (b2 kq (gQ (am (ap jP) bK) (ap nI)) (ap (.int 0)))) (
 am (am (am (am (gQ (am (ap kd) bK) (ap nI)) bK) λl2=>c9 l2 λp3=>(gQ (am (ap jP) bK) (ap p3))) xZ) λbelow_1=>
 (Sn (b2 oLt (ap below_1) (gQ (am (ap jP) bK) (ap nI))) (chB oLe oLe (ap (.int 1)) (gQ (am (ap jP) bK) (ap nI)) (ap (.int 99)))))
def aR(Hw:PV)(bJ:PV):W PV:=
 c6 (km (am (Hw\λx1=>iR x1) di)) (
 (ap (.bl false))) (
 am (Hw\λx3=>pF x3) λjK=>
 c6 (Xc (km (am (bJ\λx7=>am (c1 dF (ap jK)) λx8=>f7 x7 x8) di)) (km (am (am (am (am (ap bJ) bK) λl4=>c9 l4 λp5=>(p5\λx6=>f6 x6)) nW) di))) (
 (ap (.bl false))) (
 am (jK\λxy=>bJ\λQg=>eN xy Qg) λp0=>
 c6 (t2 iL (am (am (ap (.cl p0)) qx) iD) (c1 dF (ap (.cl p0)))) (
 (ap (.bl false))) (
 (am (am (am (c1 dF (ap jK)) qe) λl13=>c9 l13 λî=>(jK\λzv=>bJ\λxw=>î\λxv=>j7 zv xw xv)) nW))))
def eQ(dG:PV)(k_:PV):W (O PV):=
 am (c6 (am (am (ap dG) qx) λl2=>ap (!l2.isEmpty)) (gQ (am (ap dG) bK) (b2 oMod (ap k_) (c1 dF (ap dG)))) (ap (.int 0))) λwL=>
 am (b2 jB (b2 oMod (c1 y8 (ap wL)) (b2 jB (b2 jB (b2 rY (ap (.int 10)) (ap (.int 60))) (b2 rY (ap (.int 10)) (ap (.int 60)))) (b2 rY (ap (.int 10)) (ap (.int 60))))) (c1 y7 (b2 oGe (c1 y8 (ap wL)) (b2 rY (ap (.int 10)) (ap (.int 18)))))) λfJ=>
 (fJ\λx4=>am (b2 oMod (b2 jB (w2 addW (w2 addW (b2 oMod (ap wL) (ap (.int 2305843009213693921))) (b2 jB (b2 jB (ap (.int 104729)) (ap k_)) (ap k_))) (ap (.int 7))) (ap (.int 48271))) (ap (.int 2305843009213693951))) λx5=>ap [x4,x5])
def dj(cR:O PV)(hJ:PV):W (PV×O PV):=
 c6 (t2 oGt (gQ (ap cR) (ap (.int 0))) (ap (.int 0))) (
 am (b2 oMod (gQ (ap cR) (ap (.int 0))) (ap hJ)) λJU=>
 am (b2 oDiv (gQ (ap cR) (ap (.int 0))) (ap hJ)) λx3=>(.int 0)\λx4=>am (oP cR x4 x3) λjL=>
 JU\λx5=>ap (x5,jL)) (
 am (b2 oMod (w2 addW (b2 jB (gQ (ap cR) (ap (.int 1))) (ap (.int 6364136223846793005))) (ap (.int 1442695040888963407))) (ap (.int 2305843009213693951))) λx7=>(.int 1)\λx8=>am (oP cR x8 x7) λgG=>
 am (b2 oDiv (gQ (ap gG) (ap (.int 1))) (ap (.int 524287))) λvn=>
 am (b2 oMod (b2 oDiv (b2 oMod (b2 jB (ap vn) (ap vn)) (ap (.int 1000000007))) (ap (.int 11))) (ap hJ)) λxy=>ap (xy,gG))
def dJ(hJ:PV):W (O PV):=
 (.str "abcdefghijklmnopqrstuvwxyz")\λnv=>
 am ((.int 26)\λx2=>bh x2) λqQ=>am (gQ ((.int 1)\λx3=>(.int 3)\λx4=>(.int 5)\λx5=>(.int 7)\λx6=>(.int 9)\λx7=>(.int 11)\λx8=>ap [x3,x4,x5,x6,x7,x8]) ((.int 6)\λx9=>bh x9)) λuJ=>
 am (gQ ((.str "")\λUu=>(.str "")\λJ6=>(.str "ab")\λzv=>ap [Uu,J6,zv]) ((.int 3)\λxw=>bh xw)) λrj=>
 []\λqM=>
 am (am (ap hJ) qe) λl30=>am (jO l30 qM λZq UU=>(
 am (gQ ((.str "")\λUt=>(.str "a")\λUs=>(.str "zz")\λUr=>(.str "abcde")\λx25=>ap [Ut,Us,Ur,x25]) ((.int 4)\λXU=>bh XU)) λOV=>
 am (w2 addW (w2 addW (ap rj) (b2 Nt (ap nv) (b2 oMod (w2 addW (ap qQ) (b2 jB (ap uJ) (ap Zq))) (ap (.int 26))))) (ap OV)) λXS=>am (pj UU XS) λyB=>
 ap yB)) λUU=>
 ap UU
def dn(IM:PV):W PV:=
 am (am (ap IM) bK) λMr=>am ((.int 5)\λx1=>bh x1) λuI=>
 am (am (b2 GY (c1 dF (ap IM)) (ap (.int 1))) qe) λl24=>am (jO l24 Mr λk_6 s5=>(
 am (b2 GY (am (ap s5) vt) (ap (.int 2))) λkI=>
 am (gQ ((.int 0)\λx9=>kI\λxy=>am (b2 oMod (ap k_6) (w2 addW (ap kI) (ap (.int 1)))) λQg=>am (am (w2 addW (ap kI) (ap (.int 1))) λUv=>bh Uv) λUu=>am (am (w2 addW (ap kI) (ap (.int 1))) λJ6=>bh J6) λzv=>ap [x9,xy,Qg,Uu,zv]) (ap uI)) λPo=>
 am (am (am (gQ (ap s5) (ap Po)) λxv=>am (gQ (ap s5) (w2 addW (ap Po) (ap (.int 1)))) λJ5=>ap (.tup [xv,J5])) λQe=>ap [Qe]) λl20=>Po\λx21=>am (w2 addW (ap Po) (ap (.int 2))) λUt=>am (Yr s5 x21 Ut l20) λMu=>
 ap Mu)) λs5=>
 (gQ (ap s5) (ap (.int 0)))
def dN(Tf:PV):W PV:=
 am (w2 addW (ap (.int 1)) (am (gQ ((.int 5)\λx2=>Tf\λx3=>ap [x2,x3]) (c1 y7 (b2 kq ((.int 8)\λx4=>bh x4) (ap (.int 0))))) λx5=>bh x5)) λNG=>
 (am (yz (NG\λx6=>dJ x6)) λx7=>dn x7)
end My
variable{a L:AY}{o:F8}{Q:Unit->CW->Prop}{vs:Array A2}{S:O AY}{ot:Option AY}
namespace L2
def sY(h:nn)(a C dx:db)(ot:Option db):Prop:=∃vs sl,h.get? a=al {cls:=.ref C,dict:=al dx,data:=.fields vs,slots:=sl}/\1<vs.size/\
 match ot with
 |none=>vs[1]?=al AO
 |some T=>vs[1]?=al (.ref T)/\T≠a/\∃c d ts st,h.get? T=al {cls:=c,dict:=d,data:=.fields ts,slots:=st}/\ts[3]?=al AO
structure rR(S:List db)(a:db)(ot:Option db)(h h':nn):Prop where
 keep:∀b o,h.get? b=al o->b≠a->ot≠al b->b∉S->h'.get? b=al o
 slot:∀b o,h.get? b=al o->b≠a->ot≠al b->∃sl,h'.get? b=al {o with slots:=sl}
 there:∀b o,h.get? b=al o->∃o',h'.get? b=al o'
def fW{c:ce}{d:Option db}{sl:Array (Option ce)}{f:Array ce->Array ce}(e:h.get? a=al {cls:=c,dict:=d,data:=.fields vs,slots:=sl}):(h.update a (Cs f)).get? a=al {cls:=c,dict:=d,data:=.fields (f vs),slots:=sl}:=B2 (Cs f) e rfl
def rR.slots(k:Heap.SlotsOnly S h h'):rR S a ot h h':=
 ⟨λb o e _ _ n=>by rw[k.2.1 b n];exact e,λb o e _ _=>k.2.2 b o e,λb o e=>let ⟨_,z⟩:=k.2.2 b o e;⟨_,z⟩⟩
def rR.trans{h1 h2:nn}(x:rR S a ot h h1)(y:rR S a ot h1 h2):rR S a ot h h2:=
 ⟨λb o e n m k=>y.keep b o (x.keep b o e n m k) n m k,λb o e n m=>by
  obtain⟨sl,z⟩:=x.slot b o e n m;obtain⟨Qv,z'⟩:=y.slot b _ z n m;exact⟨Qv,z'⟩,λb o e=>let ⟨_,z⟩:=x.there b o e;y.there b _ z⟩
def rR.push:rR S a ot h (h.push o):=
 ⟨λb o e _ _ _=>Ad _ e,λb o e _ _=>⟨o.slots,Ad _ e⟩,λb o e=>⟨o,Ad _ e⟩⟩
def rR.upd{c:db}{f:Obj->Obj}(hc:c=a\/ot=al c\/h.get? c=bn)(ht:∀o,h.get? c=al o->∃o',(h.update c f).get? c=al o'):rR S a ot h (h.update c f):=by
 have ne:∀b o,h.get? b=al o->b≠a->ot≠al b->b≠c:=λb o e n m z=>by
  subst z;rcases hc with z|z|z
  .exact n z
  .exact m z
  .rw[z]at e;cases e
 refine⟨λb o e n m _=>?_,λb o e n m=>⟨o.slots,?_⟩,λb o e=>?_⟩
 .rw[Bk _ _ _ _ (ne b o e n m)];exact e
 .rw[Bk _ _ _ _ (ne b o e n m)];exact e
 .by_cases d:b=c
  .subst d;exact ht o e
  .exact⟨o,by rw[Bk _ _ _ _ d];exact e⟩
set_option maxHeartbeats 1000000 in
def qX{M:Model}{A:BT}{E:ce->gt->Prop}{s:gt}{base:nn}{env:Env}{outer:O Env}{L a C dx:db}{head:ce}{b:Bool}{vs:Array ce}{sl:Array (Option ce)}{Q:Unit->gt->Prop}(hA:A.frames=al (env::outer))(hF:s.heap.FunFrames base (env::outer))(hL:env.frame=al L)(e0:s.heap.get? a=al {cls:=.ref C,dict:=al dx,data:=.fields vs,slots:=sl})(l0:1<vs.size)(h:∀h' T,rR (o7 (env::outer)) a bn s.heap h'->sY h' a C dx (al T)->s.heap.objs.size<=T->Q () {s with heap:=h'}):
  f8 M A (do
   let f <- Gg env
   let p <- entryPlaceOf L b
   let t <- Dk head f AO (pr ↑L) AO p
   PP (Ao a) 1 t) (λ_ s'=>f8 M A (setFlight (Ao a) bn) Q E s') E s:=by
 refine Ab (wpAny_frameOf_fun hA hF hL λh1 k1=>?_);obtain⟨sl1,e1⟩:=k1.2.2 _ _ e0;refine Ab (wpAny_entryPlaceOf λpl hp=>?_);refine Ab ?_;unfold Dk newFields;have hl:∃ts:O ce,([head,Ao L,AO,pr ↑L,AO]++if pl.isEmpty=true then Ar 6 AO else pl)=ts/\3<ts.length/\ts.length<=100:=⟨_,rfl,by
  rcases hp with rfl|⟨_,_,_,_,_,_,_,rfl⟩<;>simp⟩
 obtain⟨ts,hts,l3,l4⟩:=hl;rw[hts];refine BM ?_ (by simp only[sizeOk];exact AE (by simpa using l4) (by decide:100<=sizeLine+2));have at_:(h1.push {cls:=.type "traceback",data:=.fields ts.toArray}).get? a=al {cls:=.ref C,dict:=al dx,data:=.fields vs,slots:=sl1}:=Ad _ e1;have nT:h1.objs.size≠a:=Fv (Aj e1);refine CN at_ rfl l0 ?_;have e2:=fW (f:=λx=>x.setIfInBounds 1 (.ref h1.objs.size)) at_;have eT:((h1.push {cls:=.type "traceback",data:=.fields ts.toArray}).update a (Cs λx=>x.setIfInBounds 1 (.ref h1.objs.size))).get? h1.objs.size=al {cls:=.type "traceback",data:=.fields ts.toArray}:=by
  rw[Bk _ _ _ _ nT];exact Ak _ rfl
 refine wpAny_setFlight_none e2 rfl (by simp[l0]) eT rfl (by simpa using l3) ?_;refine h _ h1.objs.size ?_ ⟨_,sl1,(Bk _ _ _ _ nT.symm).trans e2,by simpa using l0,by simp[l0],nT,_,_,_,_,fW eT,by simp[l3]⟩ (Eo k1.1.symm);have z:rR (o7 (env::outer)) a (al h1.objs.size) s.heap _:=(((rR.slots k1).trans .push).trans (rR.upd (f:=Cs λx=>x.setIfInBounds 1 (.ref h1.objs.size)) (.inl rfl) λo e=>⟨_,e2⟩)).trans (rR.upd (f:=Cs λx=>x.setIfInBounds 3 AO) (.inr (.inl rfl)) λo e=>⟨_,fW eT⟩);have nb:∀b o,s.heap.get? b=al o->al h1.objs.size≠al b:=λb o e y=>by
  have:=Aj e;rw[<- k1.1]at this;exact absurd (Option.some.inj y) (Fv this)
 exact⟨λb o e n _ m=>z.keep b o e n (nb b o e) m,λb o e n _=>z.slot b o e n (nb b o e),z.there⟩
def tT{C dx:db}(hA:A.frames=al (env::outer))(hF:s.heap.FunFrames base (env::outer))(hL:env.frame=al L)(hx:sY s.heap a C dx ot)(h:∀h' T,rR (o7 (env::outer)) a ot s.heap h'->sY h' a C dx (al T)->s.heap.objs.size<=T->Q () {s with heap:=h'}):f8 M A (noteFrame (.ref a) env) (λ_ s2=>f8 M A (setFlight (.ref a) bn) Q E s2) E s:=by
 obtain⟨vs,sl,e0,l0,h1⟩:=hx;unfold noteFrame;rw[hL];cases ot with
 |none=>
  refine Ab (AG e0 rfl h1 ?_);exact qX hA hF hL e0 l0 h
 |some T=>
  obtain⟨h1,nT,c,d,ts,st,eT,h3⟩:=h1;have l3:3<ts.size:=by
   rcases Fw 3 ts.size with z|z
   .exact z
   .rw[FG z]at h3;cases h3
  refine Ab (AG e0 rfl h1 ?_);show f8 M A (do
   let x <- field (.ref T) 3
   if (x==pr ↑L)=true then pure () else do
    let _ <- PP (.ref T) 3 AO
    (do
     let f <- Gg env
     let p <- entryPlaceOf L (Ao T != AO)
     let t <- Dk (.ref T) f AO (pr ↑L) AO p
     PP (Ao a) 1 t)) _ E s
  refine Ab (AG eT rfl h3 ?_);show f8 M A (do
    let _ <- PP (.ref T) 3 AO
    (do
     let f <- Gg env
     let p <- entryPlaceOf L (Ao T != AO)
     let t <- Dk (.ref T) f AO (pr ↑L) AO p
     PP (Ao a) 1 t)) _ E s
  refine Ab (CN eT rfl l3 ?_);have c1:rR (o7 (env::outer)) a (al T) s.heap (s.heap.update T (Cs λx=>x.setIfInBounds 3 .none)):=rR.upd (.inr (.inl rfl)) λo e=>⟨_,fW eT⟩;refine qX (s:={s with heap:=_}) hA (hF.of_keeps λb o e n=>?_) hL (sl:=sl) (vs:=vs) (by rw[Bk _ _ _ _ nT.symm];exact e0) l0 λh' T' k x z=>?_
  .have:b≠T:=λy=>by subst y;rw[eT]at e;cases e;exact n _ rfl
   exact⟨o,by rw[Bk _ _ _ _ this];exact e,rfl⟩
  .refine h h' T' (c1.trans ⟨λb o e n _ m=>k.keep b o e n (by simp) m,λb o e n _=>k.slot b o e n (by simp),k.there⟩) x (AE (Eo ?_) z);show s.heap.objs.size=(s.heap.objs.modify T _).size;simp
def yc{C dx:db}(hA:A.frames=al (env::outer))(hF:s.heap.FunFrames base (env::outer))(hL:env.frame=al L)(hx:sY s.heap a C dx ot)(h:∀h' T,rR (o7 (env::outer)) a ot s.heap h'->sY h' a C dx (al T)->s.heap.objs.size<=T->Q () {s with heap:=h'}):f8 M A (leaving env (.ref a)) Q E s:=by
 unfold leaving;exact Ab (tT hA hF hL hx h)
abbrev Pg:O ce:=[.type "ValueError",.type "Exception",.type "BaseException",.type "object"]
def iV(C t:db):Obj:={cls:=.ref C,data:=.fields #[.ref t,.none,.none,.none,.bool false,.none]}
structure zi(K:Aa)(C f:db):Prop where
 obj:∃nm q N bs bm nL sn sub ab col dd k0 k1 k2 k3 k5,K.lookup C=al (P3 nm q C N bs bm nL sn sub ab col dd k0 k1 k2 k3 k5 "ValueError.__new__")/\∀h:nn,K.In h->OwnTail h Pg bm
 call:Cj K (.ref C) "__call__"=al (al (.builtin "type.__call__"))
 self:BF K C (.ref C)=al true
 init:Aw K (.ref C) "__init__"=al (al (.ref f))
 fn:CT K (.ref f)=true
set_option maxHeartbeats 2000000 in
def NI{prog:tz}{w:wS}{A:BT}{K:Aa}{C f:db}{R:Result->gt->Prop}{s:gt}{vs:O ce}(X:K.In s.heap)(M:zi K C f)(lv:vs.length<=sizeLine)(h:Pv (lf prog w) (A.under (.builtin "type.__call__" ⟨.ref C::vs,[]⟩)) (.call (.ref f) ⟨.ref (s.heap.objs.size+1)::vs,[]⟩) (GD (s.heap.objs.size+1) R)
   {s with heap:=(s.heap.push {cls:=.type "tuple",data:=.seq vs.toArray}).push (iV C s.heap.objs.size)}):Pv (lf prog w) A (.call (.ref C) ⟨vs,[]⟩) R s:=by
 obtain⟨nm,q,N,bs,bm,nL,sn,sub,ab,col,dd,k0,k1,k2,k3,k5,hC,tl⟩:=M.obj;have ZU:=X _ _ hC;refine codeAny_of_tree ?_;show f8 _ _ (callAny (.ref C) ⟨vs,[]⟩) _ _ _;unfold callAny;refine Ab (wpAny_load ZU ?_);show f8 _ _ (Gq (.ref C) ⟨vs,[]⟩) _ _ _;unfold Gq;refine Ab (A3.here (PySem.W.looks_specialIn X M.call) ?_);show f8 _ _ (bindSpecial (.builtin "type.__call__") (.ref C) >>= _) _ _ _;rw[PySem.F.bind_type_call];refine Ab (Ae ?_);show f8 _ _ (callAny.plainCallee (.builtin "type.__call__") >>= _) _ _ _;refine Ab (Ae ?_);refine Ae ⟨rfl,?_⟩;refine codeAny_of_tree ?_;show f8 _ _ (callAny (.builtin "type.__call__") ⟨.ref C::vs,[]⟩) _ _ _;unfold callAny;refine Ab (wpAny_check_type_call_sub ZU (Ae ⟨Code.quiet_builtin _ (by decide +kernel),codeAny_builtin PySem.F.entry_type_call ?_⟩));unfold Fk.«type.__call__»;have h1:(Ao C==CD "type")=false:=rfl;have tlh:=tl _ X;show f8 _ _ (mroOf (.ref C) >>= _) _ _ _;unfold mroOf;refine Ab (Ab (A3.here (CI X (show BQ K C=al _ by unfold BQ;rw[hC])) (Ae ?_)));show f8 _ _ (Bind.madeBy (.ref C) >>= _) _ _ _;refine Ab (wpAny_madeBy_exc ZU ?_);show f8 _ _ (sK [Value.builtin "ValueError.__new__"] (call (.builtin "ValueError.__new__") (.ref C::vs) []) >>= _) _ _ _;refine Ab (Ba (CF (codeAny_of_tree ?_)));show f8 _ _ (callAny (.builtin "ValueError.__new__") ⟨.ref C::vs,[]⟩) _ _ _;refine Ab (wpAny_check_new_subT EA tlh ZU (Ae ⟨Code.quiet_builtin _ (by decide +kernel),codeAny_exc_new_subT EA tlh ZU ?_ lv⟩));have X':K.In ((s.heap.push {cls:=.type "tuple",data:=.seq vs.toArray}).push (iV C s.heap.objs.size)):=X.keeps λb o e=>Ad _ (Ad _ e);have eo:((s.heap.push {cls:=.type "tuple",data:=.seq vs.toArray}).push (iV C s.heap.objs.size)).get? (s.heap.objs.size+1)=al (iV C s.heap.objs.size):=by
  have:=Ak (s.heap.push {cls:=.type "tuple",data:=.seq vs.toArray}) (o:=iV C s.heap.objs.size) rfl
  rwa [Bf]at this
 show f8 _ _ (Gc (.ref (s.heap.objs.size+1)) (.ref C) >>= _) _ _ _;unfold Gc;refine Ab (Ab (Ab (Bc eo (Ae ?_))));refine A3.here (CH X' M.self) ?_;show f8 _ _ (sK [Ao (s.heap.objs.size+1)] (callSpecial? (.ref (s.heap.objs.size+1)) "__init__" vs []) >>= _) _ _ _;refine Ab (Ba ?_);unfold callSpecial? specialOf;refine Ab (Ab (Ab (Bc eo (Ae ?_))));refine A3.here (BW X' M.init) ?_;refine Ba (Ab (A3.here (PySem.W.bind_fn X' _ (beq_iff_eq.mp M.fn)) ?_));refine Ab (CF (EQ h λr s' hr=>?_));cases r with
 |error e=>exact hr
 |ok fl=>
  cases fl with
  |ret v=>
   obtain⟨rfl,hr⟩:=hr;exact Ae (Ae hr)
  |next=>exact hr
  |brk=>exact hr
  |cont=>exact hr
end L2
variable{u:A2}
namespace L2
def u9(a C:db)(h:nn):Prop:=∃v0,h.get? a=al {cls:=.ref C,data:=.fields #[v0,.none,.none,.none,.bool false,.none]}
def u7(a C dx:db)(h:nn):Prop:=∃vs sl,h.get? a=al {cls:=.ref C,dict:=al dx,data:=.fields vs,slots:=sl}
structure PF(K:Aa)(TE C:db):Prop where
 ga:Cj K (.ref TE) "__getattribute__"=al (al (.builtin "type.__getattribute__"))
 rd:PySem.W.readsIn K TE (.type "type")=true
 fc:PySem.W.findCls K (.ref TE) (.type "type") "__init__"=al (.val (.builtin "ValueError.__init__"))
 sub:BF K C (.type "ValueError")=al true
def sgV:Manifest.Signature:={machinery:=Manifest.Machinery.positional,full:="*",short:="ValueError",receiver:=Manifest.Receiver.self,params:=[{name:="args",kind:=Manifest.ParamKind.varPos,required:=false}]}
section
variable{K:Aa}
def yX{C:db}(X:K.In s.heap)(e:s.heap.get? a=al o)(c:o.cls=.ref C)(m:BF K C (.type "ValueError")=al true)(į:∃cd,BQ K C=al cd)(h:Q () s):f8 M A (Os "ValueError.__init__" ⟨[.ref a,u],[]⟩) Q E s:=by
 have F:=Ez;unfold Os;rw[F.initKind,F.initSplit,F.initRow];show f8 M A (Gc (.ref a) (.type "ValueError") >>= _) Q E s;unfold Gc;refine Ab (Ab (Ab (Bc e (Ae ?_))));rw[c];refine A3.here (CH X m) ?_;obtain⟨cd,dr⟩:=į;rw[if_neg ⋯];show f8 M A (Bind.checkArgs "ValueError.__init__" sgV ⟨[.ref a,u],[]⟩) Q E s;unfold Bind.checkArgs;show f8 M A (Bind.printed "*" true sgV (al (.ref a)) >>= _) Q E s;unfold Bind.printed;show f8 M A ((Bind.receiverType sgV (.ref a) >>= _) >>= _) Q E s;refine Ab (Ab ?_);show f8 M A (typeOf (.ref a)) _ E s;refine Ab (Bc e (Ae ?_));rw[c];unfold typeNameWhole;refine Ab (Ab (A3.here (CI X dr) (Ae (Ae ?_))));show f8 M A (pure "ValueError" >>= _) Q E s;refine Ab (Ae (DY ?_));exact Ae h
def OX{Q:ce->gt->Prop}{C:db}{v0:ce}(X:K.In s.heap)(e:s.heap.get? a=al {cls:=.ref C,data:=.fields #[v0,.none,.none,.none,.bool false,.none]})(m:BF K C (.type "ValueError")=al true)(į:∃cd,BQ K C=al cd)(h:∀h' v1,h'.get? a=al {cls:=.ref C,data:=.fields #[v1,.none,.none,.none,.bool false,.none]}->(∀b o,b≠a->s.heap.get? b=al o->h'.get? b=al o)->Q .none {s with heap:=h'}):f8 (lf prog w) A (call (.builtin "ValueError.__init__") [.ref a,u]) Q E s:=by
 have F:=Ez;refine CF (Re (by decide +kernel) F.initEntry (yX X e rfl m į ?_));unfold Fk.«BaseException.__init__»;show f8 _ _ (newTuple [u] >>= _) _ _ s;unfold newTuple;refine Ab (BM ?_ (by simp only[sizeOk];show 1<=sizeLine;decide));have e1:(s.heap.push {cls:=.type "tuple",data:=.seq #[u]}).get? a=al {cls:=.ref C,data:=.fields #[v0,.none,.none,.none,.bool false,.none]}:=Ad _ e;show f8 _ _ (Builtin.BaseException.bexcPut (.ref a) 0 (.ref s.heap.objs.size) >>= _) _ _ _;refine Ab ?_;unfold Builtin.BaseException.bexcPut;refine Ab (AG e1 rfl rfl (Ab (CN e1 rfl (by simp) ?_)));have fin:∀{Q':Unit->gt->Prop},Q' () {s with heap:=(s.heap.push {cls:=.type "tuple",data:=.seq #[u]}).update a (Cs λx=>x.setIfInBounds 0 (.ref s.heap.objs.size))}->
   f8 (lf prog w) A.in1 (match v0 with | .ref b=>letGo [v0] [] | _=>pure ()) Q' (λe s'=>E e s') {s with heap:=(s.heap.push {cls:=.type "tuple",data:=.seq #[u]}).update a (Cs λx=>x.setIfInBounds 0 (.ref s.heap.objs.size))}:=λ{Q'} hq=>by
  cases v0<;>first|exact Ae hq|exact CP hq
 refine fin (Ae ?_);exact h _ _ (fW e1) λb o n eb=>by rw[Bk _ _ _ _ n];exact Ad _ eb
end
end L2
variable{tk:GK}
namespace L2
def wpu{t:Sem Unit}(e:t=pure ())(h:Q () s):f8 M A t Q E s:=e▸Ae h
structure Sw(K:Aa)(C:db)(f:Str):Prop where
 ga:Aw K (.ref C) "__getattribute__"=al (al (.builtin "BaseException.__getattribute__"))
 no:Aw K (.ref C) "__getattr__"=al bn
 sub:BF K C (.type "BaseException")=al true
 hd:Ck K C=true
 at_:Aw K (.ref C) f=al bn
def Qc{K:Aa}{C dx:db}{sl:Array (Option ce)}{f:Str}{p:Int}{m:Str->Option ce}{Q:ce->gt->Prop}(X:K.In s.heap)(F:Sw K C f)(e:s.heap.get? a=al {cls:=.ref C,dict:=al dx,data:=.fields vs,slots:=sl})(n:s.heap.Ns1 dx m)(hm:m f=al (.int p tk))(h:Q (.int p tk) {s with toks:=s.toks+1}):f8 (lf prog w) A (getAttr (.ref a) f b) Q E s:=by
 obtain⟨od,ho,hl⟩:=tS n;have J:Dy s.heap a {cls:=.ref C,dict:=al dx,data:=.fields vs,slots:=sl} C (al od):=⟨e,rfl,rfl,ho⟩;unfold getAttr;refine Ab (wpAny_mkText ?_);unfold getAttrBy;refine Ba (Ab (Ab (Bc e (Ae ?_))));refine Ab (A3.here (BW X F.ga) ?_);show f8 _ _ (UF (.ref a) (.str f s.toks) (.ref C) (.builtin "BaseException.__getattribute__") true b) _ _ _;unfold UF;refine Ab ?_;show f8 _ _ (typeLookup (.ref C) "__getattr__") _ _ _;refine A3.here (BW X F.no) ?_;refine Ab (Ct (Ba ?_));have e1:callGetattribute (.ref a) (.str f s.toks) (.builtin "BaseException.__getattribute__") b=boundAndCalled (.builtin "BaseException.__getattribute__") (.ref a) (.str f s.toks):=by
  unfold callGetattribute;rw[show(b&&onTheHeap (.builtin "BaseException.__getattribute__"))=false by cases b <;> rfl];rfl
 rw[e1];unfold boundAndCalled;rw[EB.ga.bind (.ref a)];refine Ab (Ae (CF (Re (by decide +kernel) FR ?_)));unfold Os;have hk:(builtinKind "BaseException.__getattribute__",splitId "BaseException.__getattribute__")=(al DB,al ("BaseException","__getattribute__")):=by decide +kernel
 rw[hk];refine Ab ?_;show f8 _ _ (Gc (.ref a) (.type "BaseException")) _ _ _;unfold Gc;refine Ab (Ab (Bc e (Ae ?_)));refine A3.here (CH X F.sub) ?_;have ha:argsOk "BaseException.__getattribute__" ⟨[.ref a,.str f s.toks],[]⟩:=F0 _ _;rw[if_neg ⋯];refine wpu ha ?_;unfold Fk.«object.__getattribute__»;refine Ab (Ae (Ab (Ae (Ab (Ab (Bc e (Ae ?_)))))));refine Ab (A3.here (Gk X J (Ga F.hd F.at_ rfl (by rw[hl,hm]))) (Ae ?_));show f8 _ _ (handedOut (.int p tk)) _ _ _;exact Ae h
def jx{self:ce}{l:O ce}{n:String}(h1:(n=="_thread._local")=false)(h2:(n=="_pickle.Pickler"||n=="_pickle.Unpickler")=false)(h:builtinOwn n "__setattr__"=bn):refuseLoop self "__setattr__" (.type n::l)=refuseLoop self "__setattr__" l:=by
 have hc:classOwn (.type n) "__setattr__"=pure bn:=by
  show pure (builtinOwn n "__setattr__")=pure bn;rw[h]
 unfold refuseLoop;rw[Cq];simp only[h1,h2,hc];rfl
structure J2(K:Aa)(C TE:db)(f:Str):Prop where
 sa:Aw K (.ref C) "__setattr__"=al (al (.builtin "object.__setattr__"))
 ob:BF K C (.type "object")=al true
 at_:Aw K (.ref C) f=al bn
 cd:∃cd,BQ K C=al cd/\cd.hasDict=true/\cd.mro=[.ref C,.ref TE,.type "ValueError",.type "Exception",.type "BaseException",.type "object"]
def Qb{K:Aa}{C TE:db}{f:Str}{v:ce}(X:K.In s.heap)(F:J2 K C TE f)(e:s.heap.get? a=al {cls:=.ref C,data:=.fields vs})(h:∀h' dx tk,s.heap.objs.size<=dx->h'.get? a=al {cls:=.ref C,dict:=al dx,data:=.fields vs}->h'.Ns1 dx (λy=>if y=f then al v else bn)->(∀b o,b≠a->s.heap.get? b=al o->h'.get? b=al o)->Q () {s with heap:=h',toks:=tk}):f8 (lf prog w) A (setAttr (.ref a) f v) Q E s:=by
 obtain⟨cd,dr,hhd,adK⟩:=F.cd;have J:Dy s.heap a {cls:=.ref C,data:=.fields vs} C bn:=⟨e,rfl,rfl,trivial⟩;refine Gs X J F.sa ?_;refine Re (by decide +kernel) PySem.F.entry_object_setattr ?_;unfold Os;have hk:(builtinKind "object.__setattr__",splitId "object.__setattr__")=(al DB,al ("object","__setattr__")):=by decide +kernel
 rw[hk];refine Ab ?_;show f8 _ _ (Gc (.ref a) (.type "object")) _ _ _;unfold Gc;refine Ab (Ab (Bc e (Ae ?_)));refine A3.here (CH X F.ob) ?_;rw[if_neg ⋯];refine wpu (PySem.F.args_object_setattr_3 _ _ _) ?_;rw[PySem.W.osa_eq,refuse_eq];refine Ab (Ab (Ab (Bc e (Ae ?_))));refine Ab (Ab (A3.here (CI X dr) (Ae ?_)));rw[adK,refuseLoop_ref,refuseLoop_ref,jx (by decide +kernel) (by decide +kernel) (by decide +kernel),jx (by decide +kernel) (by decide +kernel) (by decide +kernel),jx (by decide +kernel) (by decide +kernel) (by decide +kernel)];refine wpu (PySem.W.refuse_only _ (by decide +kernel)) ?_;refine Ab (Ab (Bc e (Ae ?_)));refine Ab (A3.here (BW X F.at_) ?_);show f8 _ _ (pure bn >>= _) _ _ _;refine Ab (Ae ?_);show f8 _ _ (Builtin.ObjectAttr.storeInOwnDict (.ref a) (.ref C) (.str f s.toks) f v false) _ _ _;unfold Builtin.ObjectAttr.storeInOwnDict;show f8 _ _ (pure () >>= _) _ _ _;refine Ab (Ae ?_);show f8 _ _ (instanceDict a true >>= _) _ _ _;refine Ab ?_;unfold instanceDict;refine Ab (Bc e ?_);show f8 _ _ (classData C >>= _) _ _ _;refine Ab (A3.here (CI X dr) ?_);rw[hhd];show f8 _ _ (alloc {cls:=.type "dict",data:=.dict #[]} >>= _) _ _ _;refine Ab (wpAny_alloc ?_);have e1:(s.heap.push {cls:=.type "dict",data:=.dict #[]}).get? a=al {cls:=.ref C,data:=.fields vs}:=Ad _ e;have nd:s.heap.objs.size≠a:=Fv (Aj e);refine Ab (wpAny_update e1 ?_);refine Ae ?_;have e2:=B2 (λo:Obj=>{cls:=o.cls,dict:=al s.heap.objs.size,data:=o.data,slots:=o.slots}) e1 rfl;have e3:((s.heap.push {cls:=.type "dict",data:=.dict #[]}).update a (λo:Obj=>{cls:=o.cls,dict:=al s.heap.objs.size,data:=o.data,slots:=o.slots})).get? s.heap.objs.size=al {cls:=.type "dict",data:=.dict #[]}:=by
  rw[Bk _ _ _ _ nd];exact Ak _ rfl
 have kp:∀b o,b≠a->s.heap.get? b=al o->((s.heap.push {cls:=.type "dict",data:=.dict #[]}).update a (λo:Obj=>{cls:=o.cls,dict:=al s.heap.objs.size,data:=o.data,slots:=o.slots})).get? b=al o:=λb o n eb=>by
  rw[Bk _ _ _ _ n];exact Ad _ eb
 generalize (s.heap.push {cls:=.type "dict",data:=.dict #[]}).update a (λo:Obj=>{cls:=o.cls,dict:=al s.heap.objs.size,data:=o.data,slots:=o.slots})=h2 at e2 e3 kp;have n0:h2.Ns1 s.heap.objs.size (λ_=>bn):=Heap.Ns1.of_empty ⟨_,#[],_,e3,rfl,(λe he=>absurd he (by simp)),λ_=>rfl⟩;show f8 _ _ (Builtin.ObjectAttr.storeInDict s.heap.objs.size (.str f s.toks) f v) _ _ _;unfold Builtin.ObjectAttr.storeInDict;show f8 _ _ (pure () >>= _) _ _ _;refine Ab (Ae (Ab (wpAny_nsSet1 n0 λh3 n3 sb=>?_)));obtain⟨oD,esD,epD,Ė,ĝ,Om⟩:=n3.count (Gr f v (ns:=[]) λy hy=>absurd rfl hy);refine Ab (wpAny_lookBehind Ė (by rw[ĝ];exact pastItsLine_dict (AE Om (by show 1<=sizeLine+1;decide))) (Ae ?_));refine h h3 _ _ (Ah _) ((sb.2 _ nd.symm).trans e2) n3 λb o n eb=>?_;have:b≠s.heap.objs.size:=AD (Aj eb);exact(sb.2 _ this).trans (kp b o n eb)
end L2
variable{ot':Option AY}
namespace L2
structure Su(C:db)(lo:Nat)(H:Hp)(h:nn)(a dx:db)(ot:Option db)(n:Int):Prop where
 fx:sY h a C dx ot
 fa:H a=al (.ext (u7 a C dx))
 fd:H dx=al (.xd [("place",.int n)])
 fl:lo<=a
 ft:∀T,ot=al T->H T=bn/\lo<=T
def n6(P:tz)(w:wS)(C:db):LV:=λouter H s E e s'=>∃a dx ot n H',e=.ref a/\s'.os=s.os/\Tk s'.gens/\Un (o7 outer) [] H H' s.heap s'.heap/\iw P w H' s'.heap/\Su C s.heap.objs.size H' s'.heap a dx ot n/\E (.int n 0) (al a) H'
def rA(X:Cx)(C:db)(E:XK):Prop:=∀(Z:O (db×Obj)) (σ:St) (H:Hp) (s:gt) (a dx:db) (ot:Option db) (n:Int),Inv X Z σ H s->Su C X.s₀.heap.objs.size H s.heap a dx ot n->E (.int n 0) (al a) H->X.xe (.ref a) s
def sY.phi{C dx:db}(x:sY h a C dx ot):u7 a C dx h:=let ⟨vs,sl,e,_⟩:=x;⟨vs,sl,e⟩
def rR.aX{C dx:db}(c:rR S a ot h h')(x:sY h' a C dx ot')(ok:iw P w H h)(ea:H a=al (.ext (u7 a C dx)))(et:∀T,ot=al T->H T=bn)(es:∀b∈S,H b=bn):iw P w H h':=λb o e=>by
 by_cases hb:b=a
 .subst hb;rw[ea]at e;cases e;obtain⟨_,_,st⟩:=ok b _ ea;obtain⟨vs,sl,q,_⟩:=id x;exact⟨x.phi,⟨_,q⟩,st⟩
 .refine(ok b o e).mY (λd u hd q=>c.keep d u q ?_ ?_ ?_) (λ_ z=>z) λ_ _ z=>z
  .rintro rfl;rcases hd with rfl|hd
   .exact hb rfl
   .rw[ea]at hd;cases hd
  .intro z;have:=et d z;rcases hd with rfl|hd
   .rw[this]at e;cases e
   .rw[this]at hd;cases hd
  .intro z;have:=es d z;rcases hd with rfl|hd
   .rw[this]at e;cases e
   .rw[this]at hd;cases hd
def cH{K:Aa}{N:O Str}{C:db}{E:XK}:rA (ku (n6 P w C) P w K mg base N qual sc f cd A outer s H E) C E:=by
 intro Z σ H1 s1 a dx ot n I F e;have st:=I.stack;have sf:=I.lO;have nl:∀b,s.heap.objs.size<=b->∀o,s.heap.get? b=al o->False:=λb hb o q=>absurd (Aj q) (EJ.mpr hb);show f8 _ _ (leaving _ (.ref a)) _ _ s1;refine yc (base:=base) (env:=Db qual sc s.heap.objs.size f cd) (outer:=outer) I.ok.frames st rfl F.fx λh' T c x hT=>?_;have T0:H1 T=bn:=I.aX.fresh hT;refine⟨a,dx,al T,n,H1,rfl,I.os,I.bare,⟨λb o q n0 hb hx=>?_,λb o q n0 hb hx=>?_,I.base.free,λb o q hx=>?_,I.base.cC,I.base.mC,I.base.mX⟩,c.aX x I.aX F.fa (λT h=>(F.ft T h).1) sf,⟨x,F.fa,F.fd,F.fl,λT' z=>by cases z;exact⟨T0,AE I.sz hT⟩⟩,e⟩
 .have q1:=I.base.keep b o q n0 hb hx;refine c.keep b o q1 (λz=>nl _ F.fl _ (z▸q)) (λz=>nl _ (F.ft _ z).2 _ q) λz=>?_;have z:b∈o7 (Db qual sc s.heap.objs.size f cd::outer):=z;simp only[o7,Bm,Db]at z;rcases Au.mp z with rfl|z
  .exact nl _ (Ah _) _ q
  .exact hb z
 .obtain⟨sl,q1⟩:=I.base.slot b o q n0 hb hx;obtain⟨Qv,q2⟩:=c.slot b _ q1 (λz=>nl _ F.fl _ (z▸q)) (λz=>nl _ (F.ft _ z).2 _ q);exact⟨Qv,q2⟩
 .obtain⟨o1,q1⟩:=I.base.there b o q hx;exact c.there b o1 q1
def qi{C:db}{E:XK}(h:rA X C E):Passes (n6 X.prog X.w C) X E:=by
 rintro Z σ H s e s' I ⟨a,dx,ot,n,H',rfl,os,bare,un,aX,F,q⟩;obtain⟨hh,g,d,t,YY⟩:=s';obtain rfl:YY=s.os:=os;refine h Z σ H' _ a dx ot n (I.call (h':=hh) (g':=g) (d':=d) (t':=t) (ch:=[]) un aX bare (λb z=>absurd z (by simp))) ⟨F.fx,F.fa,F.fd,AE I.sz F.fl,λT z=>⟨(F.ft T z).1,AE I.sz (F.ft T z).2⟩⟩ q
section
variable{K:Aa}
def lz.Xf{C:db}{x:Str}{st:ut}{N:O Str}(F:lz K x qual st f fd)(S:bW N ps (ak st))(len:∀vs H Q E,sp vs H Q E->vs.length=ps.length)(mz:∀(bX:ce) (A:BT) (outer:O Env) (s:gt) (H:Hp) (vs:O V) (Q:VK) (E:XK),bI k (A.deeper (Db qual (ak st) s.heap.objs.size f bX))->sp vs H Q E->
   ∃t,nY (ku (n6 P w C) P w K mg base N qual (ak st) f bX A outer s H E) (a9 st) t/\t {nx:=λ_ H'=>Q .bx H',rt:=Q} (start N vs) H):bz P w K mg base (n6 P w C) (k+1) f fd ps sp:=by
 obtain⟨oc,od,kV,Ç,pm,an,bX,ct,Ku,rfl,lk,dr⟩:=F.ex;exact JD lk dr S len λA outer s H vs Q E hr xl=>mz bX A outer s H vs Q E hr xl
end
def zW(a C dx:db)(h:nn):Prop:=∃v1,h.get? a=al {cls:=.ref C,dict:=al dx,data:=.fields #[v1,.none,.none,.none,.bool false,.none]}
section
variable{K:Aa}{es:pc}{q1:Pos}{x:Str}{C ı:db}
def tF1(t1:TE):TE:=λσ H Q=>t1 σ H λx H1=>∃n:Int,x=.int n/\n.natAbs.log2<100/\∀u,Q (.str u) H1
theorem YQ{a:Str}(la:a.length<=100)(he:PE X e te):PE X (.JoinedStr [.Constant (.str a) i q1,.FormattedValue e (-1) bn p1] pos) (tF1 te):=by
 intro Z s σ H Q I h;have big:3000<=sizeLine:=by rw[xz];decide
 have e0:(GG:Str).length=0:=rfl;refine JoinedStr_many ?_;refine joinParts_cons (bp (zY Z s σ H (λx H1=>x=.str a/\H1=H) I ⟨rfl,rfl⟩) λu0 s0 ⟨x0,H0,I0,r0,ex0,eH0⟩=>?_);subst ex0;subst eH0;obtain⟨t0,rfl⟩:=r0;refine⟨by rw[AA];lia,?_⟩;refine joinParts_cons (FormattedValue_plain (bp (he Z s0 σ _ _ I0 h) λu1 s1 ⟨x1,H1,I1,r1,n,ex1,ln,h⟩=>?_));subst ex1;obtain⟨t1,rfl⟩:=r1;have l1:=int_text_length_le (k:=100) ⋯ ln;have l2:(DA (toString n)).length<=101:=by rw[PySem.ofString_length];exact l1
 have l3:(GG++a++DA (toString n)).length<=sizeLine:=by rw[AA,AA];lia
 refine formatField_int_small ∅ ⟨l3,?_⟩;exact joinParts_nil ⟨.str _,_,(I1.tok _).tok _,⟨_,rfl⟩,h _⟩ l3
def SS{C:db}:∀h1 h2:nn,u9 a C h1->(∀o,h1.get? a=al o->h2.get? a=al o)->u9 a C h2:=λ_ _ ⟨v,e⟩ k=>⟨v,k _ e⟩
def Yi{C dx:db}:∀h1 h2:nn,zW a C dx h1->(∀o,h1.get? a=al o->h2.get? a=al o)->zW a C dx h2:=λ_ _ ⟨v,e⟩ k=>⟨v,k _ e⟩
def Yj{C dx:db}:∀h1 h2:nn,u7 a C dx h1->(∀o,h1.get? a=al o->h2.get? a=al o)->u7 a C dx h2:=λ_ _ ⟨v,sl,e⟩ k=>⟨v,sl,k _ e⟩
def tXi(C:db)(ta te:TE):TE:=λσ H Q=>ta σ H λx H1=>te σ H1 λy H2=>∃a u,x=.ref a/\y=.str u/\H2 a=al (.ext (u9 a C))/\Q .bx H2
def YN(T:PF X.K ı C)(dr:∃cd,BQ X.K C=al cd)(hg:Gl X x)(hm:X.mg x=al (.ref ı))(hs:PE X es ta)(he:PE X e te)(k6:‹lm [es,e] X.env=[(false,o0 es X.env),(false,o0 e X.env)]›)(eY: ~~~(d6 x))(ht:‹o0 (.Call (.Attribute (.Name x p) "__init__" Á) [es,e] [] pos) X.env=(do
   let ov <- o0 (.Name x p) X.env
   Ix Á.atName
   let (f,first) <- sK [ov] (getMethod ov "__init__" pl)
   callWith pos f first (KM pos (lm [es,e] X.env)) (backToKw pos (SZ [] X.env)))›):PE X (.Call (.Attribute (.Name x p) "__init__" Á) [es,e] [] pos) (tXi C ta te):=by
 intro Z s σ H Q I h;refine DQ (pl:=pl) (fH I hg hm ?_ eY) ht;refine PySem.W.method_cls I.fm T.ga (PySem.W.cls_value I.fm T.rd T.fc (by rfl) ?_);have I0:=I.tok (s.toks+1);rw[k6];refine DG rfl (F1 ?_);refine A7 (bp (hs Z _ σ H _ I0 h) λu1 s1 ⟨x1,H1,I1,r1,h⟩=>A7 (bp (he Z s1 σ H1 _ I1 h) λu2 s2 ⟨x2,H2,I2,r2,a,u,e1,e2,ea,q⟩=>BL ?_));subst e1;subst e2;obtain rfl:u1=Ao a:=r1;obtain⟨tk,rfl⟩:=r2;obtain⟨⟨v0,e0⟩,_,st⟩:=I2.aX _ _ ea;refine OX I2.fm e0 T.sub dr λh' v1 e1 k1=>?_;have e2:upd H2 a (.ext (u9 a C))=H2:=by
  funext b;by_cases hb:b=a
  .subst hb;rw[aw,ea]
  .rw[ah hb]
 have I3:=I2.write (x:=a) (e:=a) (o:=.ext (u9 a C)) (h':=h') (t':=s2.toks) (by rw[ea];trivial) (.inl rfl) (λb o n=>k1 b o n) ⟨_,e1⟩ ⟨⟨v1,e1⟩,⟨_,e1⟩,SS⟩;rw[e2]at I3;exact⟨.bx,H2,I3,rfl,q⟩
def sXf(C:db)(ta tv:TE)(f:Str):TS:=λD σ H=>tv σ H λy H1=>ta σ H1 λx H2=>∃a,x=.ref a/\H2 a=al (.ext (u9 a C))/\∀H' dx,H2 dx=bn->(∀c,c≠a->c≠dx->H' c=H2 c)->H' a=al (.ext (zW a C dx))->H' dx=al (.xd [(f,y)])->D.nx σ H'
def YK{o:pc}{f:Str}(F:J2 X.K C ı f)(ha:PE X o ta)(hv:PE X Ã tv)(hs:r6 Ã (al (.Attribute o f È)) pos.line X.env=pure false):PS X (.Assign [.Attribute o f È] Ã pos) (sXf C ta tv f):=by
 intro Z s σ H D I h;refine plainObj_wpAny_Assign_Attribute (bp (hv Z s σ H _ I h) λu s1 ⟨y,H1,I1,ry,q⟩=>bp (ha Z s1 σ H1 _ I1 q) λov s2 ⟨x,H2,I2,rx,a,ex,ea,q⟩=>?_) hs;subst ex;obtain rfl:ov=Ao a:=rx;obtain⟨⟨v0,e0⟩,_,_⟩:=I2.aX _ _ ea;refine Qb I2.fm F e0 λh' dx tk hd e1 n1 k1=>?_;have fd:H2 dx=bn:=I2.aX.fresh hd;have lt:a<s2.heap.objs.size:=Aj e0;have na:dx≠a:=λz=>absurd lt (EJ.mpr (z▸hd));have un:Un X.fs [] H2 (upd (upd H2 dx (.xd [(f,y)])) a (.ext (zW a C dx))) s2.heap h':=by
  refine⟨λb o q n _ _=>k1 b o (λz=>by subst z;rw[ea]at n;cases n) q,λb o q n _ _=>⟨o.slots,k1 b o (λz=>by subst z;rw[ea]at n;cases n) q⟩,λb o q n _=>?_,λb o q _=>?_,λb xs n=>?_,λb o v n=>?_,λb ps n=>?_⟩
  .have h1:b≠a:=λz=>by subst z;rw[ea]at n;cases n
   have h2:b≠dx:=AD (Av (Aj q) hd);rw[ah h1,ah h2];exact n
  .by_cases hb:b=a
   .subst hb;exact⟨_,e1⟩
   .exact⟨o,k1 b o hb q⟩
  .have h1:b≠a:=λz=>by subst z;rw[ea]at n;cases n
   have h2:b≠dx:=λz=>by subst z;rw[fd]at n;cases n
   rw[ah h1,ah h2];exact n
  .have h1:b≠a:=λz=>by subst z;rw[ea]at n;cases n
   have h2:b≠dx:=λz=>by subst z;rw[fd]at n;cases n
   rw[ah h1,ah h2];exact n
  .have h1:b≠a:=λz=>by subst z;rw[ea]at n;cases n
   have h2:b≠dx:=λz=>by subst z;rw[fd]at n;cases n
   exact⟨#[],by rw[ah h1,ah h2,n];simp⟩
 have aX:iw X.prog X.w (upd (upd H2 dx (.xd [(f,y)])) a (.ext (zW a C dx))) h':=λb o n=>by
  by_cases h1:b=a
  .subst h1;rw[aw]at n;cases n;exact⟨⟨_,e1⟩,⟨_,e1⟩,Yi⟩
  rw[ah h1]at n;by_cases h2:b=dx
  .subst h2;rw[aw]at n;cases n;refine⟨_,n1,λg=>?_⟩;by_cases hg:g=f
   .subst hg;rw[if_pos rfl,FU];exact ry
   .rw[if_neg hg];have:(g==f)=false:=by simpa using hg
    simp[CS,this,mS]
  rw[ah h2]at n;refine(I2.aX b o n).mY (λc u hc q=>k1 c u ?_ q) (λc z=>?_) λc xs z=>?_
  .rintro rfl;rcases hc with rfl|hc
   .exact h1 rfl
   .rw[ea]at hc;cases hc
  .have h1:c≠a:=λy=>by subst y;rw[ea]at z;cases z
   have h2:c≠dx:=λy=>by subst y;rw[fd]at z;cases z
   rw[ah h1,ah h2];exact z
  .have h1:c≠a:=λy=>by subst y;rw[ea]at z;cases z
   have h2:c≠dx:=λy=>by subst y;rw[fd]at z;cases z
   rw[ah h1,ah h2];exact z
 exact⟨σ,_,I2.un (t':=tk) un aX,q _ dx fd (λc h1 h2=>by rw[ah h1,ah h2]) aw (by rw[ah na,aw])⟩
end
end L2
variable{σ:L2.St}{q nm:BN}{bs sub:O A2}{k1 k0 k3 k5:Option A2}{nL:Bool}{sn:O BN}{col:Option Bool}{dd:Option AY}
namespace L2
def Me(C:db):Sp:=λvs H Q _=>∃(a:db) (n:Int),vs=[.ref a,.int n]/\H a=al (.ext (u9 a C))/\n.natAbs.log2 < 100/\∀H' dx,H dx=bn->(∀c,c≠a->c≠dx->H' c=H c)->H' a=al (.ext (zW a C dx))->H' dx=al (.xd [("place",.int n)])->Q .bx H'
section
variable{K:Aa}{C:db}
def VE{n:Int}{Q:ce->gt->Prop}(M:zi X.K C f)(F:bz X.prog X.w X.K X.mg X.base jo k f fd ["self","place"] (Me C))(hb:Binds X.K fd ["self","place"] [])(hr:bI (k+1) X.A)(I:Inv X Z σ H s)(hn:n.natAbs.log2 < 100)(q:∀s' a dx H',Inv X Z σ H' s'->(∀c o,H c=al o->H' c=al o)->(∀c,H' c=bn->H c=bn)->Su C s.heap.objs.size H' s'.heap a dx bn n->
   (∃v1,s'.heap.get? a=al {cls:=.ref C,dict:=al dx,data:=.fields #[v1,.none,.none,.none,.bool false,.none]})->Q (.ref a) s'):f8 (lf X.prog X.w) X.A (call (.ref C) [.int n tk]) Q X.xe s:=by
 have e1:((s.heap.push {cls:=.type "tuple",data:=.seq [Cu n tk].toArray}).push (iV C s.heap.objs.size)).get? (s.heap.objs.size+1)=al (iV C s.heap.objs.size):=by
  have:=Ak (s.heap.push {cls:=.type "tuple",data:=.seq [Cu n tk].toArray}) (o:=iV C s.heap.objs.size) rfl
  rwa [Bf]at this
 have fa:H (s.heap.objs.size+1)=bn:=I.aX.fresh (F5 _);have I1:=I.laid (a:=s.heap.objs.size+1) (o:=.ext (u9 (s.heap.objs.size+1) C)) (t':=s.toks) (h':=(s.heap.push {cls:=.type "tuple",data:=.seq [Cu n tk].toArray}).push (iV C s.heap.objs.size)) (λb u q=>Ad _ (Ad _ q)) (F5 _) ⟨⟨_,e1⟩,⟨_,e1⟩,SS⟩;have r2:Vals [V.ref (s.heap.objs.size+1),.int n] [Ao (s.heap.objs.size+1),.int n tk]:=.cons rfl (.cons ⟨tk,rfl⟩ .nil);have hq:Me C [V.ref (s.heap.objs.size+1),.int n] (upd H (s.heap.objs.size+1) (.ext (u9 (s.heap.objs.size+1) C))) (λv H'=>v=.bx/\∃dx,H dx=bn/\dx≠s.heap.objs.size+1/\(∀c,c≠s.heap.objs.size+1->c≠dx->H' c=H c)/\H' (s.heap.objs.size+1)=al (.ext (zW (s.heap.objs.size+1) C dx))/\H' dx=al (.xd [("place",.int n)])) E0:=
  ⟨_,n,rfl,aw,hn,λH' dx hd ho ha hx=>by
   have nx:dx≠s.heap.objs.size+1:=λz=>by subst z;rw[aw]at hd;cases hd
   rw[ah nx]at hd;exact⟨rfl,dx,hd,nx,λc h1 h2=>by rw[ho c h1 h2,ah h1],ha,hx⟩⟩
 refine CF (NI I.fm M (by show 1<=sizeLine;decide) (EQ (F.run _ X.stack _ _ ⟨[Ao (s.heap.objs.size+1),.int n tk],[]⟩ [Ao (s.heap.objs.size+1),.int n tk] _ _ E0 (hr.make C _ [])
  (I1.OT.make C _ []) (hb _ [Ao (s.heap.objs.size+1),.int n tk] I1.fm rfl) r2 hq) λr s' K1=>?_))
 cases r with
 |error e=>exact K1.elim
 |ok fl=>
  cases fl with
  |ret u=>
   obtain⟨v,H',I3,rv,ev,dx,hd,nd,ho,ha,hx⟩:=I1.after K1;subst ev;obtain⟨⟨v1,e2⟩,_,_⟩:=I3.aX _ _ ha;refine⟨rv,?_⟩;have I4:=I3.write (x:=s.heap.objs.size+1) (e:=s.heap.objs.size+1) (o:=.ext (u7 (s.heap.objs.size+1) C dx)) (h':=s'.heap) (t':=s'.toks) (by rw[ha];trivial) (.inl rfl) (λb o _ q=>q) ⟨_,e2⟩ ⟨⟨_,_,e2⟩,⟨_,e2⟩,Yj⟩;refine q s' _ dx _ I4 (λc o e=>?_) (λc e=>?_) ⟨⟨_,_,e2,(by show 1<6;decide),rfl⟩,aw,by rw[ah nd];exact hx,F5 _,λT z=>(nomatch z)⟩ ⟨v1,e2⟩
   .have h1:c≠s.heap.objs.size+1:=λz=>by subst z;rw[fa]at e;cases e
    have h2:c≠dx:=λz=>by subst z;rw[hd]at e;cases e
    rw[ah h1,ho c h1 h2];exact e
   .by_cases h1:c=s.heap.objs.size+1
    .subst h1;exact fa
    .rw[ah h1]at e;by_cases h2:c=dx
     .subst h2;exact hd
     .rw[ho c h1 h2]at e;exact e
  |next=>exact AV K1
  |brk=>exact AV K1
  |cont=>exact AV K1
def tH{N:db}{bm:O ce}{ab:Bool}{k2:Option ce}{â:String}{x:Sem ce}{Q:Flow->gt->Prop}(cY:bm.contains (.type "BaseException")=true)(hh:A.handled=bn)(h:f8 M A x (λv s₁=>∃e dx t,v=.ref e/\s₁.heap.get? C=al (P3 nm q C N bs bm nL sn sub ab col dd k0 k1 k2 k3 k5 â)/\
   s₁.heap.get? e=al {cls:=.ref C,dict:=al dx,data:=.fields #[t,.none,.none,.none,.bool false,.none]}/\E (.ref e) s₁) E s):f8 M A (raiseStmt env (al x) bn) Q E s:=by
 have hcB:(Ao C::bm).contains (.type "BaseException")=true:=by rw[List.contains_cons,cY,Bool.or_true]
 unfold raiseStmt;refine Ab (BD h (λv s₁ h₁=>?_) λ_ _ x=>x);obtain⟨e,dx,t,rfl,hC,he,hE⟩:=h₁;obtain⟨hp,g,d,tk,os⟩:=s₁
 repeat (first|with_reducible refine DJ he ?_|with_reducible refine DJ hC ?_|(with_reducible refine Ej hC ?_;rw[hcB])|wp_step)
 exact wpAny_raiseNew_none hh hE
end
def UC(te:TE)(E:XK):TS:=λ_ σ H=>te σ H λx H1=>∃n:Int,[x]=[.int n]/\n.natAbs.log2<100/\∀(a:db) (H':Hp),(∀c o,H1 c=al o->H' c=al o)->(∀c,H' c=bn->H1 c=bn)->E (.int n 0) (al a) H'
section
variable{K:Aa}{C:db}{x:Str}{np:Pos}{E:XK}
def lV(M:zi X.K C f)(F:bz X.prog X.w X.K X.mg X.base jo k f fd ["self","place"] (Me C))(hb:Binds X.K fd ["self","place"] [])(hr:bI (k+1) X.A)(hc:X.calm=true)(hg:Gl X x)(hm:X.mg x=al (.ref C))(hkp:AL X.K (.ref C)=true)(he:PE X e te)(hf:rA X C E)(eY: ~~~(d6 x))(k6:‹dY X e []›)(bZ:‹gw X bN []›):PS X (.Raise (al (.Call (.Name x np) [e] [] bN)) bn pos) (UC te E):=by
 intro Z s σ H D I h;obtain⟨nm,q,N,bs,bm,nL,sn,sub,ab,col,dd,k0,k1,k2,k3,k5,hC,tl⟩:=M.obj;have cY:bm.contains (.type "BaseException")=true:=(tl _ I.fm).hasType ⋯;have main:f8 (lf X.prog X.w) X.A (o0 (.Call (.Name x np) [e] [] bN) X.env) (λv s₁=>∃a dx t,v=.ref a/\s₁.heap.get? C=al (P3 nm q C N bs bm nL sn sub ab col dd k0 k1 k2 k3 k5 "ValueError.__new__")/\
   s₁.heap.get? a=al {cls:=.ref C,dict:=al dx,data:=.fields #[t,.none,.none,.none,.bool false,.none]}/\X.xe (.ref a) s₁) X.xe s:=by
  refine AM (fH I hg hm (B6 I.ok.mod.NV hkp (bp ((aj he aJ k6) bN Z s σ H (λvs H1=>∃n:Int,vs=[.int n]/\n.natAbs.log2<100/\∀(a:db) (H':Hp),(∀c o,H1 c=al o->H' c=al o)->(∀c,H' c=bn->H1 c=bn)->E (.int n 0) (al a) H') I h) λus s1 ⟨vs,H1,I1,r,q⟩=>⟨I1.fm,?_⟩) k6 bZ) eY);obtain⟨n,rfl,hn,q⟩:=q;obtain⟨u,rfl,r1⟩:=r.one;obtain⟨tk,rfl⟩:=r1;refine VE M F hb hr I1 hn λs' a dx H' I2 k1 k2 fl ⟨v1,e1⟩=>⟨a,dx,v1,rfl,I2.fm _ _ hC,e1,?_⟩;exact hf Z σ H' s' a dx bn n I2 ⟨fl.fx,fl.fa,fl.fd,AE I1.sz fl.fl,λT z=>(nomatch z)⟩ (q a H' k1 k2)
 rw[arm_exec_Raise]
 first
  |exact Ab (Cd (tH cY (I.ok.hd hc) (Ab (BD main (λv s₃ h₃=>Ab (Cd (Ae h₃))) λ_ _ x=>x))))
  |(simp only[evalOpt,Option.map];exact Ab (Cd (tH cY (I.ok.hd hc) (Ab (BD main (λv s₃ h₃=>Ab (Cd (Ae h₃))) λ_ _ x=>x)))))
end
structure Sv(K:Aa)(C TE:db):Prop where
 c:∃nm q N bs nL sn sub ab col dd k0 k1 k2 k3 k5,K.lookup C=al (P3 nm q C N bs (.ref TE::Pg) nL sn sub ab col dd k0 k1 k2 k3 k5 "ValueError.__new__")
 t:∃nm q N bs nL sn sub ab col dd k0 k1 k2 k3 k5,K.lookup TE=al (P3 nm q TE N bs Pg nL sn sub ab col dd k0 k1 k2 k3 k5 "ValueError.__new__")
def Lb{K:Aa}{C TE:db}{e:db}{oe:Obj}{Q:Bool->gt->Prop}(U:Sv K C TE)(X:K.In s.heap)(he:s.heap.get? e=al oe)(Oj:oe.cls=.ref C)(hq:Q true s):f8 M A (excMatches (.ref e) (.ref TE)) Q E s:=by
 obtain⟨nm,q,N,bs,nL,sn,sub,ab,col,dd,k0,k1,k2,k3,k5,lc⟩:=U.c;obtain⟨nm',q',N',bs',TV,sn',Yg,ab',aao,WJ,k0',Tz,Xk,Tw,k5',lt⟩:=U.t;have hC:=X _ _ lc;have hT:=X _ _ lt;obtain⟨h,g,d,t,os⟩:=s;have c1:(Ao TE::Pg).contains (.type "BaseException")=true:=by rfl
 have c2:(Ao C::Ao TE::Pg).contains (.ref TE)=true:=by simp
 have f:=tc_notTuple;unfold excMatches
 repeat (first|(with_reducible refine DJ he ?_;rw[Oj])|with_reducible refine DJ hT ?_|(with_reducible refine Ej hT ?_;rw[c1])|(with_reducible refine Ej hC ?_;rw[c2])|wp_step)
 exact hq
abbrev Cx.mark(X:Cx)(e:Option ce):Cx:={X with A:=X.A.mark e,calm:=false}
def Inv.mark(I:Inv X Z σ H s)(e:Option ce):Inv (X.mark e) Z σ H s:=
 ⟨⟨I.ok.mod,I.ok.kind,I.ok.glob,I.ok.blt,I.ok.above,I.ok.inj,I.ok.has,I.ok.WO,λz=>(nomatch z),I.ok.frames,I.ok.Yh,I.ok.exf,I.ok.bs,I.ok.Pe,I.ok.Kz,I.ok.La,I.ok.jN,I.ok.P1⟩,I.os,I.bare,I.base,I.loc,I.cell,I.free,I.fu,I.pin,I.aX,I.len⟩
def Inv.unmark{e:Option ce}(I:Inv (X.mark e) Z σ H s)(ok:X.Ok):Inv X Z σ H s:=⟨ok,I.os,I.bare,I.base,I.loc,I.cell,I.free,I.fu,I.pin,I.aX,I.len⟩
def Inv.landed{C dx:db}(I:Inv X Z σ H s)(c:rR (o7 X.stack) a ot s.heap h')(x:sY h' a C dx ot')(ea:H a=al (.ext (u7 a C dx)))(et:∀T,ot=al T->H T=bn/\X.s₀.heap.objs.size<=T)(ep:∀T,ot=al T->∀p∈X.pn++Z,p.1≠T)(hs:X.stack=X.env::X.outer)(hl:∀T,ot=al T->T≠X.env.locals/\∀y c,X.env.cells.lookup y=al c->c≠T)(ns:∀m,s.heap.Ns X.env.locals m->h'.Ns X.env.locals m):Inv X Z σ H {s with heap:=h'}:=by
 have sf:=I.lO;have aX:=c.aX x I.aX ea (λT h=>(et T h).1) sf;have na:∀b,H b=bn->b≠a:=λb h z=>by subst z;rw[ea]at h;cases h
 refine I.step (g':=s.gens) (d':=s.drawn) (t':=s.toks) (ch:=ot.toList) (λb hb=>?_) (λb o n1 n2 n3 e h=>?_) (λb o n1 n2 n3 e h=>?_) (λb o _ _ h=>h) (λb o _ e=>c.there b o e) (λ_ _ h=>h) (λ_ _ _ h=>h) (λb ps h=>⟨#[],by simpa using h⟩) ns aX I.bare
 .have hb:ot=al b:=by simpa using hb
  exact⟨.inr (et b hb).2,(hl b hb).1,(hl b hb).2,ep b hb⟩
 .refine c.keep b o e (na b h) (λz=>n3 (by simp[z])) λz=>?_;rcases Au.mp (I.pZ b z) with z|z
  .exact n1 z
  .exact n2 z
 .exact c.slot b o e (na b h) λz=>n3 (by simp[z])
end L2
variable{t:L2.TA}
namespace L2
section
def RP{n:Str}(I:Inv X Z σ H s)(hN:X.N.Nodup)(hj:X.N[j]?=al n)(hk:X.env.kindOf n=al .local)(h:∀s',Inv X Z (σ.set j bn) H s'->Q () s'):
  f8 M A (do bindName X.env n .none;unbindBehindTheSuite X.env n pos) Q E s:=by
 obtain⟨m,hn,hl⟩:=id I.loc;have Oj:(X.env.scope.kind==.class||(X.env.scope.kind==.module&&X.env.locals != X.env.globals))=false:=by rw[I.ok.kind];rfl
 have LR:=I.LR;refine wpAny_nameGoes_keeps hk hn Oj λh' v ZI hs=>?_;obtain⟨oL,_,_,hoL,_⟩:=id hn;have Ì:iw X.prog X.w H h':=λb ob e=>(I.aX b ob e).mY (λc w' hc q=>(hs.2 c (by
  rintro rfl;rcases hc with z|hc
  .rw[<- z,I.free]at e;cases e
  .rw[I.free]at hc;cases hc)).trans q) (λ_ q=>q) λ_ _ q=>q
 refine h _ ⟨I.ok,I.os,I.bare,⟨λb o e n hb hx=>?_,λb o e n hb hx=>?_,I.base.free,λb o e hx=>?_,I.base.cC,I.base.mC,I.base.mX⟩,⟨_,ZI,λi y v' e1 e2 e3=>?_⟩,λy c e=>?_,I.free,I.fu,λp hp=>?_,Ì,by simpa using I.len⟩
 .exact(hs.2 b (AD (Av (Aj e) I.ok.above))).trans (I.base.keep b o e n hb hx)
 .obtain⟨sl,e1⟩:=I.base.slot b o e n hb hx;exact⟨sl,(hs.2 b (AD (Av (Aj e) I.ok.above))).trans e1⟩
 .obtain⟨o',e1⟩:=I.base.there b o e hx;exact⟨o',(hs.2 b (AD (Av (Aj e) I.ok.above))).trans e1⟩
 .by_cases hi:i=j
  .subst hi;rw[E2]at e2;simp at e2
  .rw[Cg (Bu hi)]at e2;obtain⟨u',r',q⟩:=hl i y v' e1 e2 e3;refine⟨u',r',?_⟩;rcases q with⟨k,e⟩|⟨k,c,e,z⟩
   .refine .inl ⟨k,?_⟩;have:y≠n:=λe=>hi (qm hN e1 (e▸hj));simp[this,e]
   .exact .inr ⟨k,c,e,z.sameBut hs (LR y c e)⟩
 .obtain⟨w',z⟩:=I.cell y c e;exact⟨w',z.sameBut hs (LR y c e)⟩
 .obtain⟨e,n,ne,nf,d⟩:=I.pin p hp;exact⟨(hs.2 p.1 ne).trans e,n,ne,nf,d⟩
end
def PR(X:Cx)(C:db)(e:pc)(t:St->Hp->VK->XK->Prop):Prop:=
 ∀(Z:O (db×Obj)) (s:gt) (σ:St) (H:Hp) (Q:VK) (E:XK),Inv X Z σ H s->t σ H Q E->f8 (lf X.prog X.w) X.A (o0 e X.env) (EP X Z σ Q)
  (λev s'=>∃a dx ot n H',ev=.ref a/\Inv X Z σ H' s'/\Su C X.s₀.heap.objs.size H' s'.heap a dx ot n/\(∀T,ot=al T->(T≠X.env.locals/\∀y c,X.env.cells.lookup y=al c->c≠T)/\∀p∈X.pn++Z,p.1≠T)/\E (.int n 0) (al a) H') s
section
variable{C D0:db}{x:Str}{ta:L2.TE}
def MY(hx:∀e s,¬X.xe e s)(F:bz X.prog X.w X.K X.mg X.base (n6 X.prog X.w C) k f fd ps sp)(hr:bI k X.A)(kz:∀h:nn,X.K.In h->(∀b o,X.base.get? b=al o->h.get? b=al o)->(∀p∈fz,h.get? p.1=al p.2)->Dz f h)(hf:PE X (.Name x p) ta)(hb:Binds X.K fd ps [])(ha:PA X (e::es) t)(he:‹dY X e es›)(bZ:‹gw X pos es›):PR X C (.Call (.Name x p) (e::es) [] pos) (λσ H Q E=>ta σ H λx H1=>x=.ref f/\oK H1 fz/\t σ H1 λvs H2=>oK H2 fz/\sp vs H2 Q E):=by
 intro Z s σ H Q E I q;refine AM (BD (hf Z s σ H _ I q) (λv s1 ⟨y,H1,I1,r1,ey,z1,q1⟩=>?_) λ_ _ h=>(hx _ _ h).elim);subst ey;cases r1;have kz':∀{σ':L2.St}{H':Hp}{s':gt},Inv X Z σ' H' s'->oK H' fz->Dz f s'.heap:=λJ z=>kz _ J.fm J.bk λp hp=>let ⟨u,e⟩:=z p hp;(J.aX _ _ e).1;refine Eu (kz' I1 z1) (BD (ha pos Z s1 σ H1 _ I1 q1) (λus s2 ⟨vs,H2,I2,r,z2,q2⟩=>⟨kz' I2 z2,?_⟩) λ_ _ h=>(hx _ _ h).elim) he bZ;have hl:us.length=ps.length:=by rw[<- r.length];exact F.len _ _ _ _ q2
 refine CF (EQ (F.run X.A X.stack s2 H2 ⟨us,[]⟩ us vs Q E hr I2.OT (by have:=hb s2 us I2.fm (by rw[A8];exact hl);rwa [A8]at this) r q2) λr s' hq=>?_);cases r with
 |error e=>
  obtain⟨a,dx,ot,n,H',rfl,os,bare,un,aX,F,q⟩:=hq;obtain⟨hh,g,d,t,YY⟩:=s';obtain rfl:YY=s2.os:=os;refine⟨a,dx,ot,n,H',rfl,I2.call (h':=hh) (g':=g) (d':=d) (t':=t) (ch:=[]) un aX bare (λb z=>absurd z (by simp)),⟨F.fx,F.fa,F.fd,AE I2.sz F.fl,λT z=>⟨(F.ft T z).1,AE I2.sz (F.ft T z).2⟩⟩,λT z=>⟨⟨λy=>?_,λx c e y=>?_⟩,λp hp y=>?_⟩,q⟩
  .have:=I2.lt;have:=(F.ft T z).2;rw[y]at this;exact absurd I2.lt (EJ.mpr this)
  .obtain⟨v,o,ho,_⟩:=I2.cell x c e;rw[y]at ho;exact absurd (Aj ho) (EJ.mpr (F.ft T z).2)
  .have ho:=(I2.pin p hp).1;rw[y]at ho;exact absurd (Aj ho) (EJ.mpr (F.ft T z).2)
 |ok fl=>
  cases fl with
  |ret u=>exact I2.after hq
  |next=>exact AV hq
  |brk=>exact AV hq
  |cont=>exact AV hq
def acp(t:St->Hp->VK->XK->Prop)(i j:Nat)(C:db):TS:=λD σ H=>t σ H (λ_ H1=>D.nx σ H1) λv oa H1=>∀m a dx,v=.int m 0->oa=al a->H1 a=al (.ext (u7 a C dx))->H1 dx=al (.xd [("place",.int m)])->D.nx (((σ.set j (al (.ref a))).set i (al (.ref a))).set j bn) H1
def Vb{tt:St->Hp->VK->XK->Prop}{tn n cn:Str}{np np2 cp adE aaa:Pos}{ec:pc}(Hr:X.stack=X.env::X.outer)(ü:X.env.frame=al X.env.locals)(hx:∀e s,¬X.xe e s)(U:Sv X.K C D0)(hN:X.N.Nodup)(hi:X.N[i]?=al cn)(hj:X.N[j]?=al n)(hil:X.env.scope.names.lookup cn=al .local)(Od:X.env.kindOf n=al .local)(Ę:X.env.scope.names.lookup n=al .local)(hg:Gl X tn)(hm:X.mg tn=al (.ref D0))(he:PR X C ec tt)(hs:‹r6 ec bn aaa.line X.env=pure false›)(xm:‹r6 (.Name n np2) (al (.Name cn cp)) Á.line X.env=pure false›)(eY: ~~~(d6 tn))(hdn: ~~~(d6 n))(hdc: ~~~(rP n)):PS X (.Try [.Expr ec aaa] [.ExceptHandler (al (.Name tn np)) (al n) [.Assign [.Name cn cp] (.Name n np2) Á] adE] [] [] pos) (acp tt i j C):=by
 intro Z s σ H D I h;refine wpAny_Try_except (Fe (wpAny_Expr_any (BD (he Z s σ H _ _ I h) (λv s1 ⟨x,H1,I1,r1,q1⟩=>C2 (C2 ⟨σ,H1,I1,q1⟩)) ?_) I.quiet hs));rintro ev s1 ⟨a,dx,ot,m,H1,rfl,I1,F,hT,q⟩;have q:=q m a dx rfl rfl F.fa F.fd;have st:=I1.stack;rw[Hr]at st;have hA:X.A.frames=al (X.env::X.outer):=by rw[I1.ok.frames,Hr]
 refine tT hA st ü F.fx λh' T' c x' hT'=>?_;have ns:∀m,s1.heap.Ns X.env.locals m->h'.Ns X.env.locals m:=λm' ⟨o,es,ep,ho,hd,hk,hf⟩=>by
  obtain⟨sl,e⟩:=c.slot _ o ho (λz=>by have:=I1.free;rw[z,F.fa]at this;cases this) λz=>(hT _ z).1.1 rfl;exact⟨_,es,ep,e,hd,hk,hf⟩
 have I2:Inv X Z σ H1 {s1 with heap:=h'}:=I1.landed (by rw[Hr];exact c) x' F.fa F.ft (λT z=>(hT T z).2) Hr (λT z=>(hT T z).1) ns;refine wpAny_handleBy_cons (codeAny_handlers_test ?_) (by intro z;cases z);have I3:=I2.mark (al (.ref a));refine fH (X:=X.mark (al (.ref a))) I3 hg hm ?_ eY;obtain⟨vs,sl,e0,l0,e1,nT,cc,dd,ts,stt,eT,h3⟩:=id x';refine Lb U I2.fm e0 rfl ?_;have l3:3<ts.size:=by
  rcases Fw 3 ts.size with z|z
  .exact z
  .rw[FG z]at h3;cases h3
 refine codeAny_handlers_suite_as (wpAny_setFlight_none e0 rfl e1 eT rfl l3 ?_);have same:h'.update T' (Cs λx=>x.setIfInBounds 3 AO)=h':=Heap.update_setField_same h' T' _ ts 3 AO eT rfl h3;rw[same];refine eW I2 hN hj (.inl Ę) (show RelV (.ref a) (.ref a) from rfl) (λs3 I4=>?_) (.inr Ę);have I5:=I4.mark (al (.ref a));refine BD (bu (dI (X:=(X.mark (al (.ref a))).Ky) (i:=i) hN hi (.inl hil) (cO (i:=j) hj (.inl Ę) hdn hdc) xm (.inr hil)) Z s3 _ H1 {nx:=λσ' H'=>σ'=((σ.set j (al (.ref a))).set i (al (.ref a)))/\H'=H1,rt:=λ_ _=>False} (I5.mV _) ⟨.ref a,?_,rfl,rfl⟩) (λfl s4 h4=>?_) λ_ _ h=>h.elim
 .rw[C1];rw[I2.len];exact(Al.mp hj).1
 .cases fl with
  |next=>
   obtain⟨σ',H',I6,rfl,rfl⟩:=h4;exact RP (I6.iA.unmark I.ok) hN hj Od λs5 I7=>⟨_,H',I7,q⟩
  |ret v=>obtain⟨_,_,_,_,_,z⟩:=h4;exact z.elim
  |brk=>obtain⟨_,_,_,z⟩:=h4;exact z.elim
  |cont=>obtain⟨_,_,_,z⟩:=h4;exact z.elim
end
structure LD(K:Aa)(C:db):Prop where
 ga:Aw K (.ref C) "__getattribute__"=al (al (.builtin "BaseException.__getattribute__"))
 no:Aw K (.ref C) "__getattr__"=al bn
 sub:BF K C (.type "BaseException")=al true
 hd:Ck K C=true
 ha:Aw K (.ref C) "__class__"=al (al (.builtin "object.__class__"))
 hn:Cj K (.builtin "object.__class__") "__get__"=al (al (.builtin "getset_descriptor.__get__"))
 htk:FH K (.builtin "object.__class__")=al true
 hm:BF K C (.type "object")=al true
def Qd{K:Aa}{C dx:db}{sl:Array (Option ce)}{od:Obj}{Q:Option ce->gt->Prop}(X:K.In s.heap)(F:LD K C)(e:s.heap.get? a=al {cls:=.ref C,dict:=al dx,data:=.fields vs,slots:=sl})(ho:s.heap.get? dx=al od)(h:Q (al (.ref C)) {s with toks:=s.toks+1}):f8 (lf prog w) A (getAttr? (.ref a) "__class__") Q E s:=by
 have J:Dy s.heap a {cls:=.ref C,dict:=al dx,data:=.fields vs,slots:=sl} C (al od):=⟨e,rfl,rfl,ho⟩;have hf:PySem.W.findObj K C (al od) "__class__"=al (.bind (.builtin "getset_descriptor.__get__") (.builtin "object.__class__")):=PySem.W.findObj_data (by obtain⟨cd,hc,_⟩:=Di F.hd;rw[hc];rfl) F.ha F.hn F.htk;unfold getAttr? getAttrBy? getAttrBy;refine Ab (wpAny_mkText (Ab (Ct (Ba (Ab (Ab (Bc e (Ae ?_))))))));refine Ab (A3.here (BW X F.ga) ?_);show f8 _ _ (UF (.ref a) (.str "__class__" s.toks) (.ref C) (.builtin "BaseException.__getattribute__") false false) _ _ _;unfold UF;refine Ab ?_;show f8 _ _ (typeLookup (.ref C) "__getattr__") _ _ _;refine A3.here (BW X F.no) ?_;refine Ab (Ct (Ba ?_));have e1:callGetattribute (.ref a) (.str "__class__" s.toks) (.builtin "BaseException.__getattribute__") false=boundAndCalled (.builtin "BaseException.__getattribute__") (.ref a) (.str "__class__" s.toks):=by rfl
 rw[e1];unfold boundAndCalled;rw[EB.ga.bind (.ref a)];refine Ab (Ae (CF (Re (by decide +kernel) FR ?_)));unfold Os;have hk:(builtinKind "BaseException.__getattribute__",splitId "BaseException.__getattribute__")=(al DB,al ("BaseException","__getattribute__")):=by decide +kernel
 rw[hk];refine Ab ?_;show f8 _ _ (Gc (.ref a) (.type "BaseException")) _ _ _;unfold Gc;refine Ab (Ab (Bc e (Ae ?_)));refine A3.here (CH X F.sub) ?_;have ha:argsOk "BaseException.__getattribute__" ⟨[.ref a,.str "__class__" s.toks],[]⟩:=F0 _ _;rw[if_neg ⋯];refine wpu ha ?_;unfold Fk.«object.__getattribute__»;refine Ab (Ae (Ab (Ae (Ab (Ab (Bc e (Ae ?_)))))));refine Ab (A3.here (Gk X J hf) ?_);show f8 _ _ (sK [Value.builtin "object.__class__"] (call (.builtin "getset_descriptor.__get__") [.builtin "object.__class__",.ref a,.ref C]) >>= _) _ _ _;refine Ab (Ba (CF (PySem.W.class_get (s:={s with toks:=s.toks+1}) (ox:={cls:=.ref C,dict:=al dx,data:=.fields vs,slots:=sl}) (od:=al od) X J F.hm ?_)));refine Ae ?_;show f8 _ _ (handedOut (.ref C)) _ _ _;exact Ae (Ae h)
def IsX(a C:db)(h:nn):Prop:=∃dx vs sl od,h.get? a=al {cls:=.ref C,dict:=al dx,data:=.fields vs,slots:=sl}/\h.get? dx=al od
def yg{K:Aa}{C:db}(F:LD K C):PySem.W.KitX K (.ref a) (.ref C) (IsX a C) where
 ty:=λM h _ ⟨dx,vs,sl,od,e,ho⟩=>(show Dy h a _ C (al od) from⟨e,rfl,rfl,ho⟩).type
 it:=λ_ _ X _=>by
  obtain⟨cdD,Om,_⟩:=Di F.hd;unfold BQ at Om
  split at Om
  .rename_i c' d' cd' Qv ho;intro A' Q' E' s' k q;unfold isType loadHead;exact Ab (Bc (k _ _ (X _ _ ho)) (Ae q))
  .cases Om
 ne:=λh tp dd ax n sl X htp=>by
  obtain⟨cdD,Om,_⟩:=Di F.hd;refine Bool.eq_false_iff.mpr λq=>?_;have e:C=tp:=Ao.inj (beq_iff_eq.mp q);subst e;unfold BQ at Om
  split at Om
  .rename_i c' d' cd' Qv ho;have z:=(X _ _ ho).symm.trans htp;cases z
  .cases Om
 ca:=λX ⟨dx,vs,sl,od,e,ho⟩ k=>Qd X F e ho k
theorem SH:∀{l:O db}{ax:O ce},Vals (l.map V.ref) ax->ax=l.map Ao
 |[],_,.nil=>rfl
 |y::l,_,.cons r0 r1=>by rw[SH r1,show _=Ao y from r0];rfl
section
structure XH(H:Hp)(a C dx:db)(n:Int):Prop where
 a:H a=al (.ext (u7 a C dx))
 d:H dx=al (.xd [("place",.int n)])
def XH.is{C dx:db}{n:Int}(x:XH H a C dx n)(ok:iw P w H h):IsX a C h:=by
 obtain⟨⟨vs,sl,e⟩,_,_⟩:=ok _ _ x.a;obtain⟨mA,⟨od,_,_,ho,_⟩,_⟩:=ok _ _ x.d;exact⟨dx,vs,sl,od,e,ho⟩
def y6{K:Aa}(hK:X.K=K):bP X (.builtin "isinstance") (λxs H Q=>∃a C dx n cv c b,xs=[V.ref a,cv]/\XH H a C dx n/\LD K C/\(∀u,RelV cv u->u=c)/\AJ K (.ref C) c=al b/\Q (.bl b) H):=by
 subst hK;intro Z s σ H xs us Q I r h;obtain⟨a,C,dx,n,cv,c,b,rfl,x,F,hc,hk,q⟩:=h;obtain⟨u,w',rfl,ru,Kn⟩:=vals2 r;obtain rfl:u=Ao a:=ru;obtain rfl:=hc _ Kn;exact Bb (yg F) I.fm (x.is I.aX) hk (λz=>nomatch z) λtk=>⟨.bl b,H,I.tok _,rfl,q⟩
def Ls{K:Aa}(hK:X.K=K):bP X (.builtin "isinstance") (λxs H Q=>∃(a C dx:db) (n:Int) (p:db) (l:O db) (b:Bool),xs=[V.ref a,.ref p]/\XH H a C dx n/\LD K C/\H p=al (.tup (l.map V.ref))/\CK K (.ref C) (l.map Ao)=al b/\Q (.bl b) H):=by
 subst hK;intro Z s σ H xs us Q I r h;obtain⟨a,C,dx,n,p,l,b,rfl,x,F,hp,hk,q⟩:=h;obtain⟨u,w',rfl,ru,Kn⟩:=vals2 r;obtain rfl:u=Ao a:=ru;obtain rfl:w'=Ao p:=Kn;obtain⟨hz,ax,rv,⟨o,e,hcl,n',hd⟩,hq⟩:=I.aX _ _ hp;have:=SH rv;subst this;obtain⟨c0,d0,dt,sl⟩:=o;cases hcl;cases hd;exact PySem.W.kia_tup (yg F) I.fm (x.is I.aX) e hk (λz=>nomatch z) λtk=>⟨.bl b,H,I.tok _,rfl,q⟩
def tXg(K:Aa)(ta:TE):TE:=λσ H Q=>ta σ H λx H1=>∃a C dx n,x=.ref a/\XH H1 a C dx n/\Sw K C "place"/\Q (.int n) H1
def M6{K:Aa}(hK:X.K=K)(he:PE X e ta)(hb:sB e "place" X.env (o0 e X.env)=o0 e X.env):PE X (.Attribute e "place" pos) (tXg K ta):=by
 subst hK;intro Z s σ H Q I h;refine J1 hb (bp (he Z s σ H _ I h) λu s1 ⟨x,H1,I1,rx,a,C,dx,n,ex,hx,F,q⟩=>?_);subst ex;obtain rfl:u=Ao a:=rx;obtain⟨⟨vs,sl,e1⟩,_,_⟩:=I1.aX _ _ hx.a;obtain⟨mA,hn,hl⟩:=I1.aX _ _ hx.d;have h1:=hl "place";rw[FU]at h1;cases hm:mA "place" with
 |none=>rw[hm]at h1;exact h1.elim
 |some v=>
  rw[hm]at h1;obtain⟨tk,rfl⟩:=(show ∃tk,v=.int n tk from h1);exact Qc I1.fm F e1 hn hm ⟨.int n,H1,I1.tok _,⟨_,rfl⟩,q⟩
end
end L2
namespace FL
section
variable[bD]
def qk{i j:Int}:of2 (aI g) (.int i) (.int j)=.ret (g i j):=KF λQ=>⟨C7,λq=>⟨rfl,q⟩⟩
def pE{C:Int->Int->Prop}{i j:Int}:of2 (WX C g) (.int i) (.int j)=.d8 (C i j) (.ret (g i j)):=KF λQ=>⟨λq=>⟨q.1,q.2.2⟩,λq=>⟨q.1,rfl,q.2⟩⟩
section
variable(i j:Int)(a:Bool)(x y:PV)(l m:O PV)(s t:Str)
@[simp] theorem HG:of2 GY (.int i) (.int j)=.ret (.int (i-j)):=qk
@[simp] theorem OI:of2 jB (.int i) (.int j)=.d8 (GM i j) (.ret (.int (i*j))):=pE
@[simp] theorem aen:of2 oDiv (.int i) (.int j)=.d8 (PQ i j) (.ret (.int (i / j))):=pE
@[simp] theorem vZ:of2 oMod (.int i) (.int j)=.d8 (0<j) (.ret (.int (i % j))):=pE
@[simp] theorem Ww:of2 rY (.int i) (.int j)=.d8 (PN i j) (.ret (.int (i ^ j.toNat))):=pE
@[simp] theorem OK:of2 oLt (.int i) (.int j)=.ret (.bl (decide (i<j))):=qk
@[simp] theorem OL:of2 oLe (.int i) (.int j)=.ret (.bl (decide (i<=j))):=qk
@[simp] theorem af3:of2 oGt (.int i) (.int j)=.ret (.bl (decide (j<i))):=qk
@[simp] theorem Z9:of2 oGe (.int i) (.int j)=.ret (.bl (decide (j<=i))):=qk
def OP:of2 kq x y=.d8 (Ld x y) (.ret (.bl (kf x y))):=KF λQ=>⟨λq=>⟨q.1,q.2.2⟩,λq=>⟨q.1,rfl,q.2⟩⟩
def JJ:of2 iL x y=.d8 (Ld x y) (.ret (.bl (!kf x y))):=KF λQ=>⟨λq=>⟨q.1,q.2.2⟩,λq=>⟨q.1,rfl,q.2⟩⟩
@[simp] theorem HH:of2 vk x .bx=.ret (.bl x.jk):=KF λQ=>⟨C7,λq=>⟨rfl,q⟩⟩
@[simp] theorem vY:of2 xS x .bx=.ret (.bl (!x.jk)):=KF λQ=>⟨C7,λq=>⟨rfl,q⟩⟩
@[simp] theorem OM:of2 Nu (.str s) (.str t)=.ret (.bl (!(Builtin.Str.occurrences t s 0 t.length 1).isEmpty)):=KF λQ=>⟨C7,λq=>⟨rfl,q⟩⟩
def WA{c:Nat}(h:fB s.cps.toList i=al c):of2 Nt (.str s) (.int i)=.d8 (s.length<=sizeLine) (.ret (.str ⟨#[c]⟩)):=KF λQ=>by
 show(s.length<=sizeLine/\match fB s.cps.toList i with|some c=>_/\_|none=>False)↔_;rw[h];exact⟨λq=>⟨q.1,q.2.2⟩,λq=>⟨q.1,rfl,q.2⟩⟩
@[simp] theorem da:addW (.int i) (.int j)=.ret (.int (i+j)):=(rfl)
@[simp] theorem pL:addW (.str s) (.str t)=.d8 (s.length+t.length<=sizeLine) (.ret (.str (s++t))):=(rfl)
@[simp] theorem abQ:addW (.tup l) (.tup m)=.d8 (l.length+m.length<=sizeLine) (.ret (.tup (l++m))):=(rfl)
@[simp] theorem cW:XB (.bl a)=.ret a:=(rfl)
@[simp] theorem Lc(w:W PV):jV (.bl true) w=w:=(rfl)
@[simp] theorem XA(w:W PV):jV (.bl false) w=.ret (.bl false):=(rfl)
@[simp] theorem R3(w:W PV):Pp (.bl true) w=w:=(rfl)
@[simp] theorem R4(w:W PV):Pp (.bl false) w=.ret (.bl false):=(rfl)
@[simp] theorem OG(w:W PV):orW (.bl true) w=.ret (.bl true):=(rfl)
@[simp] theorem Wx(w:W PV):orW (.bl false) w=w:=(rfl)
def WB(w:W PV):Pp (.bl a) w=if a=true then w else .ret (.bl false):=by cases a<;>rfl
def yH(w:W PV):jV (.bl a) w=if a=true then w else .ret (.bl false):=by cases a<;>rfl
@[simp] theorem ael:Vw (.bl a)=.ret (.bl (!a)):=(rfl)
@[simp] theorem bS:di (.bl a)=.ret a:=(rfl)
@[simp] theorem abF:di (.int i)=.ret (i != 0):=(rfl)
@[simp] theorem abE:di .bx=.ret false:=(rfl)
@[simp] theorem abD:di (.tup l)=.ret (!l.isEmpty):=(rfl)
@[simp] theorem abG:di (.cl l)=.ret (!l.isEmpty):=(rfl)
@[simp] theorem cZ:bK (.tup l)=.ret l:=(rfl)
@[simp] theorem fK:bK (.cl l)=.ret l:=(rfl)
@[simp] theorem fM:qx (.cl l)=.ret l:=(rfl)
@[simp] theorem dU:ixW l (.int i)=.Tc (fB l i):=(rfl)
@[simp] theorem v8:vt l=.ret (.int l.length):=(rfl)
@[simp] theorem Wu:zF l=.ret (.tup l):=(rfl)
@[simp] theorem vX:part (.int i)=.ret (al i):=(rfl)
@[simp] theorem vW:J9 (.tup [x,y])=.ret (x,y):=(rfl)
@[simp] theorem R1(k:Kd):dZ k (.int i)=.ret (.bl (k.is (.int i))):=(rfl)
@[simp] theorem wd(k:Kd):dZ k (.str s)=.ret (.bl (k.is (.str s))):=(rfl)
@[simp] theorem iW(k:Kd):dZ k (.tup l)=.ret (.bl (k.is (.tup l))):=(rfl)
@[simp] theorem abN(k:Kd):dZ k (.cl l)=.ret (.bl (k.is (.cl l))):=(rfl)
@[simp] theorem abO(k:Kd):dZ k (.bl a)=.ret (.bl (k.is (.bl a))):=(rfl)
@[simp] theorem abM(k:Kd):dZ k .bx=.ret (.bl (k.is .bx)):=(rfl)
@[simp] theorem pK:ql dF [.tup l]=.ret (.int l.length):=KF λQ=>⟨C7,λq=>⟨rfl,q⟩⟩
@[simp] theorem fN:ql dF [.cl l]=.ret (.int l.length):=KF λQ=>⟨C7,λq=>⟨rfl,q⟩⟩
@[simp] theorem mH:ql dF [.str s]=.d8 (s.length<=sizeLine) (.ret (.int s.length)):=KF λQ=>⟨λq=>⟨q.1,q.2.2⟩,λq=>⟨q.1,rfl,q.2⟩⟩
@[simp] theorem WC:ql y8 [.int i]=.ret (.int (if i<0 then -i else i)):=KF λQ=>⟨C7,λq=>⟨rfl,q⟩⟩
@[simp] theorem abP:ql y7 [.int i]=.ret (.int i):=KF λQ=>⟨C7,λq=>⟨rfl,q⟩⟩
@[simp] theorem JM:ql y7 [.bl a]=.ret (.int (if a then 1 else 0)):=KF λQ=>⟨C7,λq=>⟨rfl,q⟩⟩
@[simp] theorem OJ:ql Ly [.int i,.int j]=.ret (.int (if j > i then j else i)):=KF λQ=>⟨C7,λq=>⟨rfl,q⟩⟩
@[simp] theorem Wz:ql Pl [.int i,.int j]=.ret (.int (if j<i then j else i)):=KF λQ=>⟨C7,λq=>⟨rfl,q⟩⟩
@[simp] theorem abH:Hg (.int i)=.ret (.inl i):=(rfl)
@[simp] theorem RX:Hg (.str s)=.ret (.inr s):=(rfl)
@[simp] theorem mG:qe (.int j)=.d8 (okN 0 j) (.ret (jJ 0 j.toNat)):=(rfl)
@[simp] theorem OC:zN (.str s)=.d8 (s.cps.size<=sizeLine) (.ret (s.cps.toList.map λc=>.str ⟨#[c]⟩)):=(rfl)
@[simp] theorem OE:uY (l++[x])=.ret (l,x):=by unfold uY;simp
@[simp] theorem Wv:QB l (.int i)=.d8 (-(2 ^ 63)<=i/\i<2 ^ 63/\l.length*i.toNat<=sizeLine) (.ret (Ar i.toNat l).flatten):=(rfl)
@[simp] theorem RZ:Kd.is .int (.int i)=true:=(rfl)
@[simp] theorem abK:Kd.is .int (.bl a)=true:=(rfl)
@[simp] theorem abL:Kd.is .bool (.bl a)=true:=(rfl)
@[simp] theorem R0:Kd.is .bool (.int i)=false:=(rfl)
@[simp] theorem JL:Kd.is .str (.str s)=true:=(rfl)
@[simp] theorem mI:Kd.is .str (.tup l)=false:=(rfl)
@[simp] theorem abJ:Kd.is .str (.int i)=false:=(rfl)
@[simp] theorem v9:Kd.is .tup (.tup l)=true:=(rfl)
@[simp] theorem JK:Kd.is .tup (.str s)=false:=(rfl)
@[simp] theorem RY:Kd.is .tup (.int i)=false:=(rfl)
@[simp] theorem abI:Kd.is .tup (.bl a)=false:=(rfl)
@[simp] theorem cj(h0:0<i)(h1:i<=2000):bh (.int i)=drawn i:=wf ⟨h0,h1⟩
def aZ{m:Int}{Q:PV->Prop}(h:∀d:Int,0<=d->d<m->Q (.int d)):(drawn m).run Q:=λv ⟨d,e,h0,h1⟩=>e▸h d h0 h1
end
namespace W
variable{α:Type}
def le(a b:W α):Prop:=∀Q,b.run Q->a.run Q
def le.refl(a:W α):a.le a:=λ_ h=>h
def le.use{a:W α}{v:α}{Q:α->Prop}(h:a.le (.ret v))(q:Q v):a.run Q:=h _ q
end W
section
variable{S R:Type}
@[simp] theorem Z2(s:S)(f:PV->S->W S):jO [] s f=.ret s:=(rfl)
@[simp] theorem Xv(x:PV)(r:O PV)(s:S)(f:PV->S->W S):jO (x::r) s f=.bind (f x s) λs'=>jO r s' f:=(rfl)
theorem qN{f:PV->S->W S}{Q:S->Prop}(I:O PV->S->Prop):∀{l:O PV}{s:S},I l s->(∀x r s,I (x::r) s->(f x s).run (I r))->(∀s,I [] s->Q s)->(jO l s f).run Q
 |[],s,h0,_,he=>he s h0
 |x::r,s,h0,hs,he=>(f x s).mono (λs' h=>qN I h hs he) (hs x r s h0)
theorem mE{f:PV->S->W (Lp S R)}{Q:Lp S R->Prop}(I:O PV->S->Prop):∀{l:O PV}{s:S},I l s->(∀x r s,I (x::r) s->(f x s).run λo=>match o with|.go s'=>I r s'|.out t=>Q (.out t))->(∀s,I [] s->Q (.go s))->(FL.ik l s f).run Q
 |[],s,h0,_,he=>he s h0
 |x::r,s,h0,hs,he=>(f x s).mono (λo h=>match o,h with
  |.go s',h=>mE I h hs he
  |.out t,h=>h) (hs x r s h0)
theorem RV{f:PV->S->W S}{Q:S->Prop}(I:Nat->S->Prop){s:S}(h0:I 0 s)(hs:∀(i:Nat) (x:PV) s,l[i]?=al x->I i s->(f x s).run (I (i+1)))(he:∀s,I l.length s->Q s):(jO l s f).run Q:=by
 refine qN (λr s=>∃i,i<=l.length/\r=l.drop i/\I i s) ⟨0,Bs _,rfl,h0⟩ (λx r s ⟨i,hi,e,h⟩=>?_) (λs ⟨i,hi,e,h⟩=>?_)
 .have nJ:i<l.length:=by
   rcases Fw i l.length with h|h
   .exact h
   .rw[FA h]at e;cases e
  rw[Bt nJ]at e;injection e with e1 e2;subst e1;exact(f _ s).mono (λs' h'=>⟨i+1,nJ,e2,h'⟩) (hs i _ s (Af nJ) h)
 .have:i=l.length:=by
   have:=congrArg Dg e;rw[Ca]at this;simp at this;lia
  subst this;exact he s h
theorem JB{f:PV->S->W (Lp S R)}{Q:Lp S R->Prop}(I:Nat->S->Prop){s:S}(h0:I 0 s)(hs:∀(i:Nat) (x:PV) s,l[i]?=al x->I i s->(f x s).run λo=>match o with|.go s'=>I (i+1) s'|.out t=>Q (.out t))(he:∀s,I l.length s->Q (.go s)):(FL.ik l s f).run Q:=by
 refine mE (λr s=>∃i,i<=l.length/\r=l.drop i/\I i s) ⟨0,Bs _,rfl,h0⟩ (λx r s ⟨i,hi,e,h⟩=>?_) (λs ⟨i,hi,e,h⟩=>?_)
 .have nJ:i<l.length:=by
   rcases Fw i l.length with h|h
   .exact h
   .rw[FA h]at e;cases e
  rw[Bt nJ]at e;injection e with e1 e2;subst e1;exact(f _ s).mono (λo h'=>match o,h' with
   |.go s',h'=>⟨i+1,nJ,e2,h'⟩
   |.out t,h'=>h') (hs i _ s (Af nJ) h)
 .have:i=l.length:=by
   have:=congrArg Dg e;simp at this;lia
  subst this;exact he s h
def yC{f:PV->S->W S}{Q:S->Prop}(I:Nat->S->Prop){s:S}(h0:I 0 s)(hs:∀(i:Nat) s,i<n->I i s->(f (.int (i:Int)) s).run (I (i+1)))(he:∀s,I n s->Q s):(jO (jJ 0 n) s f).run Q:=
 RV I h0 (λi x s hx h=>by obtain⟨hi,rfl⟩:=nH hx;rw[FE];exact hs i s hi h) (λs h=>he s (by rw[kb]at h;exact h))
def yD{f:PV->S->W (Lp S R)}{Q:Lp S R->Prop}(I:Nat->S->Prop){s:S}(h0:I 0 s)(hs:∀(i:Nat) s,i<n->I i s->(f (.int (i:Int)) s).run λo=>match o with|.go s'=>I (i+1) s'|.out t=>Q (.out t))(he:∀s,I n s->Q (.go s)):(FL.ik (jJ 0 n) s f).run Q:=
 JB I h0 (λi x s hx h=>by obtain⟨hi,rfl⟩:=nH hx;rw[FE];exact hs i s hi h) (λs h=>he s (by rw[kb]at h;exact h))
theorem pS{c:S->W Bool}{b:S->W S}{Q:S->Prop}(I:Nat->S->Prop){s:S}(h0:I n s)(hs:∀n s,I n s->(c s).run λk=>if k=true then (b s).run (λs'=>∃m,m<n/\I m s') else Q s):(uE c b s).run Q:=by
 refine⟨n+1,?_⟩;have:∀k n s,n<k->I n s->(iz c b k s).run Q:=by
  intro k
  induction k with
  |zero=>intro n s h;lia
  |succ k ih=>
   intro n s hn h;refine(c s).mono (λz q=>?_) (hs n s h);cases z with
   |true=>exact(b s).mono (λs' ⟨m,hm,h'⟩=>ih m s' ∅ h') (q)
   |false=>exact q
 exact this (n+1) n s ∅ h0
theorem zx{c:S->W Bool}{b:S->W (Lp S R)}{Q:Lp S R->Prop}(I:Nat->S->Prop){s:S}(h0:I n s)(hs:∀n s,I n s->(c s).run λk=>if k=true then (b s).run (λo=>match o with|.go s'=>∃m,m<n/\I m s'|.out t=>Q (.out t)) else Q (.go s)):(FL.pT c b s).run Q:=by
 refine⟨n+1,?_⟩;have:∀k n s,n<k->I n s->(fC c b k s).run Q:=by
  intro k
  induction k with
  |zero=>intro n s h;lia
  |succ k ih=>
   intro n s hn h;refine(c s).mono (λz q=>?_) (hs n s h);cases z with
   |true=>exact(b s).mono (λo q=>match o,q with
    |.go s',⟨m,hm,h'⟩=>ih m s' ∅ h'
    |.out t,q=>q) (q)
   |false=>exact q
 exact this (n+1) n s ∅ h0
theorem iP{f:PV->W PV}{g:PV->PV}:∀{l:O PV},(∀x∈l,f x=.ret (g x))->c9 l f=.ret (l.map g)
 |[],_=>rfl
 |x::r,h=>by
  show am (f x) (λy=>am (c9 r f) λl=>ap (y::l))=_;rw[h x (.head _),iP λy hy=>h y (.tail _ hy)];rfl
theorem Hd{f:PV->W (Option PV)}{g:PV->Option PV}:∀{l:O PV},(∀x∈l,f x=.ret (g x))->nA l f=.ret (l.filterMap g)
 |[],_=>rfl
 |x::r,h=>by
  show am (f x) (λo=>am (nA r f) λl=>ap (o.toList++l))=_;rw[h x (.head _),Hd λy hy=>h y (.tail _ hy),Bm];cases g x<;>rfl
@[simp] theorem pO(bs:O Bool):nW (bs.map PV.bl)=.ret (.bl (bs.all id)):=by unfold nW;rw[JZ];rfl
def all_map(f:PV->Bool)(l:O PV):nW (l.map λx=>.bl (f x))=.ret (.bl (l.all f)):=by
 have:(l.map λx=>PV.bl (f x))=(l.map f).map PV.bl:=by rw[BJ];rfl
 rw[this,pO,FC];rfl
end
section
variable(i j:Int)(a b:Bool)(x y:PV)(l m:O PV)(s t:Str)
@[simp] theorem T6:kf (.int i) (.int j)=(i==j):=by rw[kf]
@[simp] theorem T5:kf (.str s) (.str t)=(s==t):=by rw[kf]
@[simp] theorem T7:kf (.bl a) (.bl b)=(a==b):=by rw[kf]
@[simp] theorem af0:kf (.tup l) (.tup m)=gm l m:=by rw[kf]
@[simp] theorem af1:kf (.cl l) (.cl m)=gm l m:=by rw[kf]
@[simp] theorem aee:gm [] []=true:=by rw[gm]
@[simp] theorem aed:gm (x::l) (y::m)=(kf x y&&gm l m):=by rw[gm]
@[simp] theorem abz:PV.fv (.int i)=true:=by rw[PV.fv]<;>simp
@[simp] theorem aec:PV.fv (.bl a)=true:=by rw[PV.fv]<;>simp
@[simp] theorem abx:PV.fv (.str s)=true:=by rw[PV.fv]<;>simp
@[simp] theorem aby:PV.fv .bx=true:=by rw[PV.fv]<;>simp
@[simp] theorem abw:PV.fv (.tup l)=eJ l:=by rw[PV.fv]
@[simp] theorem aeb:PV.fv (.cl l)=eJ l:=by rw[PV.fv]
@[simp] theorem Z4:eJ []=true:=by rw[eJ]
@[simp] theorem Xw:eJ (x::l)=(PV.fv x&&eJ l):=by rw[eJ]
@[simp] theorem Z8:PV.il (.int i)=0:=by rw[PV.il]<;>simp
@[simp] theorem abC:PV.il (.bl a)=0:=by rw[PV.il]<;>simp
@[simp] theorem Z6:PV.il (.str s)=0:=by rw[PV.il]<;>simp
@[simp] theorem Z7:PV.il .bx=0:=by rw[PV.il]<;>simp
@[simp] theorem Z5:PV.il (.tup l)=dS l+1:=by rw[PV.il]
@[simp] theorem abB:PV.il (.cl l)=dS l+1:=by rw[PV.il]
@[simp] theorem Xx:dS []=0:=by rw[dS]
@[simp] theorem Wo:dS (x::l)=max (PV.il x) (dS l):=by rw[dS]
def yI:Ld (.int i) (.int j):=⟨by simp,by simp,by simp⟩
@[simp] theorem wj:of2 kq (.int i) (.int j)=.ret (.bl (i==j)):=by rw[OP,wf (yI i j),T6]
@[simp] theorem nQ:of2 iL (.int i) (.int j)=.ret (.bl (!(i==j))):=by rw[JJ,wf (yI i j),T6]
@[simp] theorem aem:of2 kq (.bl a) (.bl b)=.ret (.bl (a==b)):=by rw[OP,wf ⟨by simp,by simp,by simp⟩,T7]
@[simp] theorem Wy:of2 iL (.bl a) (.bl b)=.ret (.bl (!(a==b))):=by rw[JJ,wf ⟨by simp,by simp,by simp⟩,T7]
end
theorem qO:∀{l:O PV},eJ l=true↔∀x∈l,PV.fv x=true
 |[]=>by simp
 |x::l=>by rw[eJ,AB,qO];simp
theorem qR:∀{l:O PV},(∀x∈l,PV.il x<=n)->dS l<=n
 |[],_=>by simp
 |x::l,h=>by
  have h1:=h x (.head _);have h2:=qR λy hy=>h y (.tail _ hy);rw[dS];lia
instance (priority:=10) ahf:bD:=⟨[]⟩
end
section
variable[bD]
structure EV where
 P:tz
 w:wS
 K:Aa
 mg:Str->Option ce
 base:nn
structure DF where
 x:Str
 s:ut
 ps:List Str
 k:Nat
 sp:Aa->Sp
abbrev DF.C(d:DF)(v:EV):=LJ v.P v.w v.K v.mg v.base d.x d.k d.ps (d.sp v.K)
structure DI(v:EV)(d:DF) where
 f:db
 fd:wp
 fn:lz v.K d.x d.x d.s f fd
 bi:Binds v.K fd d.ps []
 at':v.mg d.x=al (.ref f)
abbrev DI.O{v:EV}{d:DF}(D:DI v d):Prop:=bz v.P v.w v.K v.mg v.base jo d.k D.f D.fd d.ps (d.sp v.K)
def DI.c{v:EV}{d:DF}(D:DI v d)(h:D.O):d.C v:=⟨D.f,D.fd,h,D.bi,D.fn.kp,D.at'⟩
def DI.cN{v:EV}{d:DF}(D:DI v d)(h:bz v.P v.w v.K v.mg v.base jo k D.f D.fd d.ps sp):LJ v.P v.w v.K v.mg v.base d.x k d.ps sp:=⟨D.f,D.fd,h,D.bi,D.fn.kp,D.at'⟩
def DI.cA{v:EV}{d:DF}(D:DI v d)(h:D.O):W8 v.P v.w v.K v.mg v.base D.f [] [] [] d.k d.ps (d.sp v.K):=⟨D.fd,h.imp λ_ _ _ _ z=>z.2.2,D.bi,λ_ hK _ _=>let ⟨_,_,_,_,_,_,_,_,_,_,l,_⟩:=D.fn.ex;⟨_,_,_,_,hK _ _ l⟩⟩
structure DX(K:Aa)(x:Str)(st:ut):Prop where
 ex:∃f fd,Ay K ii x=al (al (.ref f))/\lz K x x st f fd
abbrev dnm(s:ut):Str:=match s with
 |.FunctionDef x _ _ _ _ _ _ _ _ _=>x
 |_=>""
def dx{K:Aa}{x:Str}{st:ut}{kV:ce}(a:Ay K ii x=al (al (.ref f)))(l:K.lookup f=al ⟨oc,od,.func (Bj x x (cz st) (a9 st) (ak st) .none kV Ç pm an bX ct),Ku⟩)(c:Ce K bX x=true)(k:AL K (.ref f)=true):DX K x st:=⟨f,_,a,nP l c k⟩
def xq{N P:O Str}(h1:‹sc.kind=.function›)(h2:‹sc.isCoroutine=false›)(h3:‹sc.isGenerator=false›)(h4:N.Nodup:=by decide +kernel)(h5:‹N.take P.length=P›)(h6:∀x∈P,sc.names.lookup x=al .local\/sc.names.lookup x=al .cell:=by decide +kernel)(h7:∀y∈sc.names,y.2≠.free:=by decide +kernel):bW N P sc:=⟨h1,h2,h3,h4,h5,h6,h7⟩
def lcs{N:O Str}(h1:‹sc.kind=.function›)(h2:∀y∈sc.names,y.2=.cell->sc.names.lookup y.1=al .cell:=by decide +kernel)(h3:∀y∈sc.names,y.2=.local->sc.names.lookup y.1=al .local:=by decide +kernel)(h4:∀y∈sc.names,y.2=.free->(Xs.names.lookup y.1=al .cell\/Xs.names.lookup y.1=al .free):=by decide +kernel)(h5:N'.Nodup:=by decide +kernel)(h6:‹ix.length=N'.length›)(h7:((ix.zip N').all λp=>match p.1 with|none=>true|some j=>decide (N[j]?=al p.2)&&decide (sc.names.lookup p.2=al .free))=true:=by decide +kernel):bE Xs N sc N' ix:=⟨h1,h2,h3,h4,h5,h6,h7⟩
abbrev Ha(l:O (Str×Da)):wT:={kind:=.function,names:=(DA ".0",.local)::l,isGenerator:=false,isCoroutine:=false,more:=[]}
abbrev lo:Da:=.local
abbrev gi:Da:=.globalImplicit
abbrev fr:Da:=.free
def se:O AK->Nat
 |[]=>0
 |.p _ _::ks=>se ks+1
 |_::ks=>se ks
theorem lZ:∀{ks:O AK}{i:Nat},ks[i]?=al (.p ψ d)->se ks≠0
 |[],i,h=>by simp at h
 |.p _ _::_,_,_=>Nat.succ_ne_zero _
 |.v::ks,0,h=>by simp at h
 |.f _ _ _ _::ks,0,h=>by simp at h
 |.v::ks,i+1,h=>lZ (ks:=ks) (by simpa using h)
 |.f _ _ _ _::ks,i+1,h=>lZ (ks:=ks) (i:=i) (by simpa using h)
theorem qj:∀{ks:O AK},Gz (se ks) 1=true->rq ks
 |[],_=>vi
 |.v::ks,h=>Jm (qj (ks:=ks) h)
 |.f _ _ _ _::ks,h=>Y3 (qj (ks:=ks) h)
 |.p _ _::ks,h=>λi j ⟨φ,d,a⟩ ⟨ψ,d',b⟩=>by
  have z:se ks+1<=1:=BO h;cases i with|succ i=>exact absurd ∅ (lZ (ks:=ks) (by simpa using a))|zero=>cases j with|succ j=>exact absurd ∅ (lZ (ks:=ks) (by simpa using b))|zero=>rfl
abbrev rK(st:ut):O Str:=((ak st).names.filter λy=>y.2==.local||y.2==.cell).map (·.1)
abbrev rJ(st:ut):O Str:=(cz st).args.map (·.arg)
abbrev nml(sc:wT):O Str:=((sc.names.tail.filter λy=>y.2==.local||y.2==.cell)++sc.names.filter λy=>y.2==.free).map (·.1)
abbrev ixl(N:O Str)(sc:wT):O (Option Nat):=((sc.names.tail.filter λy=>y.2==.local||y.2==.cell).map λ_=>bn)++(sc.names.filter λy=>y.2==.free).map λy=>al (N.idxOf y.1)
abbrev LS(st:ut)(sc:wT):Prop:=bE (ak st) (rK st) sc (nml sc) (ixl (rK st) sc)
def msk:Nat->aY->aY
 |_,[]=>[]
 |n,s::l=>(match n % 2 with|0=>s|_=>bn)::msk (n / 2) l
theorem dC.m:∀(n:Nat) {fs:aY},dC fs (msk n fs)
 |_,[]=>.refl _
 |n,s::l=>by
  unfold msk
  split
  .exact .keep (dC.m _)
  .exact .drop (dC.m _)
def Im:(n:Nat)->(O PV->W R->Prop)->uB R n->Prop
 |0,B,m=>B [] m
 |n+1,B,m=>∀x:PV,Im n (λl w=>B (x::l) w) (m x)
theorem Im.all:∀{n:Nat}{B:O PV->W R->Prop}{m:uB R n},Im n B m->∀l,l.length=n->B l (iB n m l)
 |0,_,_,h,[],_=>h
 |n+1,_,_,h,x::l,e=>Im.all (h x) l (Nat.succ.inj e)
section
variable{v:EV}{x:Str}{st:ut}
abbrev BB{T:Type}(v:EV)(x:Str)(st:ut)(k:Nat)(ks:O AK)(f:db)(n:Nat)(m:uB T n)(o:T->End):Prop:=∀{j:Nat}{bX:ce}{A:BT}{outer:O Env}{s:gt}{H:Hp}{E:XK},bI k (A.deeper (Db x (ak st) s.heap.objs.size f bX))->(rK st).Nodup->Im n (λl w=>SF (ku jo v.P v.w v.K v.mg v.base (rK st) x (ak st) f bX A outer s H E).Ky v.K false (ph j ks l (rK st).length) (a9 st) w o) m
abbrev BP{T:Type}(v:EV)(x:Str)(st:ut)(k:Nat)(ks:O AK)(f:db)(n:Nat)(m:uB T n)(o:T->End):Prop:=∀{bX:ce}{A:BT}{outer:O Env}{s:gt}{H:Hp}{E:XK} (j:Nat),bI k (A.deeper (Db x (ak st) s.heap.objs.size f bX))->(rK st).Nodup->Im n (λl w=>SF (ku jo v.P v.w v.K v.mg v.base (rK st) x (ak st) f bX A outer s H E).Ky v.K false (ph j ks l (rK st).length) (a9 st) w o) m
def ND{m:uB PV n}(D:DI v ⟨x,st,rJ st,k+1,λK=>n9 K ks (iB n m)⟩)(Æ:BB v x st k ks D.f n m .rt)(K3:‹ks.length=(rJ st).length›)(one:‹Gz (se ks) 1=true›)(S:bW (rK st) (rJ st) (ak st):=by exact xq):D.O:=fnV D.fn S K3 (qj one) λj l e bX A outer s H E hr=>(Æ hr S.nd).all l e
def mkL{m:uB (O PV) n}(D:DI v ⟨x,st,rJ st,k+1,λK=>qa K ks (iB n m)⟩)(Æ:BB v x st k ks D.f n m .rl)(K3:‹ks.length=(rJ st).length›)(one:‹Gz (se ks) 1=true›)(S:bW (rK st) (rJ st) (ak st):=by exact xq):D.O:=fnL D.fn S K3 (qj one) λj l e bX A outer s H E hr=>(Æ hr S.nd).all l e
def Ri{m:uB PV n}(D:DI v ⟨x,st,rJ st,k+1,λK=>n9 K ks (iB n m)⟩)(Æ:BP v x st k ks D.f n m .rt)(K3:‹ks.length=(rJ st).length›)(one:‹Gz (se ks) 1=true›)(S:bW (rK st) (rJ st) (ak st):=by exact xq):D.O:=ND D (λ{j _ _ _ _ _ _}=>Æ j) K3 one S
def Zf{m:uB (O PV) n}(D:DI v ⟨x,st,rJ st,k+1,λK=>qa K ks (iB n m)⟩)(Æ:BP v x st k ks D.f n m .rl)(K3:‹ks.length=(rJ st).length›)(one:‹Gz (se ks) 1=true›)(S:bW (rK st) (rJ st) (ak st):=by exact xq):D.O:=mkL D (λ{j _ _ _ _ _ _}=>Æ j) K3 one S
end
section
variable{K:Aa}{x:Str}{WL:W (O PV)}
theorem eC{m:O PV->W PV}(G:LJ X.prog X.w X.K X.mg X.base x k ps (n9 K ks m))(hr:bI k' X.A)(ha:AF X K fs (e::es) ks B f1)(hk:k<=k':=by first|exact BO rfl|exact Ah _|lia)(hg:‹Gl X x›)(hW:‹W'=B m›)(eY: ~~~(d6 x))(he:‹dY X e es›)(bZ:‹gw X pos es›):EF X K fs (.Call (.Name x p) (e::es) [] pos) W' f1:=R7 G hr hk hg ha hW eY he bZ
theorem lC{m:O PV->W (O PV)}{B:(O PV->W (O PV))->W (O PV)}(G:LJ X.prog X.w X.K X.mg X.base x k ps (qa K ks m))(hr:bI k' X.A)(ha:AF X K fs (e::es) ks B f1)(hk:k<=k':=by first|exact BO rfl|exact Ah _|lia)(hg:‹Gl X x›)(hW:‹WL=B m›)(eY: ~~~(d6 x))(he:‹dY X e es›)(bZ:‹gw X pos es›):LF X K fs (.Call (.Name x p) (e::es) [] pos) WL f1:=Rt G hr hk hg ha hW eY he bZ
variable{n0 mx:Nat}{y0:Str}
theorem eP(i:Nat){m:O PV->W PV}(G:LJ X.prog X.w X.K X.mg X.base x k ps (n9 K (.p ψ d::ks) m))(hr:bI k' X.A)(ha:AF X K fs es ks B f1)(hs:‹fs[i]?=al (al (.dE ψ n0 mx))›)(my:‹f1[i]?=al (al (.dE ψ n mx))›)(hd:n+d<=mx:=by omega)(hk:k<=k':=by first|exact BO rfl|exact Ah _|lia)(hg:‹Gl X x›)(hW:‹W'=B m›)(eY: ~~~(d6 x))(hN:‹X.N[i]?=al y0›)(hv:rN X.env.scope y0:=by first|exact BA rfl|exact BE (BA rfl)|exact BE (BE rfl))(V4: ~~~(d6 y0))(dr: ~~~(rP y0))(he:‹lm (.Name y0 py::es) X.env=(false,o0 (.Name y0 py) X.env)::lm es X.env›)(bZ:‹gw X pos es›):EF X K fs (.Call (.Name x p) (.Name y0 py::es) [] pos) W' (f1.set i (al (.dE ψ (n+d) mx))):=hW▸R9 i G hr hk hg hs ha my hd eY hN hv V4 dr he bZ
theorem lP(i:Nat){m:O PV->W (O PV)}{B:(O PV->W (O PV))->W (O PV)}(G:LJ X.prog X.w X.K X.mg X.base x k ps (qa K (.p ψ d::ks) m))(hr:bI k' X.A)(ha:AF X K fs es ks B f1)(hs:‹fs[i]?=al (al (.dE ψ n0 mx))›)(my:‹f1[i]?=al (al (.dE ψ n mx))›)(hd:n+d<=mx:=by omega)(hk:k<=k':=by first|exact BO rfl|exact Ah _|lia)(hg:‹Gl X x›)(hW:‹WL=B m›)(eY: ~~~(d6 x))(hN:‹X.N[i]?=al y0›)(hv:rN X.env.scope y0:=by first|exact BA rfl|exact BE (BA rfl)|exact BE (BE rfl))(V4: ~~~(d6 y0))(dr: ~~~(rP y0))(he:‹lm (.Name y0 py::es) X.env=(false,o0 (.Name y0 py) X.env)::lm es X.env›)(bZ:‹gw X pos es›):LF X K fs (.Call (.Name x p) (.Name y0 py::es) [] pos) WL (f1.set i (al (.dE ψ (n+d) mx))):=hW▸Ru i G hr hk hg hs ha my hd eY hN hv V4 dr he bZ
def lW(i:Nat)(hN:X.N.Nodup)(hi:‹X.N[i]?=al x›)(hx:Loc X.env.scope x:=by first|exact .inl rfl|exact .inr rfl)(hf:Px X x:=by first|exact .inl rfl|exact .inr rfl|assumption):PG X (.Name x pos) (ig i):=QM hN hi hx hf
variable{T:Type}{out:T->End}{rest:O ut}
def sv(i:Nat){k:PV->W T}(hN:X.N.Nodup)(he:EF X K fs e we f1)(hr:∀v,SF X K b (f1.set i (al (.val v))) rest (k v) out)(hi:‹X.N[i]?=al y›)(hx:Loc X.env.scope y:=by first|exact .inl rfl|exact .inr rfl)(hs:‹r6 e (al (.Name y p')) pos.line X.env=pure false›)(hf:Px X y:=by first|exact .inl rfl|exact .inr rfl|assumption):SF X K b fs (.Assign [.Name y p'] e pos::rest) (.bind we k) out:=SF.set hN hi hx he hr hs hf
def sl(i:Nat){k:O PV->W T}(hN:X.N.Nodup)(he:LF X K fs e wl f1)(hr:∀l,SF X K b (f1.set i (al (.ol bn l))) rest (k l) out)(hi:‹X.N[i]?=al y›)(hx:Loc X.env.scope y:=by first|exact .inl rfl|exact .inr rfl)(hs:‹r6 e (al (.Name y p')) pos.line X.env=pure false›)(hf:Px X y:=by first|exact .inl rfl|exact .inr rfl|assumption):SF X K b fs (.Assign [.Name y p'] e pos::rest) (.bind wl k) out:=SF.acL hN hi hx he hr hs hf
end
end
end FL
variable{v:FL.EV}{d:FL.DF}
namespace FL
section
variable[bD]
def aaO:(n:Nat)->(O ce->Prop)->Prop
 |0,P=>P []
 |n+1,P=>∀x,aaO n λl=>P (x::l)
theorem usN:∀{n:Nat}{P:O ce->Prop},aaO n P->∀us:O ce,us.length=n->P us
 |0,_,h,[],_=>h
 |n+1,_,h,x::l,e=>usN (h x) l (Nat.succ.inj e)
def DX.zp(D:DX v.K d.x d.s)(X:v.K.In h)(G:h.Ns ii v.mg)(hb:∀(kV Ç pm:ce) (an:Option db) (bX ct:ce) (us:O ce),us.length=d.ps.length->SB (Bj d.x d.x (cz d.s) (a9 d.s) (ak d.s) .none kV Ç pm an bX ct) ⟨us,[]⟩=pure (d.ps.zip us):=by exact λ_ _ _ _ _ _=>usN (by (repeat intro _);rfl)):Nonempty (DI v d):=by
 obtain⟨f,fd,a,F⟩:=D.ex;exact⟨⟨f,fd,F,F.binds hb,Bg X G a⟩⟩
def DX.go(D:DX v.K d.x d.s)(X:v.K.In h)(G:h.Ns ii v.mg){P:Prop}(k:∀D:DI v d,D.O)(r:d.C v->P)(hb:∀(kV Ç pm:ce) (an:Option db) (bX ct:ce) (us:O ce),us.length=d.ps.length->SB (Bj d.x d.x (cz d.s) (a9 d.s) (ak d.s) .none kV Ç pm an bX ct) ⟨us,[]⟩=pure (d.ps.zip us):=by exact λ_ _ _ _ _ _=>usN (by (repeat intro _);rfl)):P:=by
 obtain⟨D⟩:=D.zp X G hb;exact r (D.c (k D))
def Mf(K:Aa):Sp:=λvs H Q _=>TB H/\∃(a:db) (ns:O Int),vs=[.ref a]/\Pz K H a (ns.map V.int)/\ns.length<=63/\∀H',Q (.bl true) H'
def Rq{K:Aa}{m:PV->W PV}(ok:∀ns:O Int,ns.length<=63->(m (.cl (ns.map PV.int))).run (·=.bl true)):∀vs H Q E,Mf K vs H Q E->n9 K [.v] (iB 1 m) vs H Q E:=λvs H Q E ⟨tb,a,ns,e,fz,hl,q⟩=>by
 subst e;refine⟨tb,0,[.cl (ns.map PV.int)],.v (.cl fz (pH _ _ ns)) .nil,(m (.cl (ns.map PV.int))).mono (λv e u H' _ r=>?_) (ok ns hl)⟩;subst e;cases r;exact q H'
section
variable{K:Aa}{R:Type}{B:(O PV->W R)->W R}
def av(i:Nat){x:Str}{v:PV}(hr:AF X K fs es ks B f1)(hs:‹fs[i]?=al (al (.val v))›)(hN:‹X.N[i]?=al x›)(hv:rN X.env.scope x:=by first|exact BA rfl|exact BE (BA rfl)|exact BE (BE rfl))(hd: ~~~(d6 x))(dr: ~~~(rP x))(h:‹lm (.Name x pos::es) X.env=(false,o0 (.Name x pos) X.env)::lm es X.env›):AF X K fs (.Name x pos::es) (.v::ks) (λk=>.bind (.ret v) λx=>B λl=>k (x::l)) f1:=af (ae i hs hN hv hd dr) hr h
end
end
section
variable[bD]{K:Aa}
structure Lm where
 q:Str
 ar:Arguments
 bd:pc
 sc:wT
abbrev Lm.fn(L:Lm)(cl:O (Str×db))(pm:ce)(cv lH:ce):wp:=PySem.W.kla_fn "<lambda>" L.q L.ar L.bd L.sc cl pm cv lH
abbrev Lm.ob(L:Lm)(cl:O (Str×db))(pm:ce)(cv lH:ce):Obj:={cls:=.type "function",data:=.func (L.fn cl pm cv lH)}
def PK(o:Obj)(q:Str):Prop:=∃vs t,o.data=.fields vs/\vs[1]?=al (.str q t)
def kQ(L:Lm)(ys:O Str)(base:nn)(a:db)(us:O V)(fz:O (db×Obj)):Prop:=∃cl pm c lH co,fz=[(a,L.ob cl pm (.ref c) lH),(c,co)]/\PK co L.q/\
 (∀x c,cl.lookup x=al c->∃v,base.IsCell c v)/\(∀x y c,cl.lookup x=al c->cl.lookup y=al c->x=y)/\∀(i:Nat) (y:Str),ys[i]?=al y->∃c v u,cl.lookup y=al c/\us[i]?=al v/\RelV v u/\base.IsCell c (al u)
structure aaG(ps ys:List Str)(sc:wT):Prop where
 kind:sc.kind=.function
 co:sc.isCoroutine=false
 gen:sc.isGenerator=false
 nd:(ps++ys).Nodup
 par:∀x∈ps,sc.names.lookup x=al .local
 fre:∀y∈ys,sc.names.lookup y=al .free
 noc:∀y∈sc.names,y.2≠.cell
 fin:∀y∈sc.names,y.2=.free->y.1∈ys
def cxL(P:tz)(w:wS)(K:Aa)(mg:Str->Option ce)(base:nn)(N:O Str)(L:Lm)(a:db)(cl:O (Str×db))(cv:ce)(A:BT)(outer:O Env)(s:gt)(H:Hp):Cx where
 prog:=P
 w:=w
 K:=K
 mg:=mg
 base:=base
 A:=A.deeper (Fm L.q L.sc s.heap.objs.size a cv cl)
 N:=N
 s₀:=s
 H₀:=H
 env:=Fm L.q L.sc s.heap.objs.size a cv cl
 outer:=outer
 stack:=Fm L.q L.sc s.heap.objs.size a cv cl::outer
 ex:=[]
 calm:=true
 fn:=λ_=>false
 pn:=[]
 xe:=λ_ _=>False
theorem tR:∀{l:O (Str×β)}{x:Str}{u:β},(l.map (·.1)).Nodup->(x,u)∈l->l.lookup x=al u
 |(y,v)::l,x,u,nd,h=>by
  rw[A4,C3]at nd;rw[AN];by_cases c:x=y
  .subst c;rcases Au.mp h with h|h
   .cases h;simp
   .exact absurd (AR.mpr ⟨_,h,rfl⟩) nd.1
  .rw[beq_eq_false_iff_ne.mpr c];rcases Au.mp h with h|h
   .cases h;exact absurd rfl c
   .exact tR nd.2 h
theorem Io:∀(ps:O Str) (us:O ce),List.Sublist ((ps.zip us).map (·.1)) ps
 |[],_=>.slnil
 |_::_,[]=>List.nil_sublist _
 |p::ps,_::us=>(Io ps us).cons₂ p
def P8(nd:ps.Nodup){x:Str}(h1:ps[i]?=al x)(h2:us[i]?=al u):(ps.zip us).reverse.lookup x=al u:=by
 refine tR ?_ (List.mem_reverse.mpr (AI (by rw[EL];exact⟨h1,h2⟩)));rw[List.map_reverse];exact(List.reverse_perm _).nodup_iff.mpr (nd.sublist (Io ps us))
end
end FL
variable{b:AY}{E:L2.XK}{b0:EH}
namespace L2
section
variable{cs:O db}
def mO(b0 h:nn)(cs:O db):nn:=PySem.W.hideAll h ((AW h.objs.size).filter λb=>!(b0.get? b).isSome&&!cs.contains b)
def uw(e:h.get? b=al o)(c:(∃o,b0.get? b=al o)\/b∈cs):(mO b0 h cs).get? b=al o:=F9 _ e λhm=>by
 have q:=(BH.mp hm).2;rw[AB,DN,DN]at q;rcases c with⟨o',c⟩|c
 .rw[c]at q;simp at q
 .have:=q.2;rw[FV.mpr c]at this;cases this
def xR(e:(mO b0 h cs).get? b=al o):h.get? b=al o/\((∃o,b0.get? b=al o)\/b∈cs):=by
 have e':=Gj _ e;refine⟨e',Classical.byContradiction λn=>?_⟩;have z:(mO b0 h cs).get? b=bn:=FY _ (BH.mpr ⟨Bp.mpr (Aj e'),by
  rw[AB,DN,DN];refine⟨?_,?_⟩
  .cases q:b0.get? b with
   |none=>rfl
   |some o=>exact absurd (.inl ⟨o,q⟩) n
  .cases q:cs.contains b with
   |false=>rfl
   |true=>exact absurd (.inr (FV.mp q)) n⟩)
 rw[z]at e;cases e
theorem JG{b1:nn}:∀{l:O Env},h.FunFrames b0 l->(∀L∈o7 l,b1.get? L=bn)->h.FunFrames b1 l
 |[],_,_=>trivial
 |e::l,⟨h1,⟨L,o,h2,h3,h4⟩,h5⟩,n=>⟨h1,⟨L,o,h2,n L (by simp[o7,h2]),h4⟩,JG h5 λL hL=>n L (by
  unfold o7 at hL ⊢;rw[Bm,h2];exact AH _ hL)⟩
def Inv.aab(I:Inv X Z σ H s)(hc:∀c∈cs,∃x,X.fn x=true/\X.env.cells.lookup x=al c):xi X.prog X.w X.K X.mg (mO X.base s.heap cs) X.A X.stack s H:=by
 have kp:∀b o,X.base.get? b=al o->(mO X.base s.heap cs).get? b=al o:=λb o e=>uw (I.bk b o e) (.inl ⟨o,e⟩);have e0:=I.OT;refine⟨e0.frames,⟨e0.mod.NV.keeps kp,e0.mod.glob.keeps kp,let ⟨mb,h1,h2⟩:=e0.mod.blt;⟨mb,h1.keeps kp,h2⟩,e0.mod.nolimit.keeps kp,let ⟨bm,ob,h1,h2,h3,h4⟩:=e0.mod.bm;⟨bm,ob,h1,h2,kp _ _ h3,h4⟩⟩,λb o e=>?_,Eo (FX _ _),JG e0.jN λL hL=>?_,e0.P1,e0.aX,e0.bare⟩
 .obtain⟨h1,⟨o',h2⟩|h2⟩:=xR e
  .exact⟨h1,(I.bs b o' h2).2⟩
  .obtain⟨x,_,hx⟩:=hc b h2;exact⟨h1,I.fu x b hx⟩
 .cases z:(mO X.base s.heap cs).get? L with
  |none=>rfl
  |some o=>
   obtain⟨h1,⟨o',h2⟩|h2⟩:=xR z
   .rw[(e0.jN.mem hL).1]at h2;cases h2
   .obtain⟨x,hf,hx⟩:=hc L h2;rcases Au.mp (I.pZ L hL) with h|h
    .exact absurd h (I.LR x L hx)
    .obtain⟨_,o2,h3,_⟩:=I.ok.jN.mem h;exact absurd (Av (Aj h3) (I.ok.WO x L hf hx)) (AQ _)
def IZ{oG:nn}{CX:LV}{Q:VK}{vs:O V}(F:bz X.prog X.w X.K X.mg oG CX k f fd ps sp)(e0:xi X.prog X.w X.K X.mg oG X.A X.stack s H)(hr:bI k X.A)(hb:Binds X.K fd ps [])(hx:Passes CX X E)(I:Inv X Z σ H s)(r:Vals vs us)(h:sp vs H Q E):f8 (lf X.prog X.w) X.A (call (.ref f) us) (EP X Z σ Q) X.xe s:=by
 have hl:(us++[]).length=ps.length:=by rw[A8,<- r.length];exact F.len _ _ _ _ h
 have ġ:=hb s us I.fm hl;rw[A8]at ġ;refine CF (EQ (F.run X.A X.stack s H ⟨us,[]⟩ us vs Q E hr e0 ġ r h) λr s' hq=>?_);cases r with
 |error e=>exact hx Z σ H s e s' I hq
 |ok fl=>
  cases fl with
  |ret u=>exact I.after hq
  |next=>exact AV hq
  |brk=>exact AV hq
  |cont=>exact AV hq
end
end L2
variable{σ:L2.St}{Q:A2->CW->Prop}{ys:O BN}{L:FL.Lm}{ar:PySem.Arguments}
namespace FL
section
variable[bD]{K:Aa}
theorem xE{x y:Int}{c:ce}(n:Nat):∀l:O ce,l.length<=n->TriplesOk l->TriplesOk (l++[pr x,pr y,c])/\∀pos d,Tl pos (l++[pr x,pr y,c])=al d->Tl pos l=al d\/d=c:=by
 induction n with
 |zero=>
  intro l hl _;have:l=[]:=Ci ∅;subst this;refine⟨by simp[pr,TriplesOk],λpos d h=>?_⟩;rw[C4]at h;simp only[pr,Tl]at h
  split at h
  .cases h;exact .inr rfl
  .cases h
 |succ n ih=>
  intro l hl h;by_cases c1:l=[]
  .subst c1;exact ih [] (Bs _) h
  by_cases c2:∃i t j u e r,l=.int i t::.int j u::e::r
  .obtain⟨i,t,j,u,e,r,rfl⟩:=c2;obtain⟨h1,h2⟩:=ih r (by simp at hl;lia) h;refine⟨?_,λpos d hd=>?_⟩
   .show TriplesOk (.int i t::.int j u::e::(r++_));exact h1
   .have hd:Tl pos (.int i t::.int j u::e::(r++[pr x,pr y,c]))=al d:=hd;rw[codeAmong.eq_1]at hd ⊢;by_cases z:(i==↑pos.line&&j==↑pos.col)=true
    .rw[if_pos z]at hd ⊢;exact .inl hd
    .rw[if_neg z]at hd ⊢;exact h2 pos d hd
  .rw[TriplesOk.eq_3 l c1 λi t j u e r z=>c2 ⟨i,t,j,u,e,r,z⟩]at h;exact h.elim
def kN(P:db)(q:Str):Prop:=(P,q)∈bD.ts/\∀p∈bD.ts,p.1=P->p.2=q
structure sW(K:Aa)(mg:Str->Option ce)(bX:ce)(P:db):Prop where
 hd:∃c,bX=.ref c/\∀h:nn,K.In h->PySem.W.CodeHd h c P
def xc(X:Cx)(L:Lm)(a:db)(fz:O (db×Obj)):Prop:=∃cl pm c lH co,fz=[(a,L.ob cl pm (.ref c) lH),(c,co)]/\PK co L.q/\(∀x c,cl.lookup x=al c->X.env.cells.lookup x=al c/\(x,.free)∈L.sc.names)/\∀x,(x,.free)∈L.sc.names->∃c,cl.lookup x=al c
section
variable{P:db}
def yf{pm lH:ce}{c tk:Nat}{co:Obj}{u0:HO}(I:Inv X Z σ H {s with heap:=h',toks:=tk})(tb:TB H)(hc:H c=al (.cU co u0))(Wg:PK co L.q)(h1:∀x c,cl.lookup x=al c->X.env.cells.lookup x=al c/\(x,.free)∈L.sc.names)(h2:∀x,(x,.free)∈L.sc.names->∃c,cl.lookup x=al c)(h:∀a fz H' s',Inv X Z σ H' s'->xc X L a fz->oK H' fz->TB H'->fe H H'->Q (.ref a) s'):Q (.ref h'.objs.size) {s with heap:=h'.push (L.ob cl pm (.ref c) lH),toks:=tk}:=by
 have hn:H h'.objs.size=bn:=I.aX.fresh (Ah _);have I2:=I.laid (a:=h'.objs.size) (o:=.cU (L.ob cl pm (.ref c) lH) (.own 0)) (t':=tk) (h':=h'.push (L.ob cl pm (.ref c) lH)) (λb u z=>Ad _ z) (Ah _) ⟨Ak _ rfl,_,Ak _ rfl⟩;have sm:=eX hn (.cU (L.ob cl pm (.ref c) lH) (.own 0));refine h _ [(h'.objs.size,L.ob cl pm (.ref c) lH),(c,co)] _ _ I2 ⟨cl,pm,c,lH,co,rfl,Wg,h1,h2⟩ (λp hp=>?_) (tb.same sm) sm;simp only[Au,BI,or_false]at hp;rcases hp with rfl|rfl
 .exact⟨_,aw⟩
 .exact⟨u0,sm _ _ hc⟩
def NQ(I:Inv X Z σ H s)(tb:TB H)(hK:sW X.K X.mg X.env.code P)(hq:L.q=X.env.qual++"<lambda>")(hP:kN P L.q)(hd:defaultsOf L.ar X.env=([],[]))(hf:∀y∈L.sc.names,y.2=.free->X.env.kindOf y.1=al .cell\/X.env.kindOf y.1=al .free)(h:∀a fz H' s',Inv X Z σ H' s'->xc X L a fz->oK H' fz->TB H'->(∀b o,H b=al o->o.nt=true->H' b=al o)->(∀b,H' b=bn->H b=bn)->Q (.ref a) s'):f8 (lf X.prog X.w) X.A (o0 (.Lambda L.ar L.bd L.sc pos) X.env) Q X.xe s:=by
 obtain⟨ps,eP,tr,ck⟩:=tb _ hP.1;obtain⟨c,hcv,chd⟩:=hK.hd;obtain⟨cl,ua,nM,vM⟩:=gU λy hy hk=>I.ok.has y.1 (hf y hy hk);have hg:=I.mod.glob.keeps I.bk;have ú:=I.aX P _ eP;have gne:ii≠P:=λz=>by
  obtain⟨o,es,ep,g1,g2,_⟩:=hg;rw[z,ú]at g1;cases g1;cases g2
 have bl:s.heap.BuiltinsAt X.mg P:=by
  obtain⟨bm,ob,b1,b2,b3,b4,b5,b6⟩:=I.mod.bm;have b7:=I.bk _ _ b3;refine⟨bm,ob,b1,b2,λz=>?_,λz=>?_,b7,b4,b5,b6⟩
  .obtain⟨o,es,ep,g1,g2,_⟩:=hg;rw[z,g1]at b7;cases b7;rw[g2]at b6;cases b6
  .rw[z,ú]at b7;cases b7;cases b4
 refine PySem.W.kla_eval hd ?_;rw[<- hq];cases e:Tl pos ps.toList with
 |some cv=>
  obtain⟨ca,co,u,vs,t,rfl,e1,e2,e3⟩:=ck pos cv e;exact PySem.W.kla_makeFunctionHit ua I.ok.glob hg hcv (chd _ I.fm) ú tr e bl λlH h' tk kp hsz=>yf (I.kept kp) tb e1 ⟨vs,t,e2,e3⟩ nM vM λa fz H' s' I' n z t' sm=>h a fz H' s' I' n z t' (λb o z _=>sm b o z) λb z=>sm.free z
 |none=>
  refine PySem.W.kla_makeFunction ua I.ok.glob hg hcv (chd _ I.fm) ú tr e gne bl λc' lH h' tk ext h1 h2 cr û=>?_;obtain⟨_,co,vs,t,e0,e1,e2,e3⟩:=cr;cases e0;have hn:=I.aX.fresh h1;have cP:c'≠P:=λz=>by subst z;rw[hn]at eP;cases eP
  obtain⟨tr',ck'⟩:=xE (x:=pos.line) (y:=pos.col) (c:=.ref c') _ _ (Ah _) tr;have ý:upd (upd H P (.oO (ps++#[pr pos.line,pr pos.col,.ref c']))) c' (.cU co (.own 0)) P=al (.oO (ps++#[pr pos.line,pr pos.col,.ref c'])):=by rw[ah (Bu cP)];exact aw
  have ot:∀b u,b≠P->H b=al u->upd (upd H P (.oO (ps++#[pr pos.line,pr pos.col,.ref c']))) c' (.cU co (.own 0)) b=al u:=λb u n z=>by
   rw[ah (bB z hn),ah n];exact z
  have xn:upd (upd H P (.oO (ps++#[pr pos.line,pr pos.col,.ref c']))) c' (.cU co (.own 0)) c'=al (.cU co (.own 0)):=aw;have on:∀b,b≠c'->H b=bn->upd (upd H P (.oO (ps++#[pr pos.line,pr pos.col,.ref c']))) c' (.cU co (.own 0)) b=bn:=λb n z=>by
   rw[ah n,ah (λy=>by subst y;rw[z]at eP;cases eP)];exact z
  have inv:∀b u,upd (upd H P (.oO (ps++#[pr pos.line,pr pos.col,.ref c']))) c' (.cU co (.own 0)) b=al u->(b=c'/\u=.cU co (.own 0))\/(b=P/\u=.oO (ps++#[pr pos.line,pr pos.col,.ref c']))\/(b≠P/\H b=al u):=λb u z=>by
   by_cases y1:b=c'
   .subst y1;rw[aw]at z;cases z;exact .inl ⟨rfl,rfl⟩
   .rw[ah y1]at z;by_cases y2:b=P
    .subst y2;rw[aw]at z;cases z;exact .inr (.inl ⟨rfl,rfl⟩)
    .rw[ah y2]at z;exact .inr (.inr ⟨y2,z⟩)
  generalize upd (upd H P (.oO (ps++#[pr pos.line,pr pos.col,.ref c']))) c' (.cU co (.own 0))=H1 at ý ot xn on inv;have Xg:∀b u,H b=al u->u.nt=true->b≠P:=λb u z nt y=>by subst y;rw[eP]at z;cases z;cases nt
  have ext':∀b o,H b=bn->s.heap.get? b=al o->h'.get? b=al o:=λb o n z=>ext b o (λy=>by subst y;rw[n]at eP;cases eP) z;have un:Un X.fs [] H H1 s.heap h':=by
   refine⟨λb o z n _ _=>ext' b o n z,λb o z n _ _=>⟨o.slots,ext' b o n z⟩,λb o z n _=>on b ((λb o z=>AD (Av (Aj z) h1)) b o z) n,λb o z _=>?_,λb xs z=>ot b _ (Xg b _ z rfl) z,λb o u z=>ot b _ (Xg b _ z rfl) z,λb qs z=>?_⟩
   .by_cases y:b=P
    .subst y;exact⟨_,û⟩
    .exact⟨o,ext b o y z⟩
   .by_cases y:b=P
    .subst y;rw[eP]at z;cases z;exact⟨_,ý⟩
    .exact⟨#[],by rw[ot b _ y z];simp⟩
  have aX:iw X.prog X.w H1 h':=λb u z=>by
   rcases inv b u z with⟨rfl,rfl⟩|⟨rfl,rfl⟩|⟨y,z⟩
   .exact⟨e1,_,e1⟩
   .exact û
   .refine(I.aX b u z).mY (λd v hd q=>ext d v (λw=>?_) q) (λd q=>ot d _ (Xg d _ q rfl) q) λd xs q=>ot d _ (Xg d _ q rfl) q;rcases hd with hd|hd
    .exact y (hd.symm.trans w)
    .subst w;rw[eP]at hd;cases hd
  have Ą:TB H1:=λp hp=>by
   obtain⟨qs,k1,k2,k3⟩:=tb p hp;have tr1:∀cv,FzC H cv p.2->FzC H1 cv p.2:=λcv ⟨a,o,u,vs,t,f1,f2,f3,f4⟩=>⟨a,o,u,vs,t,f1,ot a _ (Xg a _ f2 rfl) f2,f3,f4⟩;by_cases y:p.1=P
   .rw[y,eP]at k1;cases k1;refine⟨_,by rw[y];exact ý,by simpa using tr',λÈ d hd=>?_⟩;rcases ck' È d (by simpa using hd) with z|rfl
    .exact tr1 _ (k3 È d z)
    .rw[hP.2 p hp y];exact⟨c',co,_,vs,t,rfl,xn,e2,e3⟩
   .exact⟨qs,ot _ _ y k1,k2,λÈ d z=>tr1 _ (k3 È d z)⟩
  exact yf (L:=L) (s:=s) (I.un (t':=tk) un aX) Ą xn ⟨vs,t,e2,e3⟩ nM vM λa fz H' s' I' n z t' sm=>h a fz H' s' I' n z t' (λb o z nt=>sm b o (ot b o (Xg b o z nt) z)) λb z=>by
   have z':=sm.free z;cases y:H b with
   |none=>rfl
   |some u=>
    by_cases w:b=P
    .subst w;rw[ý]at z';cases z'
    .rw[ot b u w y]at z';cases z'
end
def HV(is:O Nat)(σ:L2.St):O V:=is.map λi=>((σ[i]?).join).getD .bx
def fAL(X:Cx)(K:Aa)(fs:aY)(L:Lm)(is:O Nat)(qs:O PV)(k1 k2:O AK)(w:W (O PV)):TA:=λσ H Q=>aQ K H σ fs/\w.run λl=>∀vs H' a fz,cK σ fs H H'->aQ K H' σ fs->xc X L a fz->oK H' fz->ed K H' vs (k1++.f a (HV is σ) qs fz::k2) l->Q vs H'
structure AFL(X:Cx)(K:Aa)(fs:aY)(es:List pc)(L:Lm)(is:List Nat)(qs:List PV)(k1 k2:List AK){R:Type}(B:(List PV->W R)->W R):Prop where
 p:∃w:W (List PV),PA X es (fAL X K fs L is qs k1 k2 w)/\∀k,B k=am w k
section
variable{is:O Nat}{k1 k2:O AK}{R:Type}{B:(O PV->W R)->W R}{P:db}
theorem JW(sr:aQ K H σ fs):∀{is:O Nat}{qs:O PV},is.map (λi=>fs[i]?)=qs.map (λq=>al (al (SL.val q)))->aL K [] H (HV is σ) qs
 |[],[],_=>.nil
 |[],_::_,h=>by simp at h
 |_::_,[],h=>by simp at h
 |i::is,q::qs,h=>by
  injection h with h1 h2;obtain⟨u,e1,r⟩:=sr.at' i _ h1;rcases r with⟨v,e,r⟩|⟨a,_,r⟩
  .cases e;refine .cons ?_ (JW sr h2);show VR K [] H (((σ[i]?).join).getD .bx) q;rw[e1];exact r
  .exact r.elim
def PM(N:O Str)(so sl:wT)(is:O Nat)(ys:O Str):Prop:=is.map (λi=>N[i]?)=ys.map al/\(∀y∈ys,so.names.lookup y=al .cell/\(y,Bh)∈sl.names)/\∀y∈sl.names,y.2=.free->y.1∈ys
instance {N:O Str}{so sl:wT}{is:O Nat}{ys:O Str}:Decidable (PM N so sl is ys):=inferInstanceAs (Decidable (_/\_/\_))
def Pr{bd:pc}(q:Str)(ys:O Str)(hK:sW X.K X.mg X.env.code P)(hP:kN P q)(hN:PM X.N X.env.scope sc is ys)(hr:AF X K fs es k2 B)(hc:‹is.map (λi=>fs[i]?)=qs.map λq=>al (al (SL.val q))›)(hq:‹q=X.env.qual++"<lambda>"›)(hd:‹defaultsOf ar X.env=([],[])›)(k6:‹lm (.Lambda ar bd sc pos::es) X.env=(false,o0 (.Lambda ar bd sc pos) X.env)::lm es X.env›):AFL X K fs (.Lambda ar bd sc pos::es) ⟨q,ar,bd,sc⟩ is qs [] k2 B:=by
 obtain⟨w,hp,hB⟩:=hr.p;refine⟨w,λÈ Z s σ H Q I ⟨sr,q⟩=>?_,hB⟩;refine A7 (NQ (L:=⟨_,ar,bd,sc⟩) I sr.tb hK hq hP hd (λy hy hk=>.inl (hN.2.1 _ (hN.2.2 y hy hk)).1) λa fz H1 s1 I1 ć z1 Ą kp th=>?_);have g1:cK σ fs H H1:=⟨λb o e _ nt=>kp b o e nt,th,.refl _,λb z=>kp b _ z rfl⟩;have tk:=g1.cC sr;have Yl:aQ K H1 σ fs:=⟨sr.len,λi t e=>let ⟨u,h1,h2⟩:=sr.at' i t e;⟨u,h1,h2.mono tk λx b o _ _ _ z nt=>kp b o z nt⟩,sr.nd,Ą⟩;refine bp (hp È Z s1 σ H1 (λvs H2=>Q (.ref a::vs) H2) I1 ⟨Yl,w.mono (λl q1 vs H2 g2 s2 r2=>?_) q⟩) λus s2 ⟨vs,H2,I2,r2,q2⟩=>⟨.ref a::vs,H2,I2,.cons rfl r2,q2⟩;have z2:=z1.tk (g2.cC Yl);exact q1 _ H2 a fz (g1.trans g2) s2 ć z2 (.f (JW s2 hc) z2 r2)
theorem ue{x:Str}{m:O PV->W PV}{B:(O PV->W PV)->W PV}(bi:Binds X.K fd ps [])(kp:AL X.K (.ref f)=true)(hm:X.mg x=al (.ref f))(G:∀oG a us fz,kQ L ys oG a us fz->us.length=qs.length->bz X.prog X.w X.K X.mg oG jo k f fd ps (n9 K (k1++.f a us qs fz::k2) m))(We:∀y,X.fn y=true)(hN:PM X.N X.env.scope L.sc is ys)(hc:is.map (λi=>fs[i]?)=qs.map λq=>al (al (SL.val q)))(hr:bI k' X.A)(ha:AFL X K fs (e::es) L is qs k1 k2 B)(hk:k<=k':=by first|exact BO rfl|exact Ah _|lia)(hW:‹W'=B m›)(hg:‹Gl X x›)(eY: ~~~(d6 x))(he:‹dY X e es›)(bZ:‹gw X pos es›):EF X K fs (.Call (.Name x p) (e::es) [] pos) W':=by
 subst hW;obtain⟨w,hp,hB⟩:=ha.p;rw[hB];refine⟨λZ s σ H Q I ⟨sr,q⟩=>?_⟩;refine AM (fH I hg hm ?_ eY);refine B6 I.ok.mod.NV kp (bp (hp pos Z s σ H (λvs H1=>∃a fz l,aQ K H1 σ fs/\xc X L a fz/\ed K H1 vs (k1++.f a (HV is σ) qs fz::k2) l/\(m l).run λz=>∀u H2,P6 0 vs (k1++.f a (HV is σ) qs fz::k2) H1 H2->VR K [] H2 u z->Q u H2) I ⟨sr,w.mono (λl q1 vs H1 a fz g1 s1 n z r=>⟨a,fz,l,s1,n,r,(m l).mono (λz q2 u H2 g2 r2=>let ⟨s2,g3⟩:=g2.caller r s1;q2 u H2 (g1.trans g3) s2 r2) q1⟩) q⟩)
  λus s1 ⟨vs,H1,I1,r,a,fz,l,Yl,⟨cl,pm,c,lH,co,ĭ,Wg,h1,h2⟩,ar,q1⟩=>⟨I1.fm,?_⟩) he bZ
 obtain⟨hN1,ģ,hN3⟩:=hN;have cin:∀x c,cl.lookup x=al c->c∈ys.filterMap λy=>cl.lookup y:=λx c z=>C0.mpr ⟨x,(λx c z=>hN3 _ (h1 x c z).2 rfl) x c z,z⟩;have e1:=I1.aab (cs:=ys.filterMap λy=>cl.lookup y) λc hc=>by
  obtain⟨y,hy,z⟩:=C0.mp hc;exact⟨y,We y,(h1 y c z).1⟩
 have bc:∀x c v,cl.lookup x=al c->s1.heap.IsCell c v->(mO X.base s1.heap (ys.filterMap λy=>cl.lookup y)).IsCell c v:=λx c v z ⟨o,z1,z2⟩=>⟨o,uw z1 (.inr (cin x c z)),z2⟩;have Â:is.length=qs.length:=by have:=congrArg Dg hc;simpa using this
 have Ċ:kQ L ys (mO X.base s1.heap (ys.filterMap λy=>cl.lookup y)) a (HV is σ) fz:=by
  refine⟨cl,pm,c,lH,co,ĭ,Wg,λx c z=>?_,λx y c z1 z2=>I.ok.inj x y c (h1 x c z1).1 (h1 y c z2).1,λi y hy=>?_⟩
  .obtain⟨v,hv⟩:=I1.cell x c (h1 x c z).1;exact⟨v,bc x c v z hv⟩
  .obtain⟨c',xn⟩:=h2 y (ģ y (AI hy)).2;have K5:(is.map λi=>X.N[i]?)[i]?=al (al y):=by rw[hN1,An,hy];rfl
   rw[An]at K5;cases z:is[i]? with
   |none=>rw[z]at K5;cases K5
   |some j=>
    rw[z]at K5;have Oh:(is.map λi=>fs[i]?)[i]?=al (fs[j]?):=by rw[An,z];rfl
    rw[hc,An]at Oh;cases zq:qs[i]? with
    |none=>rw[zq]at Oh;cases Oh
    |some qv=>
     rw[zq]at Oh;obtain⟨v,e2,_⟩:=Yl.at' j _ ((Option.some.inj Oh).symm);obtain⟨mm,_,hl⟩:=I1.loc;obtain⟨u,ru,lk⟩:=hl j y v (Option.some.inj K5) e2 (.inr (.inl (ģ y (AI hy)).1));refine⟨c',v,u,xn,?_,ru,?_⟩
     .unfold HV;rw[An,z];show al (((σ[j]?).join).getD .bx)=al v;rw[e2];rfl
     .rcases lk with⟨k0,_⟩|⟨_,c2,k1,k2⟩
      .have k0:X.env.scope.names.lookup y=al .local:=k0;rw[(ģ y (AI hy)).1]at k0;cases k0
      .rw[(h1 y c' xn).1]at k1;cases k1;exact bc y c' _ xn k2
 exact IZ (G _ a _ fz Ċ (by unfold HV;rw[Am];exact Â)) e1 (hr.mono hk) bi om I1 r ⟨Yl.tb,0,l,ar.c,q1⟩
end
end
end FL
variable{o:Option L2.HO}{ts:O AY}
namespace L2
def lz.okc{K:Aa}{x:Str}{st:ut}{N:O Str}(F:lz K x qual st f fd)(S:bW N ps (ak st))(len:∀vs H Q E,sp vs H Q E->vs.length=ps.length)(mz:∀(bX:ce) (A:BT) (outer:O Env) (s:gt) (H:Hp) (vs:O V) (Q:VK) (E:XK),fd.code=bX->bI k (A.deeper (Db qual (ak st) s.heap.objs.size f bX))->sp vs H Q E->
   ∃t,nY (ku jo P w K mg base N qual (ak st) f bX A outer s H E).Ky (a9 st) t/\t {nx:=λ_ H'=>Q .bx H',rt:=Q} (start N vs) H):bz P w K mg base jo (k+1) f fd ps sp:=by
 obtain⟨oc,od,kV,Ç,pm,an,bX,ct,Ku,rfl,lk,dr⟩:=F.ex;refine JD lk dr S len λA outer s H vs Q E hr xl=>?_;obtain⟨t,h,q⟩:=mz bX A outer s H vs Q E rfl hr xl;exact⟨t,h.Ky,q⟩
def zH(ts:O db)(a:db)(o:Option HO):Hp:=λb=>if b∈ts then al (.oO #[]) else if b=a then o else bn
def Ma(h:b∈ts):zH ts a o b=al (.oO #[]):=if_pos h
def Uz(h:a∉ts):zH ts a o a=o:=by unfold zH;rw[if_neg h,if_pos rfl]
def lN{u:HO}(h:zH ts a o b=al u):(b∈ts/\u=.oO #[])\/(b=a/\o=al u):=by
 unfold zH at h;by_cases c:b∈ts
 .rw[if_pos c]at h;cases h;exact .inl ⟨c,rfl⟩
 .rw[if_neg c]at h;by_cases d:b=a
  .rw[if_pos d]at h;exact .inr ⟨d,h⟩
  .rw[if_neg d]at h;cases h
def KP{K:Aa}{mb:Str->Option ce}{x:Str}{s₁:gt}{vs:O ce}(KX:K.In s₁.heap)(PY:s₁.heap.Ns ii mg)(hb:s₁.heap.Ns Sc mb)(hbb:∀x:Str,x≠"__name__"->mb x=u8 x)(adN:s₁.heap.NoLimit)(hbm:∃bm ob,mg "__builtins__"=al (.ref bm)/\bm≠Sc/\s₁.heap.get? bm=al ob/\ob.cls=.type "module"/\ob.dict=al Sc/\ob.data=.plain)(hg:s₁.gens=#[])(ha:s₁.heap.get? a=al {cls:=.type "list",data:=.seq vs.toArray})(hi:TM vs ns)(hl:ns.length<=sizeLine)(hr:bI k callerA)(ht:∀P∈ts,s₁.heap.get? P=al (FW #[]))(htK:∀P∈ts,K.lookup P=bn)(htC:∀P∈ts,isCodeTable s₁.heap P)(F:∀base:nn,K.In base->base.Ns ii mg->bz P w K mg base jo k fa fd [x] sp)(ZQ:∀(s:gt) (u:ce),BindsTo s fd ⟨[u],[]⟩ [(x,u)])(xl:∀H:Hp,(∀P∈ts,H P=al (.oO #[]))->PL.Pz K H a (ns.map V.int)->sp [.ref a] H (λv _=>v=.bl true) λ_ _ _=>False):Pv (lf P w) callerA (.call (.ref fa) ⟨[.ref a],[]⟩) (λr s'=>r=.ok (.ret (.bool true))/\OldK s₁.heap s'.heap/\s'.os=s₁.os/\Tk s'.gens) s₁:=by
 have rv:=tj hi;have ade:=hi.length;have Ø:∀H:Hp,(∀P∈ts,H P=al (.oO #[]))->PL.Pz K H a (ns.map V.int)->iw P w H s₁.heap->(∀b o,H b=al o->(b∈ts/\o=.oO #[])\/(b=a/\K.lookup a=bn/\∃o' u,o=.cU o' u))->
   Pv (lf P w) callerA (.call (.ref fa) ⟨[.ref a],[]⟩) (λr s'=>r=.ok (.ret (.bool true))/\OldK s₁.heap s'.heap/\s'.os=s₁.os/\Tk s'.gens) s₁:=by
  intro H hT hS aX hA;have wO:∀{b:db}{o:Obj},s₁.heap.get? b=al o->H b=bn->(vK s₁.heap H).get? b=al o:=λe n=>Og e n;have Y8:∀{b:db}{o:Obj}{es:Array DictEntry}{ep:Nat},s₁.heap.get? b=al o->o.data=.dict es ep->H b=bn:=λ{b o es ep} e d=>by
   cases q:H b with
   |none=>rfl
   |some u=>
    rcases hA b u q with⟨z,_⟩|⟨z,_⟩
    .rw[ht b z]at e;cases e;cases d
    .subst z;rw[ha]at e;cases e;cases d
  have ñ:∀{b:db}{m:Str->Option ce},s₁.heap.Ns b m->(vK s₁.heap H).Ns b m:=λ{b m} ⟨o,es,ep,e,d,r⟩=>⟨o,es,ep,wO e (Y8 e d),d,r⟩;have hKb:K.In (vK s₁.heap H):=λb o e=>wO (KX b o e) (by
   cases q:H b with
   |none=>rfl
   |some u=>
    rcases hA b u q with⟨z,_⟩|⟨z,z2,_⟩
    .rw[htK b z]at e;cases e
    .subst z;rw[z2]at e;cases e)
  have hM:Mod K mg (vK s₁.heap H):=⟨hKb,ñ PY,⟨mb,ñ hb,hbb⟩,let ⟨mc,h1,h2⟩:=adN;⟨mc,ñ h1,h2⟩,let ⟨bm,ob,h1,h2,h3,h4,h5,h6⟩:=hbm;⟨bm,ob,h1,h2,wO h3 (by
   cases q:H bm with
   |none=>rfl
   |some u=>
    rcases hA bm u q with⟨z,_⟩|⟨z,_⟩
    .rw[ht bm z]at h3;cases h3;cases h6
    .subst z;rw[ha]at h3;cases h3;cases h6),h4,h5,h6⟩⟩
  have e0:xi P w K mg (vK s₁.heap H) callerA [] s₁ H:=⟨rfl,hM,λb o e=>Q6 e,Eo (K4 _ _),trivial,λb hb=>absurd (show b∈([]:O db) from hb) (by simp),aX,.of_eq hg⟩;refine EQ ((F _ hKb (ñ PY)).run callerA [] s₁ H ⟨[.ref a],[]⟩ [.ref a] [.ref a] _ _ hr e0 (ZQ s₁ (.ref a)) (.cons rfl .nil) (xl H hT hS)) λr s' h=>?_;cases r with
  |error e=>exact h.elim
  |ok fl=>
   cases fl with
   |next=>exact AV h
   |brk=>exact AV h
   |cont=>exact AV h
   |ret u=>
    obtain⟨v,H',os,bare,un,ZH,r',q⟩:=h;have q':v=.bl true:=q;subst q';obtain rfl:u=Dv true:=r';refine⟨rfl,⟨λb o e=>?_,λb o e=>un.there b o e (by simp)⟩,os,bare⟩;cases q:H b with
    |none=>exact .inl (un.keep b o e q (by intro z;exact absurd (show b∈([]:O db) from z) (by simp)) (by simp))
    |some u=>
     rcases hA b u q with⟨z,rfl⟩|⟨z,_,o',u',rfl⟩
     .obtain⟨more,h2⟩:=un.mX b _ q;have h3:s'.heap.get? b=al (FW (#[]++more)):=ZH b _ h2;rw[ht b z]at e;cases e;exact .inr (.inl ⟨htC b z,rfl,#[],more,rfl,h3⟩)
     .have z2:=un.mC b _ _ q;obtain⟨e1,_⟩:=aX b _ q;obtain⟨e2,_⟩:=ZH b _ z2;rw[e]at e1;cases e1;exact .inl e2
 have naT:a∉ts:=λz=>by rw[ht a z]at ha;cases ha
 cases hk:K.lookup a with
 |some o=>
  have e:=KX a o hk;rw[ha]at e;cases e;refine Ø (zH ts a bn) (λb hb=>Ma hb) (.inr ⟨_,vs.toArray,_,hk,rfl,rfl,rfl,by rw[Ai,ade];exact hl,by simpa using rv⟩) (λb u z=>?_) λb u z=>?_
  .rcases lN z with⟨y,rfl⟩|⟨_,y⟩
   .exact ht b y
   .cases y
  .rcases lN z with⟨y,rfl⟩|⟨_,y⟩
   .exact .inl ⟨y,rfl⟩
   .cases y
 |none=>
  refine Ø (zH ts a (al (.cU {cls:=.type "list",data:=.seq vs.toArray} (.lst (ns.map V.int))))) (λb hb=>Ma hb) (.inl ⟨{cls:=.type "list",data:=.seq vs.toArray},Uz naT⟩) (λb u z=>?_) λb u z=>?_
  .rcases lN z with⟨y,rfl⟩|⟨rfl,y⟩
   .exact ht b y
   .cases y;exact⟨ha,by rw[Am];exact hl,vs,_,rv,ha⟩
  .rcases lN z with⟨y,rfl⟩|⟨rfl,y⟩
   .exact .inl ⟨y,rfl⟩
   .cases y;exact .inr ⟨rfl,hk,_,_,rfl⟩
end L2
variable{P:AY}
namespace FL
section
variable[bD]
abbrev EV.at(v:EV)(b:nn):EV:=⟨v.P,v.w,v.K,v.mg,b⟩
def DI.at(D:DI v d)(b:nn):DI (v.at b) d:=⟨D.f,D.fd,D.fn,D.bi,D.at'⟩
def Ze{x:Str}{st:ut}{m:uB PV n}(D:DI v ⟨x,st,rJ st,k+1,λK=>n9 K ks (iB n m)⟩)(hc:sW v.K v.mg D.fd.code P)(Æ:∀{j:Nat}{bX:ce}{A:BT}{outer:O Env}{s:gt}{H:Hp}{E:XK},sW v.K v.mg bX P->bI k (A.deeper (Db x (ak st) s.heap.objs.size D.f bX))->(rK st).Nodup->Im n (λl w=>SF (ku jo v.P v.w v.K v.mg v.base (rK st) x (ak st) D.f bX A outer s H E).Ky v.K false (ph j ks l (rK st).length) (a9 st) w .rt) m)(K3:‹ks.length=(rJ st).length›)(one:‹Gz (se ks) 1=true›)(S:bW (rK st) (rJ st) (ak st):=by exact xq):D.O:=by
 refine D.fn.okc S (λvs H Q E h=>?_) (λbX A outer s H vs Q E ec hr h=>?_)
 .obtain⟨_,_,l,h,_⟩:=h;rw[h.len];exact K3
 obtain⟨tb,j,l,h,q⟩:=h;subst ec;exact⟨_,((Æ hc hr S.nd).all l (gC q)).p,h.beg tb (qj one) (rK st),(iB n m l).mono (λv q1 u σ' aM H' g s' r=>q1 u H' (h.go g s') r) q⟩
def aaL(vs:Array ce)(c P:db):Prop:=∃Þ tf Ö tg Č Û tt,vs[11]?=al (.ref P)/\vs.getD 11 .none=.ref P/\vs.getD 18 .none=.str Þ tf/\vs.getD 7 .none=.int Ö tg/\vs.getD 9 .none=.bool Č/\vs.getD 10 .none=.int Û tt/\c≠P
structure DXc(K:Aa)(x:Str)(st:ut)(P:db):Prop where
 ex:∃f fd,Ay K ii x=al (al (.ref f))/\lz K x x st f fd/\∃c,fd.code=.ref c/\(∀h:nn,K.In h->PySem.W.CodeHd h c P)/\∀h:nn,K.In h->isCodeTable h P
def dxc{K:Aa}{x:Str}{st:ut}{c:db}{cd:Option db}{sl:Array (Option ce)}{kV:ce}(a:Ay K ii x=al (al (.ref f)))(l:K.lookup f=al ⟨oc,od,.func (Bj x x (cz st) (a9 st) (ak st) .none kV Ç pm an (.ref c) ct),Ku⟩)(h:Ce K (.ref c) x=true)(k:AL K (.ref f)=true)(e:K.lookup c=al ⟨.type "code",cd,.fields vs,sl⟩)(z:aaL vs c P):DXc K x st P:=
 ⟨f,_,a,nP l h k,c,rfl,λhp hK=>let ⟨Þ,tf,Ö,tg,Č,Û,tt,z⟩:=z;⟨_,vs,Þ,tf,Ö,tg,Č,Û,tt,hK _ _ e,rfl,rfl,z⟩,λhp hK=>let ⟨_,_,_,_,_,_,_,z,_⟩:=z;⟨c,_,vs,hK _ _ e,rfl,rfl,z⟩⟩
def DXc.mk3(D:DXc v.K d.x d.s P)(X:v.K.In h)(G:h.Ns ii v.mg)(hb:∀(kV Ç pm:ce) (an:Option db) (bX ct:ce) (us:O ce),us.length=d.ps.length->SB (Bj d.x d.x (cz d.s) (a9 d.s) (ak d.s) .none kV Ç pm an bX ct) ⟨us,[]⟩=pure (d.ps.zip us):=by exact λ_ _ _ _ _ _=>usN (by (repeat intro _);rfl)):∃D:DI v d,sW v.K v.mg D.fd.code P:=by
 obtain⟨f,fd,a,F,c,hc,hd,_⟩:=D.ex;exact⟨⟨f,fd,F,F.binds hb,Bg X G a⟩,⟨⟨c,hc,hd⟩⟩⟩
def DXc.tab{K:Aa}{x:Str}{st:ut}(D:DXc K x st P)(hK:K.In h):isCodeTable h P:=let ⟨_,_,_,_,_,_,_,z⟩:=D.ex;z h hK
def walkT{l:PySem.W.OpenLaw}{q:tz}{d:DefRec}{K:Params->Aa}(hn:l.most=al 63)(Ĝ:d.params.defaults=[])(hr:bI k callerA)(hY:∀(w:wS) (h:nn),YP w h->(K w.params).In h/\∀P∈bD.ts.map (·.1),h.get? P=al (FW #[]))(hK:∀w:wS,∀P∈bD.ts.map (·.1),(K w.params).lookup P=bn)(hC:∀(w:wS) (h:nn),(K w.params).In h->∀P∈bD.ts.map (·.1),isCodeTable h P)(F:∀(w:wS) (mg:Str->Option ce) (fa:db) (h:nn),(K w.params).In h->h.Ns ii mg->mg d.name=al (.ref fa)->
   ∃fd:wp,(∀(s:gt) (u:ce),BindsTo s fd ⟨[u],[]⟩ [("_law_script",u)])/\∀base:nn,(K w.params).In base->base.Ns ii mg->bz l.prog w (K w.params) mg base jo k fa fd ["_law_script"] (Mf (K w.params))):PySem.W.WalkO q Ô XP YP l.row.toRowW d [] (λf vs=>PySem.call f vs):=by
 refine Att.y9 hn Ĝ λw s₀ s₁ mg mb fa o pm cd Ç a vs ns G Y ho hd dr hmg V7 Õ Â hg=>?_;obtain⟨KX,hT⟩:=hY w _ Y;obtain⟨fd,hb,hF⟩:=F w mg fa _ KX G.T.g hmg;exact KP KX G.T.g G.T.b G.T.builtins G.T.nolimit G.T.bmain hg V7 Õ (AE Â ⋯) hr hT (hK w) (hC w _ KX) hF hb λH hT' hS=>⟨λp hp=>⟨#[],hT' _ (AR.mpr ⟨p,hp,rfl⟩),trivial,λpos c z=>by simp[Tl]at z⟩,a,ns,rfl,hS,Â,λ_=>rfl⟩
def forK{K:Aa}(P:Aa->Prop)(_:K.In h)(p:P K):P K:=p
end
end FL
namespace My
def ir(j:Nat):ut->ut
 |.ClassDef _ _ _ b _ _ _ _ _ _ _=>b.getD j (.Pass ⟨0,0,0,0⟩)
 |s=>s
def SJ(i:Nat):ut:=B3.main.body.getD i (.Pass ⟨0,0,0,0⟩)
abbrev sN:ut:=SJ 20
abbrev sR:ut:=SJ 25
abbrev IX:ut:=SJ 26
abbrev Qy:ut:=SJ 27
abbrev IW:ut:=SJ 28
abbrev Qz:ut:=SJ 29
abbrev uT:ut:=SJ 30
abbrev sPl:ut:=SJ 40
end My
variable{P:Gh}{c m:Nat}{p C:AY}{T:BN}
namespace My
def rO(C p:db)(T:Str)(n:Nat)(H:Hp):Prop:=∃dx,H p=al (.ins C dx [("text",.str T),("place",.int n)])
def zm(s:Str)(c:Nat):Bool:=!(Builtin.Str.occurrences s ⟨#[c]⟩ 0 s.length 1).isEmpty
def kB(T:Str)(n:Nat)(s:Str):Bool:=match T.cps.toList[n]? with
 |some c=>zm s c
 |none=>false
theorem Ui{l:List α}{c:α}(h:l[n]?=al c):fB l (n:Int)=al c:=by
 have:=(Al.mp h).1;unfold fB sC;rw[if_pos ∅,if_pos ∅];simpa using h
def rk{s:Str}(e:T.cps.toList[n]?=al c):kB T n s=zm s c:=by unfold kB;rw[e]
def Ib{s:Str}(h:kB T n s=true):∃c,T.cps.toList[n]?=al c/\zm s c=true/\n<T.length:=by
 unfold kB at h;cases e:T.cps.toList[n]? with
 |none=>rw[e]at h;cases h
 |some c=>
  rw[e]at h;exact⟨c,rfl,h,by have:=(Al.mp e).1;simpa[BU]using this⟩
def zL(h:n<=16777216):(n:Int).natAbs.log2<100:=by
 rw[Int.natAbs_natCast];by_cases z:n=0
 .subst z;decide
 .exact(Nat.log2_lt z).mpr (Nat.lt_of_le_of_lt h ⋯)
def nZ(p:db)(H H':Hp):Prop:=∀b,b≠p->H' b=H b
structure pq(p:db)(H H':Hp):Prop where
 k:∀c o,c≠p->H c=al o->H' c=al o
 t:∀c,H' c=bn->H c=bn
def pq.trans(a:pq p H H1)(b:pq p H1 H2):pq p H H2:=⟨λc o n h=>b.k c o n (a.k c o n h),λc h=>a.t c (b.t c h)⟩
def pq.same(s:fe H H'):pq p H H':=⟨λc o _ h=>s c o h,λc h=>by
 cases e:H c with
 |none=>rfl
 |some o=>rw[s c o e]at h;cases h⟩
def pq.off(o:nZ p H H')(r:rO C p T n H'):pq p H H':=⟨λc u nc h=>(o c nc).trans h,λc h=>by
 by_cases e:c=p
 .subst e;obtain⟨dx,r⟩:=r;rw[r]at h;cases h
 .rw[<- o c e];exact h⟩
def rO.same(s:fe H H')(r:rO C p T n H):rO C p T n H':=let ⟨dx,r⟩:=r;⟨dx,s _ _ r⟩
def nZ.trans(a:nZ p H H1)(b:nZ p H1 H2):nZ p H H2:=λc n=>(b c n).trans (a c n)
def pw(E:XK)(p:db)(H:Hp)(m:Nat):Prop:=∀a H',pq p H H'->E (.int m 0) (al a) H'
def pw.kp(b:pw E p H m)(k:pq p H H1):pw E p H1 m:=λa H' k'=>b a H' (k.trans k')
def xG(C:db):Sp:=λvs H Q _=>∃(p:db) (T:Str) (n:Nat) (s:Str),vs=[.ref p,.str s]/\rO C p T n H/\T.length<=sizeLine/\Q (.bl (kB T n s)) H
structure Ul(K:Aa)(mg:Str->Option ce)(C:db):Prop where
 cl:J4 K C
 t:fj K C "text"
 p:fj K C "place"
 len:mg "len"=bn
structure NtK(P:tz)(w:wS)(K:Aa)(mg:Str->Option ce)(base:nn)(N:db) where
 f:db
 fd:wp
 m:zi K N f
 ok:bz P w K mg base jo 1 f fd ["self","place"] (Me N)
 bi:Binds K fd ["self","place"] []
 at':mg "NoText"=al (.ref N)
 kp:AL K (.ref N)=true
section
variable{K:Aa}{N:db}
def Y5{TE:db}(T:PF K TE N)(S:J2 K N TE "place")(hm:mg "TreeError"=al (.ref TE))(F:lz K "__init__" "NoText.__init__" (ir 0 sN) f fd):bz P w K mg base jo 1 f fd ["self","place"] (Me N):=by
 refine F.ok (N:=["self","place"]) xq (λvs H Q E h=>?_) (λbX A outer s H vs Q E hr h=>?_)
 .obtain⟨_,_,rfl,_⟩:=h;rfl
 obtain⟨a,n,rfl,ha,hn,q⟩:=h;refine⟨_,aW (iH (YN T (let ⟨cd,h,_⟩:=S.cd;⟨cd,h⟩) rfl hm (pv 0) (YQ (by decide +kernel) (pv 1)))) (bu (YK S (pv 0) (pv 1) rfl)),?_⟩;refine⟨.ref a,rfl,.int n,rfl,n,rfl,hn,λu=>⟨a,u,rfl,rfl,ha,?_⟩⟩;exact⟨.int n,rfl,.ref a,rfl,a,rfl,ha,λH' dx hd ho h1 h2=>q H' dx hd ho h1 h2⟩
theorem Kw(R:Ul K mg C)(F:lz K "stands_at" "Reader.stands_at" (ir 1 sR) f fd):bz P w K mg base jo 1 f fd ["self","signs"] (xG C):=by
 refine F.ok (N:=["self","signs"]) xq (λvs H Q E h=>?_) (λbX A outer s H vs Q E hr h=>?_)
 .obtain⟨_,_,_,_,rfl,_⟩:=h;rfl
 obtain⟨p,T,n,sg,rfl,⟨dx,hp⟩,hT,q⟩:=h;refine⟨_,bu (dq (Nc (pD Jj (gN (pv 0) rfl) (bM (fR K rfl) (by rfl) R.len EG (aj (gN (pv 0) rfl) aJ)) (fg _)) (zZ (pD tM (Jh (vH K rfl) (gN (pv 0) rfl) (gN (pv 0) rfl) (λ_ _=>rfl)) (pv 1) rfl)))),?_⟩;refine⟨.ref p,rfl,p,C,dx,_,.int n,rfl,hp,R.cl,R.p,rfl,.ref p,rfl,p,C,dx,_,.str T,rfl,hp,R.cl,R.t,rfl,.str T,T.length,rfl,⟨hT,rfl⟩,_,_,rfl,rfl,_,rfl,?_⟩;cases e:T.cps.toList[n]? with
 |none=>
  have:¬((n:Int)<(T.length:Int)):=λz=>by
   have:=List.getElem?_eq_none_iff.mp e;have e2:T.cps.toList.length=T.length:=by simp[BU]
   lia
  rw[if_neg (by simpa using this)];have:kB T n sg=false:=by unfold kB;rw[e]
  rw[this]at q;exact q
 |some c=>
  have l1:n<T.length:=by have:=(Al.mp e).1;simpa[BU]using this
  rw[if_pos (by simpa using l1)];have:kB T n sg=zm sg c:=by unfold kB;rw[e]
  rw[this]at q;exact⟨.ref p,rfl,p,C,dx,_,.str T,rfl,hp,R.cl,R.t,rfl,.ref p,rfl,p,C,dx,_,.int n,rfl,hp,R.cl,R.p,rfl,.inr (.inr ⟨T,n,c,rfl,rfl,hT,Ui e,.str sg,rfl,_,_,rfl,rfl,q⟩)⟩
structure Mt(P:tz)(w:wS)(K:Aa)(mg:Str->Option ce)(base:nn)(CX:LV)(C:db)(m:Str)(k:Nat)(ps:List Str)(sp:Sp) where
 f:db
 fd:wp
 m:Meth K C m f
 ok:bz P w K mg base CX k f fd ps sp
 bi:Binds K fd ps []
def IC(C:db):Sp:=λvs H Q E=>∃(p:db) (T:Str) (n:Nat) (s:Str),vs=[.ref p,.str s]/\rO C p T n H/\T.length<=sizeLine/\n<=T.length/\(∀c,T.cps.toList[n]?=al c->zm s c=true->∀H',nZ p H H'->rO C p T (n+1) H'->Q (.str ⟨#[c]⟩) H')/\(kB T n s=false->pw E p H n)
abbrev MtS(P:tz)(w:wS)(K:Aa)(mg:Str->Option ce)(base:nn)(C:db):=Mt P w K mg base jo C "stands_at" 1 ["self","signs"] (xG C)
abbrev MtT(P:tz)(w:wS)(K:Aa)(mg:Str->Option ce)(base:nn)(N C:db):=Mt P w K mg base (n6 P w N) C "take" 3 ["self","signs"] (IC C)
def WR(b:pw E p H m):∀(a:db) (H':Hp),(∀c o,H c=al o->H' c=al o)->(∀c,H' c=bn->H c=bn)->E (.int m 0) (al a) H':=λa H' k t=>b a H' ⟨λc o _ h=>k c o h,t⟩
theorem Q3(R:Ul K mg C)(NT:NtK P w K mg base N)(S:MtS P w K mg base C)(F:lz K "take" "Reader.take" (ir 2 sR) f fd):bz P w K mg base (n6 P w N) 3 f fd ["self","signs"] (IC C):=by
 refine F.Xf (N:=["self","signs"]) xq (λvs H Q E h=>?_) (λbX A outer s H vs Q E hr h=>?_)
 .obtain⟨_,_,_,_,rfl,_⟩:=h;rfl
 obtain⟨p,T,n,sg,rfl,⟨dx,hp⟩,hT,hn,q,Ë⟩:=h;refine⟨_,aW (jy (m9 (gM (iK (pv 0) R.cl S.m S.ok (hr.mono ⋯) S.bi .nil om (aj (pv 1) aJ)))) (bu (lV NT.m NT.ok NT.bi hr rfl rfl NT.at' NT.kp (gN (pv 0) rfl) cH)) dH) (aW (zU (pv 0) (qh Ni (gN (pv 0) rfl) jA) rfl) (bu (dq (Jh (vH K rfl) (gN (pv 0) rfl) (qh Ng (gN (pv 0) rfl) jA) (λ_ _=>rfl))))),?_⟩;refine⟨.ref p,rfl,p,dx,_,rfl,hp,rfl,.str sg,rfl,p,T,n,sg,rfl,⟨dx,hp⟩,hT,_,rfl,?_⟩;cases hb:kB T n sg with
 |false=>
  refine jH ?_;exact⟨.ref p,rfl,p,C,dx,_,.int n,rfl,hp,R.cl,R.p,rfl,n,rfl,zL (by rw[<- xz];lia),WR (Ë hb)⟩
 |true=>
 obtain⟨c,hc,ho,_⟩:=Ib hb;refine gj ?_;refine⟨.ref p,rfl,p,C,dx,_,.int n,rfl,hp,R.cl,R.p,rfl,_,_,rfl,rfl,.ref p,rfl,p,C,dx,_,rfl,hp,R.cl,R.p,(by show 2 < 1000;decide),?_⟩;have e1:upd H p (.ins C dx (jn "place" (.int ((n:Int)+1)) [("text",.str T),("place",.int n)])) p=al (.ins C dx [("text",.str T),("place",.int ((n+1:Nat):Int))]):=aw;have e2:nZ p H (upd H p (.ins C dx (jn "place" (.int ((n:Int)+1)) [("text",.str T),("place",.int n)]))):=λb nb=>ah nb;generalize upd H p (.ins C dx (jn "place" (.int ((n:Int)+1)) [("text",.str T),("place",.int n)]))=H1 at e1 e2;refine⟨.ref p,rfl,p,C,dx,_,.str T,rfl,e1,R.cl,R.t,rfl,.ref p,rfl,p,C,dx,_,.int ((n+1:Nat):Int),rfl,e1,R.cl,R.p,rfl,_,_,rfl,rfl,.inr (.inr ⟨T,_,c,rfl,rfl,hT,?_,q c hc ho H1 e2 ⟨dx,e1⟩⟩)⟩;have:((n+1:Nat):Int)-1=(n:Int):=by lia
 rw[this];exact Ui hc
end
end My
variable{most:Nat}
namespace My
def rn(T s:Str)(n most:Nat):O Nat:=((T.cps.toList.drop n).take most).takeWhile (zm s)
theorem L6{f:α->Bool}:∀{l:List α}{i:Nat},i<(l.takeWhile f).length->l[i]?=(l.takeWhile f)[i]?
 |[],i,h=>by simp at h
 |a::l,i,h=>by
  by_cases c:f a=true
  .rw[De c]at h ⊢;cases i with
   |zero=>rfl
   |succ i=>simpa using L6 (l:=l) (by simpa using h)
  .rw[Df c]at h;simp at h
theorem L8{f:α->Bool}:∀{l:List α}{c:α},c∈l.takeWhile f->f c=true
 |[],c,h=>by simp at h
 |a::l,c,h=>by
  by_cases e:f a=true
  .rw[De e]at h;rcases Au.mp h with rfl|h
   .exact e
   .exact L8 h
  .rw[Df e]at h;simp at h
theorem L7{f:α->Bool}:∀{l:List α},(l.takeWhile f).length=l.length\/∃a,l[(l.takeWhile f).length]?=al a/\f a=false
 |[]=>.inl rfl
 |a::l=>by
  by_cases c:f a=true
  .rw[De c];rcases L7 (f:=f) (l:=l) with h|⟨x,h1,h2⟩
   .exact .inl (by simp[h])
   .exact .inr ⟨x,by simpa using h1,h2⟩
  .rw[Df c];exact .inr ⟨a,rfl,by simpa using c⟩
section
variable{s:Str}
theorem uV:(rn T s n most).length<=most:=AE (List.takeWhile_sublist _).length_le (by rw[B9];lia)
theorem zQ(h:i<(rn T s n most).length):T.cps.toList[n+i]?=(rn T s n most)[i]?:=by
 have l:=uV (T:=T) (s:=s) (n:=n) (most:=most);have:=L6 (l:=(T.cps.toList.drop n).take most) (f:=zm s) h;rw[show(rn T s n most)[i]?=_ from this.symm,List.getElem?_take,if_pos ∅,List.getElem?_drop]
def uW(h:c∈rn T s n most):zm s c=true:=L8 h
theorem zR(h:(rn T s n most).length<most):kB T (n+(rn T s n most).length) s=false:=by
 rcases L7 (f:=zm s) (l:=(T.cps.toList.drop n).take most) with z|⟨a,z1,z2⟩
 .have z':(rn T s n most).length=((T.cps.toList.drop n).take most).length:=z;rw[B9,Ca]at z';unfold kB;rw[A6 ∅]
 .have z1:((T.cps.toList.drop n).take most)[(rn T s n most).length]?=al a:=z1;rw[List.getElem?_take,if_pos h,List.getElem?_drop]at z1;rw[rk z1];exact z2
def Mv(h:kB T n s=false):rn T s n most=[]:=by
 cases e:rn T s n most with
 |nil=>rfl
 |cons c u=>
  have:=zQ (T:=T) (s:=s) (n:=n) (most:=most) (i:=0) (by rw[e];simp);rw[e]at this;have h2:=uW (T:=T) (s:=s) (n:=n) (most:=most) (c:=c) (by rw[e];simp);rw[rk (by simpa using this),h2]at h;cases h
def S1(m:0<most)(h:kB T n s=true):rn T s n most≠[]:=λz=>by
 have:=zR (T:=T) (s:=s) (n:=n) (most:=most) (by rw[z];exact m);rw[z]at this;rw[show n+([]:O Nat).length=n from rfl,h]at this;cases this
theorem S2(hn:n<=T.length):n+(rn T s n most).length<=T.length:=by
 cases e:(rn T s n most).length with
 |zero=>exact hn
 |succ k=>
  have:=zQ (T:=T) (s:=s) (n:=n) (most:=most) (i:=k) ∅;rw[Af (l:=rn T s n most) ∅]at this;have:=(Al.mp this).1;have e2:T.cps.toList.length=T.length:=by simp[BU]
  lia
end
def uM(C:db):Sp:=λvs H Q E=>∃(p:db) (T:Str) (n:Nat) (s:Str) (most:Nat),vs=[.ref p,.str s,.int most]/\rO C p T n H/\T.length<=sizeLine/\n<=T.length/\0<most/\most<=100/\(rn T s n most=[]->pw E p H n)/\(rn T s n most≠[]->∀H',nZ p H H'->rO C p T (n+(rn T s n most).length) H'->Q (.str ⟨(rn T s n most).toArray⟩) H')
section
variable{K:Aa}{N:db}
theorem Q5(R:Ul K mg C)(S:MtS P w K mg base C)(M:MtT P w K mg base N C)(F:lz K "take_many" "take_many" IX f fd):bz P w K mg base (n6 P w N) 4 f fd ["reader","signs","most"] (uM C):=by
 have nd:(["reader","signs","most","told"]:O Str).Nodup:=by decide
 refine F.Xf (N:=["reader","signs","most","told"]) xq (λvs H Q E h=>?_) (λbX A outer s H vs Q E hr h=>?_)
 .obtain⟨_,_,_,_,_,rfl,_⟩:=h;rfl
 obtain⟨p,T,n,sg,most,rfl,hR,hT,hn,ė,hm,Ë,q⟩:=h;refine⟨_,aW (dI (i:=3) nd rfl (BA rfl) (iK (pv 0) R.cl M.m M.ok hr M.bi .nil (qi cH) (aj (pv 1) aJ))) (aW (lS Gv (PW.pt (MN (j5 Jj (bM (fR K rfl) (by rfl) R.len EG (aj (pv 3) aJ)) (pv 2) (fg _)) (Jc (gM (iK (pv 0) R.cl S.m S.ok (hr.mono ⋯) S.bi .nil om (aj (pv 1) aJ)))))) (bu (dI (i:=3) nd rfl (BA rfl) (qh (Jl K rfl) (pv 3) (iK (pv 0) R.cl M.m M.ok hr M.bi .nil (qi cH) (aj (pv 1) aJ)))))) (bu (dq (pv 3)))),?_⟩;obtain⟨dx,hp⟩:=hR;refine⟨.ref p,rfl,p,dx,_,rfl,hp,rfl,.str sg,rfl,p,T,n,sg,rfl,⟨dx,hp⟩,hT,hn,λc0 ZP ho0 H1 o1 r1=>?_,λhb=>Ë (Mv hb)⟩;have hb:kB T n sg=true:=by rw[rk ZP];exact ho0
 have ne:=S1 ė hb;replace q:=q ne;have ul:0<(rn T sg n most).length:=Bx.mpr ne;have u1:=uV (T:=T) (s:=sg) (n:=n) (most:=most);have u2:=λi (h:i<(rn T sg n most).length)=>zQ h;have u3:=λc (h:c∈rn T sg n most)=>uW h;have u4:=λh=>zR (T:=T) (s:=sg) (n:=n) (most:=most) h;have tl:=S2 (T:=T) (s:=sg) (n:=n) (most:=most) hn;generalize rn T sg n most=u at q ul u1 u2 u3 u4 tl ne;have t0:T.cps.toList[n]?=al u[0]:=by
  have:=u2 0 ul;rw[Nat.add_zero]at this;rw[this,Af ul]
 have c00:c0=u[0]:=by rw[t0]at ZP;exact(Option.some.inj ZP).symm
 refine⟨λm σ H2=>∃i,0<i/\i<=u.length/\m=u.length-i/\σ=[al (.ref p),al (.str sg),al (.int most),al (.str ⟨(u.take i).toArray⟩)]/\nZ p H H2/\rO C p T (n+i) H2,⟨_,1,by lia,ul,rfl,?_,o1,r1⟩,?_⟩
 .cases u with
  |nil=>exact absurd rfl ne
  |cons a u=>rw[c00];rfl
 rintro m σ H2 ⟨i,i0,i1,rfl,rfl,o2,r2⟩;have len:(⟨(u.take i).toArray⟩:Str).length=i:=by simp[BU];lia
 refine⟨.str _,rfl,.str _,i,rfl,⟨by rw[len];exact AE (by lia:i<=100) ⋯,len.symm⟩,.int most,rfl,_,_,rfl,rfl,_,rfl,?_⟩;obtain⟨Sa,h2⟩:=r2;by_cases c:i<most
 .rw[if_pos (by simpa using c)];refine⟨.ref p,rfl,p,Sa,_,rfl,h2,rfl,.str sg,rfl,p,T,n+i,sg,rfl,⟨Sa,h2⟩,hT,_,rfl,?_⟩;by_cases d:i<u.length
  .have ti:T.cps.toList[n+i]?=al u[i]:=by rw[u2 i d,Af d]
   have hi:kB T (n+i) sg=true:=by rw[rk ti];exact u3 _ (List.getElem_mem d)
   rw[hi];refine jH ?_;refine⟨λσ' H'=>σ'=[al (.ref p),al (.str sg),al (.int most),al (.str ⟨(u.take (i+1)).toArray⟩)]/\nZ p H H'/\rO C p T (n+(i+1)) H',?_,?_⟩
   .rintro σ' H' ⟨z1,z2,z3⟩;exact⟨u.length-(i+1),by lia,i+1,by lia,d,rfl,z1,z2,z3⟩
   .refine⟨.str _,rfl,.ref p,rfl,p,Sa,_,rfl,h2,rfl,.str sg,rfl,p,T,n+i,sg,rfl,⟨Sa,h2⟩,hT,by lia,λc1 Ġ _ H3 o3 r3=>⟨_,rfl,?_,?_⟩,λz=>by rw[hi]at z;cases z⟩
    .rw[len];exact AE (by show i+1<=101;lia:i+1<=101) ⋯
    .have c11:c1=u[i]:=by rw[ti]at Ġ;exact(Option.some.inj Ġ).symm
     subst c11;refine⟨?_,o2.trans o3,by rw[<- Gi];exact r3⟩;have:(⟨(u.take i).toArray⟩:Str)++(⟨#[u[i]]⟩:Str)=⟨(u.take (i+1)).toArray⟩:=by
      show(⟨(u.take i).toArray++#[u[i]]⟩:Str)=_;congr 1;rw[List.take_succ,Af d];simp
     rw[this];rfl
  .have iu:i=u.length:=by lia
   have z:kB T (n+i) sg=false:=by rw[iu];exact u4 ∅
   rw[z];refine gj ?_;refine⟨_,rfl,?_⟩;rw[CZ ∅];exact q H2 o2 ⟨Sa,by rw[<- iu];exact h2⟩
 .rw[if_neg (by simpa using c)];refine gj ?_;refine⟨_,rfl,?_⟩;have iu:i=u.length:=by lia
  rw[CZ ∅];exact q H2 o2 ⟨Sa,by rw[<- iu];exact h2⟩
end
end My
namespace L2
def um:bP X (.type "int") (λxs H Q=>∃x n,xs=[.str x]/\DH x=al n/\x.length<=640/\Q (.int n) H):=by
 intro Z s σ H xs us Q I r h;obtain⟨x,n,rfl,hn,hl,q⟩:=h;obtain⟨u,rfl,t,rfl⟩:=vals1 r;exact PySem.W.KIN.call_text hn hl ⟨.int n,H,I.tok _,⟨_,rfl⟩,q⟩
end L2
namespace My
section
variable{K:Aa}{N:db}
structure zk(P:tz)(w:wS)(K:Aa)(mg:Str->Option ce)(base:nn)(N:db)(x:Str)(k:Nat)(ps:List Str)(sp:Sp) where
 f:db
 fd:wp
 ok:bz P w K mg base (n6 P w N) k f fd ps sp
 bi:Binds K fd ps []
 kp:AL K (.ref f)=true
 at':mg x=al (.ref f)
def lX{x:Str}{p:Pos}(G:zk X.prog X.w X.K X.mg X.base N x k ps sp)(hr:bI k' X.A)(hk:k<=k')(hf:rA X N E)(hg:Gl X x)(ha:PA X (e::es) t)(eY: ~~~(d6 x))(he:‹dY X e es›)(bZ:‹gw X pos es›):PE X (.Call (.Name x p) (e::es) [] pos) (SQ sp [] E t):=
 Ji G.ok (hr.mono hk) hg G.at' G.kp G.bi .nil (qi hf) ha eY he bZ
end
end My
namespace L2
def ub(Hr:X.stack=X.env::X.outer)(ü:X.env.frame=al X.env.locals)(ě:X.ex=[])(hxe:X.xe=λe (s':gt)=>f8 (lf X.prog X.w) X.A (leaving X.env e) (λ_ Km=>n6 X.prog X.w C X.outer X.H₀ X.s₀ E e Km) (λe' Km=>n6 X.prog X.w C X.outer X.H₀ X.s₀ E e' Km) s'):rA X C E:=by
 intro Z σ H1 s1 a dx ot n I F e;have st:=I.stack;have sf:=I.lO;rw[Hr]at st sf;have nl:∀b,X.s₀.heap.objs.size<=b->∀o,X.s₀.heap.get? b=al o->False:=λb hb o q=>absurd (Aj q) (EJ.mpr hb);rw[hxe];show f8 _ _ (leaving _ (.ref a)) _ _ s1;refine yc (base:=X.base) (env:=X.env) (outer:=X.outer) (by rw[I.ok.frames,Hr]) st ü F.fx λh' T c x hT=>?_;have T0:H1 T=bn:=I.aX.fresh hT;have nx:∀b,b∉X.ex:=λb=>by rw[ě];simp
 refine⟨a,dx,al T,n,H1,rfl,I.os,I.bare,⟨λb o q n0 hb hx=>?_,λb o q n0 hb hx=>?_,λb o q n _=>I.base.free b o q n (nx b),λb o q hx=>?_,I.base.cC,I.base.mC,I.base.mX⟩,c.aX x I.aX F.fa (λT h=>(F.ft T h).1) sf,⟨x,F.fa,F.fd,F.fl,λT' z=>by cases z;exact⟨T0,AE I.sz hT⟩⟩,e⟩
 .have q1:=I.base.keep b o q n0 hb (nx b);refine c.keep b o q1 (λz=>nl _ F.fl _ (z▸q)) (λz=>nl _ (F.ft _ z).2 _ q) λz=>?_;simp only[o7,Bm,ü]at z;rcases Au.mp z with z|z
  .exact nl _ (z▸I.ok.above) _ q
  .exact hb z
 .obtain⟨sl,q1⟩:=I.base.slot b o q n0 hb (nx b);obtain⟨Qv,q2⟩:=c.slot b _ q1 (λz=>nl _ F.fl _ (z▸q)) (λz=>nl _ (F.ft _ z).2 _ q);exact⟨Qv,q2⟩
 .obtain⟨o1,q1⟩:=I.base.there b o q (nx b);exact c.there b o1 q1
end L2
variable{us:O L2.V}
namespace FL
section
variable[bD]
structure LH(P:tz)(w:wS)(K:Aa)(mg:Str->Option ce)(base:nn)(N:db)(f:db)(us:List V)(qs:List PV)(fz:List (db×Obj))(k:Nat)(ps:List Str)(sp:Sp) where
 fd:wp
 ok:bz P w K mg base (n6 P w N) k f fd ps (spC K us qs fz sp)
 bi:Binds K fd ps []
 kp:∀h:nn,K.In h->(∀b o,base.get? b=al o->h.get? b=al o)->(∀p∈fz,h.get? p.1=al p.2)->Dz f h
def Yc(a:db)(K:Aa)(us:O V)(qs:O PV)(fz:O (db×Obj))(sp:Sp)(E:XK)(ta:TE)(t:TA):TE:=λσ H Q=>ta σ H λx H1=>x=.ref a/\oK H1 fz/\t σ H1 λvs H2=>aL K [] H2 us qs/\oK H2 fz/\sp vs H2 Q E
def Nb{N:db}{p:Pos}{x:Str}(G:LH X.prog X.w X.K X.mg X.base N a us qs fz k ps sp)(hr:bI k' X.A)(hk:k<=k')(hf:PE X (.Name x p) ta)(hx:rA X N E)(ha:PA X (e::es) t)(he:‹dY X e es›)(bZ:‹gw X pos es›):PE X (.Call (.Name x p) (e::es) [] pos) (Yc a X.K us qs fz sp E ta t):=λZ s σ H Q I q=>by
 refine AM (bp (hf Z s σ H _ I q) λv s1 ⟨y,H1,I1,r1,ey,z1,q1⟩=>?_);subst ey;cases r1;have kz:∀{σ':L2.St}{H':Hp}{s':gt},Inv X Z σ' H' s'->oK H' fz->Dz a s'.heap:=λJ z=>G.kp _ J.fm J.bk λp hp=>let ⟨u,e⟩:=z p hp;(J.aX _ _ e).1;exact Eu (kz I1 z1) (bp (ha pos Z s1 σ H1 _ I1 q1) λă s2 ⟨vs,H2,I2,r,v2,z2,q2⟩=>⟨kz I2 z2,qd G.ok (hr.mono hk) G.bi .nil (qi hx) I2 r (by rw[A8];exact⟨v2,z2,q2⟩)⟩) he bZ
abbrev cxE(N:db)(E:XK)(X:Cx):Cx:=X.mV λe (s':gt)=>f8 (lf X.prog X.w) X.A (leaving X.env e) (λ_ Km=>n6 X.prog X.w N X.outer X.H₀ X.s₀ E e Km) (λe' Km=>n6 X.prog X.w N X.outer X.H₀ X.s₀ E e' Km) s'
section
variable{K:Aa}{N:db}
theorem JE(I0:kQ L ys base a us fz)(S:aaG ps ys L.sc)(hq:us.length=ys.length)(len:∀vs H Q E,sp vs H Q E->vs.length=ps.length)(hb:∀(cl:O (Str×db)) (pm cv lH:ce) (us:O ce),us.length=ps.length->SB (L.fn cl pm cv lH) ⟨us,[]⟩=pure (ps.zip us))(Æ:∀(cl:O (Str×db)) (cv:ce) (A:BT) (outer:O Env) (s:gt) (H:Hp) (vs:O V) (Q:VK) (E:XK),bI k (A.deeper (Fm L.q L.sc s.heap.objs.size a cv cl))->aL K [] H us qs->oK H fz->sp vs H Q E->∃t,PE (cxE N E (cxL P w K mg base (ps++ys) L a cl cv A outer s H)) L.bd t/\t ((vs++us).map al) H Q):Nonempty (LH P w K mg base N a us qs fz (k+1) ps sp):=by
 obtain⟨cl,pm,c,lH,co,rfl,Wg,yp,adR,Ht⟩:=I0;refine⟨⟨L.fn cl pm (.ref c) lH,⟨λvs H Q E h=>len vs H Q E h.2.2,λA outer s H args ă vs Q E hr e0 hbt r xl=>?_⟩,.all (hb cl pm _ lH),λh _ _ hz=>⟨_,_,_,_,hz (a,_) (Bv ..)⟩⟩⟩;obtain⟨rv,z,xl⟩:=xl;obtain⟨_,z1⟩:=id z (a,L.ob cl pm (.ref c) lH) (Bv ..);obtain⟨_,z2⟩:=id z (c,co) (by simp);have hlv:vs.length=ps.length:=len vs H Q E xl;obtain⟨cvs,ct,d1,d2⟩:=Wg;refine PySem.W.kla_callFunE hr.depth ((e0.aX _ _ z1).1) rfl S.co S.gen rfl ⟨c,co,cvs,ct,rfl,((e0.aX _ _ z2).1),d1,d2⟩ (hbt _ _ _ _ ?_);refine wpAny_newFunctionEnv S.noc (λy hy=>S.par _ (Ef hy).1) (λh' PY V6=>?_) S.kind;have hk:∀b o,s.heap.get? b=al o->h'.get? b=al o:=λb o e=>by
  rw[V6.2 b (AD (Aj e))];exact Ad _ e
 refine⟨(e0.mod.nolimit.keeps λb o e=>(e0.bs b o e).1).keeps hk,PySem.W.kla_codeExpr ?_⟩;have kc:∀{c:db}{v:Option ce},base.IsCell c v->h'.IsCell c v:=λ⟨o,h1,h2⟩=>⟨o,hk _ _ (e0.bs _ _ h1).1,h2⟩;have I:Inv (cxL P w K mg base (ps++ys) L a cl (.ref c) A outer s H) [] ((vs++us).map al) H {heap:=h',gens:=s.gens,drawn:=s.drawn,toks:=s.toks+(ps.zip ă).length,os:=s.os}:=by
  refine⟨⟨e0.mod,S.kind,rfl,rfl,Ah _,adR,λx hx=>?_,λ_ _ z=>(by cases z),λ_=>hr.hd,F2 e0.frames,.inr ⟨rfl,rfl⟩,λb z=>(nomatch z),e0.bs,e0.Pe,λb _ _ z=>(nomatch z),λb z=>(nomatch z),e0.jN,e0.P1⟩,
   rfl,e0.bare,Un.kept hk,⟨_,PY,λi x v h1 h2 h3=>?_⟩,λx c' e=>?_,e0.aX.fresh (Ah _),λx c' e=>?_,λp hp=>(nomatch hp),e0.aX.kept hk,?_⟩
  .have sE:=hx;rcases sE with hx|hx
   .exact absurd rfl (S.noc _ (Bl hx))
   .obtain⟨i,hi⟩:=Eb (S.fin _ (Bl hx) rfl);obtain⟨c',_,_,e,_⟩:=Ht i _ hi;exact⟨c',e⟩
  .have h1:(ps++ys)[i]?=al x:=h1;rw[An]at h2;cases e:(vs++us)[i]? with
   |none=>rw[e]at h2;cases h2
   |some v'=>
    rw[e]at h2;cases h2;by_cases ci:i<vs.length
    .rw[A1 ci]at e;rw[A1 ∅]at h1;obtain⟨u,hu,ru⟩:=r.get e;exact⟨u,ru,.inl ⟨S.par x (AI h1),P8 (EZ.mp S.nd).1 h1 hu⟩⟩
    .rw[A5 ∅]at e h1;obtain⟨c',v',u,e1,e2,ru,xn⟩:=Ht _ x h1;rw[<- hlv]at e2;rw[e]at e2;cases e2;exact⟨u,ru,.inr ⟨.inr (S.fre x (AI h1)),c',e1,kc xn⟩⟩
  .obtain⟨v,hv⟩:=yp x c' e;exact⟨v,kc hv⟩
  .obtain⟨v,o,ho,_⟩:=yp x c' e;exact(e0.bs _ _ ho).2
  .show((vs++us).map al).length=(ps++ys).length;rw[Am,Ag,Ag,hlv,hq]
 obtain⟨t,ht,K1⟩:=Æ cl (.ref c) A outer s H vs Q E (hr.deeper _) rv z xl;refine BD (ht [] _ _ H Q (I.mV _) K1) (λu s' h=>?_) λe s' h=>h;obtain⟨v,H',J,ru,q'⟩:=h;exact⟨v,H',J.os,J.bare,J.base,J.aX,ru,q'⟩
end
end
end FL
namespace My
section
variable[bD]
def Hu:PV->Bool
 |.ref _=>false
 |.ty _=>false
 |.ob _ _=>false
 |.hand=>false
 |_=>true
def adq{K:Aa}{u:V}{x:PV}{Q:VK}(v:VR K [] H u x)(k:Kd)(ht:Hu x=true)(q:Q (.bl (k.is x)) H):Jb K [u,.ty k.name] H Q:=by
 have fin:∀{t:ce}{y:PV},jW K H u t->AJ K t (.type k.name)=al (k.is y)->Q (.bl (k.is y)) H->Jb K [u,.ty k.name] H Q:=λty e q=>⟨_,_,_,_,rfl,.inl ty,e,q⟩;cases v with
 |bx=>exact fin .bx (by rw[(gF K).1 k];cases k<;>rfl) q
 |bl b=>exact fin (.bl b) (NU K b k) q
 |int b=>exact fin (.int b) (pG K b k) q
 |str b=>exact fin (.str b) (Jt K b k) q
 |ty n=>cases ht
 |ref n=>cases ht
 |ob _ _ _ _ _=>cases ht
 |hand _=>cases ht
 | @dk a o az ks l e k1 r=>exact⟨_,_,_,_,rfl,.inr (.inr (.inr ⟨rfl,_,rfl,.inl ⟨_,.inr ⟨_,e⟩⟩⟩)),(show _=al (k.is (.dv ks l)) by rw[(gF K).2.2 k];cases k<;>rfl),q⟩
 | @dt a o az ks l e k1 r=>exact⟨_,_,_,_,rfl,.inr (.inr (.inr ⟨rfl,_,rfl,.inr ⟨_,.inr ⟨_,e⟩⟩⟩)),(show _=al (k.is (.dv ks l)) by rw[(gF K).2.2 k];cases k<;>rfl),q⟩
 | @cl p vs l e r=>exact⟨_,_,_,_,rfl,.inr (.inr (.inl ⟨rfl,_,_,rfl,e.sq⟩)),(show _=al (k.is (.cl l)) by rw[(gF K).2.1 k];cases k<;>rfl),q⟩
 | @tup p vs l e r=>exact⟨_,_,_,_,rfl,.inr (.inl ⟨rfl,_,_,rfl,dX.of e⟩),Js K _ k,q⟩
structure rQ(H H':Hp):Prop where
 k:∀c o,H c=al o->o.nt=true->H' c=al o
 t:∀c,H' c=bn->H c=bn
 tb:TB H->TB H'
def rQ.trans(a:rQ H H1)(b:rQ H1 H2):rQ H H2:=⟨λc o h n=>b.k c o (a.k c o h n) n,λc h=>a.t c (b.t c h),λh=>b.tb (a.tb h)⟩
def mU(E:XK)(H:Hp)(m:Nat):Prop:=∀a H',rQ H H'->E (.int m 0) (al a) H'
def mU.kp(b:mU E H m)(k:rQ H H1):mU E H1 m:=λa H' k'=>b a H' (k.trans k')
def mU.x(b:mU E H m)(k:rQ H H1)(n:H p=bn)(hp:∃C dx fs,H1 p=al (.ins C dx fs)):pw E p H1 m:=λa H' k'=>b a H' ⟨λc o h nt=>k'.k c o (λz=>by subst z;rw[n]at h;cases h) (k.k c o h nt),λc h=>k.t c (k'.t c h),λh=>(k.tb h).mono (λa ps z=>k'.k _ _ (λy=>by subst y;obtain⟨_,_,_,hp⟩:=hp;rw[hp]at z;cases z) z) λa o u vs z _=>⟨u,k'.k _ _ (λy=>by subst y;obtain⟨_,_,_,hp⟩:=hp;rw[hp]at z;cases z) z⟩⟩
def Ym(K:Aa)(C:db):Sp:=λvs H Q E=>∃(p dx:db) (v:V) (x:PV),vs=[.ref p,v]/\H p=al (.ins C dx [])/\VR K [] H v x/\Hu x=true/\(∀T,x=.str T->∀H',nZ p H H'->rO C p T 0 H'->Q .bx H')/\((∀T,x≠.str T)->pw E p H 0)
section
variable{K:Aa}{N:db}
def Nl(R:Ul K mg C)(NT:NtK P w K mg base N)(hi:mg "isinstance"=bn)(hs:mg "str"=bn)(F:lz K "__init__" "Reader.__init__" (ir 0 sR) f fd):bz P w K mg base (n6 P w N) 3 f fd ["self","text"] (Ym K C):=by
 refine F.Xf (N:=["self","text"]) xq (λvs H Q E h=>?_) (λbX A outer s H vs Q E hr h=>?_)
 .obtain⟨_,_,_,_,rfl,_⟩:=h;rfl
 obtain⟨p,dx,v,x,rfl,hp,hv,ht,q,Ë⟩:=h;refine⟨_,aW (jy (m9 (gM (bM (uk rfl) (by rfl) hi FB (aj (pv 1) (aj (lY (v:=.ty "str") rfl hs GT rfl) aJ))))) (bu (lV NT.m NT.ok NT.bi hr rfl rfl NT.at' NT.kp jA cH)) dH) (aW (zU (pv 0) (pv 1) rfl) (bu (zU (pv 0) jA rfl))),?_⟩;obtain⟨x',c',t',b',e1,ty,e2,e3⟩:=adq (Q:=λu _=>u=.bl (Kd.str.is x)) hv .str ht rfl;cases e3;refine⟨v,rfl,x',c',t',_,e1,ty,e2,_,rfl,?_⟩;clear ty e2;cases e:Kd.str.is x with
 |false=>
  refine jH ?_;refine⟨0,rfl,by decide,WR (Ë λT z=>?_)⟩;subst z;cases e
 |true=>
  have:∃T,x=.str T:=by cases x<;>first|exact⟨_,rfl⟩|cases e
  obtain⟨T,rfl⟩:=this;cases hv;refine gj ?_;refine⟨.str T,rfl,.ref p,rfl,p,C,dx,_,rfl,hp,R.cl,R.t,(by show 0<1000;decide),?_⟩;refine⟨.ref p,rfl,p,C,dx,_,rfl,aw,R.cl,R.p,(by show 1<1000;decide),q T rfl _ (λb nb=>?_) ⟨dx,aw⟩⟩;rw[ah nb,ah nb]
end
end
end My
variable{t1:GK}
namespace My
section
variable[bD]
abbrev uz:Str:="0123456789"
abbrev P4(u:O Nat):Nat:=PySem.NumText.digitsVal u
def gP(T:Str)(n most:Nat):O Nat:=rn T uz n (if kB T n "0"=true then 1 else most)
def rZ(T:Str)(n most:Nat):Except Nat (Nat×Nat):=if gP T n most=[] then .error n else .ok (P4 (gP T n most),n+(gP T n most).length)
theorem Q7(h:zm uz c=true):48<=c/\c<=57:=by
 have e:zm uz c=decide (c∈uz.cps.toList):=Fb uz c;rw[e,decide_eq_true_eq]at h;have e2:uz.cps.toList=[48,49,50,51,52,53,54,55,56,57]:=by decide +kernel
 rw[e2]at h;simp only[Au,BI,or_false]at h;omega
def ID(C:db):Sp:=λvs H Q E=>∃(p:db) (T:Str) (n most:Nat),vs=[.ref p,.int most]/\rO C p T n H/\T.length<=sizeLine/\n<=T.length/\0<most/\most<=100/\(∀m,rZ T n most=.error m->pw E p H m)/\(∀v n',rZ T n most=.ok (v,n')->∀H',nZ p H H'->rO C p T n' H'->Q (.int v) H')
section
variable{K:Aa}{N:db}
theorem Vp(R:Ul K mg C)(S:MtS P w K mg base C)(G:zk P w K mg base N "take_many" 4 ["reader","signs","most"] (uM C))(hf:mg "FIGURES"=al (.str uz t1))(hi:mg "int"=bn)(F:lz K "take_number" "take_number" Qy f fd):bz P w K mg base (n6 P w N) 5 f fd ["reader","most"] (ID C):=by
 have nd:(["reader","most"]:O Str).Nodup:=by decide
 refine F.Xf (N:=["reader","most"]) xq (λvs H Q E h=>?_) (λbX A outer s H vs Q E hr h=>?_)
 .obtain⟨_,_,_,_,rfl,_⟩:=h;rfl
 obtain⟨p,T,n,most,rfl,hR,hT,hn,ė,hm,Ë,q⟩:=h;refine⟨_,aW (jy (gM (iK (pv 0) R.cl S.m S.ok (hr.mono ⋯) S.bi .nil om (aj zY aJ))) (bu (dI (i:=1) nd rfl (BA rfl) jA)) dH)
  (bu (dq (eu um (by rfl) hi boot_int (aj (lX G hr (Ah _) cH rfl (aj (pv 0) (aj (eM (v:=.str uz) rfl hf ⟨_,rfl⟩) (aj (pv 1) aJ)))) aJ)))),?_⟩
 obtain⟨dx,hp⟩:=id hR;have fin:∀mo:Nat,gP T n most=rn T uz n mo->0<mo->mo<=100->∃(p':db) (T':Str) (n':Nat) (s:Str) (qt:Nat),[V.ref p,.str uz,.int mo]=[.ref p',.str s,.int qt]/\rO C p' T' n' H/\T'.length<=sizeLine/\n'<=T'.length/\0<qt/\qt<=100/\(rn T' s n' qt=[]->pw E p' H n')/\(rn T' s n' qt≠[]->∀H',nZ p' H H'->rO C p' T' (n'+(rn T' s n' qt).length) H'->∃x k,[V.str ⟨(rn T' s n' qt).toArray⟩]=[.str x]/\DH x=al k/\x.length<=640/\Q (.int k) H'):=λmo e m0 m1=>by
  refine⟨p,T,n,uz,mo,rfl,hR,hT,hn,m0,m1,λz=>?_,λz H' o r=>?_⟩
  .rw[<- e]at z;exact Ë n (if_pos z)
  .have u1:=uV (T:=T) (s:=uz) (n:=n) (most:=mo);have u3:=λc (h:c∈rn T uz n mo)=>uW h;have q:=q (P4 (gP T n most)) (n+(gP T n most).length) (if_neg (by rw[e];exact z));rw[e]at q;refine⟨_,_,rfl,F3 (λc hc=>Q7 (u3 c (by simpa using hc))) (by simpa using z) (by simp[BU];lia),by simp[BU];lia,?_⟩;have:=q H' o r;simpa using this
 refine⟨.ref p,rfl,p,dx,_,rfl,hp,rfl,p,T,n,"0",rfl,hR,hT,_,rfl,?_⟩;cases c:kB T n "0" with
 |true=>
  refine jH ?_;exact⟨.ref p,rfl,.int 1,rfl,fin 1 (by unfold gP;rw[if_pos c]) ⋯ ⋯⟩
 |false=>
  refine gj ?_;exact⟨.ref p,rfl,.int most,rfl,fin most (by unfold gP;rw[if_neg (by rw[c];decide)]) ė hm⟩
end
end
section
variable[bD]
theorem pq.x{l:db}{o:HO}(k:pq p H H1)(x:kO l H1 H2)(e:H2 l=al o)(n:H l=bn):pq p H H2:=⟨λc o nc h=>x c o (λz=>by subst z;rw[n]at h;cases h) (k.k c o nc h),λc h=>k.t c (by
 cases z:H1 c with
 |none=>rfl
 |some u=>
  have:c≠l:=λy=>by subst y;rw[h]at e;cases e
  rw[x c u this z]at h;cases h)⟩
def PU(T s:Str):Nat->O Nat->Nat->Except Nat (O Nat×Nat)
 |0,acc,n=>.ok (acc,n)
 |k+1,acc,n=>if kB T n s=true then (match rZ T (n+1) 4 with
   |.error m=>.error m
   |.ok (v,n1)=>PU T s k (acc++[v]) n1) else .ok (acc,n)
def oo(T s:Str)(n:Nat):Except Nat (O Nat×Nat):=match rZ T n 4 with
 |.error m=>.error m
 |.ok (v,n1)=>PU T s (T.length+1) [v] n1
def xj(l:O Nat):O PV:=l.map λv:Nat=>PV.int (v:Int)
theorem L1{K:Aa}:∀l:O Nat,aL K [] H (l.map λv:Nat=>V.int (v:Int)) (xj l)
 |[]=>.nil
 |v::l=>.cons (.int v) (L1 l)
theorem Jn{v:Nat}(hn:n<=T.length)(h:rZ T n most=.ok (v,n')):n'<=T.length/\n<n':=by
 unfold rZ at h
 split at h
 .cases h
 .next c=>
  cases h;have:0<(gP T n most).length:=Bx.mpr c;unfold gP at this ⊢;exact⟨S2 hn,by lia⟩
def uL(K:Aa)(C:db):Sp:=λvs H Q E=>∃(p:db) (T:Str) (n:Nat) (s:Str),vs=[.ref p,.str s]/\rO C p T n H/\T.length<=sizeLine/\n<=T.length/\(∀m,oo T s n=.error m->pw E p H m)/\(∀l n',oo T s n=.ok (l,n')->∀u H',pq p H H'->rO C p T n' H'->VR K [] H' u (.tup (xj l))->Q u H')
section
variable{K:Aa}{N:db}
theorem Q4(R:Ul K mg C)(S:MtS P w K mg base C)(M:MtT P w K mg base N C)(G:zk P w K mg base N "take_number" 5 ["reader","most"] (ID C))(hf:mg "MOST_FIGURES"=al (.int 4 t1))(ht:mg "tuple"=bn)(F:lz K "take_numbers" "take_numbers" IW f fd):bz P w K mg base (n6 P w N) 6 f fd ["reader","sign"] (uL K C):=by
 have nd:(["reader","sign","told"]:O Str).Nodup:=by decide
 refine F.Xf (N:=["reader","sign","told"]) xq (λvs H Q E h=>?_) (λbX A outer s H vs Q E hr h=>?_)
 .obtain⟨_,_,_,_,rfl,_⟩:=h;rfl
 obtain⟨p,T,n,sg,rfl,hR,hT,hn,Ë,q⟩:=h;refine⟨_,aW (dI (i:=2) nd rfl (BA rfl) (Jg (aj (lX G hr (Ah _) cH rfl (aj (pv 0) (aj (eM (v:=.int 4) rfl hf ⟨_,rfl⟩) aJ))) aJ)))
  (aW (lS Gv (gM (iK (pv 0) R.cl S.m S.ok (hr.mono ⋯) S.bi .nil om (aj (pv 1) aJ)))
   (aW (iH (iK (pv 0) R.cl M.m M.ok (hr.mono ⋯) M.bi .nil (qi cH) (aj (pv 1) aJ)))
    (bu (iH (ni K rfl Cm E6 E5 qr (pv 2) (aj (lX G hr (Ah _) cH rfl (aj (pv 0) (aj (eM (v:=.int 4) rfl hf ⟨_,rfl⟩) aJ))) aJ))))))
   (bu (dq (eu yZ (by rfl) ht Pi (aj (pv 2) aJ))))),?_⟩
 refine⟨.ref p,rfl,p,T,n,4,rfl,hR,hT,hn,by decide,by decide,λm z=>Ë m (by unfold oo;rw[z]),λv n1 z H1 o1 r1=>?_⟩;obtain⟨l1,l2⟩:=Jn hn z;refine⟨by show 1<=sizeLine;decide,λl H2 s2 e2 nl=>?_⟩;generalize ZG:oo T sg n=r at Ë q;have h0:PU T sg (T.length+1) [v] n1=r:=by rw[<- ZG];unfold oo;rw[z]
 clear ZG;obtain⟨dx0,hp0⟩:=id hR;have k1:pq p H H1:=pq.off o1 r1;have Ĉ:H l=bn:=k1.t l nl;have pl:p≠l:=λz=>by subst z;rw[hp0]at Ĉ;cases Ĉ
 refine⟨λm σ H2=>∃k acc n,m=k/\σ=[al (.ref p),al (.str sg),al (.ref l)]/\pq p H H2/\rO C p T n H2/\H2 l=al (.lst (acc.map λv:Nat=>V.int (v:Int)))/\n<=T.length/\acc.length<=n/\T.length<n+k/\PU T sg k acc n=r,
  ⟨_,T.length+1,[v],n1,rfl,rfl,k1.trans (.same s2),r1.same s2,e2,l1,by show 1<=n1;lia,by lia,h0⟩,?_⟩
 rintro k σ H2 ⟨_,acc,n,rfl,rfl,k2,r2,e2,hn,ha,hk,h2⟩;obtain⟨dx,hp⟩:=id r2;refine⟨.ref p,rfl,p,dx,_,rfl,hp,rfl,.str sg,rfl,p,T,n,sg,rfl,r2,hT,_,rfl,?_⟩;cases c:kB T n sg with
 |false=>
  refine gj ?_;have hr:r=.ok (acc,n):=by
   rw[<- h2];cases k with
   |zero=>rfl
   |succ k=>unfold PU;rw[if_neg (by rw[c];decide)]
  refine⟨.ref l,rfl,l,_,rfl,du.of e2,λq1 H3 s3 e3 n3=>?_⟩;exact q acc n hr (.ref q1) H3 (k2.trans (.same s3)) (r2.same s3) (.tup e3 (L1 acc))
 |true=>
  refine jH ?_;cases k with
  |zero=>exact absurd (Ib c).choose_spec.2.2 ∅
  |succ k=>
  obtain⟨ch,Ol,ĕ,nJ⟩:=Ib c;unfold PU at h2;rw[if_pos c]at h2;refine⟨λσ' H'=>∃m',m'<k+1/\∃k acc n,m'=k/\σ'=[al (.ref p),al (.str sg),al (.ref l)]/\pq p H H'/\rO C p T n H'/\H' l=al (.lst (acc.map λv:Nat=>V.int (v:Int)))/\n<=T.length/\acc.length<=n/\T.length<n+k/\PU T sg k acc n=r,λ_ _ z=>z,?_⟩;refine⟨.ref p,rfl,p,dx,_,rfl,hp,rfl,.str sg,rfl,p,T,n,sg,rfl,r2,hT,hn,λc0 ZP ho0 H3 o3 r3=>?_,λz=>by rw[c]at z;cases z⟩;have e3:H3 l=al (.lst (acc.map λv:Nat=>V.int (v:Int))):=by rw[o3 l pl.symm];exact e2
  have k3:pq p H H3:=k2.trans (pq.off o3 r3);refine⟨.ref l,rfl,U0 e3,.ref p,rfl,p,T,n+1,4,rfl,r3,hT,nJ,by decide,by decide,λm z=>?_,λv n4 z H4 o4 r4=>?_⟩
  .rw[z]at h2;exact(Ë m h2.symm).kp k3
  .rw[z]at h2;obtain⟨m1,m2⟩:=Jn nJ z;have e4:H4 l=al (.lst (acc.map λv:Nat=>V.int (v:Int))):=by rw[o4 l pl.symm];exact e3
   refine⟨l,_,_,rfl,rfl,e4,?_,λH5 x5 e5=>?_⟩
   .rw[Am];lia
   .obtain⟨dx4,TN⟩:=id r4;exact⟨k,Cw _,k,acc++[v],n4,rfl,rfl,(k3.trans (pq.off o4 r4)).x x5 e5 Ĉ,⟨dx4,x5 p _ pl TN⟩,by rw[e5,B1];rfl,m1,by rw[Ag];show acc.length+1<=n4;lia,by lia,h2⟩
end
end
end My
variable{x:BN}{p:Cv}
namespace FL
section
variable[bD]
def X9(te:TE)(sp:db->O (db×Obj)->Sp)(E:XK):TE:=λσ H Q=>te σ H λv H1=>TB H1/\∀a fz H2,My.rQ H1 H2->TB H2->oK H2 fz->sp a fz [v,.ref a] H2 Q E
def QQ{N P:db}{lp:Pos}{sp:db->O (db×Obj)->Sp}(L:Lm)(hK:sW X.K X.mg X.env.code P)(hP:kN P L.q)(bi:Binds X.K fd ps [])(kp:AL X.K (.ref f)=true)(hm:X.mg x=al (.ref f))(he:PE X e te)(hr:bI k' X.A)(hk:k<=k')(hx:rA X N E)(G:∀oG a fz,kQ L [] oG a [] fz->bz X.prog X.w X.K X.mg oG (n6 X.prog X.w N) k f fd ps (sp a fz))(Ht:∀y∈L.sc.names,y.2≠.free)(hq:‹L.q=X.env.qual++"<lambda>"›)(hd:‹defaultsOf L.ar X.env=([],[])›)(hg:‹Gl X x›)(eY: ~~~(d6 x))(k6:‹lm [e,.Lambda L.ar L.bd L.sc lp] X.env=(false,o0 e X.env)::lm [.Lambda L.ar L.bd L.sc lp] X.env›)(adB:‹lm [.Lambda L.ar L.bd L.sc lp] X.env=[(false,o0 (.Lambda L.ar L.bd L.sc lp) X.env)]›)(bZ:‹(KM pos (lm [.Lambda L.ar L.bd L.sc lp] X.env)).any (·.1)=false›):PE X (.Call (.Name x p) [e,.Lambda L.ar L.bd L.sc lp] [] pos) (X9 te sp E):=by
 intro Z s σ H Q I h;refine AM (fH I hg hm ?_ eY);refine B6 I.ok.mod.NV kp ?_ k6 bZ;rw[k6,adB];refine A7 (bp (he Z s σ H _ I h) λu1 s1 ⟨v,H1,I1,r1,tb,q⟩=>A7 (NQ (L:=L) I1 tb hK hq hP hd (λy hy hk=>absurd hk (Ht y hy)) λa fz H2 s2 I2 ć z2 ç k2 th=>BL ?_));obtain⟨cl,pm,c,lH,co,ĭ,Wg,h1,h2⟩:=ć;have no:∀x c,cl.lookup x=al c->False:=λx c z=>Ht _ (h1 x c z).2 rfl;have Ċ:kQ L [] (mO X.base s2.heap []) a [] fz:=⟨cl,pm,c,lH,co,ĭ,Wg,λx c z=>(no x c z).elim,λx y c z=>(no x c z).elim,λi y hy=>(by cases hy)⟩;have e1:=I2.aab (cs:=[]) λc hc=>(nomatch hc);exact⟨I2.fm,IZ (G _ a fz Ċ) e1 (hr.mono hk) bi (qi hx) I2 (.cons r1 (.cons (show RelV (.ref a) (.ref a) from rfl) .nil)) (q a fz H2 ⟨k2,th,λ_=>ç⟩ ç z2)⟩
end
end FL
namespace My
section
variable{K:Aa}{N:db}
def _root_.L2.lz.ac0{st:ut}{f:db}{fd:wp}{N:O Str}(F:lz K x qual st f fd)(S:bW N ps (ak st))(len:∀vs H Q E,sp vs H Q E->vs.length=ps.length)(mz:∀(bX:ce) (A:BT) (outer:O Env) (s:gt) (H:Hp) (vs:O V) (Q:VK) (E:XK),fd.code=bX->bI k (A.deeper (Db qual (ak st) s.heap.objs.size f bX))->sp vs H Q E->
   ∃t,nY (ku (n6 P w C) P w K mg base N qual (ak st) f bX A outer s H E) (a9 st) t/\t {nx:=λ_ H'=>Q .bx H',rt:=Q} (start N vs) H):bz P w K mg base (n6 P w C) (k+1) f fd ps sp:=by
 obtain⟨oc,od,kV,Ç,pm,an,bX,ct,Ku,rfl,lk,dr⟩:=F.ex;exact JD lk dr S len λA outer s H vs Q E hr xl=>mz bX A outer s H vs Q E rfl hr xl
end
section
variable[bD]
def rdL:Lm:=match a9 uT with
 |.Assign _ (.Call _ [_,.Lambda ar bd sc _] [] _) _::_=>⟨"read_dates.<locals>.<lambda>",ar,bd,sc⟩
 |_=>⟨"",⟨[],[],bn,[],[],bn,[]⟩,.Constant .none 0 ⟨0,0,0,0⟩,default⟩
def iY(T:Str)(n:Nat):Except Nat (PV×Nat):=match oo T "." n with
 |.error m=>.error m
 |.ok (l,n')=>.ok (.tup (xj l),n')
def SW(K:Aa)(C:db):Sp:=λvs H Q E=>∃(p:db) (T:Str) (n:Nat),vs=[.ref p]/\rO C p T n H/\T.length<=sizeLine/\n<=T.length/\(∀m,iY T n=.error m->pw E p H m)/\∀y n',iY T n=.ok (y,n')->∀u H',pq p H H'->rO C p T n' H'->VR K [] H' u y->Q u H'
section
variable{K:Aa}{N:db}
def Vq(G:zk P w K mg base N "take_numbers" 6 ["reader","sign"] (uL K C))(hp:mg "POINT"=al (.str "." t1))(L:kQ rdL [] base a [] fz):Nonempty (LH P w K mg base N a [] [] fz 7 ["reader"] (SW K C)):=by
 refine JE L ⟨rfl,rfl,rfl,by decide +kernel,by decide +kernel,by decide +kernel,by decide +kernel,by decide +kernel⟩ rfl (λvs H Q E h=>?_) (λ_ _ _ _=>usN (by (repeat intro _);rfl)) λcl cv A outer s H vs Q E hr _ _ h=>?_
 .obtain⟨_,_,_,rfl,_⟩:=h;rfl
 obtain⟨p,T,n,rfl,r,hT,hn,Ë,q⟩:=h;refine⟨_,lX G hr (Ah _) (ub rfl rfl rfl rfl) rfl (aj (pv 0) (aj (eM (v:=.str ".") rfl hp ⟨_,rfl⟩) aJ)),.ref p,rfl,p,T,n,".",rfl,r,hT,hn,λm z=>Ë m (by unfold iY;rw[z]),λl n' z=>q _ n' (by unfold iY;rw[z])⟩
def RT(K:Aa)(v:V)(x:PV)(H:Hp)(Q:VK)(E:XK):Prop:=VR K [] H v x/\Hu x=true/\((∀T,x≠.str T)->mU E H 0)/\∀T,x=.str T->T.length<=sizeLine/\(∀m,iY T 0=.error m->mU E H m)/\
 ∀y n',iY T 0=.ok (y,n')->(n'<T.length->mU E H n')/\(¬n'<T.length->∀u H',rQ H H'->TB H'->VR K [] H' u y->Q u H')
structure RMk(P:tz)(w:wS)(K:Aa)(mg:Str->Option ce)(base:nn)(N C:db) where
 f:db
 fd:wp
 m:Mk K C f
 ok:bz P w K mg base (n6 P w N) 3 f fd ["self","text"] (Ym K C)
 bi:Binds K fd ["self","text"] []
 at':mg "Reader"=al (.ref C)
def UO(K:Aa)(a:db)(fz:O (db×Obj)):Sp:=λvs H Q E=>∃v x,vs=[v,.ref a]/\TB H/\oK H fz/\RT K v x H Q E
theorem Vr(R:Ul K mg C)(NT:NtK P w K mg base N)(I:RMk P w K mg base N C)(A:LH P w K mg base N a [] [] fz 7 ["reader"] (SW K C))(F:lz K "read_all" "read_all" Qz f fd):bz P w K mg base (n6 P w N) 8 f fd ["text","take"] (UO K a fz):=by
 have nd:(["text","take","reader","told"]:O Str).Nodup:=by decide
 refine F.Xf (N:=["text","take","reader","told"]) xq (λvs H Q E h=>?_) (λbX A' outer s H vs Q E hr h=>?_)
 .obtain⟨_,_,rfl,_⟩:=h;rfl
 obtain⟨v,x,rfl,tb,z,hv,ht,b0,hT⟩:=h;refine⟨_,aW (dI (i:=2) nd rfl (BA rfl) (QP I.m I.ok (hr.mono ⋯) rfl I.at' I.bi .nil (qi cH) (aj (pv 0) aJ))) (aW (dI (i:=3) nd rfl (BA rfl) (Nb A hr (Ah _) (pv 1) cH (aj (pv 2) aJ)))
  (aW (jy (j5 Jj (gN (pv 2) rfl) (bM (fR K rfl) (by rfl) R.len EG (aj (pv 0) aJ)) (fg _)) (bu (lV NT.m NT.ok NT.bi (hr.mono ⋯) rfl rfl NT.at' NT.kp (gN (pv 2) rfl) cH)) dH) (bu (dq (pv 3))))),?_⟩
 refine⟨v,rfl,λp dx np ĉ ne=>?_⟩;have Ć:fe H (upd (upd H dx (.own p)) p (.ins C dx [])):=λc o e=>by
  have n1:c≠p:=λz=>by subst z;rw[np]at e;cases e
  have n2:c≠dx:=λz=>by subst z;rw[ĉ]at e;cases e
  rw[ah n1,ah n2];exact e
 have kn:rQ H (upd (upd H dx (.own p)) p (.ins C dx [])):=⟨λc o e _=>by
  have n1:c≠p:=λz=>by subst z;rw[np]at e;cases e
  have n2:c≠dx:=λz=>by subst z;rw[ĉ]at e;cases e
  rw[ah n1,ah n2];exact e,λc e=>by
  by_cases n1:c=p
  .subst n1;exact np
  .rw[ah n1]at e;by_cases n2:c=dx
   .subst n2;exact ĉ
   .rw[ah n2]at e;exact e,λt=>t.same Ć⟩
 refine⟨p,dx,v,x,rfl,aw,VR.tk Ć.eU hv,ht,λT hx H1 o1 r1=>⟨rfl,?_⟩,λnT=>(b0 nT).x kn np ⟨_,_,_,aw⟩⟩;subst hx;cases hv;obtain⟨hT,Ë,ok⟩:=hT T rfl;have sm:fe H H1:=λc o e=>by
  have n1:c≠p:=λz=>by subst z;rw[np]at e;cases e
  rw[o1 c n1];exact Ć c o e
 have k1:rQ H H1:=⟨λc o e _=>sm c o e,(pq.same (p:=p) sm).t,λt=>t.same sm⟩;have z1:oK H1 fz:=λp hp=>let ⟨u,e⟩:=z p hp;⟨u,sm _ _ e⟩;refine⟨.ref a,rfl,rfl,z1,.ref p,rfl,.nil,z1,p,T,0,rfl,r1,hT,Bs _,λm er=>(Ë m er).x k1 np (let ⟨dx,h⟩:=r1;⟨_,_,_,h⟩),λy n' er u2 H2 k2 r2 v2=>?_⟩;obtain⟨bd,ok⟩:=ok y n' er;obtain⟨Sa,zr⟩:=r2;have s2:fe H H2:=λc o e=>k2.k c o (λz=>by subst z;rw[np]at e;cases e) (sm c o e);have k3:rQ H H2:=⟨λc o e _=>s2 c o e,(pq.same (p:=p) s2).t,λt=>t.same s2⟩;refine⟨.ref p,rfl,p,C,Sa,_,.int n',rfl,zr,R.cl,R.p,rfl,.str T,rfl,.str T,T.length,rfl,⟨hT,rfl⟩,_,_,rfl,rfl,_,rfl,?_⟩;by_cases lt:n'<T.length
 .rw[decide_eq_true ∅];refine jH ?_;exact⟨.ref p,rfl,p,C,Sa,_,.int n',rfl,zr,R.cl,R.p,rfl,n',rfl,zL (by rw[<- xz];lia),WR (p:=p) ((bd lt).x k3 np ⟨_,_,_,zr⟩)⟩
 .rw[decide_eq_false ∅];refine gj ?_;exact⟨u2,rfl,ok lt u2 H2 k3 (tb.same s2) v2⟩
def rQ.cC(k:rQ H H'):br K H H':=⟨λp vs h=>k.k _ _ h rfl,λp o u h=>k.k _ _ h rfl,xk λp φ h=>k.k _ _ h rfl⟩
end
end
end My
variable{vs:O L2.V}{mD:PL.PV->PL.PV->FL.W PL.PV}{kD:Nat}
namespace My
section
variable[bD]
def aaz(b:mU E H m):∀(a:db) (H':Hp),(∀c o,H c=al o->H' c=al o)->(∀c,H' c=bn->H c=bn)->E (.int m 0) (al a) H':=λa H' k t=>b a H' ⟨λc o h _=>k c o h,t,λtb=>tb.same k⟩
structure aeN(P:tz)(w:wS)(K:Aa)(mg:Str->Option ce)(base:nn)(x:Str)(k:Nat)(ps:List Str)(ks:List AK)(m:List PV->W PV) where
 f:db
 fd:wp
 ok:bz P w K mg base jo k f fd ps (n9 K ks m)
 bi:Binds K fd ps []
 kp:AL K (.ref f)=true
 at':mg x=al (.ref f)
def RDt(K:Aa)(mD:PV->PV->W PV)(gv:PV)(v:V)(x:PV)(H:Hp)(Q:VK)(E:XK):Prop:=VR K [] H v x/\Hu x=true/\((∀T,x≠.str T)->mU E H 0)/\∀T,x=.str T->T.length<=sizeLine/\(∀m,iY T 0=.error m->mU E H m)/\
 ∀y n',iY T 0=.ok (y,n')->(n'<T.length->mU E H n')/\(¬n'<T.length->(mD gv y).run λz=>∃b,z=.bl b/\(b=false->mU E H T.length)/\(b=true->∀u H',rQ H H'->VR K [] H' u y->Q u H'))
def UN(K:Aa)(mD:PV->PV->W PV):Sp:=λvs H Q E=>∃g gv v x,vs=[g,v]/\TB H/\VR K [] H g gv/\RDt K mD gv v x H Q E
section
variable{K:Aa}{N:db}
def TX(g:P6 n vs ks H H')(np:∀(i:Nat) ψ d,ks[i]?≠al (.p ψ d)):rQ H H':=⟨λc o e nt=>g.keep c o e (λψ d ⟨i,h,_⟩=>np i ψ d h) nt,g.there,λ_=>g.tb⟩
def Vv:∀(i:Nat) ψ d,(Ar n AK.v)[i]?≠al (.p ψ d):=λi ψ d e=>by
 rw[BC]at e
 split at e<;>cases e
theorem Nm{Pt g:db}{gd:wp}(hk:kD<=8)(NT:NtK P w K mg base N)(D:aeN P w K mg base "is_dates" kD ["great","thing"] [.v,.v] (iB 2 mD))(hl:mg "len"=bn)(LK:sW K mg fd.code Pt)(hP:kN Pt "read_dates.<locals>.<lambda>")(bi:Binds K gd ["text","take"] [])(kp:AL K (.ref g)=true)(hm:mg "read_all"=al (.ref g))(A:∀b a fz,kQ rdL [] b a [] fz->bz P w K mg b (n6 P w N) 8 g gd ["text","take"] (UO K a fz))(F:lz K "read_dates" "read_dates" uT f fd):bz P w K mg base (n6 P w N) 9 f fd ["great","text"] (UN K mD):=by
 have nd:(["great","text","dates"]:O Str).Nodup:=by decide
 refine F.ac0 (N:=["great","text","dates"]) xq (λvs H Q E h=>?_) (λbX A' outer s H vs Q E ec hr h=>?_)
 .obtain⟨_,_,_,_,rfl,_⟩:=h;rfl
 obtain⟨g0,gv,v,x,rfl,tb,hg,hv,ht,b0,hT⟩:=h;refine⟨_,aW (dI (i:=2) nd rfl (BA rfl) (QQ rdL (ec▸LK) hP bi kp hm (pv 1) hr (Ah _) cH A (by decide +kernel)))
  (aW (jy (m9 (gM (Ji D.ok (hr.mono hk) (by rfl) D.at' D.kp D.bi .nil om (aj (pv 0) (aj (pv 2) aJ))))) (bu (lV NT.m NT.ok NT.bi (hr.mono ⋯) rfl rfl NT.at' NT.kp (bM (fR K rfl) (by rfl) hl EG (aj (pv 1) aJ)) cH)) dH) (bu (dq (pv 2)))),?_⟩
 refine⟨v,rfl,tb,λa fz H2 k2 ç z2=>⟨v,x,rfl,ç,z2,VR.tk k2.cC hv,ht,λnT=>(b0 nT).kp k2,λT hx=>?_⟩⟩;obtain⟨h1,Ë,ok⟩:=hT T hx;refine⟨h1,λm e=>(Ë m e).kp k2,λy n' e=>⟨λl=>((ok y n' e).1 l).kp k2,λl u H3 k3 tb3 v3=>?_⟩⟩;have k03:=k2.trans k3;have r:=(ok y n' e).2 l;subst hx;cases hv;refine⟨g0,rfl,u,rfl,tb3,0,[gv,y],.v (VR.tk k03.cC hg) (.v v3 .nil),(mD gv y).mono (λz hz u' H4 g4 v4=>?_) r⟩;obtain⟨b,rfl,q0,q1⟩:=hz;cases v4;have k4:=k03.trans (TX g4 (Vv (n:=2)));have v5:=VR.tk (TX g4 (Vv (n:=2))).cC v3;refine⟨_,rfl,?_⟩;cases b with
 |false=>
  refine jH ?_;exact⟨.str T,rfl,.str T,T.length,rfl,⟨h1,rfl⟩,T.length,rfl,zL (by rw[<- xz];lia),aaz ((q0 rfl).kp k4)⟩
 |true=>
  refine gj ?_;exact⟨u,rfl,q1 rfl u H4 k4 v5⟩
end
end
end My
variable{gv:PL.PV}
namespace My
section
variable[bD]
abbrev UT:wT:={kind:=.function,names:=[("_law_one",.local),("_law_great_here",.free),("read_dates",.globalImplicit)],isGenerator:=false,isCoroutine:=false}
abbrev bdY(p1 p2 p3 p4:Pos):pc:=.Call (.Name "read_dates" p1) [.Name "_law_great_here" p2,.Name "_law_one" p3] [] p4
def ada:aaG ["_law_one"] ["_law_great_here"] UT:=⟨rfl,rfl,rfl,by decide +kernel,by decide +kernel,by decide +kernel,by decide +kernel,by decide +kernel⟩
def Yn(K:Aa)(mD:PV->PV->W PV)(gv:PV):Sp:=λvs H Q E=>∃v x,vs=[v]/\TB H/\RDt K mD gv v x H Q E
section
variable{K:Aa}{N:db}
def Vo(G:zk P w K mg base N "read_dates" 9 ["great","text"] (UN K mD))(L:kQ ⟨q,ar,bdY p1 p2 p3 p4,UT⟩ ["_law_great_here"] base a us fz)(hu:us.length=1)(hb:∀(cl:O (Str×db)) (pm cv lH:ce) (us:O ce),us.length=1->SB ((⟨q,ar,bdY p1 p2 p3 p4,UT⟩:Lm).fn cl pm cv lH) ⟨us,[]⟩=pure ((["_law_one"]:O Str).zip us)):Nonempty (LH P w K mg base N a us [gv] fz 10 ["_law_one"] (Yn K mD gv)):=by
 refine JE L ada hu (λvs H Q E h=>?_) hb λcl cv A outer s H vs Q E hr rv _ h=>?_
 .obtain⟨_,_,rfl,_⟩:=h;rfl
 obtain⟨v,x,rfl,tb,h⟩:=h;cases rv with
 | @cons g _ _ _ r1 r2=>
 cases r2;exact⟨_,lX G hr (Ah _) (ub rfl rfl rfl rfl) rfl (aj (pv 1) (aj (pv 0) aJ)),g,rfl,v,rfl,g,gv,v,x,rfl,tb,r1,h⟩
def S7(mD:PV->PV->W PV)(gv:PV)(T:Str)(r:Except Nat (PV×Nat)):W PV:=match r with
 |.error m=>.ret (.int m)
 |.ok (y,n)=>if n<T.length then .ret (.int n) else .bind (mD gv y) λz=>⟨λQ=>∃b,z=.bl b/\Q (if b=true then .bx else .int T.length),λh ⟨b,e,q⟩=>⟨b,e,h _ q⟩⟩
theorem YM{mD:PV->PV->W PV}:S7 mD gv T (.error m)=.ret (.int m):=rfl
theorem xK{mD:PV->PV->W PV}{y:PV}:S7 mD gv T (.ok (y,n))=if n<T.length then .ret (.int n) else .bind (mD gv y) λz=>⟨λQ=>∃b,z=.bl b/\Q (if b=true then .bx else .int T.length),λh ⟨b,e,q⟩=>⟨b,e,h _ q⟩⟩:=rfl
def NJ(mD:PV->PV->W PV)(gv:PV)(x:PV):W PV:=⟨λQ=>Hu x=true/\((∀T,x≠.str T)->Q (.int 0))/\∀T,x=.str T->T.length<=sizeLine/\(S7 mD gv T (iY T 0)).run Q,λh ⟨a,b,c⟩=>⟨a,λz=>h _ (b z),λT z=>⟨(c T z).1,(S7 mD gv T (iY T 0)).mono h (c T z).2⟩⟩⟩
structure XK3(K:Aa)(mg:Str->Option ce)(N TE NL NW:db):Prop where
 up:Sv K N TE
 cl:LD K N
 at_:Sw K N "place"
 te:mg "TreeError"=al (.ref TE)
 nt:mg "NoText"=al (.ref N)
 nl:mg "NoLine"=al (.ref NL)
 nw:mg "NoWay"=al (.ref NW)
 k1:CK K (.ref N) [.ref NL,.ref NW]=al false
 k2:AJ K (.ref N) (.type "ValueError")=al true
 ve:mg "ValueError"=bn
def TY(k:rQ H H')(t:TB H')(np:∀(i:Nat) ψ d,ks[i]?≠al (.p ψ d)):P6 n vs ks H H':=⟨λc o e _ nt=>k.k c o e nt,t,k.t,λa ψ d ⟨i,h,_⟩=>(np i ψ d h).elim,xk λp φ h=>k.k _ _ h rfl⟩
def Yz{v:V}{x:PV}{Q Qf:VK}(hv:VR K [] H v x)(m:(NJ mD gv x).run λz=>∀u' H',rQ H H'->VR K [] H' u' z->Qf u' H')(Ë:∀m:Nat,(∀H',rQ H H'->Qf (.int m) H')->mU E H m)(ok:(∀H',rQ H H'->Qf .bx H')->∀u' H',rQ H H'->Q u' H'):RDt K mD gv v x H Q E:=by
 obtain⟨ht,b0,hT⟩:=m;refine⟨hv,ht,λnT=>Ë 0 λH' k=>b0 nT _ H' k (.int 0),λT hx=>?_⟩;obtain⟨h1,q⟩:=hT T hx;refine⟨h1,λm e=>Ë m λH' k=>?_,λy n' e=>⟨λl=>Ë n' λH' k=>?_,λl=>?_⟩⟩
 .rw[e,YM]at q;exact q _ H' k (.int m)
 .rw[e,xK,if_pos l]at q;exact q _ H' k (.int n')
 .rw[e,xK,if_neg l]at q;refine(mD gv y).mono (λz hz=>?_) q;obtain⟨b,rfl,q⟩:=hz;refine⟨b,rfl,λhb=>Ë _ λH' k=>?_,λhb u' H' k _=>ok (λH2 k2=>?_) u' H' k⟩
  .subst hb;exact q _ H' k (.int _)
  .subst hb;exact q _ H2 k2 .bx
def XH.kp{C dx:db}{n:Int}(x:XH H a C dx n)(s:fe H H'):XH H' a C dx n:=⟨s _ _ x.a,s _ _ x.d⟩
theorem Y4{TE NL NW:db}(XX:XK3 K mg N TE NL NW)(hi:mg "isinstance"=bn)(hb:mg "bool"=bn)(hn:mg "int"=bn)(G:LH P w K mg base N fa us [gv] fz k ["_law_one"] (Yn K mD gv))(F:lz K "_law_place" "_law_place" sPl f fd):bz P w K mg base jo (k+3) f fd ["_law_read","_law_text"] (n9 K [.f fa us [gv] fz,.v] (iB 1 (NJ mD gv))):=by
 have nd:(["_law_read","_law_text","_law_caught","error","_law_odd"]:O Str).Nodup:=by decide
 refine F.ok (N:=["_law_read","_law_text","_law_caught","error","_law_odd"]) xq (λvs H Q E h=>?_) (λbX A' outer s H vs Q E hr h=>?_)
 .obtain⟨_,_,_,h,_⟩:=h;cases h with|f _ _ t=>cases t with|v _ t=>cases t;rfl
 obtain⟨tb,j,l,h,q⟩:=h;cases h with
 | @f _ _ _ _ _ _ l' r2 z t=>
 cases t with
 | @v u x J8 ks' l' r t=>
 cases t;refine⟨_,aW (dI (i:=2) nd rfl (BA rfl) vc) (aW (Vb (C:=N) (D0:=TE) (i:=2) (j:=3) rfl rfl (λ_ _ h=>h) XX.up nd rfl rfl rfl rfl rfl rfl XX.te (MY (fz:=fz) (λ_ _ h=>h) G.ok (hr.mono ∅) G.kp (pv 0) G.bi (aj (pv 1) aJ)))
  (aW (jy (j5 Nh (pv 2) vc (fg _)) (bu (dq vc)) dH)
   (aW (dI (i:=4) nd rfl (BA rfl) (S9 (bM (Ls (K:=K) rfl) (by rfl) hi FB (aj (pv 2) (aj (Jf (aj (eM (v:=.ref NL) rfl XX.nl rfl) (aj (eM (v:=.ref NW) rfl XX.nw rfl) aJ))) aJ)))
     (zZ (M7 (bM (y6 (K:=K) rfl) (by rfl) hi FB (aj (pv 2) (aj (lY (v:=.ty "ValueError") rfl XX.ve (by rfl) rfl) aJ)))))))
    (aW (jy (PW.pt (MM (gM (pv 4)) (zS (m9 (gM (bM (y6 (K:=K) rfl) (by rfl) hi FB (aj (pv 2) (aj (eM (v:=.ref N) rfl XX.nt rfl) aJ)))))))) (bu (dq (S8 L3 jA))) dH)
     (aW (jy (PW.pt (MM (gM (bM gJ (by rfl) hi FB (aj (M6 (K:=K) rfl (pv 2) rfl) (aj (lY (v:=.ty "bool") rfl hb boot_bool rfl) aJ)))) (zS (m9 (gM (bM gJ (by rfl) hi FB (aj (M6 (K:=K) rfl (pv 2) rfl) (aj (lY (v:=.ty "int") rfl hn boot_int rfl) aJ)))))))) (bu (dq (S8 L3 jA))) dH)
      (bu (dq (M6 (K:=K) rfl (pv 2) rfl)))))))),?_⟩
 have np:∀(i:Nat) ψ d,([AK.f fa us [gv] fz,AK.v]:O AK)[i]?≠al (.p ψ d):=λi ψ d e=>by
  match i with
  |0=>cases e
  |1=>cases e
  |i+2=>simp at e
 refine⟨.ref fa,rfl,rfl,z,u,rfl,z,r2,z,u,x,rfl,tb,Yz (Qf:=Q) r ((NJ mD gv x).mono (λz q1 u' H' k' r'=>q1 u' H' (TY k' (k'.tb tb) np) r') q) (λm hq a H1 k1 m' a' dx e1 e2 ha hd=>?_) λhq u' H1 k1=>?_⟩
 .cases e1;cases e2;have xh:XH H1 a N dx m:=⟨ha,hd⟩;refine⟨.ref a,rfl,rfl,false,rfl,gj ?_⟩;refine⟨.ref a,rfl,by show 2<=sizeLine;decide,λpt H2 s2 e2 n2=>?_⟩;have W9:=My.XH.kp xh s2;have k2:rQ H H2:=k1.trans ⟨λc o h _=>s2 c o h,(pq.same (p:=0) s2).t,λt=>t.same s2⟩;refine⟨a,N,dx,m,pt,[NL,NW],false,rfl,W9,XX.cl,e2,XX.k1,false,rfl,gj ?_⟩;refine⟨.ref a,rfl,a,N,dx,m,.ty "ValueError",.type "ValueError",true,rfl,W9,XX.cl,λu h=>h,XX.k2,true,rfl,?_⟩;refine⟨.bl false,rfl,false,rfl,gj ?_⟩;refine⟨.ref a,rfl,a,N,dx,m,.ref N,.ref N,true,rfl,W9,XX.cl,λu h=>h,by unfold AJ;simp,true,rfl,gj ?_⟩;refine⟨.ref a,rfl,a,N,dx,m,rfl,W9,XX.at_,.int m,"bool",.type "int",false,rfl,.int m,pG K m .bool,false,rfl,gj ?_⟩;refine⟨.ref a,rfl,a,N,dx,m,rfl,W9,XX.at_,.int m,"int",.type "int",true,rfl,.int m,pG K m .int,true,rfl,gj ?_⟩;exact⟨.ref a,rfl,a,N,dx,m,rfl,W9,XX.at_,hq H2 k2⟩
 .exact⟨.bx,rfl,rfl,true,rfl,jH (hq H1 k1)⟩
end
structure PlK(P:tz)(w:wS)(K:Aa)(mg:Str->Option ce)(mD:PV->PV->W PV) where
 f:db
 fd:wp
 bi:Binds K fd ["_law_read","_law_text"] []
 kp:AL K (.ref f)=true
 at':mg "_law_place"=al (.ref f)
 ok:∀(b:nn) (a:db) (us:List V) (fz:List (db×Obj)) (gv:PV) {q:Str}{ar:Arguments}{p1 p2 p3 p4:Pos},kQ ⟨q,ar,bdY p1 p2 p3 p4,UT⟩ ["_law_great_here"] b a us fz->us.length=1->
  (∀(cl:List (Str×db)) (pm cv lH:ce) (us:List ce),us.length=1->SB ((⟨q,ar,bdY p1 p2 p3 p4,UT⟩:Lm).fn cl pm cv lH) ⟨us,[]⟩=pure ((["_law_one"]:List Str).zip us))->bz P w K mg b jo 13 f fd ["_law_read","_law_text"] (n9 K [.f a us [gv] fz,.v] (iB 1 (NJ mD gv)))
end
end My
namespace FL
section
variable[bD]
section
def SU:PV->W Str
 |.str u=>.d8 (u.length<=1000) (.ret u)
 |_=>.fail
end
end
end FL
namespace L2
section
theorem pY:∀{ss:O Str}{vs:O ce},Vals (ss.map V.str) vs->StrsAre vs ss
 |[],_,.nil=>.nil
 |x::ss,_,.cons ⟨t,e⟩ r=>by subst e;exact .cons x t (pY r)
end
end L2
namespace FL
section
variable[bD]
variable{K:Aa}
section
def pX:O PV->W (O Str)
 |[]=>.ret []
 |.str i::r=>.bind (pX r) λl=>.ret (i::l)
 |_=>.fail
theorem tw:∀{l:O PV}{Q:O Str->Prop},(pX l).run Q->∃ns:O Str,l=ns.map PV.str/\Q ns
 |[],Q,h=>⟨[],rfl,h⟩
 |.str b::r,Q,h=>by
  obtain⟨ns,e,q⟩:=tw (l:=r) (show(pX r).run λl=>Q (b::l) from h);exact⟨b::ns,by rw[e];rfl,q⟩
 |.int _::_,_,h|.bl _::_,_,h|.bx::_,_,h|.tup _::_,_,h|.ref _::_,_,h|.ty _::_,_,h|.cl _::_,_,h|.dv _ _::_,_,h|.ob _ _::_,_,h|.hand::_,_,h=>h.elim
theorem JI:∀ns:O Str,pX (ns.map PV.str)=.ret ns
 |[]=>(rfl)
 |x::ns=>by rw[A4,pX,JI ns];rfl
theorem Iv:∀{ss:O Str}{vs:O V},aL K [] H vs (ss.map PV.str)->vs=ss.map V.str
 |[],_,.nil=>rfl
 |x::ss,_,.cons r t=>by cases r;rw[Iv t];rfl
end
end
end FL
variable{oc1 kV1 aaj pm1 Se ct1:A2}{od1 an1:Option AY}{YX:Array (Option A2)}
namespace My
section
variable[bD]
structure RD(K:Aa):Prop where
 ex:∃C fi ĩ fs Ĩ ft ħ,Ay K ii "Reader"=al (al (.ref C))/\lz K "__init__" "Reader.__init__" (ir 0 sR) fi ĩ/\Mk K C fi/\J4 K C/\fj K C "text"/\fj K C "place"/\
  lz K "stands_at" "Reader.stands_at" (ir 1 sR) fs Ĩ/\Meth K C "stands_at" fs/\lz K "take" "Reader.take" (ir 2 sR) ft ħ/\Meth K C "take" ft
def rdx{K:Aa}{f1 f2 f3:db}{oc2 oc3:ce}{od2 an2 od3 an3:Option db}{acY acX:Array (Option ce)}{kV2 aex pm2 aav ct2 kV3 aew pm3 aau ct3:ce}(a:Ay K ii "Reader"=al (al (.ref C)))(m2:Aw K (.ref C) "__init__"=al (al (.ref f1)))(l1:K.lookup f1=al ⟨oc1,od1,.func (Bj "__init__" "Reader.__init__" (cz (ir 0 sR)) (a9 (ir 0 sR)) (ak (ir 0 sR)) .none kV1 aaj pm1 an1 Se ct1),YX⟩)(c1:Ce K Se "Reader.__init__"=true)(k1:AL K (.ref f1)=true)(m1:FJ K C=true)(m3:CT K (.ref f1)=true)(m4:AL K (.ref C)=true)(d1:Dh K C GG=true)(d2:Ck K C=true)(d3:EM K C=true)(d4:Aw K (.ref C) "__setattr__"=al (al (.builtin "object.__setattr__")))(n1:Aw K (.ref C) "text"=al bn)(n2:Aw K (.ref C) "place"=al bn)(g2:Aw K (.ref C) "stands_at"=al (al (.ref f2)))(l2:K.lookup f2=al ⟨oc2,od2,.func (Bj "stands_at" "Reader.stands_at" (cz (ir 1 sR)) (a9 (ir 1 sR)) (ak (ir 1 sR)) .none kV2 aex pm2 an2 aav ct2),acY⟩)(c2:Ce K aav "Reader.stands_at"=true)(k2:AL K (.ref f2)=true)(i2:CT K (.ref f2)=true)(g3:Aw K (.ref C) "take"=al (al (.ref f3)))(l3:K.lookup f3=al ⟨oc3,od3,.func (Bj "take" "Reader.take" (cz (ir 2 sR)) (a9 (ir 2 sR)) (ak (ir 2 sR)) .none kV3 aew pm3 an3 aau ct3),acX⟩)(c3:Ce K aau "Reader.take"=true)(k3:AL K (.ref f3)=true)(i3:CT K (.ref f3)=true):RD K:=
 ⟨C,f1,_,f2,_,f3,_,a,nP l1 c1 k1,⟨m1,m2,m3,m4⟩,⟨d1,d2,d3,d4⟩,n1,n2,nP l2 c2 k2,⟨g2,i2,k2⟩,nP l3 c3 k3,⟨g3,i3,k3⟩⟩
section
variable{K:Aa}{N:db}
def Zo(n:(Ao N==Ao C)=false)(c:∃cd,BQ K C=al cd)(t:Es K (.ref C)=al (.type "type"))(s:DW K (.ref N) (.ref C)=al false):AJ K (.ref N) (.ref C)=al false:=by
 obtain⟨cd,c⟩:=c;unfold AJ PySem.W.kitCls;rw[n];dsimp only;rw[c,t,s];rfl
def adm(s:DW K (.ref N) (.type "ValueError")=al true):AJ K (.ref N) (.type "ValueError")=al true:=by
 have m:PySem.W.kitMeta "ValueError"=true:=by decide +kernel
 have n:(Ao N==CD "ValueError")=false:=rfl;unfold AJ PySem.W.kitCls;rw[n];dsimp only;rw[m,s];rfl
def adn{t c1 c2:ce}(h1:AJ K t c1=al false)(h2:AJ K t c2=al false):CK K t [c1,c2]=al false:=by
 unfold CK;rw[h1];show CK K t [c2]=_;unfold CK;rw[h2];rfl
def OB{TE:db}(X:K.In h)(q:Gf K TE Pg "ValueError.__new__"=true):OwnTail h Pg (.ref TE::Pg):=by
 unfold Gf at q
 split at q
 .next dd cd sl ho=>
  split at q
  .simp only[AB,beq_iff_eq]at q;exact .own (X _ _ ho) (.of_isNs (PySem.W.isNs_of_in X q.1.2)) (PySem.W.nsMap_none_of_in X q.1.2 q.2) .base
  .cases q
 .cases q
end
structure XD(K:Aa):Prop where
 ex:∃N TE NL NW f fd,Ay K ii "NoText"=al (al (.ref N))/\Ay K ii "TreeError"=al (al (.ref TE))/\Ay K ii "NoLine"=al (al (.ref NL))/\Ay K ii "NoWay"=al (al (.ref NW))/\
  lz K "__init__" "NoText.__init__" (ir 0 sN) f fd/\zi K N f/\AL K (.ref N)=true/\PF K TE N/\J2 K N TE "place"/\Sv K N TE/\LD K N/\Sw K N "place"/\CK K (.ref N) [.ref NL,.ref NW]=al false/\AJ K (.ref N) (.type "ValueError")=al true
def xdx{K:Aa}{TE NL NW:db}{nm' q':Str}{Nn Nn':db}{bs':O ce}{TV:Bool}{sn':O Str}{Yg:O ce}{ab ab':Bool}{aao:Option Bool}{WJ:Option db}{k2 k0' Tz Xk Tw k5':Option ce}{cd1 cd2:ClassData}(e1:Ay K ii "NoText"=al (al (.ref C)))(e2:Ay K ii "TreeError"=al (al (.ref TE)))(e3:Gf K TE Pg "ValueError.__new__"=true)(e4:K.lookup C=al (P3 nm q C Nn bs (.ref TE::Pg) nL sn sub ab col dd k0 k1 k2 k3 k5 "ValueError.__new__"))(e5:Cj K (.ref C) "__call__"=al (al (.builtin "type.__call__")))(e6:BF K C (.ref C)=al true)(e7:Aw K (.ref C) "__init__"=al (al (.ref f)))(e8:CT K (.ref f)=true)(e9:AL K (.ref C)=true)(e10:Cj K (.ref TE) "__getattribute__"=al (al (.builtin "type.__getattribute__")))(e11:PySem.W.readsIn K TE (.type "type")=true)(e12:PySem.W.findCls K (.ref TE) (.type "type") "__init__"=al (.val (.builtin "ValueError.__init__")))(e13:BF K C (.type "ValueError")=al true)(e14:Aw K (.ref C) "__getattribute__"=al (al (.builtin "BaseException.__getattribute__")))(e15:Aw K (.ref C) "__getattr__"=al bn)(e16:BF K C (.type "BaseException")=al true)(e17:Ck K C=true)(e18:Aw K (.ref C) "place"=al bn)(e19:Aw K (.ref C) "__setattr__"=al (al (.builtin "object.__setattr__")))(e20:BF K C (.type "object")=al true)(e21:K.lookup TE=al (P3 nm' q' TE Nn' bs' Pg TV sn' Yg ab' aao WJ k0' Tz Xk Tw k5' "ValueError.__new__"))(e22:Aw K (.ref C) "__class__"=al (al (.builtin "object.__class__")))(e23:Cj K (.builtin "object.__class__") "__get__"=al (al (.builtin "getset_descriptor.__get__")))(e24:FH K (.builtin "object.__class__")=al true)(e25:Ay K ii "NoLine"=al (al (.ref NL)))(e26:Ay K ii "NoWay"=al (al (.ref NW)))(e27:BQ K NL=al cd1)(e28:BQ K NW=al cd2)(e29:Es K (.ref NL)=al (.type "type"))(e30:Es K (.ref NW)=al (.type "type"))(e31:DW K (.ref C) (.ref NL)=al false)(e32:DW K (.ref C) (.ref NW)=al false)(e33:DW K (.ref C) (.type "ValueError")=al true)(e34:(Ao C==Ao NL)=false)(e35:(Ao C==Ao NW)=false)(e36:K.lookup f=al ⟨oc1,od1,.func (Bj "__init__" "NoText.__init__" (cz (ir 0 sN)) (a9 (ir 0 sN)) (ak (ir 0 sN)) .none kV1 aaj pm1 an1 Se ct1),YX⟩)(e37:Ce K Se "NoText.__init__"=true)(e38:AL K (.ref f)=true):XD K:=by
 refine⟨C,TE,NL,NW,f,_,e1,e2,e25,e26,nP e36 e37 e38,⟨⟨nm,q,Nn,bs,_,nL,sn,sub,ab,col,dd,k0,k1,k2,k3,k5,e4,λh X=>OB X e3⟩,e5,e6,e7,e8⟩,e9,⟨e10,e11,e12,e13⟩,⟨e19,e20,e18,?_⟩,⟨⟨_,_,_,_,_,_,_,_,_,_,_,_,_,_,_,e4⟩,⟨_,_,_,_,_,_,_,_,_,_,_,_,_,_,_,e21⟩⟩,⟨e14,e15,e16,e17,e22,e23,e24,e20⟩,⟨e14,e15,e16,e17,e18⟩,adn (Zo e34 ⟨_,e27⟩ e29 e31) (Zo e35 ⟨_,e28⟩ e30 e32),adm e33⟩;obtain⟨cd,hc,hd⟩:=Di e17;refine⟨cd,hc,hd,?_⟩;unfold BQ at hc;rw[e4]at hc;cases hc;rfl
def ok0{K:Aa}{N:db}{Yp:Sp}(F:bz P w K mg base (n6 P w N) k f fd ps sp)(h:∀vs H Q E,Yp vs H Q E->sp vs H Q E0):bz P w K mg base jo k f fd ps Yp:=
 ⟨λvs H Q E q=>F.len _ _ _ _ (h _ _ _ _ q),λA outer s H args us vs Q E hr he hb hv hs=>EQ (F.run A outer s H args us vs Q E0 hr he hb hv (h _ _ _ _ hs)) λr s' hq=>by
  cases r with
  |error e=>obtain⟨_,_,_,_,_,_,_,_,_,_,_,hE⟩:=hq;exact hE.elim
  |ok fl=>cases fl<;>exact hq⟩
def Zg(mD:PV->PV->W PV)(gv x:PV):W PV:=⟨λQ=>∃T y n',x=.str T/\T.length<=sizeLine/\iY T 0=.ok (y,n')/\¬n'<T.length/\(mD gv y).run λz=>z=.bl true/\Q y,λh ⟨T,y,n,a,b,c,d,q⟩=>⟨T,y,n,a,b,c,d,(mD gv y).mono (λ_ ⟨e,q⟩=>⟨e,h _ q⟩) q⟩⟩
abbrev dRD(mD:PV->PV->W PV):DF:=⟨"read_dates",uT,["great","text"],9,λK=>n9 K [.v,.v] (iB 2 (Zg mD))⟩
def Zd{P:db}{t2 t3:Tok}{sD:ut}(X:v.K.In h)(G:h.Ns ii v.mg)(rd:RD v.K)(xd:XD v.K)(e1:DX v.K "take_many" IX)(e2:DX v.K "take_number" Qy)(e3:DX v.K "take_numbers" IW)(e4:DX v.K "read_all" Qz)(e5:DXc v.K "read_dates" uT P)(e6:DX v.K "_law_place" sPl)(hP:kN P "read_dates.<locals>.<lambda>")(D:∀b,((⟨"is_dates",sD,["great","thing"],kD,λK=>n9 K [.v,.v] (iB 2 mD)⟩:DF).C (v.at b)))(hk:kD<=8)(hf:v.mg "FIGURES"=al (.str uz t1))(hm:v.mg "MOST_FIGURES"=al (.int 4 t2))(hp:v.mg "POINT"=al (.str "." t3))(q1:v.mg "len"=bn)(q2:v.mg "isinstance"=bn)(q3:v.mg "str"=bn)(q4:v.mg "bool"=bn)(q5:v.mg "int"=bn)(q6:v.mg "ValueError"=bn)(q7:v.mg "tuple"=bn):Nonempty ((dRD mD).C v)/\Nonempty (PlK v.P v.w v.K v.mg mD):=by
 obtain⟨C,fi,ĩ,fs,Ĩ,ft,ħ,a,Fi,M,cl,nt,np,Fs,Ms,Ft,Mt'⟩:=rd.ex;obtain⟨N,TE,NL,NW,fx,fxd,a1,a2,a3,a4,Fx,Mx,kx,Tx,Sx,Ux,Clx,Ax,kk1,kk2⟩:=xd.ex;have R:Ul v.K v.mg C:=⟨cl,nt,np,q1⟩;obtain⟨D1⟩:=e1.zp (d:=⟨"take_many",IX,["reader","signs","most"],4,λK=>uM C⟩) X G;obtain⟨D2⟩:=e2.zp (d:=⟨"take_number",Qy,["reader","most"],5,λK=>ID C⟩) X G;obtain⟨D3⟩:=e3.zp (d:=⟨"take_numbers",IW,["reader","sign"],6,λK=>uL K C⟩) X G;obtain⟨D4⟩:=e4.zp (d:=⟨"read_all",Qz,["text","take"],8,λK=>n9 K [] (iB 2 (Zg mD))⟩) X G;obtain⟨D5,L5⟩:=e5.mk3 (d:=dRD mD) X G;obtain⟨D6⟩:=e6.zp (d:=⟨"_law_place",sPl,["_law_read","_law_text"],13,λK=>n9 K [] (iB 2 (Zg mD))⟩) X G;have NT:∀b,NtK v.P v.w v.K v.mg b N:=λb=>⟨fx,fxd,Mx,Y5 Tx Sx (Bg X G a2) Fx,Fx.binds λ_ _ _ _ _ _=>usN (by (repeat intro _);rfl),Bg X G a1,kx⟩;have all:∀(b:nn) (ad:db) (fz:O (db×Obj)),kQ rdL [] b ad [] fz->bz v.P v.w v.K v.mg b (n6 v.P v.w N) 8 D4.f D4.fd ["text","take"] (UO v.K ad fz):=λb ad fz L=>by
  have S:MtS v.P v.w v.K v.mg b C:=⟨fs,Ĩ,Ms,Kw R Fs,Fs.binds λ_ _ _ _ _ _=>usN (by (repeat intro _);rfl)⟩;have T:MtT v.P v.w v.K v.mg b N C:=⟨ft,ħ,Mt',Q3 R (NT b) S Ft,Ft.binds λ_ _ _ _ _ _=>usN (by (repeat intro _);rfl)⟩;have T1:zk v.P v.w v.K v.mg b N "take_many" 4 ["reader","signs","most"] (uM C):=⟨D1.f,D1.fd,Q5 R S T D1.fn,D1.bi,D1.fn.kp,D1.at'⟩;have T2:zk v.P v.w v.K v.mg b N "take_number" 5 ["reader","most"] (ID C):=⟨D2.f,D2.fd,Vp R S T1 hf q5 D2.fn,D2.bi,D2.fn.kp,D2.at'⟩;have T3:zk v.P v.w v.K v.mg b N "take_numbers" 6 ["reader","sign"] (uL v.K C):=⟨D3.f,D3.fd,Q4 R S T T2 hm q7 D3.fn,D3.bi,D3.fn.kp,D3.at'⟩;obtain⟨A⟩:=Vq T3 hp L;exact Vr R (NT b) ⟨fi,ĩ,M,Nl R (NT b) q2 q3 Fi,Fi.binds λ_ _ _ _ _ _=>usN (by (repeat intro _);rfl),Bg X G a⟩ A D4.fn
 have tr:∀b,bz v.P v.w v.K v.mg b (n6 v.P v.w N) 9 D5.f D5.fd ["great","text"] (UN v.K mD):=λb=>Nm hk (NT b) ⟨(D b).f,(D b).fd,(D b).ok,(D b).bi,(D b).kp,(D b).at'⟩ q1 L5 hP D4.bi D4.fn.kp D4.at' all D5.fn;refine⟨⟨D5.c (ok0 (tr v.base) λvs H Q E ⟨tb,n,l,h,q⟩=>?_)⟩,⟨⟨D6.f,D6.fd,D6.bi,D6.fn.kp,D6.at',λb ad us fz gv {q ar p1 p2 p3 p4} LI hu hb=>?_⟩⟩⟩
 .cases h with
  | @v g gv J8 ks' l' r1 t=>
  cases t with
  | @v u x J8 ks' l' r t=>
  cases t;obtain⟨T,y,n',rfl,hT,hk,ZI,q⟩:=q;refine⟨g,gv,u,_,rfl,tb,r1,r,rfl,λz=>absurd rfl (z T),λT' e=>?_⟩;cases e;refine⟨hT,λm z=>(by rw[hk]at z;cases z),λy' n2 z=>?_⟩;rw[hk]at z;cases z;exact⟨λl=>absurd l ZI,λ_=>(mD gv y).mono (λz ⟨e,q⟩=>⟨true,e,λz=>(nomatch z),λ_ u' H' k' r'=>q u' H' (TY k' (k'.tb tb) (Vv (n:=2))) r'⟩) q⟩
 .obtain⟨A⟩:=Vo ⟨D5.f,D5.fd,tr b,D5.bi,D5.fn.kp,D5.at'⟩ LI hu hb (gv:=gv);exact Y4 ⟨Ux,Clx,Ax,Bg X G a2,Bg X G a1,Bg X G a3,Bg X G a4,kk1,kk2,q6⟩ q2 q4 q5 A D6.fn
end
end My
namespace L2
section
def Hm(Í:Str)(ss:O Str):Nat:=ss.toArray.foldl (·+·.length+Í.length) 0
def U4:V->O V->Hp->VK->Prop:=λx vs H Q=>∃(Í:Str) (l:db) (ss:O Str),x=.str Í/\vs=[.ref l]/\H l=al (.lst (ss.map V.str))/\ss≠[]/\Hm Í ss<=sizeLine/\(Builtin.Str.glued Í ss).length<=sizeLine/\Q (.str (Builtin.Str.glued Í ss)) H
theorem Iw:∀{ss:O Str}{ax:O ce},StrsAre ax ss->∃l:O (Str×Tok),ax=strValues l/\l.map (·.1)=ss
 |_,_,.nil=>⟨[],rfl,rfl⟩
 |_,_,.cons x t r=>by
  obtain⟨l,e1,e2⟩:=Iw r;exact⟨(x,t)::l,by rw[e1];rfl,by rw[A4,e2]⟩
def NA:Il X "str.join" U4:=by
 intro Z s σ H x vs v us Q I rx rv h;obtain⟨Í,l,ss,rfl,rfl,hH,h2,hz,hg,q⟩:=h;obtain⟨t,rfl⟩:=rx;obtain⟨u,rfl,ru⟩:=rv.one;cases ru;obtain⟨z,ax,n,r,hl,e⟩:=I.kZ hH;obtain⟨ls,rfl,T9⟩:=Iw (pY r);refine wE F.slot_str_join (Op _ _ _) F.entry_str_join (F.args_str_join_2 _ _) (meets_str_join_list Í t l ls ?_) ⟨⟨_,e,rfl,_,rfl⟩,?_⟩
 .unfold Builtin.Str.tooLong;rw[T9];simpa[Hm]using hz
 .match ls,T9 with
  |a::b::ls,T9=>
   show(Made.str (Builtin.Str.glued Í ((a::b::ls).map (·.1)))).post _ s;rw[T9];exact⟨hg,⟨.str _,H,I.tok _,⟨_,rfl⟩,q⟩⟩
  |[a],T9=>
   show EP X Z σ Q (.str a.1 a.2) s;have e1:ss=[a.1]:=T9.symm;have e2:Builtin.Str.glued Í [a.1]=a.1:=rfl;rw[e1,e2]at q;exact⟨.str a.1,H,I,⟨a.2,rfl⟩,q⟩
  |[],T9=>exact absurd T9.symm h2
end
section
def U1:V->O V->Hp->VK->Prop:=λx vs H Q=>∃z y:Str,x=.str z/\vs=[.str y]/\(y.length==0)=false/\z.length<=sizeLine/\(Builtin.Str.partsBetween z (Builtin.Str.occurrences z y 0 z.length (z.length+1)) y.length).length<=sizeLine/\kr H (.lst ((C5 z y).map V.str)) Q
theorem s9:∀l:O (Str×Tok),Vals ((l.map (·.1)).map V.str) (strValues l)
 |[]=>.nil
 |(x,t)::l=>.cons ⟨t,rfl⟩ (s9 l)
def Nz:Il X "str.split" U1:=by
 intro Z s σ H x vs v us Q I rx rv h;obtain⟨z,y,rfl,rfl,hy,hx,hn,q⟩:=h;obtain⟨t,rfl⟩:=rx;obtain⟨u,rfl,ru⟩:=rv.one;obtain⟨tu,rfl⟩:=ru;have fin:∀(l:O (Str×Tok)) (k:Nat),l.map (·.1)=C5 z y->l.length<=sizeLine->EP X Z σ Q (.ref s.heap.objs.size) {s with toks:=k,heap:=s.heap.push {cls:=.type "list",data:=.seq (strValues l).toArray}}:=λl k e hl=>by
  have hf:=I.aX.fresh (Ah _);refine⟨.ref s.heap.objs.size,upd H s.heap.objs.size (.lst ((C5 z y).map V.str)),I.laid (λb u e=>Ad _ e) (Ah _) ?_,rfl,q.at _ hf⟩;rw[<- e];exact⟨by rw[Am,Am];exact hl,strValues l,0,s9 l,Ak _ rfl⟩
 cases h1:(decide (z.length<y.length)||decide (Builtin.Str.strKind z<Builtin.Str.strKind y))
 .cases hf:(Builtin.Str.occurrences z y 0 z.length (z.length+1)).isEmpty
  .refine wE Fd (Op _ _ _) ET (ED _ _) (meets_str_split_sep z y t tu h1 hy hf hx hn) ?_;show EP X Z σ Q (.ref s.heap.objs.size) {s with toks:=_,heap:=s.heap.push {cls:=.type "list",data:=.seq (strsFrom s.toks (Builtin.Str.partsBetween z (Builtin.Str.occurrences z y 0 z.length (z.length+1)) y.length)).toArray}};rw[strsFrom_eq];have e:=(numbered_texts s.toks (Builtin.Str.partsBetween z (Builtin.Str.occurrences z y 0 z.length (z.length+1)) y.length));exact fin _ _ (e.trans ((if_neg (ne_true_of_eq_false h1)).trans (if_neg (ne_true_of_eq_false hf))).symm) (by have:=congrArg Dg e;rw[Am]at this;rw[this];exact hn)
  .refine wE Fd (Op _ _ _) ET (ED _ _) (meets_str_split_not_found z y t tu h1 hy hf) ?_;exact fin [(z,t)] s.toks ((if_neg (ne_true_of_eq_false h1)).trans (if_pos hf)).symm (by show 1<=sizeLine;decide)
 .refine wE Fd (Op _ _ _) ET (ED _ _) (meets_str_split_cannot_occur z y t tu h1) ?_;exact fin [(z,t)] s.toks (if_pos h1).symm (by show 1<=sizeLine;decide)
def U5:V->O V->Hp->VK->Prop:=λx vs H Q=>∃(Í:Str) (l:db) (ss:O Str),x=.str Í/\vs=[.ref l]/\H l=al (.lst (ss.map V.str))/\Hm Í ss<=sizeLine/\(Builtin.Str.glued Í ss).length<=sizeLine/\Q (.str (Builtin.Str.glued Í ss)) H
def NC:Il X "str.join" U5:=by
 intro Z s σ H x vs v us Q I rx rv h;obtain⟨Í,l,ss,rfl,rfl,hH,hz,hg,q⟩:=h;by_cases h2:ss=[]
 .subst h2;obtain⟨t,rfl⟩:=rx;obtain⟨u,rfl,ru⟩:=rv.one;cases ru;obtain⟨z,ax,n,r,hl,e⟩:=I.kZ hH;cases r;refine wE F.slot_str_join (Op _ _ _) F.entry_str_join (F.args_str_join_2 _ _) (meets_str_join_list Í t l [] ?_) ⟨⟨_,e,rfl,_,rfl⟩,?_⟩
  .unfold Builtin.Str.tooLong;simpa[Hm]using hz
  .exact⟨hg,⟨.str _,H,I.tok _,⟨_,rfl⟩,q⟩⟩
 .exact NA Z s σ H _ _ v us Q I rx rv ⟨Í,l,ss,rfl,rfl,hH,h2,hz,hg,q⟩
end
end L2
namespace FL
section
variable[bD]
section
variable{K:Aa}{o:pc}{w w2:W PV}
def vF(Í:Str)(l:O PV):W PV:=.bind (pX l) λss=>.d8 (Hm Í ss<=sizeLine/\(Builtin.Str.glued Í ss).length<=sizeLine) (.ret (.str (Builtin.Str.glued Í ss)))
def JQ(hK:X.K=K)(ho:EF X K fs o w)(hl:LF X K fs e wl)(cY:‹sB o "join" X.env (o0 o X.env)=o0 o X.env›)(nK:‹W6 X bN [e]›)(dR:‹P7 Á bN›)(k6:‹dY X e []›)(eI:‹gw X bN []›):EF X K fs (.Call (.Attribute o "join" Á) [e] [] bN) (.bind w λs=>.bind (SU s) λs=>.bind wl λl=>vF s l):=
 ⟨PE.imp (ni K hK Fp PySem.F.slot_str_join PySem.F.type_str_join NC ho.p (aj hl.p aJ k6) cY nK dR k6 eI) λσ H Q ⟨sr,q⟩=>⟨sr,w.mono (λx q1 u1 H1 g1 s1 v1=>by
  cases v1 with
  |str Í=>
   refine⟨rfl,s1,wl.mono (λl q2 a vs H2 g2 s2 n2 e2 v2=>?_) q1.2⟩;obtain⟨ss,el,hC,q3⟩:=tw q2;subst el;have:=Iv v2;subst this;exact⟨Í,a,ss,rfl,rfl,e2,hC.1,hC.2,q3 _ H2 (g1.trans g2) s2 (.str _)⟩
  |_=>exact q1.elim) q⟩⟩
def yo(x:PV):W PV:=match x with
 |.str s=>.d8 (s.length<=640) (.bind (.Tc (DH s)) λn=>.ret (.int n))
 |_=>.fail
def WE(hg:Gl X "int")(hm:X.mg "int"=bn)(ha:EF X K fs e w)(he:‹dY X e []›)(bZ:‹gw X pos []›):EF X K fs (.Call (.Name "int" p) [e] [] pos) (.bind w yo):=
 ⟨PE.imp (eu um hg hm boot_int (aj ha.p aJ he) ⋯ ⋯ he bZ) λσ H Q ⟨sr,q⟩=>⟨sr,w.mono (λx q1 u1 H1 g1 s1 v1=>by
  cases v1 with
  |str s=>
   obtain⟨hl,q2⟩:=q1;cases z:DH s with
   |none=>rw[z]at q2;exact q2.elim
   |some n=>
    rw[z]at q2;exact⟨s,n,rfl,z,hl,q2 _ H1 g1 s1 (.int n)⟩
  |_=>exact q1.elim) q⟩⟩
def uK(z:Str)(y:PV):W (O PV):=match y with
 |.str y=>.d8 ((y.length==0)=false/\z.length<=sizeLine/\(Builtin.Str.partsBetween z (Builtin.Str.occurrences z y 0 z.length (z.length+1)) y.length).length<=sizeLine) (.ret ((C5 z y).map PV.str))
 |_=>.fail
theorem xB:∀ss:O Str,aL K [] H (ss.map V.str) (ss.map PV.str)
 |[]=>.nil
 |s::ss=>.cons (.str s) (xB ss)
def Rr(hK:X.K=K)(ho:EF X K fs o w)(he:EF X K fs e w2)(cY:‹sB o "split" X.env (o0 o X.env)=o0 o X.env›)(nK:‹W6 X bN [e]›)(dR:‹P7 Á bN›)(k6:‹dY X e []›)(eI:‹gw X bN []›):LF X K fs (.Call (.Attribute o "split" Á) [e] [] bN) (.bind w λx=>.bind (SU x) λz=>.bind w2 λy=>uK z y):=
 ⟨PE.imp (ni K hK Fp PySem.F.slot_str_split PySem.F.type_str_split Nz ho.p (aj he.p aJ k6) cY nK dR k6 eI) λσ H Q ⟨sr,q⟩=>⟨sr,w.mono (λx q1 u1 H1 g1 s1 v1=>by
  cases v1 with
  |str z=>
   refine⟨rfl,s1,w2.mono (λy q2 u2 H2 g2 s2 v2=>?_) q1.2⟩;cases v2 with
   |str y=>
    exact⟨z,y,rfl,rfl,q2.1.1,q2.1.2.1,q2.1.2.2,Jo (g1.trans g2) s2 (xB _) q2.2⟩
   |_=>exact q2.elim
  |_=>exact q1.elim) q⟩⟩
end
end
end FL
variable{a b:BV}{z:BN}{pz:Cv}
namespace L2
section
def X2(i j k:Nat)(ta:TA):TS:=λD σ H=>ta σ H λvs H1=>∃u v w,vs=[u,v,w]/\D.nx (((σ.set i (al u)).set j (al v)).set k (al w)) H1
def QH{c:pc}{ta:TA}{kt k2 xI}(hc:X.calm=true)(hN:X.N.Nodup)(hi:X.N[i]?=al x)(hj:X.N[j]?=al y)(hk:X.N[k]?=al z)(PZ:i≠j)(Ě:i≠k)(ę:j≠k)(hx:X.env.scope.names.lookup x=al .local)(hy:X.env.scope.names.lookup y=al .local)(hz:X.env.scope.names.lookup z=al .local)(ha:PA X [a,b,c] ta)(hw:zn [.Tuple [.Name x px,.Name y py,.Name z pz] kt pt] (.Tuple [a,b,c] k2 xI) X.env=pure (al [x,y,z]))(hs:‹xL [.Tuple [.Name x px,.Name y py,.Name z pz] kt pt] (.Tuple [a,b,c] k2 xI) pos.line X.env=pure false›):PS X (.Assign [.Tuple [.Name x px,.Name y py,.Name z pz] kt pt] (.Tuple [a,b,c] k2 xI) pos) (X2 i j k ta):=by
 intro Z s σ H D I h;refine Ab (Cd ?_);refine Ab (Ae ?_);refine Ab (Tuple_ (bp (ha _ Z s σ H _ I h) λus s1 ⟨vs,H1,I1,r1,q1⟩=>?_));obtain⟨v1,v2,v3,e1,q1⟩:=q1;subst e1;obtain⟨u1,u2,u3,rfl,ra,rb,rc⟩:∃u1 u2 u3,us=[u1,u2,u3]/\RelV v1 u1/\RelV v2 u2/\RelV v3 u3:=by
  cases r1 with
  |cons p q=>cases q with
   |cons p' q'=>cases q' with
    |cons p'' q''=>cases q'';exact⟨_,_,_,rfl,p,p',p''⟩
 refine BM ?_ (by show 3<=sizeLine;decide);rw[hw];refine Ab (Ae ?_);refine Ab (CY (Ab (unpackItems_tuple (items:=#[u1,u2,u3]) (I.ok.hd hc) (GL s1.heap _) λh' sE=>?_)));refine Ab (Fa (DK (eW ((I1.kept λb o e=>Ad _ e).kept (t':=s1.toks) λb o e=>sE b o (AD (Aj e)) e) hN hk (.inl hz) rc (λs2 I4=>?_) (.inr hz))));refine Fa (DK (eW I4 hN hj (.inl hy) rb (λs3 I5=>?_) (.inr hy)));refine Fa (DK (eW I5 hN hi (.inl hx) ra (λs4 I6=>assignInOrder_nil (Ae ?_)) (.inr hx)));have e:((σ.set k (al v3)).set j (al v2)).set i (al v1)=((σ.set i (al v1)).set j (al v2)).set k (al v3):=by
  rw[E8 _ _ (Bu ę),E8 _ _ (Bu Ě),E8 _ _ (Bu PZ)]
 rw[e]at I6;exact⟨_,H1,I6,q1⟩
end
end L2
namespace FL
section
variable[bD]{K:Aa}{c:pc}{rest:O ut}{T:Type}{x:Bool}{out:T->End}
def SF.afa{t:Str}{kk:O PV->PV->PV->W T}(hc:X.calm=true)(hN:X.N.Nodup)(hi:X.N[i]?=al y)(hj:X.N[j]?=al z)(hk:X.N[k]?=al t)(PZ:i≠j)(Ě:i≠k)(ę:j≠k)(hx:X.env.scope.names.lookup y=al .local)(hy:X.env.scope.names.lookup z=al .local)(hz:X.env.scope.names.lookup t=al .local)(ha:LF X K fs a wl)(hb:EF X K fs b wb)(RN:EF X K fs c wc)(hr:∀u v w,SF X K x (((fs.set i (al (.ol bn u))).set j (al (.val v))).set k (al (.val w))) rest (kk u v w) out)(hw:‹zn [.Tuple [.Name y px,.Name z py,.Name t pz] kt pt] (.Tuple [a,b,c] k2 xI) X.env=pure (al [y,z,t])›)(hs:‹xL [.Tuple [.Name y px,.Name z py,.Name t pz] kt pt] (.Tuple [a,b,c] k2 xI) pos.line X.env=pure false›)(he:‹lm [a,b,c] X.env=(false,o0 a X.env)::lm [b,c] X.env›)(Oi:‹lm [b,c] X.env=(false,o0 b X.env)::lm [c] X.env›)(he3:‹dY X c []›):SF X K x fs (.Assign [.Tuple [.Name y px,.Name z py,.Name t pz] kt pt] (.Tuple [a,b,c] k2 xI) pos::rest) (.bind wl λu=>.bind wb λv=>.bind wc λw=>kk u v w) out:=
 SF.step (QH hc hN hi hj hk PZ Ě ę hx hy hz (aj ha.p (aj hb.p (aj RN.p aJ he3) Oi) he) hw hs) λD σ H ⟨sr,q⟩=>⟨sr,wl.mono (λu q1 ad vs H1 g1 s1 n1 e1 v1=>⟨s1,wb.mono (λv q2 u2 H2 g2 s2 v2=>⟨s2,wc.mono (λw q3 u3 H3 g3 s3 v3=>by
  have no:=sr.noOwn n1;have gg:=g2.trans g3;have oa:gL K H3 ad (.ol bn u):=⟨λ_ z=>(nomatch z),vs,gg.mn e1 no,gg.Iq s1 v1⟩;have XW:=g3.vr s2 v2;have s4:=s3.qg oa no i;have s5:=s4.gz XW j;have s6:=s5.gz v3 k;exact⟨_,_,_,rfl,_,kk u v w,hr u v w,s6,(kk u v w).mono (λt q4=>q4.go (((cJ.qg s3 (g1.trans gg) no n1 i).trans (cJ.gz s4 _ _ j)).trans (cJ.gz s5 _ _ k)) sr s6) q3⟩) q2⟩) q1⟩) q⟩
def SF.Ta{k:O PV->PV->W T}(hc:X.calm=true)(hN:X.N.Nodup)(hi:X.N[i]?=al y)(hj:X.N[j]?=al z)(PZ:i≠j)(hx:X.env.scope.names.lookup y=al .local)(hy:X.env.scope.names.lookup z=al .local)(ha:LF X K fs a wl f1)(hb:EF X K f1 b wb f2)(hr:∀u v,SF X K x ((f2.set i (al (.ol bn u))).set j (al (.val v))) rest (k u v) out)(hw:‹zn [.Tuple [.Name y px,.Name z py] kt pt] (.Tuple [a,b] k2 xI) X.env=pure (al [y,z])›)(hs:‹xL [.Tuple [.Name y px,.Name z py] kt pt] (.Tuple [a,b] k2 xI) pos.line X.env=pure false›)(he:‹lm [a,b] X.env=(false,o0 a X.env)::lm [b] X.env›)(Oi:‹dY X b []›):SF X K x fs (.Assign [.Tuple [.Name y px,.Name z py] kt pt] (.Tuple [a,b] k2 xI) pos::rest) (.bind wl λu=>.bind wb λv=>k u v) out:=
 SF.step (MW hc hN hi hj PZ hx hy (aj ha.p (aj hb.p aJ Oi) he) hw hs) λD σ H ⟨sr,q⟩=>⟨sr,wl.mono (λu q1 ad vs H1 g1 s1 n1 e1 v1=>⟨s1,wb.mono (λv q2 u2 H2 g2 s2 v2=>by
  have no1:¬cu σ f1 ad:=λz=>sr.noOwn n1 (g1.ev.fF z);have no2:¬cu σ f2 ad:=λz=>sr.noOwn n1 ((g1.trans g2).ev.fF z);have oa:gL K H2 ad (.ol bn u):=⟨λ_ z=>(nomatch z),vs,g2.mn e1 no1,g2.Iq s1 v1⟩;have s3:=s2.qg oa no2 i;have s4:=s3.gz v2 j;exact⟨_,_,rfl,_,k u v,hr u v,s4,(k u v).mono (λt q3=>q3.go ((cJ.qg s2 (g1.trans g2) no2 n1 i).trans (cJ.gz s3 _ _ j)) sr s4) q2⟩) q1⟩) q⟩
end
end FL
variable{e:AY}{E:A2->CW->Prop}{t:GK}{c0:Nat}
namespace L2
def oS(Ý:s.heap.IsStrIter it "str_ascii_iterator" z t i)(hx:z.cps[i]?=al c)(q:∀h':nn,h'.IsStrIter it "str_ascii_iterator" z t (i+1)->Cc it s.heap h'->Q (.str ⟨#[c]⟩ s.toks) {s with heap:=h',toks:=s.toks+1}):f8 (lf prog w) A (Builtin.SmallTypes.nextOf (.ref it)) Q E s:=by
 obtain⟨o,ho,hc,hd⟩:=id Ý;unfold Builtin.SmallTypes.nextOf;refine Ab (AZ Ý.typeIs B7 (Bw B7 Ý.typeIs DP ?_ (DE _)));show f8 _ _ (field (.ref it) 0 >>= _) _ _ s;refine Ab (AG ho hd (x:=.str z t) rfl ?_);show f8 _ _ (field (.ref it) 1 >>= _) _ _ s;refine Ab (AG ho hd (x:=.int i 0) rfl ?_);simp only[Cn,hx];refine Ab (CN ho hd (by simp) (Ab (wpAny_mkStr (Ae ⟨_,rfl,Ae (q _ ?_ (Cc.update ..))⟩) (by show 1<=sizeLine;decide))));exact⟨_,B2 _ ho (FQ (Dw hd _)),(Obj.cls_mapFields ..).trans hc,by
  rw[Dw hd];simp[pr]⟩
def qo(hA:A.handled=bn)(Ý:s.heap.IsStrIter it "str_ascii_iterator" z t i)(hx:z.cps[i]?=bn)(q:∀(h':nn) (e:db),GN it s.heap h'->(∃o,h'.get? e=al o/\o.cls=.type "StopIteration")->E (.ref e) {s with heap:=h'}):f8 (lf prog w) A (Builtin.SmallTypes.nextOf (.ref it)) Q E s:=by
 obtain⟨o,ho,hc,hd⟩:=id Ý;unfold Builtin.SmallTypes.nextOf;refine Ab (AZ Ý.typeIs B7 (Bw B7 Ý.typeIs DP ?_ (DE _)));show f8 _ _ (field (.ref it) 0 >>= _) _ _ s;refine Ab (AG ho hd (x:=.str z t) rfl ?_);show f8 _ _ (field (.ref it) 1 >>= _) _ _ s;refine Ab (AG ho hd (x:=.int i 0) rfl ?_);simp only[Cn,hx];refine Ab (CY (Ab (CN ho hd (by simp) (Ab (CP ?_)))));refine Iy hA λh' e k ex=>q h' e (λb o n eb=>k b o ?_) ex;rw[(Cc.update _ _ _).2 b n];exact eb
def o9{E:ce->gt->Prop}(rM:e≠it)(hz:Ps s.heap e it i Ê)(hi:s.heap.IsStrIter it "str_ascii_iterator" z t i)(hx:z.cps[i]?=al c0)(q:∀(h':nn) (tk:Nat),IsEnumOut h' e it (i+1:Nat) (.str ⟨#[c0]⟩ s.toks) s.heap.objs.size->h'.IsStrIter it "str_ascii_iterator" z t (i+1)->SC h' s.heap.objs.size (.int i (s.toks+1)) (.str ⟨#[c0]⟩ s.toks)->(∀c o,c≠e->c≠it->s.heap.get? c=al o->h'.get? c=al o)->Q (.ref s.heap.objs.size) {s with heap:=h',toks:=tk}):f8 (lf prog w) A (Fk.«enumerate.__next__» {pos:=[.ref e]}) (λfin s'=>∃v,fin=FZ (Fc v)/\Q v s') E s:=by
 show f8 _ _ (field (.ref e) 2 >>= λr=>_) _ _ s;refine Ab (AG hz rfl rfl ?_);refine Ab (oS hi hx λh1 j1 b1=>?_);have z1:=(b1.2 _ rM).trans hz;refine Ab (AG z1 rfl rfl ?_);refine Ab (AG z1 rfl rfl ?_);refine Ab (wpAny_mkInt ?_);refine Ab (AU z1 (show 3 < 6 by decide) λh2 z2 b2=>?_);refine Ab (AU z2 (show 4 < 6 by decide) λh3 z3 b3=>?_);refine Ab (Dc ?_ (by show 2<=sizeLine;decide));have kp:∀b o,h3.get? b=al o->(h3.push {cls:=.type "tuple",data:=.seq [Cu i (s.toks+1),Ep ⟨#[c0]⟩ s.toks].toArray}).get? b=al o:=λb o e=>Ad _ e;have GZ:(h3.push {cls:=.type "tuple",data:=.seq [Cu i (s.toks+1),Ep ⟨#[c0]⟩ s.toks].toArray}).get? h3.objs.size=al {cls:=.type "tuple",data:=.seq #[.int i (s.toks+1),.str ⟨#[c0]⟩ s.toks]}:=Ak _ rfl;generalize h3.push {cls:=.type "tuple",data:=.seq [Cu i (s.toks+1),Ep ⟨#[c0]⟩ s.toks].toArray}=h4 at kp GZ ⊢;have z4:=kp _ _ z3;refine Ab ?_;refine Ab (AG z4 rfl rfl ?_);refine Ae ?_;refine Ab (CY ?_);refine Ab (AG z4 rfl rfl ?_);refine Ab (AU z4 (show 5 < 6 by decide) λh5 z5 b5=>?_);refine Ab ?_;refine Ab (AU z5 (show 0 < 6 by decide) λh6 z6 b6=>?_);refine AU z6 (show 1 < 6 by decide) λh7 z7 b7=>?_;refine Ab (CP ?_);have Hz:∀b,b≠e->h7.get? b=h4.get? b:=λb n=>(b7.2 b n).trans ((b6.2 b n).trans (b5.2 b n));have ne:s.heap.objs.size≠e:=λz=>by have:=Aj hz;rw[<- z]at this;exact AQ _ this
 refine Ae ⟨.ref h3.objs.size,rfl,?_⟩;rw[(b3.1.trans (b2.1.trans b1.1))]at z7 GZ ⊢;refine q h7 _ ?_ ?_ ?_ ?_
 .exact z7
 .obtain⟨o,eo,p⟩:=j1;refine⟨o,?_,p⟩;rw[Hz _ (Bu rM)];exact kp _ _ ((b3.2 _ (Bu rM)).trans ((b2.2 _ (Bu rM)).trans eo))
 .rw[SC,Hz _ ne];exact GZ
 .intro c o n1 n2 ec;rw[Hz _ n1];exact kp _ _ (((λb n1 n2=>(b3.2 b n1).trans ((b2.2 b n1).trans (b1.2 b n2))) _ n1 n2).trans ec)
def qW{Q:PySem.Fin->gt->Prop}(hA:A.handled=bn)(hz:Ps s.heap e it i Ê)(hi:s.heap.IsStrIter it "str_ascii_iterator" z t i)(hx:z.cps[i]?=bn)(q:∀(h':nn) (x:db),(∀c o,c≠it->s.heap.get? c=al o->h'.get? c=al o)->(∃o,h'.get? x=al o/\o.cls=.type "StopIteration")->E (.ref x) {s with heap:=h'}):f8 (lf prog w) A (Fk.«enumerate.__next__» {pos:=[.ref e]}) Q E s:=by
 show f8 _ _ (field (.ref e) 2 >>= λr=>_) _ _ s;exact Ab (AG hz rfl rfl (Ab (qo hA hi hx λh' x k ex=>q h' x (λc o n e'=>k c o n e') ex)))
def lR{Q:Option ce->gt->Prop}(rM:e≠it)(hz:Ps s.heap e it i Ê)(hi:s.heap.IsStrIter it "str_ascii_iterator" z t i)(hx:z.cps[i]?=al c0)(q:∀(h':nn) (tk:Nat),IsEnumOut h' e it (i+1:Nat) (.str ⟨#[c0]⟩ s.toks) s.heap.objs.size->h'.IsStrIter it "str_ascii_iterator" z t (i+1)->SC h' s.heap.objs.size (.int i (s.toks+1)) (.str ⟨#[c0]⟩ s.toks)->(∀c o,c≠e->c≠it->s.heap.get? c=al o->h'.get? c=al o)->Q (al (.ref s.heap.objs.size)) {s with heap:=h',toks:=tk}):f8 (lf prog w) A (pyNext (.ref e)) Q E s:=by
 have ty:s.TypeIs (.ref e) "enumerate":=⟨_,hz,rfl⟩;refine Ab (Ct (AZ ty Bz (Bw Bz ty CV ?_ (CM _))));exact o9 rM hz hi hx λh' tk a b c d=>Ae (q h' tk a b c d)
def m8{Q:Option ce->gt->Prop}(hA:A.handled=bn)(hz:Ps s.heap e it i Ê)(hi:s.heap.IsStrIter it "str_ascii_iterator" z t i)(hx:z.cps[i]?=bn)(q:∀h':nn,(∀c o,c≠it->s.heap.get? c=al o->h'.get? c=al o)->Q bn {s with heap:=h'}):f8 (lf prog w) A (pyNext (.ref e)) Q E s:=by
 have ty:s.TypeIs (.ref e) "enumerate":=⟨_,hz,rfl⟩;refine Ab (Ct (AZ ty Bz (Bw Bz ty CV ?_ (CM _))));refine qW hA hz hi hx λh' x k ex=>?_;obtain⟨o,eo,hc⟩:=ex;exact Ab (DT ⟨o,eo,hc⟩ isSubtype_stop (Ae (q h' k)))
def oU(z:Str)(t:Tok):Meets (Fk.«enumerate.__new__» {pos:=[.type "enumerate",.str z t]}) (λ_ R s=>z.cps.all (· < 128)=true/\
  ∀h':nn,Ps h' (s.heap.objs.size+1) s.heap.objs.size (0:Nat) .none->h'.IsStrIter s.heap.objs.size "str_ascii_iterator" z t 0->(∀b o,s.heap.get? b=al o->h'.get? b=al o)->R (.ok (.ret (.ref (s.heap.objs.size+1)))) {s with heap:=h'}):=
 .of_wp λprog w A R s h=>by
  obtain⟨h1,q⟩:=h;refine Ab ?_;refine Ab (Cf rfl ?_);refine Ab (Cf sub_enumerate ?_);refine Ae ?_;refine Ab ?_;refine Ab (wpAny_stack_any λst=>Ae ?_);have fin:f8 (lf prog w) A.in1 (pyIter (.str z t) >>= λit=>(Builtin.SmallTypes.newRecord (.type "enumerate") (Builtin.SmallTypes.ownedTupleFields++[it,pr 0,.none,.none]) >>= λr=>ret r)) (λfin s'=>∃v,fin=FZ (Fc v)/\R (Except.ok (Fc v)) s') (λe s'=>R (GA e) s') s:=by
   refine Ab (wpAny_pyIter_ascii h1 ?_);have k1:∀b o,s.heap.get? b=al o->(s.heap.push {cls:=.type "str_ascii_iterator",data:=.fields #[.str z t,.int 0 0]}).get? b=al o:=λb o e=>Ad _ e;have g1:(s.heap.push {cls:=.type "str_ascii_iterator",data:=.fields #[.str z t,.int 0 0]}).get? s.heap.objs.size=al {cls:=.type "str_ascii_iterator",data:=.fields #[.str z t,.int 0 0]}:=Ak _ rfl;have z1:(s.heap.push {cls:=.type "str_ascii_iterator",data:=.fields #[.str z t,.int 0 0]}).objs.size=s.heap.objs.size+1:=Bf ..;generalize s.heap.push {cls:=.type "str_ascii_iterator",data:=.fields #[.str z t,.int 0 0]}=rL at k1 g1 z1 ⊢;show f8 _ _ (newObj (.type "enumerate") (.fields #[.none,.bool false,.ref s.heap.objs.size,pr 0,.none,.none]) >>= λr=>ret r) _ _ _;refine Ab (BM ?_ (by simp[sizeOk];decide));have g2:(rL.push {cls:=.type "enumerate",data:=.fields #[.none,.bool false,.ref s.heap.objs.size,pr 0,.none,.none]}).get? rL.objs.size=al {cls:=.type "enumerate",data:=.fields #[.none,.bool false,.ref s.heap.objs.size,pr 0,.none,.none]}:=Ak _ rfl;refine Ae ⟨.ref rL.objs.size,rfl,?_⟩;rw[z1]at g2 ⊢;exact q _ g2 ⟨_,Ad _ g1,rfl,rfl⟩ λb o e=>Ad _ (k1 _ _ e)
  refine wpAny_ite_split (λ_=>?_) (λ_=>?_)
  .exact Ab (Cf rfl fin)
  .exact Ab (Cf rfl fin)
def HZ(h1:z.cps.all (· < 128)=true)(q:∀h':nn,Ps h' (s.heap.objs.size+1) s.heap.objs.size (0:Nat) .none->h'.IsStrIter s.heap.objs.size "str_ascii_iterator" z t 0->(∀b o,s.heap.get? b=al o->h'.get? b=al o)->Q (.ref (s.heap.objs.size+1)) {s with heap:=h'}):f8 (lf prog w) A (call (.type "enumerate") [.str z t]) Q E s:=
 callType_new F.called_enumerate ⋯ (Fq _) (F.newCall_enumerate_1 _) (λo=>F.args_object_init_2 o _) F.entry_enumerate_new (oU z t) ⟨h1,λh' y i k=>⟨⟨_,y,rfl⟩,q h' y i k⟩⟩
def Itw(z:Str):It where
 go:=λi _=>i<z.cps.size
 Qa:=λi H v H'=>∃p c,v=.ref p/\H p=bn/\H'=upd H p (.tup [.int i,.str ⟨#[c]⟩])/\z.cps[i]?=al c
 stop:=λi _=>z.cps.size<=i
def zD{K:Aa}(rM:e≠it):Turn P w K (.Tuple Ï kk pos) (Itw z) [e,it] e (λi h=>(∃Ê,Ps h e it (i:Nat) Ê)/\h.IsStrIter it "str_ascii_iterator" z t i) where
 mem:=by simp
 obj:=λi h st b hb=>by
  simp at hb;rcases hb with rfl|rfl
  .obtain⟨⟨_,e⟩,_⟩:=st;exact⟨_,e,λv z=>by cases z⟩
  .obtain⟨_,⟨o,e,_,d⟩⟩:=st;exact⟨o,e,λv z=>by rw[d]at z;cases z⟩
 keep:=λi h h' st k=>⟨let ⟨o,e'⟩:=st.1;⟨o,k e (by simp) _ e'⟩,let ⟨o,e',p⟩:=st.2;⟨o,k it (by simp) _ e',p⟩⟩
 item:=by
  intro X hP hw hK hc i Z s σ H E I hf st hg;subst hP hw hK;have hg:i<z.cps.size:=hg;have gu:z.cps[i]?=al z.cps[i]:=by simp[hg]
  obtain⟨⟨Ê,hz⟩,hi⟩:=st;refine lR rM hz hi gu λh' tk zo j np k=>?_;refine⟨_,rfl,?_⟩;refine Dd zo λh2 z2 b2=>?_;have le:=Aj hz;have li:=let ⟨_,e',_⟩:=hi;Aj e';have lt:∀b∈[e,it],b<s.heap.objs.size:=λb hb=>by
   simp at hb;rcases hb with rfl|rfl
   .exact le
   .exact li
  have VP:∀b o,b∉[e,it]->s.heap.get? b=al o->h2.get? b=al o:=λb o hb e'=>by
   have Jw:b≠e:=λq=>hb (by simp[q]);rw[b2.2 b Jw];exact k b o Jw (λq=>hb (by simp[q])) e'
  refine⟨.ref s.heap.objs.size,upd H s.heap.objs.size (.tup [.int i,.str ⟨#[z.cps[i]]⟩]),I.lM hf VP (Ah _) ⟨by show 2<=sizeLine;decide,[.int i (s.toks+1),.str ⟨#[z.cps[i]]⟩ s.toks],.cons ⟨_,rfl⟩ (.cons ⟨_,rfl⟩ .nil),⟨_,((b2.2 _ (λy=>AQ _ (by have:=le;rw[<- y]at this;exact this))).trans np),rfl,_,rfl⟩,_,((b2.2 _ (λy=>AQ _ (by have:=le;rw[<- y]at this;exact this))).trans np),rfl⟩,rfl,⟨_,_,rfl,(I.aX.fresh (Ah s.heap.objs.size)),rfl,gu⟩,⟨⟨_,z2⟩,let ⟨o,e',p⟩:=j;⟨o,(b2.2 _ (Bu rM)).trans e',p⟩⟩,λb hb=>?_⟩;rw[ah (AD (lt b hb))];exact(hf b hb).1
 done:=by
  intro X hP hw hK hc i Z s σ H E I hf st hg;subst hP hw hK;have hg:z.cps.size<=i:=hg;obtain⟨⟨Ê,hz⟩,hi⟩:=st;refine m8 (I.ok.hd hc) hz hi (by simp[hg]) λh' k=>⟨rfl,I.pA hf λb o hb e'=>k b o (λy=>hb (by simp[y])) e'⟩
 self:=λA i s Q E st h=>let ⟨_,e'⟩:=st.1;CC e' h
def V2(t1:TE):TI:=λσ H R=>t1 σ H λx H1=>∃z,x=.str z/\z.cps.all (· < 128)=true/\R (Itw z) H1
def M3{t1:TE}(hg:Gl X "enumerate")(hm:X.mg "enumerate"=bn)(h1:PE X e1 t1)(my:‹dY X e1 []›):PI X (.Tuple Ï kk tp) (.Call (.Name "enumerate" p1) [e1] [] p2) (V2 t1):=by
 intro Z s σ H R I h;refine AM (gc I hg hm boot_enumerate ?_ ⋯ ⋯);refine A9 ?_ my rfl;rw[my];refine A7 (bp (h1 Z s σ H _ I h) λu1 s1 ⟨x,H1,I1,r1,z,ex,ha,q⟩=>BL ?_);subst ex;obtain⟨t,rfl⟩:=r1;refine HZ ha λh' ze hi k=>?_;refine CC ze ?_;refine⟨_,_,_,_,H1,rfl,I1.kept k,zD (Nat.succ_ne_self _),⟨⟨_,ze⟩,hi⟩,λc hc=>?_,q⟩;have Ñ:s1.heap.objs.size<=c:=by
  simp at hc;rcases hc with rfl|rfl
  .exact Bo _ _
  .exact Ah _
 exact I1.yA Ñ (I1.aX.fresh Ñ)
end L2
namespace FL
section
variable[bD]{K:Aa}{e:pc}{w:W PV}
def OU:PV->W (O PV)
 |.str z=>.d8 (z.cps.size<=sizeLine/\z.cps.all (· < 128)=true) (.ret (fw 0 (z.cps.toList.map λc=>.str ⟨#[c]⟩)))
 |_=>.fail
def N4(hg:Gl X "enumerate")(hm:X.mg "enumerate"=bn)(h:EF X K fs e w ay)(my:‹dY X e []›):oJ X K fs (.Tuple Ï kk tp) (.Call (.Name "enumerate" p1) [e] [] p2) (.bind w OU) ay:=
 ⟨PI.imp (M3 hg hm h.p my) λσ H R ⟨sr,q⟩=>⟨sr,w.mono (λx q1 u1 H1 g1 s1 v1=>by
  cases v1 with
  |str z=>
   obtain⟨⟨c1,c2⟩,q1⟩:=q1;refine⟨z,rfl,c2,q1 _ H1 g1 s1 ⟨by rw[dA];simpa using c1,λH' t=>⟨λi p hp=>?_,?_⟩⟩⟩
   .obtain⟨y,hy,rfl⟩:=ip hp;rw[An]at hy;cases ec:z.cps.toList[i]? with
    |none=>rw[ec]at hy;cases hy
    |some c=>
     rw[ec]at hy;have ey:=(Option.some.inj hy).symm;subst ey;have hi:=(Al.mp ec).1;refine⟨(show i<z.cps.size by simpa using hi),λx H3 yy=>?_⟩;obtain⟨pp,d,rfl,hn,rfl,hd⟩:=yy;have:z.cps[i]?=al c:=by simpa using ec
     rw[this]at hd;cases hd;have sm:=eX hn (.tup [.int (i:Int),.str ⟨#[c]⟩]);exact⟨sm,.tup aw (.cons (by rw[Fu];exact .int _) (.cons (.str _) .nil))⟩
   .show z.cps.size<=_;rw[dA];simp
  |_=>exact q1.elim) q⟩⟩
end
end FL
namespace My
def bb:Nat->PV->W (O PV)
 |0,_=>W.fail
 |n+1,eV=>
 c6 (am (am (ap eV) (dZ .str)) di) (
 (eV\λx1=>ap [x1])) (
 am (yz (am (gQ (am (ap eV) bK) (ap (.int 0))) λx2=>bb n x2)) λNk=>am (yz (am (gQ (am (ap eV) bK) (ap (.int 1))) λx3=>bb n x3)) λvh=>
 am (c1 dF (ap Nk)) λyF=>
 am (am (am (ap vh) bK) λl8=>c9 l8 λp9=>(c6 (am (am (ap p9) (dZ .str)) di) (ap p9) (am (w2 addW (gQ (am (ap p9) bK) (ap (.int 0))) (ap yF)) λxy=>am (w2 addW (gQ (am (ap p9) bK) (ap (.int 1))) (ap yF)) λQg=>ap (.tup [xy,Qg])))) λmf=>
 (am (am (am (ap Nk) qx) λZm=>am (am (ap (.cl mf)) qx) λl13=>gA Zm l13) λl17=>am (am (am (b2 GY (ap yF) (ap (.int 1))) λJ6=>am (b2 GY (w2 addW (ap yF) (c1 dF (ap vh))) (ap (.int 1))) λzv=>ap (.tup [J6,zv])) λxw=>ap [xw]) λl18=>gA l17 l18))
def dQ(aP:PV):W PV:=
 am (aP\λx2=>bb 12 x2) λbt=>
 am (am ((.int 0)\λx3=>ap [x3]) λl4=>am (c1 dF (ap (.cl bt))) λx5=>QB l4 x5) λiX=>(.int 0)\λHQ=>
 am (am (am (am (ap (.cl bt)) bK) λl9=>.d8 (l9.length<=sizeLine) (.ret (fw 0 l9))) λl10=>nA l10 λp11=>am (J9 p11) λé=>VL (am (am (ap é.2) (dZ .tup)) di) (ap é.1)) λHc=>
 am (uE (λrH=>(rH.2.2\λl14=>ap (!l14.isEmpty))) (λrH=>(
 am (am (am (am (ap (.cl rH.2.2)) bK) λl16=>nA l16 λYT=>VL (uH (Zt true (gQ (am (gQ (am (ap (.cl bt)) bK) (ap YT)) bK) (ap (.int 0))) (am (ap (.cl rH.2.2)) bK)) (Zt true (gQ (am (gQ (am (ap (.cl bt)) bK) (ap YT)) bK) (ap (.int 1))) (am (ap (.cl rH.2.2)) bK))) (ap YT)) L9) λvU=>
 am (gQ (am (ap (.cl vU)) bK) (am (c1 dF (ap (.cl vU))) λQe=>bh Qe)) λqH=>
 am (w2 addW (w2 addW (ap rH.2.1) (ap (.int 1))) (gQ ((.int 0)\λx21=>am ((.int 12)\λUt=>bh Ut) λUs=>ap [x21,Us]) ((.int 2)\λUr=>bh Ur))) λwH=>
 wH\λXU=>qH\λXT=>am (oP rH.1 XT XU) λkL=>
 qH\λx29=>am (UZ rH.2.2 x29) λJq=>
 ap (kL,wH,Jq))) (iX,HQ,Hc)) λrH=>
 (am (ap rH.1) zF)
def ba:Nat->PV->PV->W PV
 |0,_,_=>W.fail
 |n+1,gX,pe=>
 c6 (am (am (ap pe) (dZ .tup)) di) (
 c6 (Xc (km (am (am (ap gX) (dZ .tup)) di)) (t2 iL (c1 dF (ap gX)) (c1 dF (ap pe)))) (
 (ap (.bl false))) (
 (am (am (am (am (ap gX) bK) λl1=>am (am (ap pe) bK) λl2=>uC l1 l2) λl3=>c9 l3 λp4=>am (J9 p4) λt5=>(t5.1\λx6=>t5.2\λx7=>ba n x6 x7)) nW))) (
 c6 (t2 vk (ap pe) (ap .bx)) (
 (b2 vk (ap gX) (ap .bx))) (
 c6 (am (am (ap pe) (dZ .str)) di) (
 (Sn (am (ap gX) (dZ .str)) (b2 kq (ap gX) (ap pe)))) (
 c6 (Xc (km (am (am (ap gX) (dZ .int)) di)) (t2 iL (am (ap gX) (dZ .bool)) (am (ap pe) (dZ .bool)))) (
 (ap (.bl false))) (
 (b2 kq (ap gX) (ap pe))))))
def eR(bF:PV)(zM:PV):W PV:=
 am (am (w2 addW (c1 dF (ap bF)) (ap (.int 1))) λx1=>bh x1) λWT=>am (am (w2 addW (c1 dF (ap bF)) (ap (.int 1))) λx2=>bh x2) λOz=>
 am (gQ (am (ap zM) bK) (am (c1 dF (ap zM)) λx6=>bh x6)) λkS=>
 am (WT\λx7=>Oz\λx8=>ql Pl [x7,x8]) λgK=>am (WT\λx9=>Oz\λxy=>ql Ly [x9,xy]) λk7=>
 am (am (bF\λxw=>bn\λi14=>am (am (ap gK) part) λj15=>jm xw i14 j15) λxv=>am (w2 addW (bF\λx20=>bn\λi18=>am (am (ap gK) part) λj19=>jm x20 i18 j19) (bF\λUs=>am (am (w2 addW (ap gK) (ap (.int 1))) part) λi21=>bn\λj22=>jm Us i21 j22)) λUr=>am (w2 addW (w2 addW (bF\λXT=>bn\λi25=>am (am (ap gK) part) λj26=>jm XT i25 j26) (ap kS)) (bF\λx30=>am (am (ap gK) part) λi28=>bn\λj29=>jm x30 i28 j29)) λx31=>ap [xv,Ur,x31]) λIL=>
 am (w2 addW (w2 addW (bF\λx35=>bn\λi33=>am (am (ap gK) part) λj34=>jm x35 i33 j34) (ap kS)) (bF\λx38=>am (am (w2 addW (ap gK) (ap (.int 1))) part) λi36=>bn\λj37=>jm x38 i36 j37)) λx39=>am (pj IL x39) λIK=>
 am (w2 addW (w2 addW (ap kS) (bF\λx43=>am (am (w2 addW (ap gK) (ap (.int 1))) part) λi41=>am (am (ap k7) part) λj42=>jm x43 i41 j42)) (ap kS)) λtP=>
 am (w2 addW (w2 addW (bF\λXR=>bn\λi45=>am (am (ap gK) part) λj46=>jm XR i45 j46) (ap tP)) (bF\λXQ=>am (am (ap k7) part) λi48=>bn\λj49=>jm XQ i48 j49)) λx51=>am (pj IK x51) λIJ=>
 am (IJ\λl63=>am (am (w2 addW (w2 addW (bF\λx55=>bn\λi53=>am (am (ap gK) part) λj54=>jm x55 i53 j54) (bF\λx58=>am (am (ap k7) part) λi56=>bn\λj57=>jm x58 i56 j57)) (bF\λx61=>am (am (ap gK) part) λi59=>am (am (ap k7) part) λj60=>jm x61 i59 j60)) λx62=>ap [x62]) λl64=>gA l63 l64) λII=>
 am (II\λl77=>am (am (w2 addW (ap bF) (bF\λx68=>am (am (ap gK) part) λi66=>am (am (ap k7) part) λj67=>jm x68 i66 j67)) λx69=>am (w2 addW (bF\λx72=>bn\λi70=>am (am (ap k7) part) λj71=>jm x72 i70 j71) (bF\λx75=>am (am (ap gK) part) λi73=>bn\λj74=>jm x75 i73 j74)) λx76=>ap [x69,x76]) λl78=>gA l77 l78) λIH=>
 am (IH\λl82=>am (am (w2 addW (ap bF) (ap kS)) λx80=>am (w2 addW (ap kS) (ap bF)) λx81=>ap [x80,x81]) λl83=>gA l82 l83) λuN=>
 (gQ (ap uN) (am (am (ap uN) vt) λx84=>bh x84))
def dP(bF:PV):W PV:=
 (.str "")\λzw=>
 am (am (ap bF) OU) λl9=>am (ik l9 zw λp3 s2=>am (J9 p3) λt4=>(
 c6 (uH (t2 Nu (ap t4.2) (ap (.str "0123456789"))) (uH (t2 iL (ap s2) (ap (.str "0"))) (t2 oLt (c1 dF (ap s2)) (ap (.int 4))))) (
 am (w2 addW (ap s2) (ap t4.2)) λLZ=>
 ap (.go LZ)) (
 c6 (uH (t2 kq (ap t4.2) (ap (.str "."))) (t2 iL (ap s2) (ap (.str "")))) (
 (.str "")\λLY=>
 ap (.go LY)) (
 t4.1\λx7=>ap (Lp.out x7))))) (sF (λs2=>
 (c6 (t2 kq (ap s2) (ap (.str ""))) (c1 dF (ap bF)) (ap .bx))) id)
def cG(aP:PV)(bU:PV):W PV:=
 am (aP\λx2=>bb 12 x2) λbt=>
 c6 (t2 iL (c1 dF (ap bU)) (c1 dF (ap (.cl bt)))) (
 (ap (.bl false))) (
 am (am (am (am (ap bU) bK) λl4=>am (am (ap (.cl bt)) bK) λl5=>uC l4 l5) λl6=>nA l6 λp7=>am (J9 p7) λt8=>VL (am (am (ap t8.2) (dZ .tup)) di) (ap t8.1)) λmw=>
 c6 (Xc (t2 iL (am (am (ap (.cl mw)) qx) iD) (c1 dF (ap (.cl mw)))) (km (am (am (am (am (ap (.cl mw)) bK) λl9=>c9 l9 λï=>(chB oLt oLt (ap (.int 0)) (ap ï) (ap (.int 100)))) nW) di))) (
 (ap (.bl false))) (
 am (am (am (ap bU) bK) λZn=>am (am (ap (.cl bt)) bK) λZm=>uC Zn Zm) λl21=>am (ik l21 () λî rH=>am (J9 î) λUJ=>(
 c6 (uH (am (am (ap UJ.2) (dZ .str)) di) (t2 iL (ap UJ.1) (ap (.int 0)))) (
 (.bl false)\λxw=>ap (Lp.out xw)) (
 c6 (uH (am (am (ap UJ.2) (dZ .tup)) di) (t2 oLe (ap UJ.1) (am (gQ (am (ap bU) bK) (gQ (am (ap UJ.2) bK) (ap (.int 0)))) λxv=>am (gQ (am (ap bU) bK) (gQ (am (ap UJ.2) bK) (ap (.int 1)))) λJ5=>ql Ly [xv,J5]))) (
 (.bl false)\λQe=>ap (Lp.out Qe)) (
 ap (.go ()))))) (sF (λrH=>
 (ap (.bl true))) id)))
def dM(bU:PV):W (O PV):=
 am (am (am (ap bU) bK) λl2=>c9 l2 λp3=>(am (ap p3) zJ)) λaV=>
 am (am (am (ap aV) vt) λx4=>bh x4) λsS=>am (am (am (ap aV) vt) λx5=>bh x5) λkI=>
 am ((.str "0")\λx9=>(.str "1")\λxy=>(.str "99")\λQg=>(.str "100")\λUv=>(.str "9999")\λUu=>(.str "10000")\λJ6=>(.str "01")\λzv=>(.str "00")\λxw=>(.str "")\λxv=>(.str "-1")\λJ5=>(.str "+1")\λQe=>(.str "x")\λx20=>ap [x9,xy,Qg,Uv,Uu,J6,zv,xw,xv,J5,Qe,x20]) λTd=>
 am (am (am (ap (.cl Td)) qx) λl24=>am (am (gQ (ap aV) (ap kI)) λUt=>am (w2 addW (gQ (ap aV) (ap sS)) (ap (.str "0"))) λUs=>ap [Ut,Us]) λl25=>gA l24 l25) λGX=>
 am ((.int 6)\λXT=>bh XT) λuG=>
 c6 (t2 kq (ap uG) (ap (.int 0))) (
 (am (aV\λl28=>bn\λi29=>am (am (ap sS) part) λj30=>ap (jU l28 i29 j30)) λl34=>am (aV\λl31=>am (am (w2 addW (ap sS) (ap (.int 1))) part) λi32=>bn\λj33=>ap (jU l31 i32 j33)) λl35=>gA l34 l35)) (
 c6 (t2 kq (ap uG) (ap (.int 1))) (
 (am (am (aV\λl36=>bn\λi37=>am (am (ap sS) part) λj38=>ap (jU l36 i37 j38)) λl41=>am (am (gQ (am (ap (.cl GX)) bK) ((.int 14)\λx39=>bh x39)) λx40=>ap [x40]) λl42=>gA l41 l42) λZl=>am (aV\λl43=>am (am (ap sS) part) λi44=>bn\λj45=>ap (jU l43 i44 j45)) λl47=>gA Zl l47)) (
 c6 (t2 kq (ap uG) (ap (.int 2))) (
 am (am (gQ (ap aV) (ap kI)) λx48=>am (gQ (ap aV) (ap sS)) λx49=>ap (.tup [x48,x49])) λXQ=>am (J9 XQ) λt51=>sS\λx52=>am (oP aV x52 t51.1) λl53=>kI\λXO=>am (oP l53 XO t51.2) λkC=>
 ap kC) (
 (am (am (aV\λl56=>bn\λi57=>am (am (ap sS) part) λj58=>ap (jU l56 i57 j58)) λl61=>am (am (gQ (am (ap (.cl GX)) bK) ((.int 14)\λx59=>bh x59)) λx60=>ap [x60]) λl62=>gA l61 l62) λl66=>am (aV\λl63=>am (am (w2 addW (ap sS) (ap (.int 1))) part) λi64=>bn\λj65=>ap (jU l63 i64 j65)) λl67=>gA l66 l67))))
def cF(aP:PV)(bF:PV):W PV:=
 am (bF\λx2=>dP x2) λJT=>
 am (c6 (t2 vk (ap JT) (ap .bx)) (am (am (bF\λx4=>am (SU x4) λu5=>(.str ".")\λx6=>uK u5 x6) λl7=>c9 l7 λp8=>(am (ap p8) yo)) zF) (ap (.tup []))) λcS=>
 am (uH (t2 vk (ap JT) (ap .bx)) (km (am (aP\λx9=>cS\λxy=>cG x9 xy) di))) λb=>am (if b=true then (
 am (c1 dF (ap bF)) λO5=>
 ap O5) else (
 ap JT)) λSY=>
 c6 (t2 iL (bF\λJ6=>NJ aR aP J6) (ap SY)) (
 (ap (.bl false))) (
 (orB (b2 xS (ap SY) (ap .bx)) (am (aP\λzv=>bF\λxw=>Zg aR zv xw) λxv=>cS\λJ5=>ba 4 xv J5)))
def qw(dG:PV):W PV:=
 am ((.str ".")\λx2=>(.str "..")\λx3=>(.str "0")\λx4=>(.str "1")\λx5=>(.str "9")\λx6=>(.str "12345")\λx7=>(.str "-")\λx8=>(.str "+")\λx9=>(.str " ")\λxy=>(.str "\n")\λQg=>(.str ",")\λUv=>(.str "a")\λUu=>(.str "_")\λJ6=>ap [x2,x3,x4,x5,x6,x7,x8,x9,xy,Qg,Uv,Uu,J6]) λIQ=>
 am (am (am (ap (.cl IQ)) qx) λl19=>am ((.str "	")\λxw=>(.str ":")\λxv=>(.str "/")\λJ5=>ap [xw,xv,J5]) λl20=>gA l19 l20) λjw=>
 am (am (w2 addW (ap (.int 1)) (am (am (am (ap dG) qx) λl21=>bn\λi22=>am (am (ap (.int 16)) part) λj23=>ap (jU l21 i22 j23)) vt)) qe) λl99=>am (ik l99 () λRx ì=>(
 am (dG\λXS=>Rx\λx29=>eQ XS x29) λmB=>YL c7 mB (
 am ((.int 8)\λx31=>dN x31) λbf=>
 am (bf\λx33=>dQ x33) λcq=>
 am ((.str ".")\λx37=>am (SU x37) λu38=>am (am (am (ap cq) bK) λl35=>c9 l35 λp36=>(am (ap p36) zJ)) λl39=>vF u38 l39) λjY=>
 am (am (ap (.int 6)) qe) λl75=>am (ik l75 () λQj ë=>(
 c6 (km (am (bf\λx43=>am (jY\λx44=>(.cl jw)\λx45=>eR x44 x45) λx46=>cF x43 x46) di)) (
 (.bl false)\λXR=>ap (Lp.out XR)) (
 c6 (km (am (bf\λx48=>am ((.str ".")\λXQ=>am (SU XQ) λu51=>am (cq\λx49=>dM x49) λl52=>vF u51 l52) λx53=>cF x48 x53) di)) (
 (.bl false)\λXO=>ap (Lp.out XO)) (
 ap (.go ()))))) (sF (λë=>
 am (am (.bx\λx55=>(.bl true)\λx56=>(.int 0)\λx57=>(.int 7)\λx58=>(.tup [])\λx59=>am (yz (ap [])) λx60=>(dvK [])\λx61=>cq\λx62=>am (yz (am (ap cq) bK)) λx63=>am (yz (jY\λx64=>ap [x64])) λx65=>am (jY\λx66=>ap (.tup [x66])) λx67=>ap (.tup [x55,x56,x57,x58,x59,x60,x61,x62,x63,x65,x67])) bK) λl73=>am (ik l73 () λxF ê=>(
 c6 (t2 iL (xF\λx70=>NJ aR bf x70) (ap (.int 0))) (
 (.bl false)\λx71=>ap (Lp.out x71)) (
 ap (.go ())))) (sF (λê=>
 ap (.go ())) Lp.out)) Lp.out)))) (sF (λì=>
 am ((.str "")\λx77=>(.str ".")\λx78=>(.str "0")\λx79=>(.str "00")\λx80=>(.str "0.")\λx81=>(.str "0.0.1")\λx82=>(.str "0.0.01")\λx83=>(.str "0.0.1.")\λx84=>(.str "0.0.100")\λx85=>ap [x77,x78,x79,x80,x81,x82,x83,x84,x85]) λIG=>
 am (am (am (ap (.cl IG)) qx) λl90=>am ((.str "1.0.2")\λx87=>(.str "0.0.0")\λx88=>(.str "0.0.12345")\λx89=>ap [x87,x88,x89]) λl91=>gA l90 l91) λIE=>
 (am (am (am (ap (.cl IE)) bK) λl92=>c9 l92 λp93=>(am ((.str "a")\λx94=>(.str "b")\λx95=>ap (.tup [x94,x95])) λx96=>p93\λx97=>cF x96 x97)) nW)) id)
end My
variable{Q:O PL.PV->Prop}{t:My.Tr}{f:PL.PV->FL.W (Option PL.PV)}
namespace My
def Tr.pv:Tr->PV
 |.leaf x=>.str x
 |.node l r=>.tup [l.pv,r.pv]
def Ent.pv:Ent->PV
 |.word x=>.str x
 |.pair a b=>.tup [.int (a:Int),.int (b:Int)]
def IP{l:List α}(h:l≠[]):∃a x,l=a++[x]:=⟨l.dropLast,l.getLast h,(List.dropLast_concat_getLast h).symm⟩
def Mj{a b:O Tr}(h:gY a++b=t.post):cD a+b.length=t.size:=by
 have h1:=congrArg Dg h;rw[Ag,t.jz]at h1;have h2:∀l:O Tr,(gY l).length=cD l:=by
  intro l
  induction l with
  |nil=>rfl
  |cons x l ih=>
   have e1:gY (x::l)=x.post++gY l:=rfl;have e2:cD (x::l)=x.size+cD l:=rfl;rw[e1,e2,Ag,ih,x.jz]
 rw[h2]at h1;exact h1
theorem nV{x:PV}(h:l.length<1000):pj l x=.ret (l++[x]):=wf (by have:=a6 (Ah _);lia)
theorem Nd(t:Tr)(hz:t.size<=900):(kY t.pv).le (.ret (t.post.map Tr.pv)):=λQ q=>by
 refine pS (λn s=>∃ts bs:O Tr,n=cD ts/\s=(bs.map Tr.pv,ts.map Tr.pv)/\gY ts++bs.reverse=t.post) ⟨[t],[],rfl,rfl,by rw[ng];simp⟩ ?_;rintro n s ⟨ts,bs,rfl,rfl,hp⟩;have hs:=Mj hp;rw[Dn]at hs;by_cases he:ts=[]
 .subst he;have û:bs.reverse=t.post:=hp;simp;rw[<- List.map_reverse,û];exact q
 .obtain⟨us,u,rfl⟩:=IP he;have RK:=ny us;rw[bQ,ek]at hs;simp;rw[nV (by rw[Am];lia)];cases u with
  |leaf x=>
   simp[Tr.pv];refine⟨_,?_,us,rfl,bs++[.leaf x],⟨by simp[Tr.pv],rfl⟩,?_⟩
   .rw[bQ,ek];show cD us<cD us+1;lia
   .rw[iI,ng]at hp;rw[Gd,<- hp];simp[Tr.post]
  |node c d=>
   have e1:OA (us.map Tr.pv) [c.pv,d.pv]=.ret (us.map Tr.pv++[c.pv,d.pv]):=wf (a6 (by
    simp;lia))
   simp[Tr.pv,e1];refine⟨_,?_,us++[c,d],rfl,bs++[.node c d],⟨by simp[Tr.pv],by simp⟩,?_⟩
   .have e2:cD [Tr.node c d]=c.size+d.size+1:=by rw[ek];rfl
    have e3:cD [c,d]=c.size+d.size:=by simp[cD]
    rw[bQ,bQ,e2,e3];lia
   .rw[iI,ng]at hp;rw[Gd,<- hp,iI,Kq];simp[Tr.post]
def cx(l:O Nat):O PV:=l.map λ(n:Nat)=>.int (n:Int)
@[simp] theorem xU(l:O Nat):(cx l).length=l.length:=Am _
@[simp] theorem Zb(a b:O Nat):cx (a++b)=cx a++cx b:=B1
@[simp] theorem Xh(a:Nat)(l:O Nat):cx (a::l)=.int (a:Int)::cx l:=rfl
@[simp] theorem Za:cx []=[]:=rfl
def K0(n:Nat):jJ 0 n=cx (AW n):=by
 refine Dm λi _=>?_;rw[FE]
theorem NP{p:Nat->Bool}:∀{l:O Nat},(∀k∈l,f (.int ((k:Nat):Int))=.ret (if p k=true then al (.int ((k:Nat):Int)) else bn))->nA (cx l) f=.ret (cx (l.filter p))
 |[],_=>rfl
 |k::l,h=>by
  show am (f _) (λo=>am (nA (cx l) f) λm=>ap (o.toList++m))=_;rw[h k (.head _),NP λy hy=>h y (.tail _ hy),DV];cases p k<;>rfl
theorem Jp{f:PV->W PV}{g:Nat->PV}:∀{l:O Nat},(∀k∈l,f (.int ((k:Nat):Int))=.ret (g k))->c9 (cx l) f=.ret (l.map g)
 |[],_=>rfl
 |k::l,h=>by
  show am (f _) (λy=>am (c9 (cx l) f) λm=>ap (y::m))=_;rw[h k (.head _),Jp λy hy=>h y (.tail _ hy)];rfl
def Ti(g:PV->Option PV)(h:∀x∈l,f x=.ret (g x))(q:Q (l.filterMap g)):(nA l f).run Q:=by rw[Hd h];exact q
def NN{l:O Nat}(p:Nat->Bool)(h:∀k∈l,f (.int ((k:Nat):Int))=.ret (if p k=true then al (.int ((k:Nat):Int)) else bn))(q:Q (cx (l.filter p))):(nA (cx l) f).run Q:=by rw[NP h];exact q
def KJ{l:O Nat}{f:PV->W PV}(g:Nat->PV)(h:∀k∈l,f (.int ((k:Nat):Int))=.ret (g k))(q:Q (l.map g)):(c9 (cx l) f).run Q:=by rw[Jp h];exact q
theorem Nv(t:Tr)(hz:t.size<=900):(pF t.pv).le (.ret (.tup ((t.nd 0).map Ent.pv))):=λQ q=>by
 unfold pF;simp;refine W.le.use (Nd t hz) ?_;refine qN (λr s=>∃(k:O Tr) (À:O Ent) (ls:O Nat),r=k.map Tr.pv/\s=(À.map Ent.pv,cx ls.reverse)/\run k À ls=al (t.nd 0,[t.size-1])/\À.length+k.length<=900/\ls.length<=À.length) ⟨t.post,[],[],rfl,rfl,Ko t,by simp[t.jz];lia,Ah _⟩ ?_ ?_
 .rintro x r s ⟨k,À,ls,e,rfl,h,hl,ZK⟩;cases k with
  |nil=>cases e
  |cons p k=>
   injection e with e1 e2;subst e1;subst e2;rw[Ap]at hl;cases p with
   |leaf x=>
    have a1:∀y,pj (cx ls.reverse) y=.ret (cx ls.reverse++[y]):=λy=>nV (by simp;lia);simp[Tr.pv,nV (l:=À.map Ent.pv) (by simp;lia),a1];refine⟨k,rfl,À++[Ent.word x],À.length::ls,⟨by simp[Ent.pv],by simp⟩,h,by simp;lia,by simp;lia⟩
   |node c d=>
    match ls,h,ZK with
    |b::a::ls,h,ZK=>
     rw[Ap,Ap]at ZK;have a0:cx (b::a::ls).reverse=(cx ls.reverse++[.int a])++[.int b]:=by simp
     have a1:∀y,pj (cx ls.reverse) y=.ret (cx ls.reverse++[y]):=λy=>nV (by simp;lia);rw[a0];simp only[Tr.pv,re,iW,mI,bS,if_false,OE];simp[nV (l:=À.map Ent.pv) (by simp;lia),a1];refine⟨k,rfl,À++[Ent.pair a b],À.length::ls,⟨by simp[Ent.pv],by simp⟩,h,by simp;lia,by simp;lia⟩
 .rintro s ⟨k,À,ls,e,rfl,h,hl,ZK⟩;cases k with
  |nil=>
   cases h;simpa using q
  |cons p k=>cases e
end My
variable{a b d:Int}
namespace My
theorem mulL(h:-1000000000<=a/\a<=1000000000):GM a b:=Ny ∅ ∅
theorem mulR(h:-1000000000<=b/\b<=1000000000):GM a b:=mul_r ∅ ∅
theorem G4(h0:0<=d)(h1:d<6):∃st:Int,fB [PV.int 1,PV.int 3,PV.int 5,PV.int 7,PV.int 9,PV.int 11] d=al (.int st)/\(st=1\/st=3\/st=5\/st=7\/st=9\/st=11):=by
 have:d=0\/d=1\/d=2\/d=3\/d=4\/d=5:=by omega
 rcases this with rfl|rfl|rfl|rfl|rfl|rfl
 .exact⟨1,rfl,by decide⟩
 .exact⟨3,rfl,by decide⟩
 .exact⟨5,rfl,by decide⟩
 .exact⟨7,rfl,by decide⟩
 .exact⟨9,rfl,by decide⟩
 .exact⟨11,rfl,by decide⟩
theorem gZ{i j:Int}(h:-1000<=i/\i<=1000/\-1000<=j/\j<=1000)(h2:j-i<=1000):okN i j:=⟨by omega,by omega,by omega,by omega,a6 ∅⟩
theorem WS{l:List α}(h:k+1<l.length):∃a x y b,l=a++x::y::b/\a.length=k:=by
 refine⟨l.take k,l[k],l[k+1],l.drop (k+2),?_,by rw[B9];omega⟩;have e1:l.drop k=l[k]::l.drop (k+1):=Bt (by omega);have e2:=Bt (by omega);rw[<- e2,<- e1,List.take_append_drop]
end My
variable{a b:Nat}{v:Int}{m:O PL.PV}{ds:O Int}{left:O Nat}
namespace My
def mr:Ent->Bool
 |.word _=>false
 |.pair _ _=>true
structure Dt(t:Tr)(ds:List Int)(left:List Nat)(d:Int):Prop where
 len:ds.length=t.size
 zero:∀j,j<t.size->(mr (en t 0 j)=false\/j∈left)->ds.getD j 0=0
 up:∀j,j<t.size->j∉left->∀a b,en t 0 j=.pair a b->a∉left/\b∉left/\ds.getD a 0<ds.getD j 0/\ds.getD b 0<ds.getD j 0/\1<=ds.getD j 0/\ds.getD j 0<=d
 inj:∀i j,i<t.size->j<t.size->i∉left->j∉left->mr (en t 0 i)=true->mr (en t 0 j)=true->ds.getD i 0=ds.getD j 0->i=j
 pos:0<=d
 Xj:∀j∈left,j<t.size/\mr (en t 0 j)=true
 ris:left.Pairwise (· < ·)
def gR{l:O Int}(h:i<l.length):(l.set i v).getD i 0=v:=by rw[AX,C1 h];rfl
def bT{l:O Int}(h:i≠j):(l.set i v).getD j 0=l.getD j 0:=by rw[AX,Cg h,<- AX]
def sh{l:O Nat}(h:l.Pairwise (· < ·)){x y:Nat}:y∈l.erase x↔y∈l/\y≠x:=by
 have nd:l.Nodup:=h.imp (λz=>AD z);rw[nd.mem_erase_iff];exact⟨λz=>⟨z.2,z.1⟩,λz=>⟨z.2,z.1⟩⟩
theorem kg(t:Tr)(h:j<t.size)(e:en t 0 j=.pair a b):a<j/\b<j:=by
 rcases Pk t 0 j h with⟨x,e1,_⟩|⟨a',b',e1,e2,e3,_⟩
 .rw[e1]at e;cases e
 .rw[e1]at e;injection e with h1 h2;lia
theorem Dt.next{x:Int}(D:Dt t ds left d)(hj:j∈left)(e:en t 0 j=.pair a b)(ha:a∉left)(hb:b∉left)(hx:0<=x):Dt t (ds.set j (d+1+x)) (left.erase j) (d+1+x):=by
 obtain⟨hjs,hjp⟩:=D.Xj j hj;obtain⟨haj,hbj⟩:=kg t hjs e;have Od:j<ds.length:=by rw[D.len];exact hjs
 have hm:∀y,y∈left.erase j↔y∈left/\y≠j:=λy=>sh D.ris;have Ü:∀y,y<t.size->y∉left->ds.getD y 0<=d:=λy hy č=>by
  cases ey:en t 0 y with
  |word w=>rw[D.zero y hy (.inl (by rw[ey];rfl))];exact D.pos
  |pair p q=>exact(D.up y hy č p q ey).2.2.2.2.2
 refine⟨by rw[BS];exact D.len,λy hy hc=>?_,λy hy č p q ey=>?_,λu v hu hv hul hvl pu pv õ=>?_,by have:=D.pos;lia,λy hy=>D.Xj y ((hm y).mp hy).1,List.Pairwise.sublist List.erase_sublist D.ris⟩
 .have Zx:j≠y:=λz=>by
   subst z;rcases hc with hc|hc
   .rw[hjp]at hc;cases hc
   .exact((hm j).mp hc).2 rfl
  rw[bT Zx];exact D.zero y hy (hc.imp id λz=>((hm y).mp z).1)
 .by_cases Zx:j=y
  .subst Zx;rw[e]at ey;injection ey with h1 h2;subst h1 h2;have la:=Ü a ∅ ha;have lb:=Ü b ∅ hb;rw[gR Od,bT ∅,bT ∅];have:=D.pos;exact⟨λz=>ha ((hm a).mp z).1,λz=>hb ((hm b).mp z).1,by omega,by omega,by omega,by omega⟩
  .have adv:y∉left:=λz=>č ((hm y).mpr ⟨z,Bu Zx⟩);obtain⟨p1,p2,p3,p4,p5,p6⟩:=D.up y hy adv p q ey;have np:j≠p:=λz=>p1 (z▸hj);have nq:j≠q:=λz=>p2 (z▸hj);rw[bT Zx,bT np,bT nq];exact⟨λz=>p1 ((hm p).mp z).1,λz=>p2 ((hm q).mp z).1,p3,p4,p5,by omega⟩
 .by_cases c1:j=u
  .by_cases c2:j=v
   .exact c1.symm.trans c2
   .exfalso;subst c1;have V5:v∉left:=λz=>hvl ((hm v).mpr ⟨z,Bu c2⟩);rw[gR Od,bT c2]at õ;have:=Ü v hv V5;lia
  .have Zz:u∉left:=λz=>hul ((hm u).mpr ⟨z,Bu c1⟩);by_cases c2:j=v
   .exfalso;subst c2;rw[gR Od,bT c1]at õ;have:=Ü u hu Zz;lia
   .have V5:v∉left:=λz=>hvl ((hm v).mpr ⟨z,Bu c2⟩);rw[bT c1,bT c2]at õ;exact D.inj u v hu hv Zz V5 pu pv õ
def splits(t:Tr):O Nat:=(AW t.size).filter λj=>mr (en t 0 j)
def Dt.first(t:Tr):Dt t (Ar t.size 0) (splits t) 0:=by
 have z:∀j,(Ar t.size (0:Int)).getD j 0=0:=λj=>by
  rw[AX,BC]
  split<;>rfl
 have mem:∀j,j∈splits t↔j<t.size/\mr (en t 0 j)=true:=λj=>by unfold splits;rw[BH,Bp]
 exact⟨B4,λj _ _=>z j,λj hj hn a b e=>absurd ((mem j).mpr ⟨hj,by rw[e];rfl⟩) hn,λi j hi hj hni _ pi _ _=>absurd ((mem i).mpr ⟨hi,pi⟩) hni,GO _,λj hj=>(mem j).mp hj,List.Pairwise.filter _ DM⟩
theorem JN(t:Tr):fw 0 ((t.nd 0).map Ent.pv)=(AW t.size).map λj=>PV.tup [.int ((j:Nat):Int),(en t 0 j).pv]:=by
 have hl:(fw 0 ((t.nd 0).map Ent.pv)).length=t.size:=by rw[dA,Am,t.bH]
 apply C8;intro i;by_cases hi:i<t.size
 .have h1:(fw 0 ((t.nd 0).map Ent.pv))[i]?=al ((fw 0 ((t.nd 0).map Ent.pv))[i]'∅):=Af _;obtain⟨y,hy,e⟩:=ip h1;rw[An,qq t 0 i hi]at hy;rw[h1,e,<- (Option.some.inj hy),An,Dp hi,Fu];rfl
 .rw[A6 ∅,A6 (by rw[Am,E1];lia)]
def Rm:PV->Option PV
 |.tup [_,.str _]=>bn
 |.tup [k,_]=>al k
 |_=>bn
def VJ(t:Tr):(fw 0 ((t.nd 0).map Ent.pv)).filterMap Rm=cx (splits t):=by
 rw[JN];unfold splits;generalize AW t.size=l
 induction l with
 |nil=>rfl
 |cons j l ih=>
  rw[A4,Bm,DV];cases e:en t 0 j with
  |word w=>exact ih
  |pair a b=>
   rw[ih];rfl
def tN(l:O Nat):cx l=(l.map λn=>((n:Nat):Int)).map PV.int:=by unfold cx;rw[BJ];rfl
theorem qT(y:Nat):∀l:O Nat,(l.map λn=>((n:Nat):Int)).erase (y:Int)=(l.erase y).map λn=>((n:Nat):Int)
 |[]=>rfl
 |a::l=>by
  rw[A4,List.erase_cons,List.erase_cons,qT y l];by_cases c:a=y
  .subst c;simp
  .have c1:(a==(y:Int))=false:=by simp;lia
   have c2:(a==y)=false:=by simpa using c
   rw[c1,c2];simp
theorem Ja:∀(l:O Nat) (k n:Nat),l.Pairwise (· < ·)->(∀x∈l,k<=x/\x<n)->l.length<=n-k
 |[],_,_,_,_=>Bs _
 |a::l,k,n,h,hb=>by
  have h1:=(List.pairwise_cons.mp h);have h2:=hb a Bv;have ih:=Ja l (a+1) n h1.2 λx hx=>⟨h1.1 x hx,(hb x (AH _ hx)).2⟩;rw[Ap];lia
def shf(s:Nat):Ent->Ent
 |.word x=>.word x
 |.pair p q=>.pair (p+s) (q+s)
theorem G0:∀(t:Tr) (o s:Nat),t.nd (o+s)=(t.nd o).map (shf s)
 |.leaf _,_,_=>rfl
 |.node a b,o,s=>by
  have ha:=a.size_pos;rw[Tr.nd,Tr.nd,G0 a o s,show o+s+a.size=o+a.size+s by omega,G0 b (o+a.size) s,B1,B1];congr 2;congr 1<;>lia
def Pa(h:l.length+m.length<=1000):gA l m=.ret (l++m):=wf (a6 h)
theorem V0(k:Nat)(l:O Nat)(b:Bool):N8 b (.int (k:Int)) (cx l)=.ret (if b then !decide (k∈l) else decide (k∈l)):=by
 have h1:V1 (.int k) (cx l):=⟨by simp,qO.mpr λx hx=>by
  obtain⟨n,_,rfl⟩:=AR.mp hx;simp,qR λx hx=>by
  obtain⟨n,_,rfl⟩:=AR.mp hx;simp⟩
 have h2:yq (.int (k:Int)) (cx l)=decide (k∈l):=by
  unfold yq cx;rw[List.any_map]
  induction l with
  |nil=>simp
  |cons a l ih=>
   have ih:=ih ⟨by simp,qO.mpr λx hx=>by
    obtain⟨n,_,rfl⟩:=AR.mp hx;simp,qR λx hx=>by
    obtain⟨n,_,rfl⟩:=AR.mp hx;simp⟩
   rw[CG,ih];by_cases c:a=k
   .subst c;simp
   .have c1:(a==(k:Int))=false:=by simp;lia
    have c2:¬k=a:=λz=>c z.symm;simp[c1,c2]
 unfold N8;rw[wf h1,h2]
def O8(l:O Nat):sP (cx l)=true:=yV.mpr λx hx=>by
 obtain⟨n,_,rfl⟩:=AR.mp hx;rw[PV.dat]<;>simp
def cm(ds:O Int):O PV:=ds.map PV.int
@[simp] theorem ic(ds:O Int):(cm ds).length=ds.length:=Am _
def N6(ds:O Int)(y:Nat)(v:Int):(cm ds).set y (.int v)=cm (ds.set y v):=by unfold cm;rw[List.map_set]
def LL(t:Tr)(left:O Nat)(j:Nat):Bool:=match en t 0 j with
 |.pair a b=>!decide (a∈left)&&!decide (b∈left)
 |_=>false
theorem RB(h:k<n):sC n (k:Int)=al k:=by
 unfold sC;rw[if_pos ∅,if_pos ∅];simp
def uP{v:PV}(h:k<l.length):oP l (.int (k:Int)) v=.ret (l.set k v):=by
 unfold oP;simp[RB h]
def Nx(t:Tr)(h:j<t.size):fB ((t.nd 0).map Ent.pv) (j:Int)=al (en t 0 j).pv:=mP (by rw[An,qq t 0 j h];rfl)
theorem Dt.Yy(D:Dt t ds left d)(he:left≠[]):cx (left.filter (LL t left))≠[]:=by
 obtain⟨l0,l1,rfl⟩:∃l0 l1,left=l0::l1:=by cases left with|nil=>exact absurd rfl he|cons a l=>exact⟨a,l,rfl⟩
 have TL:LL t (l0::l1) l0=true:=by
  obtain⟨h1,h2⟩:=D.Xj l0 (.head _);unfold LL;cases e:en t 0 l0 with
  |word w=>rw[e]at h2;cases h2
  |pair a b=>
   obtain⟨g1,g2⟩:=kg t h1 e;have Ü:∀y∈l0::l1,l0<=y:=λy hy=>by
    rcases Au.mp hy with rfl|hy
    .exact Ah _
    .exact Dj ((List.pairwise_cons.mp D.ris).1 y hy)
   have na:a∉l0::l1:=λz=>by have:=Ü a z;lia
   have nb:b∉l0::l1:=λz=>by have:=Ü b z;lia
   show(!decide _&&!decide _)=true;rw[decide_eq_false na,decide_eq_false nb];rfl
 intro z;have:=congrArg Dg z;rw[xU]at this;have m:=BH.mpr ⟨show l0∈l0::l1 from .head _,TL⟩;rw[List.length_eq_zero_iff.mp this]at m;cases m
theorem Qh(h:Wd x):j6 (.str x)=.ret (.bl true):=by
 unfold j6;obtain⟨h1,h2,h3⟩:=h;have c1:x.length<=sizeLine:=a6 ∅;have c2:x.cps.size<=sizeLine:=c1;have c3:(1:Int)<=(x.length:Int):=by omega
 have c4:(x.length:Int)<=8:=by omega
 simp only[re,wd,JL,bS,Be,Aq,if_false,mH,wf c1,OL,c3,c4,decide_true,Lc,cW,OC,wf c2];rw[iP (g:=λ_=>PV.bl true) λy hy=>?_]
 .simp only[re];rw[all_map (λ_=>true)];congr 2;exact Bq.mpr λ_ _=>rfl
 .obtain⟨c,hc,rfl⟩:=AR.mp hy;obtain⟨k1,k2⟩:=h3 c hc;simp only[OM,Ho k1 k2]
def Mq(l:O PV)(n:Int):f7 (.tup l) (.int n)=.ret (.bl ((l.length:Int)==n)):=by
 unfold f7;simp only[re,iW,v9,R3,pK,wj]
def UX(x:Str)(n:PV):f7 (.str x) n=.ret (.bl false):=by
 unfold f7;simp only[re,wd,JK,R4]
def L0(i:Int):f6 (.int i)=.ret (.bl true):=by
 unfold f6;simp
theorem Oo(t:Tr)(hw:t.Ws)(b:Bool)(hd:b=true\/t.a8.Nodup)(hz:t.size<=900):(iQ t.pv (.bl b)).le (.ret (.bl true)):=λQ q=>by
 unfold iQ;simp only[re,lw];refine zx (λn s=>∃(ts:O Tr) (az:O (Key×PV)),n=cD ts/\s=(az,ts.map Tr.pv)/\(∀x∈ts.flatMap Tr.a8,Wd x)/\(b=true\/(ts.flatMap Tr.a8).Nodup/\∀x∈ts.flatMap Tr.a8,o6 az (.inr x)=false)/\cD ts+az.length<=900) (n:=cD [t]) ⟨[t],[],rfl,rfl,λx hx=>hw x (by simpa using hx),by rcases hd with h|h;exact .inl h;exact .inr ⟨by simpa using h,by simp[o6]⟩,by rw[ek];simpa using hz⟩ ?_;rintro n s ⟨ts,az,rfl,rfl,h1,h2,h3⟩;by_cases he:ts=[]
 .subst he;exact q
 .obtain⟨us,u,rfl⟩:=IP he;have hsu:=u.size_pos;have RK:=ny us;rw[bQ,ek]at h3;have ee:(!((us++[u]).map Tr.pv).isEmpty)=true:=by simp
  have em:(us++[u]).map Tr.pv=us.map Tr.pv++[u.pv]:=by simp
  simp only[re,sw,ee,if_true,lw];rw[em];simp only[OE,sw];cases u with
  |leaf x=>
   have wx:Wd x:=h1 x (by simp[Tr.a8]);have c1:az.length<sizeLine:=tF ∅;have cb:=h2.imp id λh=>h.2 x (by simp[Tr.a8]);have ct:(if (o6 az (.inr x))=true then (ap (!b)) else ap false)=ap false:=by
    rcases cb with h|h
    .rw[h];split<;>rfl
    .rw[h];rfl
   simp only[Tr.pv,UX,bS,sw,Aq,if_false,Qh wx,Be,re,RX,ct,U9,wf c1,lw];refine⟨cD us,by rw[bQ,ek];show cD us<cD us+1;lia,us,_,rfl,rfl,λy hy=>h1 y (by simp[hy]),?_,?_⟩
   .rcases h2 with h|⟨h,k⟩
    .exact .inl h
    .right
     rw[CJ]at h;have nx:x∉us.flatMap Tr.a8:=λz=>by
      have:=(EZ.mp h).2.2 x z x (by simp[Tr.a8]);exact this rfl
     refine⟨(EZ.mp h).1,λy hy=>?_⟩;have ky:=k y (by simp[hy]);have kx:=k x (by simp[Tr.a8]);have nyx:x≠y:=λz=>nx (z▸hy);unfold zT;rw[kx];show o6 (az++[_]) _=false;unfold o6 at ky ⊢;rw[List.any_append,ky];simp[nyx]
   .have:(zT az (.inr x) (.bl true)).length<=az.length+1:=by
     unfold zT
     split<;>simp
    lia
  |node c d=>
   have hsz:(Tr.node c d).size=c.size+d.size+1:=rfl;have e1:OA (us.map Tr.pv) [c.pv,d.pv]=.ret (us.map Tr.pv++[c.pv,d.pv]):=wf (a6 (by simp;lia));have e2:(([c.pv,d.pv].length:Int)==2)=true:=rfl;simp only[Tr.pv,Mq,e2,bS,sw,if_true,cZ,e1,lw];have e3:cD [c,d]=c.size+d.size:=by simp[cD]
   refine⟨cD (us++[c,d]),by rw[bQ,bQ,ek,e3];lia,us++[c,d],az,rfl,by simp,λy hy=>h1 y (by simpa[Tr.a8,CJ]using hy),?_,by rw[bQ,e3];lia⟩;refine h2.imp id λ⟨h,k⟩=>⟨by simpa[Tr.a8,CJ]using h,λy hy=>k y (by simpa[Tr.a8,CJ]using hy)⟩
theorem Ke:∀ns l Q,c7 ns->((iB 1 bh) l).run Q->((λlo l=>iB 1 (dj lo) l) (ns.map PV.int) l).run λt=>Q t.1/\∃Vu:O Int,t.2=Vu.map PV.int/\c7 Vu:=by
 rintro ns l Q ⟨g,s,rfl,g0,s0,s1⟩ q
 match l,q with
 |[],q=>exact q.elim
 |_::_::_,q=>exact q.elim
 |[x],q=>
  show(dj _ x).run _;have q:=q;cases x with
  |int m=>
   obtain⟨⟨m0,m1⟩,q⟩:=q;have q:∀d:Int,0<=d->d<m->Q (.int d):=λd h0 h1=>q _ ⟨d,rfl,h0,h1⟩;unfold dj;generalize hA:(2305843009213693951:Int)=A;generalize hB:(6364136223846793005:Int)=B;generalize hC:(1442695040888963407:Int)=C;have A0:0<A:=by omega
   by_cases hg:0<g
   .simp[fB,sC,hg,m0,oP,PQ];refine⟨by omega,q _ (Cr _ ∅) (Cb _ m0),[g / m,s],rfl,_,_,rfl,Int.ediv_nonneg g0 ∅,s0,s1⟩
   .have e1:GM s B:=Ny ∅ ∅;simp[fB,sC,hg,m0,oP,adp,e1,A0,PQ];generalize hM:(s*B+C) % A=M;have M0:0<=M:=by rw[<- hM];exact Cr _ ∅
    have M1:M<A:=by rw[<- hM];exact Cb _ A0
    refine⟨Ny ∅ ∅,q _ (Cr _ ∅) (Cb _ m0),[g,M],rfl,_,_,rfl,g0,M0,by omega⟩
  |_=>exact q.elim
theorem Hv{k:Int}(k0:0<=k)(k1:k<=1000)(q:∀l,(∃ms:O Int,l=ms.map PV.int/\c7 ms)->Q l):(eQ (.cl (ns.map PV.int)) (.int k)).run Q:=by
 unfold eQ;generalize hA:(2305843009213693951:Int)=A;generalize hB:(2305843009213693921:Int)=B;have A0:0<A:=by omega
 have B0:0<B:=by omega
 have fin:∀x:Int,(am (b2 jB (b2 oMod (c1 y8 (ap (.int x))) (b2 jB (b2 jB (b2 rY (ap (.int 10)) (ap (.int 60))) (b2 rY (ap (.int 10)) (ap (.int 60)))) (b2 rY (ap (.int 10)) (ap (.int 60))))) (c1 y7 (b2 oGe (c1 y8 (ap (.int x))) (b2 rY (ap (.int 10)) (ap (.int 18)))))) λfJ=>
 (fJ\λx4=>am (b2 oMod (b2 jB (w2 addW (w2 addW (b2 oMod (ap (.int x)) (ap (.int B))) (b2 jB (b2 jB (ap (.int 104729)) (ap (.int k))) (ap (.int k)))) (ap (.int 7))) (ap (.int 48271))) (ap (.int A))) λx5=>ap [x4,x5])).run Q:=by
  intro x;have p1:PN 10 60:=⟨by decide,by decide,by decide⟩;have p2:PN 10 18:=⟨by decide,by decide,by decide⟩;have c1:GM 104729 k:=mulL ∅;have c2:GM (104729*k) k:=mulR ∅;have c3:∀y,GM y 48271:=λy=>mulR ∅;simp only[re,Ww,wf p1,wf p2,OI,vZ,Z9,JM,da,WC,W.rh,W.uU,sw,wf c1,wf c2,wf (c3 _),wf A0,wf B0];refine⟨GJ (by decide +kernel) (by decide +kernel),GJ (by decide +kernel) (by decide +kernel),by decide +kernel,?_,?_⟩
  .split
   .exact mulR ∅
   .exact mulR ∅
  .refine q _ ⟨[_,_],rfl,_,_,rfl,Int.mul_nonneg (Cr _ (by decide +kernel)) ?_,Cr _ ∅,by rw[hA];exact Cb _ A0⟩
   split<;>first|decide|(split<;>decide)
 cases ns with
 |nil=>
  simp only[Fy,re,fM,List.isEmpty_nil,Be,Aq,if_false];exact fin 0
 |cons n ns=>
  have l0:(0:Int)<((n::ns).map PV.int).length:=by simp
  obtain⟨v,e,e2⟩:=lx (xs:=(n::ns).map PV.int) (Cr k ∅) (Cb k l0);rw[An]at e2;obtain⟨c,rfl⟩:∃c,v=.int c:=by
   cases z:(n::ns)[(k % ((n::ns).map PV.int).length).toNat]? with
   |none=>rw[z]at e2;cases e2
   |some c=>rw[z]at e2;exact⟨c,(Option.some.inj e2).symm⟩
  have e3:(!((n::ns).map PV.int).isEmpty)=true:=rfl;simpa only[re,fM,e3,if_true,fK,fN,vZ,wf l0,dU,e,TD]using fin c
theorem xY(h0:0<=d)(h1:d < 3):∃bg:Str,fB [PV.str "",PV.str "",PV.str "ab"] d=al (.str bg)/\Part bg 2:=by
 have:d=0\/d=1\/d=2:=by omega
 rcases this with rfl|rfl|rfl
 .exact⟨"",rfl,by decide +kernel,by decide +kernel⟩
 .exact⟨"",rfl,by decide +kernel,by decide +kernel⟩
 .exact⟨"ab",rfl,by decide +kernel,by decide +kernel⟩
theorem KD(h0:0<=d)(h1:d < 4):∃bg:Str,fB [PV.str "",PV.str "a",PV.str "zz",PV.str "abcde"] d=al (.str bg)/\Part bg 5:=by
 have:d=0\/d=1\/d=2\/d=3:=by omega
 rcases this with rfl|rfl|rfl|rfl
 .exact⟨"",rfl,by decide +kernel,by decide +kernel⟩
 .exact⟨"a",rfl,by decide +kernel,by decide +kernel⟩
 .exact⟨"zz",rfl,by decide +kernel,by decide +kernel⟩
 .exact⟨"abcde",rfl,by decide +kernel,by decide +kernel⟩
theorem xA{m:Int}(m0:0<=m)(m1:m<=26)(q:∀ws:O Str,ws.length=m.toNat->(∀x∈ws,Wd x)->ws.Nodup->Q (ws.map PV.str)):(dJ (.int m)).run Q:=by
 unfold dJ;simp only[re,lw,cj 26 ⋯ ⋯,cj 6 ⋯ ⋯,cj 3 ⋯ ⋯];refine aZ λd1 a1 b1=>aZ λd3 a3 b3=>?_;obtain⟨st,k6,kst⟩:=G4 a3 b3;simp only[dU,k6,TD,sw];refine aZ λd5 a5 b5=>?_;obtain⟨bg,hbg,kbg⟩:=xY a5 b5;simp only[dU,hbg,TD,sw,mG,wf (gZ (i:=0) (j:=m) ∅ ∅)];have lb:=kbg.1;refine yC (λi s=>∃ws:O Str,s=ws.map PV.str/\ws.length=i/\(∀x∈ws,Wd x)/\(ws.map λx=>x.cps[bg.length]?)=(AW i).map λk:Nat=>al (97+((d1+st*(0+(k:Int))) % 26).toNat)) ⟨[],rfl,rfl,by simp,rfl⟩ ?_ ?_
 .rintro i s hi ⟨ws,rfl,hl,hw,hs⟩;have e0:0<=(d1+st*(0+(i:Int))) % 26:=Cr _ ⋯;have e1:(d1+st*(0+(i:Int))) % 26<26:=Cb _ ⋯;have e2:(d1+st*(i:Int))=d1+st*(0+(i:Int)):=by rw[FE]
  have c1:GM st (i:Int):=mulL ∅;have c2:("abcdefghijklmnopqrstuvwxyz":Str).length<=sizeLine:=by decide +kernel
  have c3:bg.length+(⟨#[97+((d1+st*(0+(i:Int))) % 26).toNat]⟩:Str).length<=sizeLine:=a6 (by show bg.length+1<=1000;lia);simp only[re,lw,cj 4 ⋯ ⋯];refine aZ λd7 a7 b7=>?_;obtain⟨en,hen,ken⟩:=KD a7 b7;have le:=ken.1;have c4:(bg++(⟨#[97+((d1+st*(0+(i:Int))) % 26).toNat]⟩:Str)).length+en.length<=sizeLine:=a6 (by rw[AA];show bg.length+1+en.length<=1000;lia);simp only[dU,hen,TD,sw,re,OI,wf c1,da,vZ,wf (show(0:Int)<26 by decide),e2,WA _ _ (KO e0 e1),wf c2,pL,wf c3,wf c4];rw[nV (by rw[Am,hl];lia)];refine⟨ws++[bg++⟨#[97+((d1+st*(0+(i:Int))) % 26).toNat]⟩++en],by rw[B1];rfl,by rw[Ag,hl];rfl,?_,by rw[B1,hs,List.range_succ,B1,List.map_singleton,List.map_singleton,J7]⟩;intro x hx;rcases Cp.mp hx with z|z
  .exact hw x z
  .rw[Cz.mp z];exact Qi kbg ken ∅ ∅
 .rintro s ⟨ws,rfl,hl,hw,hs⟩;have nd:(ws.map λx=>x.cps[bg.length]?).Nodup:=by rw[hs];exact su kst ∅
  exact q ws hl hw (vm (g:=λx:Str=>x.cps[bg.length]?) nd)
end My
variable{P:AY}{ju tq n8:GK}
namespace My
section
instance ahe:bD:=⟨[(285,"_law_right.<locals>.<lambda>"),(197,"read_dates.<locals>.<lambda>"),(290,"law.<locals>.<lambda>")]⟩
def top(i:Nat):ut:=B3.main.body.getD i (.Pass ⟨0,0,0,0⟩)
abbrev dV(i k:Nat)(ks:O AK)(n:Nat)(m:uB PV n):DF:=⟨dnm (top i),top i,rJ (top i),k,λK=>n9 K ks (iB n m)⟩
abbrev dL(i k:Nat)(ks:O AK)(n:Nat)(m:uB (O PV) n):DF:=⟨dnm (top i),top i,rJ (top i),k,λK=>qa K ks (iB n m)⟩
abbrev dv(i k n:Nat)(m:uB PV n):DF:=dV i k (Ar n .v) n m
abbrev si:wT:=Ha [("sign",lo),("LETTERS",gi)]
def mj:LS (top 6) si:=lcs
abbrev mh:wT:=Ha [("house",lo),("date",lo),("isinstance",gi),("str",gi)]
def ez:LS (top 13) mh:=lcs
abbrev sj:wT:=Ha [("half",lo),("dates",fr)]
def ml:LS (top 14) sj:=lcs
abbrev qA:wT:=Ha [("date",lo),("is_whole",gi)]
abbrev qz:wT:=Ha [("house",lo),("is_date",gi),("houses",fr),("thing",fr)]
def kF:LS (top 15) qA:=lcs
def kE:LS (top 15) qz:=lcs
def iE:bW (rK (top 33)) (rJ (top 33)) (ak (top 33)):=xq
def fD:bW (rK (top 37)) (rJ (top 37)) (ak (top 37)):=xq
abbrev oW:wT:=Ha [("_law_node",lo),("isinstance",gi),("str",gi),("_law_far",fr)]
def jF:LS (top 37) oW:=lcs
abbrev nu:wT:=Ha [("_law_house",lo),("_law_told",lo),("isinstance",gi),("tuple",gi)]
abbrev nr:wT:=Ha [("_law_house",lo),("_law_left",fr),("_law_rows_here",fr)]
def fh:LS (top 38) nu:=lcs
def jh:LS (top 38) nr:=lcs
def uR:bW (rK (top 39)) (rJ (top 39)) (ak (top 39)):=xq
abbrev oV:wT:=Ha [("_law_one",lo),("_law_other",lo),("_law_same",gi)]
def gh:LS (top 39) oV:=lcs
abbrev jE:wT:=Ha [("_law_date",lo),("_law_told",lo),("isinstance",gi),("tuple",gi)]
abbrev jD:wT:=Ha [("_law_date",lo)]
def dh:LS (top 43) jE:=lcs
def fk:LS (top 43) jD:=lcs
abbrev nk:wT:=Ha [("_law_date",lo),("str",gi)]
def jg:LS (top 44) nk:=lcs
abbrev nj:wT:=Ha [("_law_word",lo),("int",gi)]
def je:LS (top 45) nj:=lcs
abbrev KN:wT:=Ha [("_law_date",lo),("str",gi)]
abbrev KL:wT:=Ha [("_law_text",lo),("_law_right",gi)]
def ye:LS (top 46) KN:=lcs
def yd:LS (top 46) KL:=lcs
structure NB(v:EV):Prop where
 isinstance:v.mg "isinstance"=bn
 bool:v.mg "bool"=bn
 int:v.mg "int"=bn
 len:v.mg "len"=bn
 tuple:v.mg "tuple"=bn
 str:v.mg "str"=bn
 all:v.mg "all"=bn
 list:v.mg "list"=bn
 reversed:v.mg "reversed"=bn
 zip:v.mg "zip"=bn
 max:v.mg "max"=bn
 set:v.mg "set"=bn
 range:v.mg "range"=bn
 abs:v.mg "abs"=bn
 enumerate:v.mg "enumerate"=bn
 min:v.mg "min"=bn
variable{v:EV}
abbrev i4:DF:=dv 1 1 1 f6
def Hi(D:DI v i4)(q:NB v):D.O:=
 ND D λhr nd bJ=>
 (SF.dD (JS (dm rfl .int rfl q.isinstance (ae 0) rfl q.int boot_int) (yL (aae (dm rfl .bool rfl q.isinstance (ae 0) rfl q.bool boot_bool)))) λ_=>rfl)
abbrev jQ:DF:=dv 2 1 2 f7
def NY(D:DI v jQ)(q:NB v):D.O:=
 ND D λhr nd bJ hJ=>
 (SF.dD (JS (dm rfl .tup rfl q.isinstance (ae 0) rfl q.tuple Pi) (yL (kK (kH rfl (bA hr)) (df rfl rfl q.len (ae 0)) (ae 1)))) λ_=>rfl)
abbrev fP:DF:=dv 6 1 1 j6
def tW(D:DI v fP)(q:NB v)(cI:v.mg "LONGEST_WORD"=al (.int 8 ju))(fU:v.mg "LETTERS"=al (.str "abcdefghijklmnopqrstuvwxyz" tq)):D.O:=
 ND D λhr nd bJ=>
 (SF.t6 (sV.t (tm (fY (cV rfl (dm rfl .str rfl q.isinstance (ae 0) rfl q.str GT) (λ_=>rfl))) (mW (fY (Ql ym ym aq (df rfl rfl q.len (ae 0)) (O1 cI rfl))))))
 (SF.dD iq λ_=>rfl)
 (SF.dD (uf rfl rfl rfl q.all (bL (jG rfl mj (VX (ae 0)) (λ_ _ _ _ _=>(lW 0 mj.nd)) (λ_ _ _ _ _ p2=>(kK (N1 rfl) (ae 0) (WG fU rfl))) rfl))) λ_=>rfl))
abbrev i5(gn:db):DF:=dV 7 2 [.v,.f gn [] [] [],.v] 2 iQ
theorem Hj{gn:db}(D:DI v (i5 gn))(Hx:W8 v.P v.w v.K v.mg v.base gn [] [] [] fP.k fP.ps (fP.sp v.K))(qL:jQ.C v):D.O:=
 ND D λhr nd bJ GU=>
 (SF.acM (i:=3) nd rfl (BA rfl)
 (sl 4 nd (bj (n:=1) (av 0 au) rfl) λeg=>
 (SF.pT (hd:=(λ(s4:O (Key×PV)×O PV)=>([al (.val bJ),al (.adr gn [] [] []),al (.val GU),al (.od s4.1),al (.ol bn s4.2),bn]:aY))) (s0:=([],eg)) (inj:=id) BG (.refl _) (λs4=>(SK rfl (de 4) (λ_=>rfl))) (λ_=>trivial) (λs4=>
 (SF.uZ 4 5 rfl ⋯ rfl rfl (.inl rfl) nd rfl (BA rfl) λt7=>
 (SF.TH (cV rfl (eC qL hr (av 5 (af aq au))) (λ_=>rfl))
 (SF.extend 4 rfl rfl rfl (.inl rfl) (b9 (ae 5)) λfV=>
 (SF.me rfl (.m 32)))
 (SF.TH (sV.t (tm (fY (cV rfl (R8 1 Hx rfl hr (by first|exact BO rfl|lia) rfl (av 5 au) rfl) (λ_=>rfl))) (mW (sV.t (jr (XZ 3 rfl (bA hr) (ae 5)) (iC (fY (cV rfl (ae 2) (λ_=>rfl)))))))))
 (SF.ret (k:=λzv=>(Lp.out zv)) iq λ_=>rfl)
 (SF.putD 3 rfl (bA hr) rfl (.inl rfl) iq (ae 5) λIU=>
 (SF.me rfl (.m 32))))))) λs4=>
 (SF.dD iq λ_=>rfl))))
abbrev i6:DF:=dv 8 3 1 iR
def Hk(D:DI v i6){qS:db}(Lz:v.mg "is_word"=al (.ref qS))(HC:(i5 qS).C v):D.O:=
 ND D λhr nd bJ=>
 (SF.dD (eC HC hr (av 0 (aeD rfl Lz (af iq au)))) λ_=>rfl)
abbrev iZ:DF:=dL 9 1 [.v] 1 kY
def Hh(D:DI v iZ)(q:NB v):D.O:=
 mkL D λhr nd eV=>
 (sl 1 nd (bj (n:=0) au rfl) λlq=>
 (sl 2 nd (bj (n:=1) (av 0 au) rfl) λeg=>
 (SF.SG (hd:=(λ(s4:O PV×O PV)=>([al (.val eV),al (.ol bn s4.1),al (.ol bn s4.2),bn]:aY))) (s0:=(lq,eg)) BG (.refl _) (λs4=>(SK rfl (de 2) (λ_=>rfl))) (λs4=>
 (SF.uZ 2 3 rfl ⋯ rfl rfl (.inl rfl) nd rfl (BA rfl) λt7=>
 (SF.append 1 rfl rfl rfl (.inl rfl) (ae 3) λlj=>
 (SF.TH (fY (cV rfl (dm rfl .str rfl q.isinstance (ae 3) rfl q.str GT) (λ_=>rfl)))
 (SF.extend 2 rfl rfl rfl (.inl rfl) (b9 (ae 3)) λfV=>
 (SF.me rfl (.m 8)))
 (SF.me rfl (.m 8)))))) λs4=>
 (SF.oi (Zh rfl rfl rfl q.list rfl q.reversed (fZ 1)) λ_=>rfl))))
abbrev pN:DF:=dv 10 2 1 pF
def Rv(D:DI v pN)(q:NB v)(HA:iZ.C v):D.O:=
 ND D λhr nd eV=>
 (sl 1 nd (bj (n:=0) au rfl) λzG=>
 (sl 2 nd (bj (n:=0) au rfl) λvp=>
 (SF.Wm (hd:=(λ(s4:O PV×O PV)=>([al (.val eV),al (.ol bn s4.1),al (.ol bn s4.2),bn,bn,bn]:aY))) (s0:=(zG,vp)) BG rfl (gk rfl (TJ (lC HA hr (av 0 au)))) (.refl _) (lW 3 nd) (λs4 vf=>
 (SF.ifS (out1:=λ(UW:O PV×O PV)=>.nx ([al (.val eV),al (.ol bn UW.1),al (.ol bn UW.2),al (.val vf),bn,bn]:aY)) (cV rfl (dm rfl .str rfl q.isinstance (ae 3) rfl q.str GT) (λ_=>rfl))
 (SF.append 1 rfl rfl rfl (.inl rfl) (ae 3) λIu=>
 (SF.nil rfl (.refl _)))
 (SF.uZ 2 4 rfl ⋯ rfl rfl (.inl rfl) nd rfl (BA rfl) λt20=>
 (SF.uZ 2 5 rfl ⋯ rfl rfl (.inl rfl) nd rfl (BA rfl) λt22=>
 (SF.append 1 rfl rfl rfl (.inl rfl) (gS (n:=2) (av 5 (av 4 au)) rfl) λIr=>
 (SF.nil rfl (.m 48)))))
 λUW=>(SF.append 2 rfl rfl rfl (.inl rfl) (yK (nR rfl rfl q.len (de 1)) aq) λya=>
 (SF.me rfl (.m 8))))) λs4=>
 (SF.dD (wu rfl rfl q.tuple (de 1)) λ_=>rfl))))
abbrev eS:DF:=dL 13 1 [.v,.v] 2 eN
def sy(D:DI v eS)(q:NB v):D.O:=
 mkL D λhr nd kd jP=>
 (SF.oi (Ts rfl ez (vI rfl rfl q.zip (dw (ae 0)) (dw (ae 1))) (λ_ _ _ _ _=>(Xu rfl (kU rfl (cf (lW 0 ez.nd) (cf (lW 1 ez.nd) iJ))))) (λ_ _ _ _ _ t5=>(fY (cV rfl (dm rfl .str rfl q.isinstance (ae 0) rfl q.str GT) (λ_=>rfl)))) (λ_ _ _ _ _ t5=>(ae 1)) (Rp rfl rfl ⋯) ⋯) λ_=>rfl)
abbrev kh:DF:=dv 14 1 3 j7
def KS(D:DI v kh)(q:NB v)(eZ:v.mg "LAST_DATE"=al (.int 99 n8)):D.O:=
 ND D λhr nd kd jP nI=>
 (SF.t6 (cV rfl (dm rfl .str rfl q.isinstance (cy rfl (b9 (ae 0)) (ae 2)) rfl q.str GT) (λ_=>rfl))
 (SF.dD (kK (kH rfl (bA hr)) (cy rfl (b9 (ae 1)) (ae 2)) aq) λ_=>rfl)
 (sv 3 nd (WD rfl rfl rfl q.max (bL (jG rfl ml (gk rfl (dw (cy rfl (b9 (ae 0)) (ae 2)))) (λ_ _ _ _ _=>(lW 0 ml.nd)) (λ_ _ _ _ _ p3=>(cy rfl (b9 (ae 1)) (ae 0))) rfl))) λbelow_1=>
 (SF.dD (JS (kK Ju (ae 3) (cy rfl (b9 (ae 1)) (ae 2))) (yL (JR ym ym aq (cy rfl (b9 (ae 1)) (ae 2)) (O1 eZ rfl)))) λ_=>rfl)))
abbrev k8:DF:=dv 15 4 2 aR
def Hl(D:DI v k8)(q:NB v)(HD:i6.C v)(RS:pN.C v)(HB:i4.C v)(qL:jQ.C v)(sH:eS.C v)(K9:kh.C v):D.O:=
 ND D λhr nd Hw bJ=>
 (SF.t6 (fY (cV rfl (eC HD hr (av 0 au)) (λ_=>rfl)))
 (SF.dD iq λ_=>rfl)
 (sv 2 nd (eC RS hr (av 0 au)) λjK=>
 (SF.t6 (sV.t (tm (fY (cV rfl (eC qL hr (av 1 (af (df rfl rfl q.len (ae 2)) au))) (λ_=>rfl))) (mW (fY (cV rfl (uf rfl rfl rfl q.all (bL (jG rfl kF (gk rfl (dw (ae 1))) (λ_ _ _ _ _=>(lW 0 kF.nd)) (λ_ _ _ _ _ p5=>(eC HB hr (av 0 au))) rfl))) (λ_=>rfl))))))
 (SF.dD iq λ_=>rfl)
 (sl 3 nd (lC sH hr (av 2 (av 1 au))) λp0=>
 SF.cU 3 rfl (SF.t6 (dc (kG rfl (bA hr)) (yM rfl rfl rfl q.len rfl q.set (iG (ae 3))) (df rfl rfl q.len (ae 3)))
 (SF.dD iq λ_=>rfl)
 (SF.dD (uf rfl rfl rfl q.all (bL (jG rfl kE (mq rfl q.range (df rfl rfl q.len (ae 2))) (λ_ _ _ _ _=>(lW 0 kE.nd)) (λ_ _ _ _ _ î=>(eC K9 hr (av 1 (av 2 (av 0 au))))) rfl))) λ_=>rfl))))))
abbrev wI:DF:=(dRD aR)
abbrev jS:DF:=dL 32 1 [.v,.v] 2 eQ
def yi(D:DI v jS)(q:NB v):D.O:=
 mkL D λhr nd dG k_=>
 (sv 2 nd (R6 (SM rfl (bA hr) (iG (ae 0))) (cy rfl (b9 (ae 0)) (kJ (ae 1) (df rfl rfl q.len (ae 0)))) aq) λwL=>
 (sv 3 nd (mJ (kJ (Ub rfl q.abs (ae 2)) (mJ (mJ (JP aq aq) (JP aq aq)) (JP aq aq))) (JO rfl q.int (kK Zs (Ub rfl q.abs (ae 2)) (JP aq aq)))) λfJ=>
 (SF.oi (bj (n:=2) (av 3 (af (kJ (mJ (aO rfl (aO rfl (kJ (ae 2) aq) (mJ (mJ aq (ae 1)) (ae 1))) aq) aq) aq) au)) rfl) λ_=>rfl)))
abbrev cL:DF:=dV 33 1 [.p (ly λ_=>c7) 0,.v] 1 bh
def yh(D:DI v cL):D.O:=
 Vd (n:=1) (fnO (n:=1) (m:=dj) D.fn iE rfl λad cR l hl=>match l,hl with|[hJ],_=>λ_ _ _ _ _ _ hr=>show SF _ _ _ [al (.ol (al ad) cR),al (.val hJ),bn,bn] _ (dj cR hJ) _ from
 (SF.t6 (dc Zr (cy rfl (de 0) aq) aq)
 (sv 2 iE.nd (kJ (cy rfl (de 0) aq) (ae 1)) λJU=>
 (SF.US 0 rfl rfl (.inl rfl) (O2 (cy rfl (de 0) aq) (ae 1)) aq λjL=>
 (SF.Yx 0 (k:=λx5=>(x5,jL)) rfl (ae 2) λ_=>rfl)))
 (SF.US 0 rfl rfl (.inl rfl) (kJ (aO rfl (mJ (cy rfl (de 0) aq) aq) aq) aq) aq λgG=>
 (sv 3 iE.nd (O2 (cy rfl (de 0) aq) aq) λvn=>
 (SF.Yx 0 (k:=λxy=>(xy,gG)) rfl (kJ (O2 (kJ (mJ (ae 3) (ae 3)) aq) aq) (ae 1)) λ_=>rfl))))) (λ_ ns l Q h _=>Ke ns l Q h)
abbrev i7:DF:=dL 34 2 [.p (ly λ_=>c7) 0,.v] 1 dJ
def vw(D:DI v i7)(q:NB v)(aH:cL.C v):D.O:=
 Zf D λj hr nd hJ=>
 (sv 2 nd aN λnv=>
 (SF.par (i:=3) (j:=4) rfl nd rfl rfl ⋯ rfl rfl (eP 0 aH hr (af aq au)) (cy rfl (oj (bj (n:=6) (af aq (af aq (af aq (af aq (af aq (af aq au)))))) rfl)) (eP 0 aH hr (af aq au))) λqQ uJ=>
 (sv 5 nd (cy rfl (oj (bj (n:=3) (af aN (af aN (af aN au))) rfl)) (eP 0 aH hr (af aq au))) λrj=>
 (sl 6 nd (bj (n:=0) au rfl) λqM=>
 (SF.Wm (hd:=(λ(UU:O PV)=>([al (.dE (ly λ_=>c7) (j+0) (j+0)),al (.val hJ),al (.val nv),al (.val qQ),al (.val uJ),al (.val rj),al (.ol bn UU),bn,bn]:aY))) (s0:=qM) BG rfl (mq rfl q.range (ae 1)) (.refl _) (lW 7 nd) (λUU Zq=>
 (sv 8 nd (cy rfl (oj (bj (n:=4) (af aN (af aN (af aN (af aN au)))) rfl)) (eP 0 aH hr (af aq au))) λOV=>
 (SF.append 6 rfl rfl rfl (.inl rfl) (aO rfl (aO rfl (ae 5) (aah (ae 2) (kJ (aO rfl (ae 3) (mJ (ae 4) (ae 7))) aq) (λ_ _=>rfl))) (ae 8)) λyB=>
 (SF.me rfl (.m 384))))) λUU=>
 (SF.Yw 6 rfl rfl))))))
abbrev gT:DF:=dV 35 2 [.p (ly λ_=>c7) 0,.v] 1 dn
def sA(D:DI v gT)(q:NB v)(aH:cL.C v):D.O:=
 Ri D λj hr nd IM=>
 (SF.Ta (i:=2) (j:=3) rfl nd rfl rfl ⋯ rfl rfl (NR rfl rfl q.list (b9 (ae 1))) (eP 0 aH hr (af aq au)) λMr uI=>
 (SF.Wm (hd:=(λ(s5:O PV)=>([al (.dE (ly λ_=>c7) (j+0) (j+0)),al (.val IM),al (.ol bn s5),al (.val uI),bn,bn,bn]:aY))) (s0:=Mr) BG rfl (mq rfl q.range (yK (df rfl rfl q.len (ae 1)) aq)) (.refl _) (lW 4 nd) (λs5 k_6=>
 (sv 5 nd (yK (nR rfl rfl q.len (de 2)) aq) λkI=>
 (sv 6 nd (cy rfl (oj (bj (n:=5) (af aq (av 5 (af (kJ (ae 4) (aO rfl (ae 5) aq)) (af (eP 0 aH hr (af (aO rfl (ae 5) aq) au)) (af (eP 0 aH hr (af (aO rfl (ae 5) aq) au)) au))))) rfl)) (ae 3)) λPo=>
 (SF.Yq 2 rfl rfl (.inl rfl) (bj (n:=1) (af (gS (n:=2) (af (cy rfl (de 2) (ae 6)) (af (cy rfl (de 2) (aO rfl (ae 6) aq)) au)) rfl) au) rfl) (ae 6) (aO rfl (ae 6) aq) λMu=>
 (SF.me rfl (.m 112)))))) λs5=>
 (SF.dD (cy rfl (de 2) aq) λ_=>rfl)))
abbrev ja:DF:=dV 36 3 [.p (ly λ_=>c7) 0,.v] 1 dN
def vB(D:DI v ja)(q:NB v)(aH:cL.C v)(sI:gT.C v)(vP:i7.C v):D.O:=
 Ri D λj hr nd Tf=>
 (sv 2 nd (aO rfl aq (eP 0 aH hr (af (cy rfl (oj (bj (n:=2) (af aq (av 1 au)) rfl)) (JO rfl q.int (kK (kH rfl (bA hr)) (eP 0 aH hr (af aq au)) aq))) au))) λNG=>
 (SF.dD (eP 0 sI hr (af (q8 (lP 0 vP hr (av 2 au))) au)) λ_=>rfl))
abbrev gI:DF:=dL 37 12 [.v] 1 (bb 12)
theorem oA(D:DI v gI)(q:NB v):∀n,bz v.P v.w v.K v.mg v.base jo (n+0) D.f D.fd (rJ (top 37)) (qa v.K [.v] (iB 1 (bb n)))
 |0=>T4 (Qs λl Q hl=>match l,hl with|[eV],_=>λh=>h.elim)
 |n+1=>have dz:=D.cN (oA D q n)
  fnL (k:=n+0) (n:=1) (m:=bb (n+1)) D.fn fD rfl (Jm vi) λ_ l hl=>match l,hl with|[eV],_=>λ_ _ _ _ _ _ hr=>show SF _ _ _ [al (.val eV),bn,bn,bn,bn] _ (bb (n+1) eV) _ from
 (SF.t6 (cV rfl (dm rfl .str rfl q.isinstance (ae 0) rfl q.str GT) (λ_=>rfl))
 (SF.oi (bj (n:=1) (av 0 au) rfl) λ_=>rfl)
 (SF.par (i:=1) (j:=2) rfl fD.nd rfl rfl ⋯ rfl rfl (q8 (lC dz hr (af (cy rfl (b9 (ae 0)) aq) au))) (q8 (lC dz hr (af (cy rfl (b9 (ae 0)) aq) au))) λNk vh=>
 (sv 3 fD.nd (df rfl rfl q.len (ae 1)) λyF=>
 (SF.IT (i:=4) rfl fD.nd rfl rfl jF (gk rfl (dw (ae 2))) (λ_ _ _ _ _=>(lW 0 jF.nd)) (λ_ _ _ _ _ p9=>(R6 (cV rfl (dm rfl .str rfl q.isinstance (ae 0) rfl q.str GT) (λ_=>rfl)) (ae 0) (gS (n:=2) (af (aO rfl (cy rfl (b9 (ae 0)) aq) (ae 1)) (af (aO rfl (cy rfl (b9 (ae 0)) aq) (ae 1)) au)) rfl))) rfl λmf=>
 SF.cU 4 rfl (SF.oi (hV rfl (bL (hV rfl (iG (ae 1)) (iG (ae 4)))) (bL (bj (n:=1) (af (gS (n:=2) (af (yK (ae 3) aq) (af (yK (aO rfl (ae 3) (df rfl rfl q.len (ae 2))) aq) au)) rfl) au) rfl))) λ_=>rfl)))))
abbrev jc:DF:=dV 38 13 [.p (ly λ_=>c7) 0,.v] 1 dQ
def vD(D:DI v jc)(q:NB v)(dz:gI.C v)(aH:cL.C v):D.O:=
 Ri D λj hr nd aP=>
 (sl 2 nd (lC dz hr (av 1 au)) λbt=>
 SF.cU 2 rfl (SF.Ta (i:=3) (j:=4) rfl nd rfl rfl ⋯ rfl rfl (Zi (bj (n:=1) (af aq au) rfl) (df rfl rfl q.len (ae 2))) aq λiX HQ=>
 (sl 6 nd (Ts rfl fh (RE rfl rfl q.enumerate (dw (ae 2))) (λ_ _ _ _ _=>(Xu rfl (kU rfl (cf (lW 0 fh.nd) (cf (lW 1 fh.nd) iJ))))) (λ_ _ _ _ _ é=>(cV rfl (dm rfl .tup rfl q.isinstance (ae 1) rfl q.tuple Pi) (λ_=>rfl))) (λ_ _ _ _ _ é=>(ae 0)) (Rp rfl rfl ⋯) ⋯) λHc=>
 (SF.SG (hd:=(λ(rH:O PV×PV×O PV)=>([al (.dE (ly λ_=>c7) (j+0) (j+0)),al (.val aP),al (.val (.cl bt)),al (.ol bn rH.1),al (.val rH.2.1),bn,al (.ol bn rH.2.2),bn]:aY))) (s0:=(iX,HQ,Hc)) BG (.refl _) (λrH=>(SM rfl (bA hr) (fZ 6))) (λrH=>
 (SF.as (WW 6 rfl (WV (i:=7) rfl nd rfl rfl jh (gk rfl (dw (ae 6))) (λ_ _ _ _ _=>(lW 0 jh.nd)) (λ_ _ _ _ _ YT=>(sV.t (jr (Mb rfl (bA hr) (cy rfl (b9 (cy rfl (b9 (ae 2)) (ae 0))) aq) (b9 (ae 1))) (iC (Mb rfl (bA hr) (cy rfl (b9 (cy rfl (b9 (ae 2)) (ae 0))) aq) (b9 (ae 1))))))) (λ_ _ _ _ _ YT=>(ae 0)) rfl)) λvU=>
 SF.cU 7 rfl (sv 5 nd (cy rfl (b9 (ae 7)) (eP 0 aH hr (af (df rfl rfl q.len (ae 7)) au))) λqH=>
 (sv 4 nd (aO rfl (aO rfl (ae 4) aq) (cy rfl (oj (bj (n:=2) (af aq (af (eP 0 aH hr (af aq au)) au)) rfl)) (eP 0 aH hr (af aq au)))) λwH=>
 (SF.US 3 rfl rfl (.inl rfl) (ae 4) (ae 5) λkL=>
 (SF.remove 6 rfl rfl rfl (.inr (.inl rfl)) (ae 5) λJq=>
 (SF.me rfl (.m 160)))))))) λrH=>
 (SF.dD (wu rfl rfl q.tuple (de 3)) λ_=>rfl)))))
abbrev jR:DF:=dv 39 4 2 (ba 4)
theorem oz(D:DI v jR)(q:NB v):∀n,bz v.P v.w v.K v.mg v.base jo (n+0) D.f D.fd (rJ (top 39)) (n9 v.K [.v,.v] (iB 2 (ba n)))
 |0=>T4 (UP λl Q hl=>match l,hl with|[gX,pe],_=>λh=>h.elim)
 |n+1=>have jM:=D.cN (oz D q n)
  fnV (k:=n+0) (n:=2) (m:=ba (n+1)) D.fn uR rfl (Jm (Jm vi)) λ_ l hl=>match l,hl with|[gX,pe],_=>λ_ _ _ _ _ _ hr=>show SF _ _ _ [al (.val gX),al (.val pe)] _ (ba (n+1) gX pe) _ from
 (SF.t6 (cV rfl (dm rfl .tup rfl q.isinstance (ae 1) rfl q.tuple Pi) (λ_=>rfl))
 (SF.t6 (sV.t (tm (fY (cV rfl (dm rfl .tup rfl q.isinstance (ae 0) rfl q.tuple Pi) (λ_=>rfl))) (mW (dc (kG rfl (bA hr)) (df rfl rfl q.len (ae 0)) (df rfl rfl q.len (ae 1))))))
 (SF.dD iq λ_=>rfl)
 (SF.dD (uf rfl rfl rfl q.all (bL (VN rfl gh (vI rfl rfl q.zip (dw (ae 0)) (dw (ae 1))) (λ_ _ _ _ _=>(Xu rfl (kU rfl (cf (lW 0 gh.nd) (cf (lW 1 gh.nd) iJ))))) (λ_ _ _ _ _ t5=>(eC jM hr (av 0 (av 1 au)))) (Rp rfl rfl ⋯) ⋯))) λ_=>rfl))
 (SF.t6 (dc vG (ae 1) qZ)
 (SF.dD (kK vG (ae 0) qZ) λ_=>rfl)
 (SF.t6 (cV rfl (dm rfl .str rfl q.isinstance (ae 1) rfl q.str GT) (λ_=>rfl))
 (SF.dD (JS (dm rfl .str rfl q.isinstance (ae 0) rfl q.str GT) (yL (kK (kH rfl (bA hr)) (ae 0) (ae 1)))) λ_=>rfl)
 (SF.t6 (sV.t (tm (fY (cV rfl (dm rfl .int rfl q.isinstance (ae 0) rfl q.int boot_int) (λ_=>rfl))) (mW (dc (kG rfl (bA hr)) (dm rfl .bool rfl q.isinstance (ae 0) rfl q.bool boot_bool) (dm rfl .bool rfl q.isinstance (ae 1) rfl q.bool boot_bool)))))
 (SF.dD iq λ_=>rfl)
 (SF.dD (kK (kH rfl (bA hr)) (ae 0) (ae 1)) λ_=>rfl)))))
abbrev jT:DF:=dV 41 2 [.p (ly λ_=>c7) 0,.v,.v] 2 eR
set_option maxHeartbeats 8000000 in
def yj(D:DI v jT)(q:NB v)(aH:cL.C v):D.O:=
 Ri D λj hr nd bF zM=>
 (SF.par (i:=3) (j:=4) rfl nd rfl rfl ⋯ rfl rfl (eP 0 aH hr (af (aO rfl (df rfl rfl q.len (ae 1)) aq) au)) (eP 0 aH hr (af (aO rfl (df rfl rfl q.len (ae 1)) aq) au)) λWT Oz=>
 (sv 5 nd (cy rfl (b9 (ae 2)) (eP 0 aH hr (af (df rfl rfl q.len (ae 2)) au))) λkS=>
 (SF.par (i:=3) (j:=4) rfl nd rfl rfl ⋯ rfl rfl (aaf rfl rfl q.min (ae 3) (ae 4)) (Ua rfl rfl q.max (ae 3) (ae 4)) λgK k7=>
 (sl 6 nd (bj (n:=3) (af (fy (ae 1) cE (bG (ae 3))) (af (aO rfl (fy (ae 1) cE (bG (ae 3))) (fy (ae 1) (bG (aO rfl (ae 3) aq)) cE)) (af (aO rfl (aO rfl (fy (ae 1) cE (bG (ae 3))) (ae 5)) (fy (ae 1) (bG (ae 3)) cE)) au))) rfl) λIL=>
 (SF.append 6 rfl rfl rfl (.inl rfl) (aO rfl (aO rfl (fy (ae 1) cE (bG (ae 3))) (ae 5)) (fy (ae 1) (bG (aO rfl (ae 3) aq)) cE)) λIK=>
 (sv 7 nd (aO rfl (aO rfl (ae 5) (fy (ae 1) (bG (aO rfl (ae 3) aq)) (bG (ae 4)))) (ae 5)) λtP=>
 (SF.append 6 rfl rfl rfl (.inl rfl) (aO rfl (aO rfl (fy (ae 1) cE (bG (ae 3))) (ae 7)) (fy (ae 1) (bG (ae 4)) cE)) λIJ=>
 (sl 6 nd (hV rfl (fZ 6) (bL (bj (n:=1) (af (aO rfl (aO rfl (fy (ae 1) cE (bG (ae 3))) (fy (ae 1) (bG (ae 4)) cE)) (fy (ae 1) (bG (ae 3)) (bG (ae 4)))) au) rfl))) λII=>
 (sl 6 nd (hV rfl (fZ 6) (bL (bj (n:=2) (af (aO rfl (ae 1) (fy (ae 1) (bG (ae 3)) (bG (ae 4)))) (af (aO rfl (fy (ae 1) cE (bG (ae 4))) (fy (ae 1) (bG (ae 3)) cE)) au)) rfl))) λIH=>
 (sl 6 nd (hV rfl (fZ 6) (bL (bj (n:=2) (af (aO rfl (ae 1) (ae 5)) (af (aO rfl (ae 5) (ae 1)) au)) rfl))) λuN=>
 (SF.dD (cy rfl (de 6) (eP 0 aH hr (af (nR rfl rfl q.len (de 6)) au))) λ_=>rfl)))))))))))
abbrev jb:DF:=dv 42 1 1 dP
def vC(D:DI v jb)(q:NB v):D.O:=
 ND D λhr nd bF=>
 (sv 1 nd aN λzw=>
 (SF.TZ (hd:=(λ(s2:PV)=>([al (.val bF),al (.val s2),bn,bn]:aY))) (s0:=zw) (inj:=id) BG rfl (N4 rfl q.enumerate (ae 0)) (.refl _) (λ_=>(Xu rfl (kU rfl (cf (lW 2 nd) (cf (lW 3 nd) iJ))))) (λ_=>trivial) (λs2 t4=>
 (SF.TH (sV.t (jr (dc (N1 rfl) (ae 3) aN) (jr (dc (kG rfl (bA hr)) (ae 1) aN) (iC (dc Ju (df rfl rfl q.len (ae 1)) aq)))))
 (sv 1 nd (aO rfl (ae 1) (ae 3)) λLZ=>
 (SF.me rfl (.m 12)))
 (SF.TH (sV.t (jr (dc (kH rfl (bA hr)) (ae 3) aN) (iC (dc (kG rfl (bA hr)) (ae 1) aN))))
 (sv 1 nd aN λLY=>
 (SF.me rfl (.m 12)))
 (SF.ret (k:=λx7=>(Lp.out x7)) (ae 2) λ_=>rfl)))) λs2=>
 (SF.dD (R6 (dc (kH rfl (bA hr)) (ae 1) aN) (df rfl rfl q.len (ae 0)) qZ) λ_=>rfl)))
abbrev eK:DF:=dv 43 13 2 cG
def nC(D:DI v eK)(q:NB v)(dz:gI.C v):D.O:=
 ND D λhr nd aP bU=>
 (sl 2 nd (lC dz hr (av 0 au)) λbt=>
 SF.cU 2 rfl (SF.t6 (dc (kG rfl (bA hr)) (df rfl rfl q.len (ae 1)) (df rfl rfl q.len (ae 2)))
 (SF.dD iq λ_=>rfl)
 (SF.UR (i:=5) rfl nd rfl rfl dh (vI rfl rfl q.zip (dw (ae 1)) (dw (ae 2))) (λ_ _ _ _ _=>(Xu rfl (kU rfl (cf (lW 0 dh.nd) (cf (lW 1 dh.nd) iJ))))) (λ_ _ _ _ _ t8=>(cV rfl (dm rfl .tup rfl q.isinstance (ae 1) rfl q.tuple Pi) (λ_=>rfl))) (λ_ _ _ _ _ t8=>(ae 0)) (Rp rfl rfl ⋯) ⋯ λmw=>
 SF.cU 5 rfl (SF.t6 (sV.t (tm (dc (kG rfl (bA hr)) (yM rfl rfl rfl q.len rfl q.set (iG (ae 5))) (df rfl rfl q.len (ae 5))) (mW (fY (cV rfl (uf rfl rfl rfl q.all (bL (jG rfl fk (gk rfl (dw (ae 5))) (λ_ _ _ _ _=>(lW 0 fk.nd)) (λ_ _ _ _ _ ï=>(JR Ju Ju aq (ae 0) aq)) rfl))) (λ_=>rfl))))))
 (SF.dD iq λ_=>rfl)
 (SF.TZ (hd:=(λ(rH:Unit)=>([al (.val aP),al (.val bU),al (.val (.cl bt)),bn,bn,al (.val (.cl mw))]:aY))) (s0:=()) (inj:=id) BG rfl (vI rfl rfl q.zip (dw (ae 1)) (dw (ae 2))) (.refl _) (λ_=>(Xu rfl (kU rfl (cf (lW 3 nd) (cf (lW 4 nd) iJ))))) (λ_=>trivial) (λrH UJ=>
 (SF.t6 (sV.t (jr (cV rfl (dm rfl .str rfl q.isinstance (ae 4) rfl q.str GT) (λ_=>rfl)) (iC (dc (kG rfl (bA hr)) (ae 3) aq))))
 (SF.ret (k:=λxw=>(Lp.out xw)) iq λ_=>rfl)
 (SF.TH (sV.t (jr (cV rfl (dm rfl .tup rfl q.isinstance (ae 4) rfl q.tuple Pi) (λ_=>rfl)) (iC (dc ym (ae 3) (Ua rfl rfl q.max (cy rfl (b9 (ae 1)) (cy rfl (b9 (ae 4)) aq)) (cy rfl (b9 (ae 1)) (cy rfl (b9 (ae 4)) aq)))))))
 (SF.ret (k:=λQe=>(Lp.out Qe)) iq λ_=>rfl)
 (SF.me rfl (.m 24))))) λrH=>
 (SF.dD iq λ_=>rfl))))))
abbrev i9:DF:=dL 44 2 [.p (ly λ_=>c7) 0,.v] 1 dM
def vA(D:DI v i9)(q:NB v)(aH:cL.C v):D.O:=
 Zf D λj hr nd bU=>
 (SF.IT (i:=2) rfl nd rfl rfl jg (gk rfl (dw (ae 1))) (λ_ _ _ _ _=>(lW 0 jg.nd)) (λ_ _ _ _ _ p3=>(OY rfl hr rfl q.str (ae 0))) rfl λaV=>
 (SF.par (i:=3) (j:=4) rfl nd rfl rfl ⋯ rfl rfl (eP 0 aH hr (af (nR rfl rfl q.len (de 2)) au)) (eP 0 aH hr (af (nR rfl rfl q.len (de 2)) au)) λsS kI=>
 (sl 5 nd (bj (n:=12) (af aN (af aN (af aN (af aN (af aN (af aN (af aN (af aN (af aN (af aN (af aN (af aN au)))))))))))) rfl) λTd=>
 SF.cU 5 rfl (sl 5 nd (hV rfl (iG (ae 5)) (bL (bj (n:=2) (af (cy rfl (de 2) (ae 4)) (af (aO rfl (cy rfl (de 2) (ae 3)) aN) au)) rfl))) λGX=>
 SF.cU 5 rfl (sv 6 nd (eP 0 aH hr (af aq au)) λuG=>
 (SF.t6 (dc (kH rfl (bA hr)) (ae 6) aq)
 (SF.oi (hV rfl (bL (He rfl (fZ 2) cE (bG (ae 3)))) (bL (He rfl (fZ 2) (bG (aO rfl (ae 3) aq)) cE))) λ_=>rfl)
 (SF.t6 (dc (kH rfl (bA hr)) (ae 6) aq)
 (SF.oi (hV rfl (bL (hV rfl (bL (He rfl (fZ 2) cE (bG (ae 3)))) (bL (bj (n:=1) (af (cy rfl (b9 (ae 5)) (eP 0 aH hr (af aq au))) au) rfl)))) (bL (He rfl (fZ 2) (bG (ae 3)) cE))) λ_=>rfl)
 (SF.t6 (dc (kH rfl (bA hr)) (ae 6) aq)
 (SF.acN 2 rfl rfl rfl rfl (.inl rfl) (gS (n:=2) (af (cy rfl (de 2) (ae 4)) (af (cy rfl (de 2) (ae 3)) au)) rfl) (ae 3) (λl53=>(ae 4)) λkC=>
 (SF.Yw 2 rfl rfl))
 (SF.oi (hV rfl (bL (hV rfl (bL (He rfl (fZ 2) cE (bG (ae 3)))) (bL (bj (n:=1) (af (cy rfl (b9 (ae 5)) (eP 0 aH hr (af aq au))) au) rfl)))) (bL (He rfl (fZ 2) (bG (aO rfl (ae 3) aq)) cE))) λ_=>rfl)))))))))
def hU:PM (rK (top 45)) (ak (top 45)) UT [0] ["_law_great_here"]:=by decide +kernel
abbrev i8:DF:=dv 45 14 2 cF
def vz(D:DI v i8)(hc:sW v.K v.mg D.fd.code P)(hP:kN P "_law_right.<locals>.<lambda>")(bR:PlK v.P v.w v.K v.mg aR)(q:NB v)(vS:jb.C v)(nN:eK.C v)(jM:jR.C v)(vO:wI.C v):D.O:=
 Ze D hc λhL hr nd aP bF=>
 (sv 2 nd (eC vS hr (av 1 au)) λJT=>
 (sv 3 nd (R6 (dc vG (ae 2) qZ) (wu rfl rfl q.tuple (oj (jG rfl je (gk rfl (TJ (Rr rfl (ae 1) aN))) (λ_ _ _ _ _=>(lW 0 je.nd)) (λ_ _ _ _ _ p8=>(WE rfl q.int (ae 0))) rfl))) (gS (n:=0) au rfl)) λcS=>
 (SF.ifS (out1:=λ(SY:PV)=>.nx ([al (.val aP),al (.val bF),al (.val SY),al (.val cS)]:aY)) (sV.t (jr (dc vG (ae 2) qZ) (iC (fY (cV rfl (eC nN hr (av 0 (av 3 au))) (λ_=>rfl))))))
 (sv 2 nd (df rfl rfl q.len (ae 1)) λO5=>
 (SF.nil rfl (.refl _)))
 (SF.nil rfl (.refl _))
 λSY=>(SF.t6 (dc (kG rfl (bA hr)) (ue (qs:=[aP]) (k1:=[]) (k2:=[.v]) (m:=iB 1 (NJ aR aP)) (ys:=["_law_great_here"]) bR.bi bR.kp bR.at' (λb a us fz LI hl=>bR.ok b a us fz aP LI hl (λ_ _ _ _=>usN (by (repeat intro _);rfl))) (λ_=>rfl) hU rfl hr (Pr (is:=[0]) (qs:=[aP]) "_law_right.<locals>.<lambda>" ["_law_great_here"] hL hP hU (av 1 au))) (ae 2))
 (SF.dD iq λ_=>rfl)
 (SF.dD (aet (kK Rz (ae 2) qZ) (yL (eC jM hr (af (eC vO hr (av 0 (av 1 au))) (av 3 au))))) λ_=>rfl)))))
def tU:PM (rK (top 46)) (ak (top 46)) UT [9] ["_law_great_here"]:=by decide +kernel
abbrev Uc:DF:=dv 46 15 1 qw
def Zp(D:DI v Uc)(hc:sW v.K v.mg D.fd.code P)(hP:kN P "law.<locals>.<lambda>")(bR:PlK v.P v.w v.K v.mg aR)(q:NB v)(yu:jS.C v)(vR:ja.C v)(vT:jc.C v)(iU:i8.C v)(yw:jT.C v)(vQ:i9.C v):D.O:=
 Ze D hc λhL hr nd dG=>
 (sl 1 nd (bj (n:=13) (af aN (af aN (af aN (af aN (af aN (af aN (af aN (af aN (af aN (af aN (af aN (af aN (af aN au))))))))))))) rfl) λIQ=>
 SF.cU 1 rfl (sl 1 nd (hV rfl (iG (ae 1)) (bL (bj (n:=3) (af aN (af aN (af aN au))) rfl))) λjw=>
 SF.cU 1 rfl (SF.Ov (hd:=(λ(ì:Unit)=>([al (.val dG),al (.val (.cl jw)),bn,bn,bn,bn,bn,bn,bn,bn]:aY))) (s0:=()) (inj:=id) BG rfl (mq rfl q.range (aO rfl aq (nR rfl rfl q.len (oj (He rfl (iG (ae 0)) cE (bG aq)))))) (.refl _) (lW 2 nd) (λ_=>trivial) (λì Rx=>
 (sl 3 nd (lC yu hr (av 0 (av 2 au))) λmB=>SF.dE (G:=(λ_=>c7)) 3 0 rfl
 (sv 9 nd (eP 3 vR hr (af aq au)) λbf=>
 (sv 4 nd (eP 3 vT hr (av 9 au)) λcq=>
 (sv 5 nd (JQ rfl aN (jG rfl ye (gk rfl (dw (ae 4))) (λ_ _ _ _ _=>(lW 0 ye.nd)) (λ_ _ _ _ _ p36=>(OY rfl hr rfl q.str (ae 0))) rfl)) λjY=>
 (SF.Ov (hd:=(λ(ë:Unit)=>([al (.val dG),al (.val (.cl jw)),al (.val Rx),al (.dE (ly λ_=>c7) (0+0) 0),al (.val cq),al (.val jY),bn,bn,bn,al (.val bf)]:aY))) (s0:=()) (inj:=Lp.out) BG rfl (mq rfl q.range aq) (.refl _) (lW 6 nd) (λ_=>trivial) (λë Qj=>
 (SF.t6 (fY (cV rfl (eC iU hr (av 9 (af (eP 3 yw hr (av 5 (av 1 au))) au))) (λ_=>rfl)))
 (SF.ret (k:=λXR=>(Lp.out XR)) iq λ_=>rfl)
 (SF.TH (fY (cV rfl (eC iU hr (av 9 (af (JQ rfl aN (lP 3 vQ hr (av 4 au))) au))) (λ_=>rfl)))
 (SF.ret (k:=λXO=>(Lp.out XO)) iq λ_=>rfl)
 (SF.me rfl (.m 64))))) λë=>
 (SF.Ov (hd:=(λ(ê:Unit)=>([al (.val dG),al (.val (.cl jw)),al (.val Rx),al (.dE (ly λ_=>c7) (0+0) 0),al (.val cq),al (.val jY),bn,bn,bn,al (.val bf)]:aY))) (s0:=()) (inj:=Lp.out) BG rfl (gk rfl (dw (gS (n:=11) (af qZ (af iq (af aq (af aq (af (gS (n:=0) au rfl) (af (q8 (bj (n:=0) au rfl)) (af (aeu aam) (av 4 (af (q8 (NR rfl rfl q.list (b9 (ae 4)))) (af (q8 (bj (n:=1) (av 5 au) rfl)) (af (gS (n:=1) (av 5 au) rfl) au))))))))))) rfl))) (.refl _) (lW 7 nd) (λ_=>trivial) (λê xF=>
 (SF.TH (dc (kG rfl (bA hr)) (ue (qs:=[bf]) (k1:=[]) (k2:=[.v]) (m:=iB 1 (NJ aR bf)) (ys:=["_law_great_here"]) bR.bi bR.kp bR.at' (λb a us fz LI hl=>bR.ok b a us fz bf LI hl (λ_ _ _ _=>usN (by (repeat intro _);rfl))) (λ_=>rfl) tU rfl hr (Pr (is:=[9]) (qs:=[bf]) "law.<locals>.<lambda>" ["_law_great_here"] hL hP tU (av 7 au))) aq)
 (SF.ret (k:=λx71=>(Lp.out x71)) iq λ_=>rfl)
 (SF.me rfl (.m 128)))) λê=>
 (SF.me rfl (.m 572))))))))) λì=>
 (sl 8 nd (bj (n:=9) (af aN (af aN (af aN (af aN (af aN (af aN (af aN (af aN (af aN au))))))))) rfl) λIG=>
 SF.cU 8 rfl (sl 8 nd (hV rfl (iG (ae 8)) (bL (bj (n:=3) (af aN (af aN (af aN au))) rfl))) λIE=>
 SF.cU 8 rfl (SF.dD (uf rfl rfl rfl q.all (bL (jG rfl yd (gk rfl (dw (ae 8))) (λ_ _ _ _ _=>(lW 0 yd.nd)) (λ_ _ _ _ _ p93=>(eC iU hr (af (gS (n:=2) (af aN (af aN au)) rfl) (av 0 au)))) rfl))) λ_=>rfl))))))
end
end My
namespace FL
section
variable[bD]
structure Uo(K:Aa)(mg:Str->Option ce)(d:DF)(P:db):Prop where
 f:∀v:EV,v.K=K->v.mg=mg->∀D:DI v d,sW v.K v.mg D.fd.code P->D.O
def mkAllC{l:PySem.W.OpenLaw}{K:Aa}{st:ut}{m:PV->W PV}(ok:∀ns:O Int,ns.length<=63->(m (.cl (ns.map PV.int))).run (·=.bl true))(X:K.In h)(G:h.Ns ii mg)(hfa:mg "law"=al (.ref fa))(aag:DXc K "law" st P)(hb:∀(kV Ç pm:ce) (an:Option db) (bX ct:ce) (us:O ce),us.length=1->SB (Bj "law" "law" (cz st) (a9 st) (ak st) .none kV Ç pm an bX ct) ⟨us,[]⟩=pure (([("_law_script":Str)]:O Str).zip us))(F:Uo K mg ⟨"law",st,["_law_script"],k,λK=>n9 K [.v] (iB 1 m)⟩ P):∃fd:wp,(∀(s:gt) (v:ce),BindsTo s fd ⟨[v],[]⟩ [("_law_script",v)])/\∀base:nn,K.In base->base.Ns ii mg->bz l.prog w K mg base jo k fa fd ["_law_script"] (Mf K):=by
 obtain⟨f,fd,a,F',c,hc,hd,_⟩:=aag.ex;have e:=hfa.symm.trans (Bg X G a);cases e;obtain⟨oc,od,kV,Ç,pm,an,bX,ct,Ku,rfl,_⟩:=id F'.ex;exact⟨Bj "law" "law" (cz st) (a9 st) (ak st) .none kV Ç pm an bX ct,λs v=>.of_eq (hb kV Ç pm an bX ct [v] rfl),λbase _ _=>(F.f ⟨l.prog,w,K,mg,base⟩ rfl rfl ⟨_,_,F',(F'.binds (ps:=["_law_script"]) hb),hfa⟩ ⟨⟨c,hc,hd⟩⟩).imp (Rq ok)⟩
end
end FL
namespace My
def LO(t:Tr)(ds:O Int)(j:Nat):Bool:=match en t 0 j with
 |.word _=>ds.getD j 0==0
 |.pair a b=>decide (ds.getD a 0<ds.getD j 0)&&decide (ds.getD b 0<ds.getD j 0)&&decide (1<=ds.getD j 0)&&decide (ds.getD j 0<=99)
def jv(t:Tr)(ds:O Int):O Int:=(splits t).map (ds.getD · 0)
def hX(t:Tr)(ds:O Int):Bool:=decide (ds.length=t.size)&&(decide (jv t ds).Nodup&&(AW t.size).all (LO t ds))
def int_at(h:j<ds.length):fB (cm ds) (j:Int)=al (.int (ds.getD j 0)):=mP (by
 unfold cm;rw[An,Af h,AX,Af h];rfl)
theorem Up(t:Tr)(ds:O Int)(h:ds.length=t.size):kj ((t.nd 0).map Ent.pv) (cm ds)=(AW t.size).map λj=>PV.tup [(en t 0 j).pv,.int (ds.getD j 0)]:=by
 refine C8 λj=>?_;by_cases hj:j<t.size
 .have hl:j<(kj ((t.nd 0).map Ent.pv) (cm ds)).length:=by rw[iy];simp[t.bH,h];exact hj
  obtain⟨x,y,hx,hy,e⟩:=lI (Af hl);rw[An,qq t 0 j hj]at hx;have Od:j<ds.length:=by omega
  unfold cm at hy;rw[An,Af Od]at hy;rw[Af hl,e,<- (Option.some.inj hx),<- (Option.some.inj hy),An,Dp hj];show _=al (PV.tup [_,.int (ds.getD j 0)]);rw[AX,Af Od];rfl
 .rw[A6 (by rw[iy];simp[t.bH,h];lia),A6 (by simp;lia)]
theorem split_le(t:Tr)(ds:O Int)(h:ds.length=t.size)(hz:t.size<=900):eN (.tup ((t.nd 0).map Ent.pv)) (.tup (cm ds))=.ret (cm (jv t ds)):=by
 unfold eN;have c:((t.nd 0).map Ent.pv).length<=sizeLine:=a6 (by rw[Am,t.bH];lia);simp only[re,cZ,uC,wf c,Up t ds h];rw[Hd (g:=λx=>match x with|.tup [.str _,_]=>bn|.tup [_,y]=>al y|_=>bn) λx hx=>?_]
 .congr 1;unfold jv splits cm;generalize AW t.size=l
  induction l with
  |nil=>rfl
  |cons j l ih=>
   rw[A4,Bm,DV,ih];cases e:en t 0 j with
   |word w=>rfl
   |pair a b=>rfl
 .obtain⟨j,hj,rfl⟩:=AR.mp hx;cases en t 0 j with
  |word w=>simp[Ent.pv]
  |pair a b=>simp[Ent.pv]
theorem Sb(t:Tr)(ds:O Int)(h:ds.length=t.size)(j:Nat)(hj:j<t.size):j7 (.tup ((t.nd 0).map Ent.pv)) (.tup (cm ds)) (.int (j:Int))=.ret (.bl (LO t ds j)):=by
 unfold j7 LO;simp only[re,cZ,dU,Nx t hj,int_at (ds:=ds) (j:=j) ∅,TD];cases e:en t 0 j with
 |word w=>simp[Ent.pv]
 |pair a b=>
  obtain⟨ha,hb⟩:=kg t hj e;have ia:fB (cm ds) a=al (.int (ds.getD a 0)):=int_at ∅;have ib:fB (cm ds) b=al (.int (ds.getD b 0)):=int_at ∅;have em:c9 [PV.int (a:Int),PV.int (b:Int)] (λp=>ixW (cm ds) p)=.ret ([ds.getD a 0,ds.getD b 0].map PV.int):=by
   show am _ _=_;simp only[dU,ia,TD,re];show am (am _ _) _=_;simp only[dU,ib,TD,re];rfl
  have e2:xZ ([ds.getD a 0,ds.getD b 0].map PV.int)=.ret (.int (max (ds.getD a 0) (ds.getD b 0))):=by
   unfold xZ;rw[hZ];show W.d8 _ _=_;rw[wf (by simp)];rfl
  simp only[Ent.pv,iW,mI,bS,re,if_false,cZ,em,e2,OK,OL,yH,WB];generalize ds.getD a 0=x;generalize ds.getD b 0=y;generalize ds.getD j 0=z;by_cases c1:x<z<;>by_cases c2:y<z<;>by_cases c3:1<=z<;>by_cases c4:z<=99<;>simp[c1,c2,c3,c4]<;>lia
theorem Dt.isD(D:Dt t ds [] d)(h:d<=99):hX t ds=true:=by
 unfold hX;rw[AB,AB,decide_eq_true_iff,decide_eq_true_iff];refine⟨D.len,?_,Bq.mpr λj hj=>?_⟩
 .unfold jv;have hp:(splits t).Pairwise (· < ·):=by unfold splits;exact List.Pairwise.filter _ DM
  rw[List.nodup_iff_pairwise_ne,EY];refine List.Pairwise.imp_of_mem (λ{x y} hx hy lt e=>?_) hp;obtain⟨x1,x2⟩:=BH.mp hx;obtain⟨y1,y2⟩:=BH.mp hy;have:=D.inj x y (Bp.mp x1) (Bp.mp y1) (by simp) (by simp) x2 y2 e;lia
 .have hj':=Bp.mp hj;unfold LO;cases e:en t 0 j with
  |word w=>
   rw[D.zero j hj' (.inl (by rw[e];rfl))];rfl
  |pair a b=>
   obtain⟨_,_,h1,h2,h3,h4⟩:=D.up j hj' (by simp) a b e;show(decide (ds.getD a 0<ds.getD j 0)&&decide (ds.getD b 0<ds.getD j 0)&&decide (1<=ds.getD j 0)&&decide (ds.getD j 0<=99))=true;rw[decide_eq_true h1,decide_eq_true h2,decide_eq_true h3,decide_eq_true ∅];rfl
theorem RF(h:hX t ds=true):∀x∈ds,0<=x:=λx hx=>by
 unfold hX at h;rw[AB,AB,decide_eq_true_iff,decide_eq_true_iff]at h;obtain⟨h1,_,h3⟩:=h;obtain⟨j,hj,rfl⟩:=Ge hx;have:=Bq.mp h3 j (Bp.mpr ∅);have e:ds.getD j 0=ds[j]:=by rw[AX,Af hj];rfl
 unfold LO at this;rw[<- e];cases e:en t 0 j with
 |word w=>
  rw[e]at this;rw[eq_of_beq this];exact GO _
 |pair a b=>
  rw[e]at this;have this:=this;rw[AB,AB,AB,decide_eq_true_iff,decide_eq_true_iff,decide_eq_true_iff,decide_eq_true_iff]at this;lia
theorem rg:∀(t:Tr) (o:Nat),(t.nd o).countP mr+1=t.a8.length
 |.leaf _,_=>rfl
 |.node l r,o=>by
  have h1:=rg l o;have h2:=rg r (o+l.size);rw[Tr.nd,List.countP_append,List.countP_append];show _+(List.countP mr [Ent.pair _ _])+1=(l.a8++r.a8).length;simp[mr];lia
theorem VC(t:Tr):t.nd 0=(AW t.size).map (en t 0):=by
 refine C8 λj=>?_;by_cases h:j<t.size
 .rw[qq t 0 j h,An,Dp h];rfl
 .rw[A6 (by rw[t.bH];lia),A6 (by simp;lia)]
def zK(t:Tr):(splits t).length+1=t.a8.length:=by
 rw[<- rg t 0,VC t,List.countP_map];unfold splits;rw[<- List.countP_eq_length_filter];rfl
end My
variable{Q:PL.PV->Prop}
namespace My
theorem vE{ws:O Str}(hw:ws≠[])(h8:ws.length<=100)(q:∀t:Tr,t.a8=ws->Q t.pv):(dn (.cl (ws.map PV.str))).run Q:=by
 have wl:0<ws.length:=Bx.mpr hw;unfold dn;simp only[re,lw,fK,sw,cj 5 ⋯ ⋯,fN,HG,Am,mG];refine aZ λw w0 w1=>?_;simp only[wf (gZ (i:=0) (j:=(ws.length:Int)-1) ∅ ∅),sw];refine yC (λi s=>∃ts:O Tr,s=ts.map Tr.pv/\ts.length+i=ws.length/\ts.flatMap Tr.a8=ws) ⟨ws.map Tr.leaf,by simp[Tr.pv],by simp,by simp[List.flatMap_map,Tr.a8,List.flatMap_singleton']⟩ ?_ ?_
 .rintro i s hi ⟨ts,rfl,hl,hp⟩;have h2:2<=ts.length:=by lia
  have f0:(0:Int)<(ts.length:Int)-2+1:=by lia
  simp only[re,lw,v8,Am,HG,sw,da,vZ,wf f0,cj ((ts.length:Int)-2+1) f0 ∅];refine aZ λd d0 d1=>aZ λe e0 e1=>?_;have m0:=Cr ((i:Int)) (show(ts.length:Int)-2+1≠0 by lia);have m1:=Cb ((i:Int)) f0;obtain⟨a,ha,a1⟩:∃a:Nat,fB [PV.int 0,PV.int ((ts.length:Int)-2),PV.int (((i:Int)) % ((ts.length:Int)-2+1)),PV.int d,PV.int e] w=al (.int (a:Int))/\a+1<ts.length:=by
   have:w=0\/w=1\/w=2\/w=3\/w=4:=by lia
   rcases this with rfl|rfl|rfl|rfl|rfl
   .exact⟨0,rfl,by lia⟩
   .exact⟨ts.length-2,by show al (PV.int ((ts.length:Int)-2))=_;congr 2;lia,by lia⟩
   .exact⟨(((i:Int)) % ((ts.length:Int)-2+1)).toNat,by show al (PV.int _)=_;rw[Ek m0],by lia⟩
   .exact⟨d.toNat,by show al (PV.int d)=_;rw[Ek d0],by lia⟩
   .exact⟨e.toNat,by show al (PV.int e)=_;rw[Ek e0],by lia⟩
  obtain⟨as,x,y,bs,rfl,hk⟩:=WS a1;have i0:fB ((as++x::y::bs).map Tr.pv) (a:Int)=al x.pv:=mP (by rw[An,A5 ∅];simp[hk]);have i1:fB ((as++x::y::bs).map Tr.pv) ((a:Int)+1)=al y.pv:=by
   have:((a:Int)+1)=((a+1:Nat):Int):=by push_cast;rfl
   rw[this];exact mP (by rw[An,A5 ∅];simp[hk])
  simp only[dU,ha,TD,sw,i0,i1,da,re];rw[Ag,Ap,Ap]at hl;refine⟨⟨by lia,by lia,?_,a6 ?_⟩,?_⟩
  .rw[Am,Ag,Ap,Ap];push_cast;lia
  .rw[Am,Ag,Ap,Ap];simp;lia
  .have e:((as++x::y::bs).map Tr.pv).take (a:Int).toNat++[.tup [x.pv,y.pv]]++((as++x::y::bs).map Tr.pv).drop ((a:Int)+2).toNat=(as++.node x y::bs).map Tr.pv:=by
    have t1:(a:Int).toNat=as.length:=by lia
    have t2:((a:Int)+2).toNat=as.length+2:=by lia
    rw[t1,t2,<- List.map_take,<- List.map_drop,List.take_left' rfl];have:(as++x::y::bs).drop (as.length+2)=bs:=by
     rw[show as++x::y::bs=(as++[x,y])++bs by simp,List.drop_left' (by simp)]
    rw[this];simp[Tr.pv]
   refine⟨as++.node x y::bs,e,by simp;lia,?_⟩;rw[<- hp];simp[CJ,List.flatMap_cons,Tr.a8]
 .rintro s ⟨ts,rfl,hl,hp⟩;have h1:ts.length=1:=by lia
  match ts,h1 with
  |[t],_=>
   have:t.a8=ws:=by simpa using hp
   exact q t this
structure Py(t:Tr):Prop where
 ws:t.Ws
 nd:t.a8.Nodup
 few:t.a8.length<=8
theorem yr(q:∀t:Tr,Py t->Q t.pv):(dN (.int 8)).run Q:=by
 unfold dN;simp only[re,lw,cj 8 ⋯ ⋯];refine aZ λd d0 d1=>?_;obtain⟨n,hn,n0,n1⟩:∃n:Int,fB [PV.int 5,PV.int 8] (if (d==0)=true then 1 else 0)=al (.int n)/\0<n/\n<=8:=by
  by_cases h:d=0
  .subst h;exact⟨8,rfl,by decide,by decide⟩
  .have e:(d==0)=false:=by simpa using h
   rw[e];exact⟨5,rfl,by decide,by decide⟩
 simp only[wj,sw,JM,dU,hn,TD,cj n n0 ∅];refine aZ λk k0 k1=>?_;simp only[da,sw];refine xA ∅ ∅ λws hl hw hd=>?_;refine vE (λz=>by rw[z]at hl;simp at hl;lia) ∅ λt ht=>q t ⟨λx hx=>hw x (ht▸hx),by rw[ht];exact hd,by rw[ht,hl];lia⟩
theorem tQ{f:PV->W PV}{S:PV->Prop}:∀{l:O PV},(∀x∈l,∀R:PV->Prop,(∀v,S v->R v)->(f x).run R)->∀{Q:O PV->Prop},(∀m,m.length=l.length->(∀v∈m,S v)->Q m)->(c9 l f).run Q
 |[],_,Q,q=>q [] rfl (λ_ h=>nomatch h)
 |x::l,h,Q,q=>by
  show(am (f x) λy=>am (c9 l f) λm=>ap (y::m)).run Q;simp only[lw];refine h x (.head _) _ λv hv=>?_;refine tQ (λy hy=>h y (.tail _ hy)) λm hm hs=>?_;exact q (v::m) (by simp[hm]) λu hu=>by
   rcases Au.mp hu with rfl|hu
   .exact hv
   .exact hs u hu
theorem Py.size(g:Py t):t.size<=15:=by have:=t.size_eq;have:=g.few;lia
theorem Py.depth(g:Py t):t.depth<8:=by have:=t.q9;have:=g.few;lia
theorem mi:∀(n:Nat) (t:Tr),t.depth<n->t.size<=400->(bb n t.pv).le (.ret ((t.nd 0).map Ent.pv))
 |0,_,h,_=>by lia
 |n+1,.leaf w,_,_=>λQ q=>by
  unfold bb;simp[Tr.pv];exact q
 |n+1,.node a b,h,hz=>λQ q=>by
  have hs:(Tr.node a b).size=a.size+b.size+1:=rfl;have hpa:=a.size_pos;have hpb:=b.size_pos;have hd:a.depth<n/\b.depth<n:=by simp[Tr.depth]at h;lia
  unfold bb;have i0:fB [a.pv,b.pv] 0=al a.pv:=rfl;have i1:fB [a.pv,b.pv] 1=al b.pv:=rfl;simp only[Tr.pv,re,lw,iW,mI,bS,Aq,if_false,cZ,dU,i0,i1,TD,yz];refine W.le.use (mi n a hd.1 ∅) ?_;simp only[sw];refine W.le.use (mi n b hd.2 ∅) ?_;simp only[sw,fK,fN,Am,a.bH,b.bH];rw[iP (g:=λx=>match x with|.tup [.int u,.int v]=>.tup [.int (u+a.size),.int (v+a.size)]|x=>x) λx hx=>?_]
  .have e5:(((b.nd 0).map Ent.pv).map λx=>match x with|.tup [.int u,.int v]=>PV.tup [.int (u+a.size),.int (v+a.size)]|x=>x)=(b.nd a.size).map Ent.pv:=by
    have es:(b.nd 0).map (shf a.size)=b.nd a.size:=by rw[<- G0 b 0 a.size,Fu]
    rw[<- es,BJ,BJ];refine Dm λe _=>?_;cases e with
    |word w=>rfl
    |pair u v=>simp[shf,Ent.pv]
   rw[e5];simp only[sw,re,lw,fM,HG,da,Pa (l:=(a.nd 0).map Ent.pv) (m:=(b.nd a.size).map Ent.pv) (by simp[a.bH,b.bH];lia)];rw[Pa (by simp[a.bH,b.bH];lia)];have e:(Tr.node a b).nd 0=a.nd 0++b.nd a.size++[.pair (a.size-1) (a.size+b.size-1)]:=by rw[Tr.nd];simp
   rw[e]at q;have e1:((a.size:Int)-1)=((a.size-1:Nat):Int):=by lia
   have e2:((a.size:Int)+(b.size:Int)-1)=((a.size+b.size-1:Nat):Int):=by lia
   rw[e1,e2];simpa[Ent.pv]using q
  .obtain⟨e,_,rfl⟩:=AR.mp hx;cases e with
   |word w=>simp[Ent.pv]
   |pair u v=>
    have j0:fB [PV.int (u:Int),PV.int (v:Int)] 0=al (.int u):=rfl;have j1:fB [PV.int (u:Int),PV.int (v:Int)] 1=al (.int v):=rfl;simp only[Ent.pv,re,iW,mI,bS,Aq,if_false,cZ,dU,j0,j1,TD,da]
theorem yU(g:Py t)(q:∀ds d,Dt t ds [] d->d<=13*((splits t).length:Int)->Q (.tup (cm ds))):(dQ t.pv).run Q:=by
 have hz:=g.size;have hd:=g.depth;unfold dQ;simp only[re,lw];refine W.le.use (mi 12 t ∅ ∅) ?_;have e1:QB [PV.int 0] (.int ((t.nd 0).map Ent.pv).length)=.ret (cm (Ar t.size 0)):=by
  rw[Wv,wf ⟨by lia,by rw[Am,t.bH];lia,a6 (by simp[t.bH];lia)⟩];congr 1;rw[Am,t.bH,Cn]
  induction t.size with
  |zero=>rfl
  |succ n ih=>rw[Dl,E3,ih];rfl
 have e3:((t.nd 0).map Ent.pv).length<=sizeLine:=a6 (by rw[Am,t.bH];lia);simp only[sw,re,fN,e1,fK,wf e3,lw];refine Ti Rm (λx hx=>?_) ?_
 .rw[JN]at hx;obtain⟨j,hj,rfl⟩:=AR.mp hx;cases en t 0 j with
  |word w=>simp[Ent.pv,Rm]
  |pair u v=>simp[Ent.pv,Rm]
 rw[VJ t];refine pS (λn s=>∃(ds:O Int) (left:O Nat) (d:Int),s=(cm ds,PV.int d,cx left)/\n=left.length/\Dt t ds left d/\d+13*left.length<=13*((splits t).length:Int)) ⟨_,_,0,rfl,rfl,Dt.first t,by lia⟩ ?_;rintro n s ⟨ds,left,d,rfl,rfl,D,hd⟩;by_cases he:left=[]
 .subst he;simp;exact q ds d D (by simpa using hd)
 .have ee:(!(cx left).isEmpty)=true:=by cases left with|nil=>exact absurd rfl he|cons a l=>rfl
  have ZK:left.length<=t.size:=by
   have:=Ja left 0 t.size D.ris λx hx=>⟨Bs _,(D.Xj x hx).1⟩;lia
  have e5:L9 (cx (left.filter (LL t left)))=.ret (cx (left.filter (LL t left))):=wf (O8 _);simp only[sw,ee,if_true,re,lw];refine NN (LL t left) (λk hk=>?_) ?_
  .obtain⟨h1,h2⟩:=D.Xj k hk;unfold LL;cases e:en t 0 k with
   |word w=>rw[e]at h2;cases h2
   |pair a b=>
    have j0:fB [PV.int a,PV.int b] 0=al (.int a):=rfl;have j1:fB [PV.int (a:Int),PV.int (b:Int)] 1=al (.int b):=rfl;simp only[re,fK,dU,Nx t h1,e,Ent.pv,TD,cZ,j0,j1,V0,if_true];by_cases ca:a∈left
    .simp[ca]
    .simp[ca];by_cases cb:b∈left
     .simp[cb]
     .simp[cb]
  rw[e5];have fl:=DS (LL t left) left;have fn:0<(cx (left.filter (LL t left))).length:=Bx.mpr (D.Yy he);simp only[sw,fN,cj ((cx (left.filter (LL t left))).length:Int) ∅ (by rw[xU];lia)];refine aZ λz z0 z1=>?_;obtain⟨x,Zy,Ď⟩:=lx (xs:=cx (left.filter (LL t left))) z0 z1;have hx:=AI Ď;obtain⟨j,hj,rfl⟩:=AR.mp hx;obtain⟨Wa,RL⟩:=BH.mp hj;obtain⟨js,jp⟩:=D.Xj j Wa;cases ej:en t 0 j with
  |word w=>rw[ej]at jp;cases jp
  |pair a b=>
  unfold LL at RL;rw[ej]at RL;simp at RL;simp only[dU,Zy,TD,da,sw,cj 12 ⋯ ⋯];refine aZ λy y0 y1=>?_;rw[cj 2 ⋯ ⋯];refine aZ λu u0 u1=>?_;obtain⟨m,hm,m0,m1⟩:∃m:Int,fB [PV.int 0,PV.int y] u=al (.int m)/\0<=m/\m<=12:=by
   have:u=0\/u=1:=by lia
   rcases this with rfl|rfl
   .exact⟨0,rfl,by decide,by decide⟩
   .exact⟨y,rfl,y0,by lia⟩
  simp only[dU,hm,TD,sw];have Ď:UZ (cx left) (.int (j:Int))=.ret (cx (left.erase j)):=by
   show am (oB (cx left)) _=_;rw[tN,hZ];show W.d8 _ _=_;rw[wf (AR.mpr ⟨j,Wa,rfl⟩),qT,<- tN]
  simp only[da,sw,uP (k:=j) (by rw[ic,D.len];exact js),Ď,N6];refine⟨(left.erase j).length,by rw[E9 Wa];have:=Fz Wa;lia,_,_,_,rfl,rfl,D.next Wa ej RL.1 RL.2 m0,?_⟩;rw[E9 Wa];have:=Fz Wa;lia
theorem K7(g:Py t):(iR t.pv).le (.ret (.bl true)):=by
 unfold iR;simp only[re];exact Oo t g.ws false (.inr g.nd) (by have:=g.size;lia)
theorem yn(g:Py t)(ds:O Int)(hl:ds.length<=1000):(aR t.pv (.tup (cm ds))).le (.ret (.bl (hX t ds))):=λQ q=>by
 have hz:=g.size;unfold aR;simp only[re,lw];refine W.le.use (K7 g) ?_;simp only[bS,sw,Be,Aq,if_false,lw];refine W.le.use (Nv t ∅) ?_;simp only[pK,sw,Am,t.bH,Mq,ic,bS,re];have em:c9 (cm ds) (λx=>f6 x)=.ret ((cm ds).map λ_=>PV.bl true):=iP λx hx=>by
  obtain⟨i,_,rfl⟩:=AR.mp hx;exact L0 i
 by_cases hs:ds.length=t.size
 .have e1:(ds.length==(t.size:Int))=true:=by simp[hs]
  have ea:nW ((cm ds).map λ_=>PV.bl true)=.ret (.bl true):=by
   rw[all_map (λ_=>true)];congr 2;exact Bq.mpr λ_ _=>rfl
  simp only[e1,Be,Aq,if_false,cZ,re,em,ea,bS,sw,lw,split_le t ds hs ∅,fM,fN,ic];have es:iD (cm (jv t ds))=.ret (.int (ff (jv t ds))):=by
   unfold iD cm;rw[hZ];show W.d8 _ _=_;rw[wf];have:(jv t ds).length<=t.size:=by
    unfold jv splits;rw[Am];have:=DS (λj=>mr (en t 0 j)) (AW t.size);rw[E1]at this;exact this
   unfold scanBound;lia
  simp only[es,sw,nQ,cW];by_cases hn:(jv t ds).Nodup
  .have e2:((ff (jv t ds):Int)==((jv t ds).length:Int))=true:=by rw[(j3 _).mpr hn];simp
   have c:okN 0 (t.size:Int):=gZ ∅ ∅;simp only[e2,Be,Aq,if_false,lw,mG,wf c,sw,Cn,K0];refine KJ (λj=>.bl (LO t ds j)) (λj hj=>Sb t ds hs j (Bp.mp hj)) ?_;have e3:((AW t.size).map λj=>PV.bl (LO t ds j))=((AW t.size).map (LO t ds)).map PV.bl:=by rw[BJ];rfl
   rw[e3,pO];have e4:hX t ds=(((AW t.size).map (LO t ds)).all id):=by
    unfold hX;rw[FC,decide_eq_true hs,decide_eq_true hn];rfl
   rw[<- e4];exact q
  .have e2:((ff (jv t ds):Int)==((jv t ds).length:Int))=false:=by
    have h5:ff (jv t ds)≠(jv t ds).length:=λz=>hn ((j3 _).mp z);simp;lia
   have e4:hX t ds=false:=by
    unfold hX;rw[decide_eq_false hn];simp
   simp only[e2,BZ,if_true,sw];rw[<- e4];exact q
 .have e1:((ds.length:Int)==(t.size:Int))=false:=by simp;lia
  have e4:hX t ds=false:=by
   unfold hX;rw[decide_eq_false hs];simp
  simp only[e1,BZ,if_true,sw];rw[<- e4];exact q
theorem LW(t:Tr)(ds:O Int)(h:ds.length=t.size):kj (cm ds) ((t.nd 0).map Ent.pv)=(AW t.size).map λj=>PV.tup [.int (ds.getD j 0),(en t 0 j).pv]:=by
 refine C8 λj=>?_;by_cases hj:j<t.size
 .have hl:j<(kj (cm ds) ((t.nd 0).map Ent.pv)).length:=by rw[iy];simp[t.bH,h];exact hj
  obtain⟨x,y,hx,hy,e⟩:=lI (Af hl);rw[An,qq t 0 j hj]at hy;have Od:j<ds.length:=by lia
  unfold cm at hx;rw[An,Af Od]at hx;rw[Af hl,e,<- (Option.some.inj hx),<- (Option.some.inj hy),An,Dp hj];show _=al (PV.tup [.int (ds.getD j 0),_]);rw[AX,Af Od];rfl
 .rw[A6 (by rw[iy];simp[t.bH,h];lia),A6 (by simp;lia)]
def WN(d:Int):chB oLt oLt (ap (.int 0)) (ap (.int d)) (ap (.int 100))=.ret (.bl (decide (0<d/\d<100))):=by
 unfold chB;simp only[re,OK,yH];by_cases c:0<d
 .simp[c]
 .simp[c]
def LN(t:Tr)(ds:O Int)(j:Nat):Bool:=match en t 0 j with
 |.word _=>ds.getD j 0==0
 |.pair a b=>decide (max (ds.getD a 0) (ds.getD b 0)<ds.getD j 0)
theorem N5(t:Tr)(ds:O Int)(hs:ds.length=t.size):hX t ds=(decide (jv t ds).Nodup&&((jv t ds).all λd=>decide (0<d/\d<100))&&(AW t.size).all (LN t ds)):=by
 unfold hX;rw[decide_eq_true hs,DZ,Bool.and_assoc];congr 1;rw[Bool.eq_iff_iff,AB,Bq,Bq,Bq];have ċ:∀j,j<t.size->(LO t ds j=true↔((mr (en t 0 j)=true->0<ds.getD j 0/\ds.getD j 0<100)/\LN t ds j=true)):=λj hj=>by
  unfold LO LN;cases e:en t 0 j with
  |word w=>simp[mr]
  |pair a b=>simp[mr];lia
 constructor
 .intro h;refine⟨λd hd=>?_,λj hj=>((ċ j (Bp.mp hj)).mp (h j hj)).2⟩;obtain⟨j,hj,rfl⟩:=AR.mp hd;obtain⟨h1,h2⟩:=BH.mp hj;simpa using ((ċ j (Bp.mp h1)).mp (h j h1)).1 h2
 .rintro⟨h1,h2⟩ j hj;refine(ċ j (Bp.mp hj)).mpr ⟨λhp=>?_,h2 j hj⟩;simpa using h1 _ (AR.mpr ⟨j,BH.mpr ⟨hj,hp⟩,rfl⟩)
theorem za(g:Py t)(ds:O Int)(hl:ds.length<=1000):(cG t.pv (.tup (cm ds))).le (.ret (.bl (hX t ds))):=λQ q=>by
 have hz:=g.size;have hd:=g.depth;have q:Q (.bl (hX t ds)):=q;unfold cG;simp only[re,lw];refine W.le.use (mi 12 t ∅ ∅) ?_;simp only[sw,pK,fN,ic,Am,t.bH,nQ,cW,re];by_cases hs:ds.length=t.size
 .have e1:((ds.length:Int)==(t.size:Int))=true:=by simp[hs]
  rw[N5 t ds hs]at q;have c:(cm ds).length<=sizeLine:=a6 (by rw[ic];lia);simp only[e1,Be,Aq,if_false,cZ,fK,re,uC,wf c,LW t ds hs,lw,sw];refine Ti (λx=>match x with|.tup [_,.str _]=>bn|.tup [y,_]=>al y|_=>bn) (λx hx=>?_) ?_
  .obtain⟨j,hj,rfl⟩:=AR.mp hx;cases en t 0 j with
   |word w=>simp[Ent.pv]
   |pair a b=>simp[Ent.pv]
  have ei:(((AW t.size).map λj=>PV.tup [.int (ds.getD j 0),(en t 0 j).pv]).filterMap λx=>match x with|.tup [_,.str _]=>bn|.tup [y,_]=>al y|_=>bn)=cm (jv t ds):=by
   unfold jv splits cm;generalize AW t.size=l
   induction l with
   |nil=>rfl
   |cons j l ih=>
    rw[A4,Bm,DV,ih];cases e:en t 0 j with
    |word w=>rfl
    |pair a b=>rfl
  rw[ei];have es:iD (cm (jv t ds))=.ret (.int (ff (jv t ds))):=by
   unfold iD cm;rw[hZ];show W.d8 _ _=_;rw[wf];have:(jv t ds).length<=t.size:=by
    unfold jv splits;rw[Am];have:=DS (λj=>mr (en t 0 j)) (AW t.size);rw[E1]at this;exact this
   unfold scanBound;lia
  have ea:(am (am (ap (cm (jv t ds))) λl9=>c9 l9 λï=>chB oLt oLt (ap (.int 0)) (ap ï) (ap (.int 100))) nW)=.ret (.bl ((jv t ds).all λd=>decide (0<d/\d<100))):=by
   rw[re,iP (g:=λx=>match x with|.int d=>.bl (decide (0<d/\d<100))|x=>x) λx hx=>?_]
   .unfold cm;rw[re,BJ];have e9:((jv t ds).map ((λx=>match x with|.int d=>PV.bl (decide (0<d/\d<100))|x=>x)∘PV.int))=((jv t ds).map λd=>decide (0<d/\d<100)).map PV.bl:=by rw[BJ];rfl
    rw[e9,pO,FC];rfl
   .obtain⟨d,_,rfl⟩:=AR.mp hx;exact WN d
  simp only[re]at ea;simp only[fM,fK,re,sw,es,fN,ic,nQ,cW,ea,bS];by_cases hn:(jv t ds).Nodup
  .have e2:((ff (jv t ds):Int)==((jv t ds).length:Int))=true:=by rw[(j3 _).mpr hn];simp
   rw[decide_eq_true hn,DZ]at q;cases ha:((jv t ds).all λd=>decide (0<d/\d<100)) with
   |false=>
    rw[ha]at q;simp only[e2,Be,BZ,Aq,if_false,if_true,re,sw];exact q
   |true=>
    rw[ha,DZ]at q;simp only[e2,Be,BZ,Aq,if_false,if_true,re,sw,lw,uC,wf c,LW t ds hs];refine mE (λrest s=>∃pre l:O Nat,pre++l=AW t.size/\rest=(l.map λj=>PV.tup [.int (ds.getD j 0),(en t 0 j).pv])/\pre.all (LN t ds)=true) ⟨[],_,rfl,rfl,rfl⟩ ?_ ?_
    .rintro x rest s ⟨pre,l,hl,e,hp⟩;cases l with
     |nil=>cases e
     |cons j l=>
     injection e with e1 e2;subst e1;have hj:j<t.size:=Bp.mp (hl▸(by simp));have nx:LN t ds j=true->∃pre l:O Nat,pre++l=AW t.size/\rest=(l.map λj=>PV.tup [.int (ds.getD j 0),(en t 0 j).pv])/\pre.all (LN t ds)=true:=λh=>⟨pre++[j],l,by rw[<- hl];simp,e2,by rw[List.all_append,hp];simp[h]⟩;have no:LN t ds j=false->(AW t.size).all (LN t ds)=false:=λh=>by rw[<- hl,List.all_append,List.all_cons,h];simp
     simp only[vW,sw,lw];cases en':en t 0 j with
     |word w=>
      have eo:LN t ds j=(ds.getD j 0==0):=by unfold LN;rw[en']
      rw[eo]at nx no;simp only[Ent.pv,re,wd,JL,JK,bS,if_true,nQ,cW,Aq,if_false];cases hk:(ds.getD j 0==0) with
      |true=>
       simp only[Be,Aq,if_false,re,sw];exact nx hk
      |false=>
       rw[no hk]at q;simp only[BZ,if_true,re,sw];exact q
     |pair a b=>
      have eo:LN t ds j=decide (max (ds.getD a 0) (ds.getD b 0)<ds.getD j 0):=by unfold LN;rw[en']
      rw[eo]at nx no;obtain⟨ha,hb⟩:=kg t hj en';have ia:fB (cm ds) a=al (.int (ds.getD a 0)):=int_at ∅;have ib:fB (cm ds) b=al (.int (ds.getD b 0)):=int_at ∅;have j0:fB [PV.int (a:Int),PV.int (b:Int)] 0=al (.int a):=rfl;have j1:fB [PV.int (a:Int),PV.int (b:Int)] 1=al (.int b):=rfl;simp only[Ent.pv,re,iW,mI,v9,bS,Aq,if_false,if_true,cZ,dU,j0,j1,ia,ib,TD,OJ,OL,cW];have em:(if ds.getD b 0 > ds.getD a 0 then ds.getD b 0 else ds.getD a 0)=max (ds.getD a 0) (ds.getD b 0):=by split<;>lia
      rw[em];by_cases hk:max (ds.getD a 0) (ds.getD b 0)<ds.getD j 0
      .rw[decide_eq_false ∅,if_neg ⋯];simp only[sw];exact nx (decide_eq_true hk)
      .rw[no (decide_eq_false hk)]at q;rw[decide_eq_true ∅,if_pos rfl];simp only[re,sw];exact q
    .rintro s ⟨pre,l,hl,e,hp⟩;cases l with
     |cons=>cases e
     |nil=>
     rw[A8]at hl;rw[<- hl,hp]at q;simp only[qJ,sw];exact q
  .have e2:((ff (jv t ds):Int)==((jv t ds).length:Int))=false:=by
    have h5:ff (jv t ds)≠(jv t ds).length:=λz=>hn ((j3 _).mp z);simp;lia
   rw[decide_eq_false hn]at q;simp only[e2,BZ,if_true,re,sw];exact q
 .have e1:((ds.length:Int)==(t.size:Int))=false:=by simp;lia
  have e4:hX t ds=false:=by
   unfold hX;rw[decide_eq_false hs];simp
  rw[e4]at q;simp only[e1,BZ,if_true,sw];exact q
end My
variable{pre:O Nat}
namespace My
def dg(c:Nat):Bool:=decide (48<=c/\c<=57)
def fb:O Nat->Nat->O Nat->Option Nat
 |[],i,w=>if w=[] then al i else bn
 |c::r,i,w=>if dg c=true/\w≠[48]/\w.length<4 then fb r (i+1) (w++[c]) else if c=46/\w≠[] then fb r (i+1) [] else al i
theorem Pm(i:Nat)(w:O Nat):fb [] i w=if w=[] then al i else bn:=rfl
theorem wQ(c:Nat)(r:O Nat)(i:Nat)(w:O Nat):fb (c::r) i w=if dg c=true/\w≠[48]/\w.length<4 then fb r (i+1) (w++[c]) else if c=46/\w≠[] then fb r (i+1) [] else al i:=rfl
def Nq(s:Str)(c:Nat):zm s c=decide (c∈s.cps.toList):=Fb s c
theorem vj(c:Nat):zm uz c=dg c:=by
 rw[Nq];unfold dg;have e2:uz.cps.toList=[48,49,50,51,52,53,54,55,56,57]:=by decide +kernel
 have:(c∈uz.cps.toList)↔(48<=c/\c<=57):=by
  rw[e2];simp only[Au,BI,or_false];omega
 simp[this]
def p46:(".":Str)=⟨#[46]⟩:=by decide +kernel
def z48:("0":Str)=⟨#[48]⟩:=by decide +kernel
def Vt(c:Nat):zm "." c=decide (c=46):=by rw[p46,Nq];simp
def Vs(c:Nat):zm "0" c=decide (c=48):=by rw[z48,Nq];simp
def Sm{r:O Nat}(h:T.cps.toList=pre++c::r)(s:Str):kB T pre.length s=zm s c:=rk (by rw[h];simp)
def Pn(h:T.cps.toList=pre)(s:Str):kB T pre.length s=false:=by unfold kB;rw[h];simp
def NM{l:O Nat}(h:T.cps.toList=l):T.length=l.length:=by rw[<- h];simp[BU]
theorem J0:∀(u rest:O Nat) (i:Nat) (w:O Nat),(∀c∈u,dg c=true)->(w++u).length<=4->(∀k,k<u.length->w++u.take k≠[48])->fb (u++rest) i w=fb rest (i+u.length) (w++u)
 |[],rest,i,w,_,_,_=>by rw[A8];rfl
 |c::u,rest,i,w,h,hl,hk=>by
  have h0:=hk 0 (by simp);rw[List.take_zero,A8]at h0;rw[Ag,Ap]at hl;show fb (c::(u++rest)) i w=_;rw[wQ,if_pos ⟨h c (.head _),h0,by lia⟩,J0 u rest (i+1) (w++[c]) (λd hd=>h d (.tail _ hd)) (by simp;lia) (λk hkk=>by
   have:=hk (k+1) (by simp;lia);rw[Gb]at this
   rwa [C9,FT]),Ap,C9,FT]
  congr 1;lia
def fq:O (O Nat)->O Nat
 |[]=>[]
 |[p]=>p
 |p::q::ps=>p++46::fq (q::ps)
def jt(ps:O (O Nat)):O Nat:=if ps=[] then [] else 46::fq ps
def j8(p:O Nat)(ps:O (O Nat)):fq (p::ps)=p++jt ps:=by
 cases ps with
 |nil=>simp[fq,jt]
 |cons q ps=>simp[fq,jt]
def uh(T:Str)(k:Nat)(acc:O Nat)(n:Nat):Except Nat (O Nat×Nat):=match rZ T n 4 with
 |.error m=>.error m
 |.ok (v,n1)=>PU T "." k (acc++[v]) n1
theorem XY(T:Str)(k:Nat)(acc:O Nat)(n:Nat):PU T "." (k+1) acc n=if kB T n "."=true then uh T k acc (n+1) else .ok (acc,n):=rfl
def W2(ps:O (O Nat)):Prop:=ps≠[]/\∀p∈ps,p≠[]/\p.length<=4/\∀c∈p,dg c=true
def Ik(T:Str)(r:O Nat)(n:Nat)(acc:O Nat):Except Nat (O Nat×Nat)->Prop
 |.error e=>fb r n []=al e
 |.ok (l,n')=>n'<=T.length/\(n'<T.length->fb r n []=al n')/\(n'=T.length->fb r n []=bn/\∃ps,W2 ps/\l=acc++ps.map P4/\r=fq ps)
theorem Rc:∀(m:Nat) (r:O Nat),r.length<=m->∀pre,T.cps.toList=pre++r->∀k acc,r.length<k->Ik T r pre.length acc (uh T k acc pre.length):=by
 intro m
 induction m with
 |zero=>
  intro r hr pre hT k acc hk;have:r=[]:=Ci ∅;subst this;rw[A8]at hT;have u0:gP T pre.length 4=[]:=Mv (Pn hT _);unfold uh rZ;rw[if_pos u0];rfl
 |succ m ih=>
  intro r hr pre hT k acc hk;have hl:=NM hT;rw[Ag]at hl;by_cases u0:gP T pre.length 4=[]
  .unfold uh rZ;rw[if_pos u0];show fb r pre.length []=al pre.length;cases r with
   |nil=>rfl
   |cons c r=>
    have m0:0 < (if kB T pre.length "0"=true then 1 else 4):=by split <;> decide
    have hb:kB T pre.length uz=false:=by
     cases z:kB T pre.length uz with
     |false=>rfl
     |true=>exact absurd u0 (S1 m0 z)
    rw[Sm hT,vj]at hb;rw[wQ,if_neg (by rw[hb];simp),if_neg (by simp)]
  .have n0:rZ T pre.length 4=.ok (P4 (gP T pre.length 4),pre.length+(gP T pre.length 4).length):=if_neg u0;have u1:(gP T pre.length 4).length<=(if kB T pre.length "0"=true then 1 else 4):=uV;have u3:∀d∈gP T pre.length 4,dg d=true:=λd hd=>by rw[<- vj];exact uW hd
   have u4:(gP T pre.length 4).length < (if kB T pre.length "0"=true then 1 else 4)->kB T (pre.length+(gP T pre.length 4).length) uz=false:=λh=>zR h;obtain⟨rest,ZO⟩:∃rest,r=gP T pre.length 4++rest:=by
    have hp:(gP T pre.length 4) <+: (T.cps.toList.drop pre.length):=(List.takeWhile_prefix _).trans (List.take_prefix _ _);rw[hT,List.drop_left]at hp;obtain⟨rest,h⟩:=hp;exact⟨rest,h.symm⟩
   unfold uh;rw[n0];generalize gP T pre.length 4=u at u0 u1 u3 u4 ZO;subst ZO;have ul:0<u.length:=Bx.mpr u0;rw[Ag]at hl hr hk;have Wj:T.cps.toList=(pre++u)++rest:=by rw[hT];simp
   have lu:(pre++u).length=pre.length+u.length:=by simp
   have hz:kB T pre.length "0"=decide (u.head?=al 48):=by
    cases u with
    |nil=>exact absurd rfl u0
    |cons c u=>rw[Sm hT,Vs];simp
   have Xb:u.length<=4:=by split at u1<;>lia
   have hw:fb (u++rest) pre.length []=fb rest (pre.length+u.length) u:=by
    have:=J0 u rest pre.length [] u3 (by simpa using Xb) (λk hk=>by
     rw[C4];intro z;cases u with
     |nil=>exact absurd rfl u0
     |cons c u=>
      cases k with
      |zero=>cases z
      |succ k=>
       rw[Gb]at z;injection z with z1 z2;subst z1;rw[hz]at u1;simp at u1;subst u1;simp at hk)
    rwa [C4]at this
   have á:∀c r',rest=c::r'->¬(dg c=true/\u≠[48]/\u.length<4):=λc r' e=>by
    rintro⟨h1,h2,h3⟩;rw[e]at Wj;by_cases hc:u.head?=al 48
    .rw[hz,decide_eq_true hc,if_pos rfl]at u1;cases u with
     |nil=>exact absurd rfl u0
     |cons d u=>
      have:u=[]:=Ci (by simp at u1;exact u1▸rfl);subst this;simp at hc;exact h2 (by rw[hc])
    .rw[hz,decide_eq_false hc,if_neg ⋯]at u4;have:=u4 h3;rw[<- lu,Sm Wj,vj,h1]at this;cases this
   cases k with
   |zero=>lia
   |succ k=>
   show Ik T (u++rest) pre.length acc (PU T "." (k+1) (acc++[P4 u]) (pre.length+u.length));rw[XY];cases rest with
   |nil=>
    rw[A8]at Wj;have RK:=NM Wj;have a1:=Pn Wj ".";rw[lu]at a1 RK;rw[a1,if_neg ⋯];refine⟨by lia,λh=>by lia,λ_=>⟨?_,[u],⟨by simp,λp hp=>?_⟩,rfl,by rw[A8];rfl⟩⟩
    .rw[hw,Pm,if_neg u0]
    .rw[Cz.mp hp];exact⟨u0,Xb,u3⟩
   |cons c r'=>
    rw[Ap]at hl hr hk;have a1:=Sm Wj ".";rw[lu,Vt]at a1;have hc:fb (c::r') (pre.length+u.length) u=if c=46 then fb r' (pre.length+u.length+1) [] else al (pre.length+u.length):=by
     rw[wQ,if_neg (á c r' rfl)];by_cases Ug:c=46
     .rw[if_pos ⟨Ug,u0⟩,if_pos Ug]
     .rw[if_neg (λh=>Ug h.1),if_neg Ug]
    by_cases Ug:c=46
    .subst Ug;rw[if_pos rfl]at hc;rw[a1,decide_eq_true rfl,if_pos rfl];have hT3:T.cps.toList=(pre++u++[46])++r':=by rw[Wj];simp
     have h3:=ih r' ∅ (pre++u++[46]) hT3 k (acc++[P4 u]) ∅;have l3:(pre++u++[46]).length=pre.length+u.length+1:=by simp;lia
     rw[l3]at h3;cases ZE:uh T k (acc++[P4 u]) (pre.length+u.length+1) with
     |error e=>
      rw[ZE]at h3;show fb _ _ _=_;rw[hw,hc];exact h3
     |ok p=>
      obtain⟨l,n'⟩:=p;rw[ZE]at h3;obtain⟨g1,g2,g3⟩:=h3;refine⟨g1,λh=>by rw[hw,hc];exact g2 h,λh=>?_⟩;obtain⟨k1,ps,⟨p1,p2⟩,k2,k3⟩:=g3 h;refine⟨by rw[hw,hc];exact k1,u::ps,⟨by simp,λp hp=>?_⟩,by rw[k2];simp,?_⟩
      .rcases Au.mp hp with rfl|hp
       .exact⟨u0,Xb,u3⟩
       .exact p2 p hp
      .rw[j8,jt,if_neg p1,k3]
    .rw[if_neg Ug]at hc;rw[a1,decide_eq_false Ug,if_neg ⋯];exact⟨by lia,λ_=>by rw[hw,hc],λh=>by lia⟩
theorem WK(T:Str):Ik T T.cps.toList 0 [] (oo T "." 0):=by
 have hl:T.cps.toList.length=T.length:=by simp[BU]
 have:=Rc (T:=T) _ T.cps.toList (Ah _) [] rfl (T.length+1) [] ∅;exact this
end My
variable{ps:O (O Nat)}
namespace My
def asc(T:Str):Prop:=∀c∈T.cps.toList,c<128
def OO(s t:Str):of2 kq (.str s) (.str t)=.ret (.bl (s==t)):=by rw[OP,wf ⟨by simp,by simp,by simp⟩,T5]
def OH(s t:Str):of2 iL (.str s) (.str t)=.ret (.bl (!(s==t))):=by rw[JJ,wf ⟨by simp,by simp,by simp⟩,T5]
def wo(w u:O Nat):((⟨w.toArray⟩:Str)==⟨u.toArray⟩)=decide (w=u):=by
 rw[Bool.eq_iff_iff,beq_iff_eq,decide_eq_true_eq];exact⟨λh=>by injection h with h;have:=congrArg GB h;simpa using this,λh=>by rw[h]⟩
def fo:Option Nat->PV
 |none=>.bx
 |some n=>.int n
theorem Oy(hT:T.length<=900)(ha:asc T):(dP (.str T)).le (.ret (fo (fb T.cps.toList 0 []))):=λQ q=>by
 have q:Q (fo (fb T.cps.toList 0 [])):=q;have hl:T.cps.toList.length=T.length:=by simp[BU]
 have hz:T.cps.size=T.length:=rfl;unfold dP;simp only[re,lw];refine⟨⟨by rw[hz,xz];lia,by rw[Array.all_eq_true'];intro c hc;simpa using ha c (by simpa using hc)⟩,?_⟩;generalize hR:fb T.cps.toList 0 []=R at q;refine mE (λrest s=>∃(r:O Nat) (i:Nat) (w:O Nat),rest=fw i (r.map λc=>PV.str ⟨#[c]⟩)/\s=.str ⟨w.toArray⟩/\w.length<=4/\i+r.length=T.length/\fb r i w=R)
  ⟨T.cps.toList,0,[],rfl,rfl,by simp,by lia,hR⟩ ?_ ?_
 .rintro x rest s ⟨r,i,w,e,rfl,h4,hi,hA⟩;cases r with
  |nil=>cases e
  |cons c r=>
  injection e with e1 e2;subst e1;rw[Ap]at hi;rw[wQ]at hA;have wl:(⟨w.toArray⟩:Str).length=w.length:=by simp[BU]
  have e0:(!(Builtin.Str.occurrences "0123456789" ⟨#[c]⟩ 0 ("0123456789":Str).length 1).isEmpty)=dg c:=vj c;have e48:((⟨w.toArray⟩:Str)=="0")=decide (w=[48]):=by rw[z48];exact wo w [48]
  have e46:((⟨#[c]⟩:Str)==".")=decide (c=46):=by
   rw[p46];have:=wo [c] [46];simpa using this
  have Į:((⟨w.toArray⟩:Str)=="")=decide (w=[]):=wo w [];have cl:w.length<=sizeLine:=a6 ∅;simp only[vW,sw,re,lw,OM,e0,cW,OH,e48,mH,wf cl,wl,OK];have hc:(if dg c=true then (if (!decide (w=[48]))=true then ap (decide ((w.length:Int) < 4)) else ap false) else ap false)=ap (decide (dg c=true/\w≠[48]/\w.length < 4)):=by
   cases dg c with
   |false=>simp
   |true=>
    by_cases a:w=[48]
    .simp[a]
    .simp[a];exact congrArg ap (decide_eq_decide.mpr ∅)
  rw[hc];simp only[sw];by_cases c1:dg c=true/\w≠[48]/\w.length<4
  .rw[if_pos c1]at hA;rw[decide_eq_true c1,if_pos rfl];have ea:(⟨w.toArray⟩:Str)++⟨#[c]⟩=⟨(w++[c]).toArray⟩:=by
    show(⟨w.toArray++#[c]⟩:Str)=_;simp
   have c5:(⟨w.toArray⟩:Str).length+(⟨#[c]⟩:Str).length<=sizeLine:=a6 (by rw[wl];show w.length+1<=1000;lia);simp only[pL,wf c5,re,sw,ea];exact⟨r,i+1,w++[c],e2,rfl,by simp;lia,by lia,hA⟩
  .rw[if_neg c1]at hA;rw[decide_eq_false c1,if_neg ⋯];simp only[OO,OH,e46,Į,re,cW,lw];have hd:(if decide (c=46)=true then ap (!decide (w=[])) else ap false)=ap (decide (c=46/\w≠[])):=by
    by_cases a:c=46<;>by_cases b:w=[]<;>simp[a,b]
   rw[hd];simp only[sw];by_cases c2:c=46/\w≠[]
   .rw[if_pos c2]at hA;rw[decide_eq_true c2,if_pos rfl];exact⟨r,i+1,[],e2,rfl,by simp,by lia,hA⟩
   .rw[if_neg c2]at hA;rw[decide_eq_false c2,if_neg ⋯];subst hA;exact q
 .rintro s ⟨r,i,w,e,rfl,h4,hi,hA⟩;cases r with
  |cons c r=>cases e
  |nil=>
  simp only[FO]at hi;rw[Pm]at hA;have Į:((⟨w.toArray⟩:Str)=="")=decide (w=[]):=wo w [];simp only[qJ,OO,Į,cW,re];by_cases a:w=[]
  .rw[if_pos a]at hA;rw[decide_eq_true a,if_pos rfl,mH];refine⟨by rw[xz];lia,?_⟩;subst hA;have:T.length=i:=by lia
   rw[this];exact q
  .rw[if_neg a]at hA;rw[decide_eq_false a,if_neg ⋯];subst hA;exact q
def SI(p:O Nat)(ps:O (O Nat))(h:46∉p):(p++jt ps).takeWhile (· != 46)=p:=by
 have hp:∀c∈p,(c != 46)=true:=λc hc=>by simp;exact λz=>h (z▸hc)
 rw[List.takeWhile_append_of_pos hp];unfold jt
 split
 .simp
 .simp
theorem tX:∀(ps qs:O (O Nat)),ps≠[]->qs≠[]->(∀p∈ps,46∉p)->(∀p∈qs,46∉p)->fq ps=fq qs->ps=qs
 |[],_,h,_,_,_,_=>absurd rfl h
 |_,[],_,h,_,_,_=>absurd rfl h
 |p::ps,q::qs,_,_,hp,hq,e=>by
  rw[j8,j8]at e;have e1:p=q:=by rw[<- SI p ps (hp p (.head _)),e,SI q qs (hq q (.head _))]
  subst e1;have e2:=List.append_cancel_left e;unfold jt at e2;by_cases h1:ps=[]<;>by_cases h2:qs=[]
  .rw[h1,h2]
  .rw[if_pos h1,if_neg h2]at e2;cases e2
  .rw[if_neg h1,if_pos h2]at e2;cases e2
  .rw[if_neg h1,if_neg h2]at e2;injection e2 with _ e2;rw[tX ps qs h1 h2 (λx hx=>hp x (.tail _ hx)) (λx hx=>hq x (.tail _ hx)) e2]
theorem qD:∀ss:O Str,(Str.join "." ss).cps.toList=fq (ss.map λs=>s.cps.toList)
 |[]=>rfl
 |[s]=>rfl
 |s::u::ss=>by
  show(s++"."++Str.join "." (u::ss)).cps.toList=_;rw[Ew,Ew,Dq,Dq,qD (u::ss)];have:(".":Str).cps.toList=[46]:=by decide +kernel
  rw[this];simp[fq]
def Md(h:W2 ps)(e:T.cps.toList=fq ps):C5 T "."=ps.map λp=>⟨p.toArray⟩:=by
 have hs:=PySem.StrLaws.join_split T ".";have hf:=λp hp=>(p46▸PySem.StrLaws.split_free T 46:∀p∈C5 T ".",46∉p.cps.toList) p hp;have tn:T.cps.toList≠[]:=by
  obtain⟨h1,h2⟩:=h;cases ps with
  |nil=>exact absurd rfl h1
  |cons p ps=>rw[e,j8];intro z;exact(h2 p (.head _)).1 (List.append_eq_nil_iff.mp z).1
 have sn:C5 T "."≠[]:=λz=>by rw[z]at hs;apply tn;rw[<- hs];rfl
 have e2:fq ((C5 T ".").map λs=>s.cps.toList)=fq ps:=by rw[<- qD,hs,e]
 have:=tX _ ps (by simpa using sn) h.1 (λp hp=>by obtain⟨s,hs,rfl⟩:=AR.mp hp;exact hf s hs) (λp hp z=>by have:=(h.2 p hp).2.2 46 z;revert this;decide) e2;rw[<- this,BJ]
 conv=>lhs;rw[<- List.map_id (C5 T ".")]
 exact Dm λs _=>by simp
end My
variable{ss:O BN}
namespace My
def Ki{w:Str}{i j:Option Int}(h:c∈(Er w i j).cps.toList):c∈w.cps.toList:=by
 unfold Er at h
 split at h
 .exact h
 .have h:c∈(List.filterMap (λi=>w.cps[i]?) (Builtin.Str.strSliceIndices i j 1 w.length)).toArray.toList:=h;rw[List.toList_toArray,C0]at h;obtain⟨i,_,e⟩:=h;have:=Array.mem_of_getElem? e;simpa using this
def cB{a b:Str}(ha:asc a)(hb:asc b):asc (a++b):=λc hc=>by
 rw[Ew,Dq]at hc;rcases Cp.mp hc with h|h
 .exact ha c h
 .exact hb c h
theorem lg(ha:asc T)(hT:T.length<=107)(i j:Option Int):∃A,jm (.str T) i j=.ret (.str A)/\asc A/\A.length<=T.length:=
 ⟨Er T i j,wf (a6 ∅),λc hc=>ha c (Ki hc),Em T _ _⟩
def Bn(v:PV):Prop:=∃U,v=.str U/\asc U/\U.length<=350
theorem Ph(ha:asc T)(hT:T.length<=107)(h0:ss≠[])(h1:ss.length<=100)(hs:∀s∈ss,asc s/\s.length<=8)(q:∀v,Bn v->Q v):(eR (.str T) (.cl (ss.map PV.str))).run Q:=by
 have sl:0<ss.length:=Bx.mpr h0;unfold eR;simp only[re,lw,mH,wf (show T.length<=sizeLine from a6 ∅),da,cj ((T.length:Int)+1) ∅ ∅];refine aZ λa a0 a1=>aZ λb b0 b1=>?_;simp only[fK,fN,Am,sw,lw,cj (ss.length:Int) ∅ ∅];refine aZ λd d0 d1=>?_;obtain⟨v,e1,e2⟩:=lx (xs:=ss.map PV.str) d0 (by rw[Am];exact d1);obtain⟨s,ms,rfl⟩:∃s∈ss,v=.str s:=by
  rw[An]at e2;cases z:ss[d.toNat]? with
  |none=>rw[z]at e2;cases e2
  |some w=>rw[z]at e2;exact⟨w,AI z,(Option.some.inj e2).symm⟩
 obtain⟨as,ls⟩:=hs s ms;simp only[dU,e1,TD,sw,Wz,OJ];generalize (if b<a then b else a)=i;generalize (if b > a then b else a)=j;obtain⟨A,eA,aA,lA⟩:=lg ha hT bn (al i);obtain⟨B,eB,aB,lB⟩:=lg ha hT (al (i+1)) bn;obtain⟨C,eC,aC,lC⟩:=lg ha hT (al i) bn;obtain⟨D,eD,aD,lD⟩:=lg ha hT (al (i+1)) (al j);obtain⟨E,eE,aE,lE⟩:=lg ha hT (al j) bn;obtain⟨F,eF,aF,lF⟩:=lg ha hT (al i) (al j);obtain⟨G,eG,aG,lG⟩:=lg ha hT bn (al j);simp only[vX,re,da,eA,eB,eC,eD,eE,eF,eG,sw,pL,W.uU,lw,W.rh];simp only[pj,gA,W.uU,sw,W.rh,re,Ap,FO,AA,Fh,C4,v8,lw];have e10:((0+1+1+1+1+1+1+1+1+1+1:Nat):Int)=10:=rfl;rw[e10,cj 10 ⋯ ⋯,xz];refine⟨by lia,by lia,by lia,by lia,by lia,by lia,by lia,by lia,by lia,by lia,by lia,by lia,by lia,by lia,by lia,by lia,by lia,by lia,by lia,by lia,aZ λc c0 c1=>?_⟩;obtain⟨v,f1,f2⟩:=lx (xs:=[PV.str A,PV.str (A++B),PV.str (A++s++C),PV.str (A++s++B),PV.str (A++(s++D++s)++E),PV.str (A++E++F),PV.str (T++F),PV.str (G++C),PV.str (T++s),PV.str (s++T)]) c0 c1;simp only[dU,f1,TD,sw];refine q v ?_;have f3:=AI f2;simp only[Au,BI,or_false]at f3;rcases f3 with rfl|rfl|rfl|rfl|rfl|rfl|rfl|rfl|rfl|rfl
 .exact⟨_,rfl,aA,by lia⟩
 .exact⟨_,rfl,cB aA aB,by rw[AA];lia⟩
 .exact⟨_,rfl,cB (cB aA as) aC,by rw[AA,AA];lia⟩
 .exact⟨_,rfl,cB (cB aA as) aB,by rw[AA,AA];lia⟩
 .exact⟨_,rfl,cB (cB aA (cB (cB as aD) as)) aE,by rw[AA,AA,AA,AA];lia⟩
 .exact⟨_,rfl,cB (cB aA aE) aF,by rw[AA,AA];lia⟩
 .exact⟨_,rfl,cB ha aF,by rw[AA];lia⟩
 .exact⟨_,rfl,cB aG aC,by rw[AA];lia⟩
 .exact⟨_,rfl,cB ha as,by rw[AA];lia⟩
 .exact⟨_,rfl,cB as ha,by rw[AA];lia⟩
def N3(l:O Nat):xj l=cm (l.map λv:Nat=>(v:Int)):=by unfold xj cm;rw[BJ];rfl
def RC(l:O Nat):(xj l).length=l.length:=by unfold xj;rw[Am]
def same_int(n:Nat)(v:Int):ba (n+1) (.int v) (.int v)=.ret (.bl true):=by
 show c6 _ _ _=_;have c1:Kd.is .str (.int v)=false:=rfl;simp only[re,R1,RY,bS,Aq,if_false,HH,PV.jk,cW,c1,RZ,Be,Wy,beq_self_eq_true,wj,R0]
theorem xt:∀l:O PV,kj l l=l.map λx=>PV.tup [x,x]
 |[]=>rfl
 |x::l=>by rw[A4,<- xt l];rfl
theorem Mo(n:Nat)(l:O Nat)(hl:l.length<=900):ba (n+2) (.tup (xj l)) (.tup (xj l))=.ret (.bl true):=by
 show c6 _ _ _=_;have c:(xj l).length<=sizeLine:=a6 (by rw[RC];lia);simp only[re,iW,v9,bS,if_true,Be,Aq,if_false,pK,nQ,beq_self_eq_true,cW,cZ,uC,wf c,xt];rw[iP (g:=λ_=>PV.bl true) λx hx=>?_]
 .simp only[re];rw[all_map (λ_=>true)];congr 2;exact Bq.mpr λ_ _=>rfl
 .obtain⟨y,hy,rfl⟩:=AR.mp hx;obtain⟨v,_,rfl⟩:=AR.mp hy;simp only[vW,re];exact same_int n v
def ne_int(n:Int):of2 iL (.int n) (.int n)=.ret (.bl false):=by simp
def VB:of2 iL .bx .bx=.ret (.bl false):=by rw[JJ,wf ⟨by simp,by simp,by simp⟩,yE _ (by simp)];rfl
theorem VY{p:O Nat}(h:p≠[]/\p.length<=4/\∀c∈p,dg c=true):yo (.str ⟨p.toArray⟩)=.ret (.int (P4 p:Int)):=by
 have e:=F3 (x:=⟨p.toArray⟩) (λc hc=>by have:=h.2.2 c (by simpa using hc);simpa[dg]using this) (by simpa using h.1) (by simp[BU];have:=h.2.1;lia);show W.d8 _ (.bind (.Tc (DH ⟨p.toArray⟩)) _)=_;rw[e,wf (by simp[BU];have:=h.2.1;lia),TD,re]
theorem nF:∀ps:O (O Nat),(∀p∈ps,p≠[])->ps.length<=(fq ps).length
 |[],_=>by simp
 |p::ps,h=>by
  have:=nF ps λx hx=>h x (.tail _ hx);have hp:=Bx.mpr (h p (.head _));rw[j8,Ag,Ap];unfold jt
  split
  .next e=>rw[e];simp;lia
  .simp;lia
theorem Kg(h:W2 ps)(e:T.cps.toList=fq ps)(hT:T.length<=900):uK T (.str ".")=.ret ((ps.map λp=>(⟨p.toArray⟩:Str)).map PV.str):=by
 have hs:=Md h e;have hl:T.cps.toList.length=T.length:=by simp[BU]
 have pl:=nF ps λp hp=>(h.2 p hp).1;rw[<- e,hl]at pl;have tn:0<T.length:=by
  have:0<ps.length:=Bx.mpr h.1;lia
 have c1:((".":Str).length==0)=false:=by decide +kernel
 have c2:T.length<=sizeLine:=a6 ∅;have c3:(Builtin.Str.partsBetween T (Builtin.Str.occurrences T "." 0 T.length (T.length+1)) (".":Str).length).length<=sizeLine:=by
  have hk:(decide (T.length < (".":Str).length)||decide (Builtin.Str.strKind T < Builtin.Str.strKind "."))=false:=by
   have k1:(".":Str).length=1:=by decide +kernel
   have k2:Builtin.Str.strKind "."=1:=by decide +kernel
   have k3:1<=Builtin.Str.strKind T:=by unfold Builtin.Str.strKind;split<;>(try split)<;>decide
   rw[k1,k2,decide_eq_false ∅,decide_eq_false ∅];rfl
  cases hf:(Builtin.Str.occurrences T "." 0 T.length (T.length+1)).isEmpty with
  |true=>
   have:Builtin.Str.occurrences T "." 0 T.length (T.length+1)=[]:=List.isEmpty_iff.mp hf;rw[this];show 1<=sizeLine;decide
  |false=>
   have e2:C5 T "."=Builtin.Str.partsBetween T (Builtin.Str.occurrences T "." 0 T.length (T.length+1)) (".":Str).length:=by
    unfold C5;rw[if_neg (by rw[hk];decide),if_neg (by rw[hf];decide)]
   rw[<- e2,hs,Am];exact a6 ∅
 show W.d8 _ _=_;rw[wf ⟨c1,c2,c3⟩,hs]
theorem qf(g:Py t)(hT:T.length<=800)(ha:asc T):(cF t.pv (.str T)).le (.ret (.bl true)):=λQ q=>by
 have q:Q (.bl true):=q;have hd:=WK T;unfold cF;simp only[re,lw];refine(Oy ∅ ha).use ?_;have pl:∀r,iY T 0=r->∀x,(S7 aR t.pv T r).le (.ret x)->(NJ aR t.pv (.str T)).le (.ret x):=λr hr x h R hR=>⟨rfl,λz=>absurd rfl (z T),λT' e=>by
  cases e;exact⟨a6 ∅,by rw[hr];exact h R hR⟩⟩
 have cT:T.length<=sizeLine:=a6 ∅;have Ë:∀m:Nat,fb T.cps.toList 0 []=al m->(S7 aR t.pv T (iY T 0)).le (.ret (.int m))->
   (am (c6 (t2 vk (ap (fo (fb T.cps.toList 0 []))) (ap .bx)) (am (am (am (SU (.str T)) λu5=>uK u5 (.str ".")) λl7=>c9 l7 yo) zF) (ap (.tup []))) λcS=>am (uH (t2 vk (ap (fo (fb T.cps.toList 0 []))) (ap .bx)) (km (am (cG t.pv cS) di))) λb=>am (if b=true then (c1 dF (ap (.str T))) else (ap (fo (fb T.cps.toList 0 [])))) λSY=>
    c6 (t2 iL (NJ aR t.pv (.str T)) (ap SY)) (ap (.bl false)) (orB (b2 xS (ap SY) (ap .bx)) (am (Zg aR t.pv (.str T)) λxv=>ba 4 xv cS))).run Q:=λm hm hp=>by
  rw[hm];simp only[fo,re,HH,PV.jk,cW,Aq,if_false,lw];refine(pl _ rfl _ hp).use ?_;simp only[sw,ne_int,cW,re,Aq,if_false,vY,PV.jk,BZ,OG];exact q
 cases hn:oo T "." 0 with
 |error e=>
  rw[hn]at hd;have hE:iY T 0=.error e:=by unfold iY;rw[hn]
  exact Ë e hd (by rw[hE];exact W.le.refl _)
 |ok r=>
  obtain⟨l,n'⟩:=r;rw[hn]at hd;obtain⟨g1,g2,g3⟩:=hd;have hE:iY T 0=.ok (.tup (xj l),n'):=by unfold iY;rw[hn]
  by_cases lt:n'<T.length
  .exact Ë n' (g2 lt) (by rw[hE,xK,if_pos lt];exact W.le.refl _)
  .obtain⟨hA,ps,ē,hl,he⟩:=g3 ∅;have hl:l=ps.map P4:=by simpa using hl
   have Ve:=nF ps λp hp=>(ē.2 p hp).1;have hz:T.cps.toList.length=T.length:=by simp[BU]
   rw[<- he,hz]at Ve;have ll:l.length<=800:=by rw[hl,Am];lia
   have em:c9 ((ps.map λp=>(⟨p.toArray⟩:Str)).map PV.str) yo=.ret (xj l):=by
    rw[iP (g:=λx=>match x with|.str s=>.int (P4 s.cps.toList:Nat)|x=>x) λx hx=>?_]
    .rw[hl];unfold xj;simp only[BJ];exact congrArg ap (Dm λp _=>by simp)
    .obtain⟨s,hs,rfl⟩:=AR.mp hx;obtain⟨p,hp,rfl⟩:=AR.mp hs;have:=VY (ē.2 p hp);simpa using this
   have st:SU (.str T)=.ret T:=wf ∅;have sp:=Kg ē he ∅;have ar:=za g (l.map λv:Nat=>(v:Int)) (by rw[Am];lia);have im:=yn g (l.map λv:Nat=>(v:Int)) (by rw[Am];lia);rw[<- N3]at ar im;generalize hX t (l.map λv:Nat=>(v:Int))=b at ar im;rw[hA];have c1':ql dF [.str T]=.ret (.int T.length):=by rw[mH,wf cT]
   simp only[fo,re,HH,PV.jk,cW,if_true,st,sp,em,Wu,lw,sw];refine ar.use ?_;cases b with
   |true=>
    have hp:(S7 aR t.pv T (iY T 0)).le (.ret .bx):=by
     rw[hE,xK,if_neg lt];exact λR hR=>im _ ⟨true,rfl,hR⟩
    simp only[sw,bS,Be,Aq,if_false,re,lw];refine(pl _ rfl _ hp).use ?_;simp only[sw,VB,cW,re,Aq,if_false,vY,PV.jk,Be,Wx,lw];refine⟨T,.tup (xj l),n',rfl,cT,hE,lt,im _ ⟨rfl,?_⟩⟩;have s4:ba 4 (.tup (xj l)) (.tup (xj l))=.ret (.bl true):=Mo 2 l ∅;show(ba 4 (.tup (xj l)) (.tup (xj l))).run Q;rw[s4];exact q
   |false=>
    have hp:(S7 aR t.pv T (iY T 0)).le (.ret (.int T.length)):=by
     rw[hE,xK,if_neg lt];exact λR hR=>im _ ⟨false,rfl,hR⟩
    simp only[sw,bS,BZ,if_true,re,lw,c1'];refine(pl _ rfl _ hp).use ?_;simp only[sw,ne_int,cW,re,Aq,if_false,vY,PV.jk,BZ,OG];exact q
def G5(k:Nat)(s:Str):Prop:=asc s/\s.length<=k
def mQ{s:Str}(h:s.cps.toList.all (λc=>decide (c<128))=true):asc s:=λc hc=>by simpa using Bq.mp h c hc
def zO:∀n:Nat,n<100->G5 2 (Gu (.int (n:Int))):=by
 intro n hn;simp only[Gu];have:∀n,n<100->((((toString ((n:Nat):Int):String):Str).cps.toList.all (λc=>decide (c<128)))&&decide (((toString ((n:Nat):Int):String):Str).length<=2))=true:=by decide +kernel
 have h:=this n hn;rw[AB]at h;exact⟨mQ h.1,by simpa using h.2⟩
theorem Yt{i:Int}(h0:0<=i)(h1:i<100):∃s,zJ (.int i)=.ret (.str s)/\G5 2 s:=by
 obtain⟨n,rfl⟩:∃n:Nat,i=(n:Int):=⟨i.toNat,by lia⟩;have sg:=zO n ∅;refine⟨(PV.pd (.int (n:Int))).shown,wf ⟨by simp,?_,?_,?_⟩,by rw[PV.pd];exact sg⟩
 .simp only[PV.pd,PyData.showable,decide_eq_true_iff];have:∀n:Nat,n<100->((n:Nat):Int).natAbs.log2<1920:=by decide +kernel
  exact this n ∅
 .simp[PV.pd,PyData.depth]
 .rw[PV.pd];exact a6 (by have:=sg.2;lia)
theorem mZ:∀ds:O Int,(∀d∈ds,0<=d/\d<100)->∃ss:O Str,c9 (cm ds) (λp=>zJ p)=.ret (ss.map PV.str)/\ss.length=ds.length/\∀s∈ss,G5 2 s
 |[],_=>⟨[],rfl,rfl,by simp⟩
 |d::ds,h=>by
  obtain⟨ss,e,l,g⟩:=mZ ds λx hx=>h x (.tail _ hx);obtain⟨s,e2,g2⟩:=Yt (h d (.head _)).1 (h d (.head _)).2;refine⟨s::ss,?_,by simp[l],λx hx=>?_⟩
  .show am (zJ (.int d)) (λy=>am (c9 (cm ds) λp=>zJ p) λm=>ap (y::m))=_;rw[e2,re,e,re];rfl
  .rcases Au.mp hx with rfl|hx
   .exact g2
   .exact g x hx
def N0(h:∀s∈ss,asc s):asc (Str.join "." ss):=λc hc=>by
 rw[qD]at hc;have:∀ps:O (O Nat),(∀p∈ps,∀c∈p,c<128)->∀c∈fq ps,c<128:=by
  intro ps
  induction ps with
  |nil=>intro _ c hc;cases hc
  |cons p ps ih=>
   intro h c hc;rw[j8]at hc;rcases Cp.mp hc with z|z
   .exact h p (.head _) c z
   .unfold jt at z
    split at z
    .cases z
    .rcases Au.mp z with rfl|z
     .decide
     .exact ih (λq hq=>h q (.tail _ hq)) c z
 exact this _ (λp hp=>by obtain⟨s,hs,rfl⟩:=AR.mp hp;exact h s hs) c hc
theorem Mc:∀{ss:O Str},(∀s∈ss,s.length<=k)->(ss.map (·.length)).sum<=k*ss.length
 |[],_=>by simp
 |s::ss,h=>by
  have:=Mc λx hx=>h x (AH s hx);have h1:=h s (.head _);rw[A4,List.sum_cons,Ap,Nat.mul_succ];lia
theorem yk(h:∀s∈ss,G5 k s)(hk:(k+1)*ss.length<=107)(q:∀U,asc U->U.length<=107->Q (.str U)):(vF "." (ss.map PV.str)).run Q:=by
 have hs:=Mc λs hs=>(h s hs).2;have p1:(".":Str).length=1:=by decide +kernel
 have jl:Hm "." ss<=107:=by
  unfold Hm;rw[StrLaws.joinTotal,p1];rw[Nat.add_mul]at hk;lia
 have gl:(Builtin.Str.glued "." ss).length<=107:=by
  rw[FP];have:=StrLaws.join_length_le "." ss;rw[p1]at this;rw[Nat.add_mul]at hk;lia
 show(am (pX (ss.map PV.str)) _).run Q;rw[JI,re];refine⟨⟨a6 ∅,a6 ∅⟩,q _ ?_ gl⟩;rw[FP];exact N0 λs hs=>(h s hs).1
def GV(v:PV):Prop:=∃s,v=.str s/\G5 5 s
theorem Jy:∀{l:O PV},(∀v∈l,GV v)->∃ss:O Str,l=ss.map PV.str/\∀s∈ss,G5 5 s
 |[],_=>⟨[],rfl,by simp⟩
 |v::l,h=>by
  obtain⟨ss,rfl,g⟩:=Jy λx hx=>h x (AH v hx);obtain⟨s,rfl,g2⟩:=h v (.head _);exact⟨s::ss,rfl,λx hx=>by
   rcases Au.mp hx with rfl|hx
   .exact g2
   .exact g x hx⟩
def Sd(h:a<=l.length):jU l bn (al (a:Int))=l.take a:=by
 unfold jU;rw[HT.qb,HT.uS,List.drop_zero,Nat.sub_zero,Nat.min_eq_left h]
theorem ug(h:a<=l.length):jU l (al (a:Int)) bn=l.drop a:=by
 unfold jU;rw[HT.qb,HT.uS,Nat.min_eq_left h,CZ (by rw[Ca];lia)]
theorem KC(h0:0<ds.length)(h1:ds.length<=15)(hb:∀d∈ds,0<=d/\d<100){Q:O PV->Prop}(q:∀ss:O Str,ss.length<=16->(∀s∈ss,G5 5 s)->Q (ss.map PV.str)):(dM (.tup (cm ds))).run Q:=by
 obtain⟨ss,e,sl,sg⟩:=mZ ds hb;have q:∀l:O PV,l.length<=16->(∀v∈l,GV v)->Q l:=λl hl hv=>by
  obtain⟨ss,rfl,g⟩:=Jy hv;exact q ss (by simpa using hl) g
 unfold dM;simp only[re,cZ,e,v8,lw,sw];generalize hW:ss.map PV.str=ws;have wl:ws.length=ds.length:=by rw[<- hW,Am,sl]
 have wg:∀v∈ws,∃s,v=.str s/\G5 2 s:=λv hv=>by
  rw[<- hW]at hv;obtain⟨s,hs,rfl⟩:=AR.mp hv;exact⟨s,rfl,sg s hs⟩
 have wv:∀v∈ws,GV v:=λv hv=>by obtain⟨s,e,g⟩:=wg v hv;exact⟨s,e,g.1,by have:=g.2;lia⟩
 rw[cj (ws.length:Int) ∅ ∅];refine aZ λa a0 a1=>aZ λb b0 b1=>?_;obtain⟨va,ea,ma⟩:=lx (xs:=ws) a0 a1;obtain⟨vb,eb,mb⟩:=lx (xs:=ws) b0 b1;obtain⟨sa,rfl,ga⟩:=wg va (AI ma);obtain⟨sb,rfl,gb⟩:=wg vb (AI mb);obtain⟨i,rfl⟩:∃i:Nat,a=(i:Int):=⟨a.toNat,by lia⟩;obtain⟨j,rfl⟩:∃j:Nat,b=(j:Int):=⟨b.toNat,by lia⟩;have z1:("0":Str).length=1:=by decide +kernel
 have c0:sa.length+("0":Str).length<=sizeLine:=a6 (by have:=ga.2;rw[z1];lia);have ei:((i:Int)+1)=((i+1:Nat):Int):=by lia
 simp only[dU,ea,eb,TD,re,pL,wf c0,fM,sw,lw];generalize hO:[PV.str "0",.str "1",.str "99",.str "100",.str "9999",.str "10000",.str "01",.str "00",.str "",.str "-1",.str "+1",.str "x"]++[PV.str sb,.str (sa++"0")]=od;have ol:od.length=14:=by rw[<- hO];rfl
 have og:∀v∈od,GV v:=λv hv=>by
  rw[<- hO]at hv;have lit:∀s:Str,s.cps.toList.all (λc=>decide (c<128))=true->s.length<=5->GV (.str s):=λs h1 h2=>⟨s,rfl,mQ h1,h2⟩;simp only[Fh,C4,Au,BI,or_false]at hv;rcases hv with rfl|rfl|rfl|rfl|rfl|rfl|rfl|rfl|rfl|rfl|rfl|rfl|rfl|rfl
  .exact lit _ (by decide +kernel) (by decide +kernel)
  .exact lit _ (by decide +kernel) (by decide +kernel)
  .exact lit _ (by decide +kernel) (by decide +kernel)
  .exact lit _ (by decide +kernel) (by decide +kernel)
  .exact lit _ (by decide +kernel) (by decide +kernel)
  .exact lit _ (by decide +kernel) (by decide +kernel)
  .exact lit _ (by decide +kernel) (by decide +kernel)
  .exact lit _ (by decide +kernel) (by decide +kernel)
  .exact lit _ (by decide +kernel) (by decide +kernel)
  .exact lit _ (by decide +kernel) (by decide +kernel)
  .exact lit _ (by decide +kernel) (by decide +kernel)
  .exact lit _ (by decide +kernel) (by decide +kernel)
  .exact⟨sb,rfl,gb.1,by have:=gb.2;lia⟩
  .exact⟨_,rfl,cB ga.1 (mQ (by decide +kernel)),by rw[AA,z1];have:=ga.2;lia⟩
 have eO:gA [PV.str "0",.str "1",.str "99",.str "100",.str "9999",.str "10000",.str "01",.str "00",.str "",.str "-1",.str "+1",.str "x"] [PV.str sb,.str (sa++"0")]=.ret od:=by
  rw[<- hO];exact wf (a6 (by simp))
 simp only[eO,sw,cj 6 ⋯ ⋯];have tk:∀{R:O PV->Prop},(∀v,GV v->R [v])->(am (gQ (ap od) (bh (.int 14))) λx=>ap [x]).run R:=λ{R} r=>by
  simp only[re,lw,cj 14 ⋯ ⋯];refine aZ λd d0 d1=>?_;obtain⟨v,e1,e2⟩:=lx (xs:=od) d0 (by rw[ol];exact d1);simp only[dU,e1,TD,sw];exact r v (og v (AI e2))
 refine aZ λw w0 w1=>?_;have k1:i<ws.length:=by lia
 have k2:j<ws.length:=by lia
 simp only[wj,cW,re,sw,vX,da,ei,Sd (Dj k1),ug (Dj k1),ug (Nat.succ_le_of_lt k1)];have tl:(ws.take i).length=i:=by rw[B9];lia
 have dl:(ws.drop i).length=ws.length-i:=Ca;have dl2:(ws.drop i.succ).length=ws.length-i.succ:=Ca;have tg:∀v∈ws.take i,GV v:=λv h=>wv v (List.mem_of_mem_take h);have dg1:∀v∈ws.drop i,GV v:=λv h=>wv v (F6 h);have dg2:∀v∈ws.drop i.succ,GV v:=λv h=>wv v (F6 h);have æ:∀{l m:O PV},(∀v∈l,GV v)->(∀v∈m,GV v)->∀v∈l++m,GV v:=λh1 h2 v h=>(Cp.mp h).elim (h1 v) (h2 v);have one:∀{v:PV},GV v->∀x∈[v],GV x:=λh x hx=>by rw[Cz.mp hx];exact h
 by_cases w0':w=0
 .subst w0';rw[if_pos ⋯];exact⟨a6 ∅,q _ (by rw[Ag];lia) (æ tg dg2)⟩
 rw[if_neg (by simpa using w0')];by_cases w1':w=1
 .subst w1';rw[if_pos ⋯];refine tk (R:=λl=>((gA (ws.take i) l).bind λZl=>gA Zl (ws.drop i)).run Q) λv hv=>?_;refine⟨a6 (by simp;lia),a6 (by simp;lia),q _ (by simp;lia) (æ (æ tg (one hv)) dg1)⟩
 rw[if_neg (by simpa using w1')];by_cases w2':w=2
 .subst w2';rw[if_pos ⋯];have Zc:∀{l:O PV}{k:Nat}{x:PV},(∀v∈l,GV v)->GV x->∀v∈l.set k x,GV v:=λh hx v hv=>(List.mem_or_eq_of_mem_set hv).elim (h v) λe=>e▸hx;have gva:GV (.str sa):=⟨sa,rfl,ga.1,by have:=ga.2;lia⟩;have gvb:GV (.str sb):=⟨sb,rfl,gb.1,by have:=gb.2;lia⟩;simp only[vW,re,uP k1,lw,sw];rw[uP (by rw[BS];exact k2)];exact q _ (by rw[BS,BS];lia) (Zc (Zc wv gvb) gva)
 rw[if_neg (by simpa using w2')];refine tk (R:=λl=>((gA (ws.take i) l).bind λZl=>gA Zl (ws.drop i.succ)).run Q) λv hv=>?_;exact⟨a6 (by simp;lia),a6 (by simp;lia),q _ (by simp;lia) (æ (æ tg (one hv)) dg2)⟩
def MZ{x:PV}(h:Hu x=true)(hx:∀T,x≠.str T):(NJ mD gv x).le (.ret (.int 0)):=λQ q=>⟨h,λ_=>q,λT e=>absurd e (hx T)⟩
def pC:O Str:=[".","..","0","1","9","12345","-","+"," ","\n",",","a","_","\t",":","/"]
def Ml:∀s∈pC,asc s/\s.length<=8:=by
 intro s hs;have:pC.all (λs=>s.cps.toList.all (λc=>decide (c<128))&&decide (s.length<=8))=true:=by decide +kernel
 have:=Bq.mp this s hs;rw[AB]at this;exact⟨mQ this.1,by simpa using this.2⟩
def Pq(h:∀v∈m,v=.bl true):nW m=.ret (.bl true):=by
 have:m=(Ar m.length true).map PV.bl:=by
  rw[List.map_replicate];exact List.eq_replicate_iff.mpr ⟨rfl,h⟩
 rw[this,pO];congr 2;simp
def aaA:Py (.node (.leaf "a") (.leaf "b")):=by
 have w1:Wd "a":=⟨by decide +kernel,by decide +kernel,by decide +kernel⟩;have w2:Wd "b":=⟨by decide +kernel,by decide +kernel,by decide +kernel⟩;refine⟨λx hx=>?_,?_,?_⟩
 .have hx:x∈(["a","b"]:O Str):=hx;simp only[Au,BI,or_false]at hx;rcases hx with rfl | rfl
  .exact w1
  .exact w2
 .show(["a","b"]:O Str).Nodup;decide +kernel
 .show 2<=8;decide
theorem law76_ok:∀ns:O Int,ns.length<=63->(qw (.cl (ns.map PV.int))).run (·=.bl true):=by
 intro ns hn;unfold qw;have hl:(jU (ns.map PV.int) bn (al 16)).length<=16:=by
  unfold jU;rw[HT.qb,show(al (16:Int))=al ((16:Nat):Int) from rfl,HT.uS];simp only[B9,Ca];lia
 generalize hm:(jU (ns.map PV.int) bn (al 16)).length=m at hl;have ec:gA [PV.str ".",.str "..",.str "0",.str "1",.str "9",.str "12345",.str "-",.str "+",.str " ",.str "\n",.str ",",.str "a",.str "_"] [.str "\t",.str ":",.str "/"]=.ret (pC.map PV.str):=wf ⋯;simp only[re,lw,fM,ec,sw];simp only[re,lw,fM,vX,v8,hm,da,mG,wf (gZ (i:=0) (j:=1+(m:Int)) ∅ ∅),sw];refine yD (λ_ s=>s=()) rfl (λk s hk hs=>?_) (λs hs=>?_)
 .refine Hv ∅ ∅ λl hl=>?_;refine⟨hl,?_⟩;simp only[re,lw,sw];refine yr λt g=>?_;have hz:=g.size;have hp:=t.size_pos;refine yU g λds d D ajI=>?_;have hdl:ds.length=t.size:=D.len;have xl:(splits t).length<=7:=by have:=zK t;have:=g.few;lia
  have ð:hX t ds=true:=D.isD ∅;have bnd:∀x∈ds,0<=x/\x<100:=λx hx=>by
   refine⟨RF ð x hx,?_⟩;obtain⟨j,hj,rfl⟩:=Ge hx;unfold hX at ð;rw[AB,AB]at ð;have:=Bq.mp ð.2.2 j (Bp.mpr ∅);have e:ds.getD j 0=ds[j]:=by rw[AX,Af hj];rfl
   unfold LO at this;rw[<- e];cases e:en t 0 j with
   |word w=>
    rw[e]at this;have this:(ds.getD j 0==0)=true:=this;rw[eq_of_beq this];decide
   |pair a b=>
    rw[e]at this;have this:(decide (ds.getD a 0<ds.getD j 0)&&decide (ds.getD b 0<ds.getD j 0)&&decide (1<=ds.getD j 0)&&decide (ds.getD j 0<=99))=true:=this;rw[AB,decide_eq_true_iff]at this;lia
  obtain⟨ss,em,sl,sg⟩:=mZ ds bnd;have sd:SU (.str ".")=.ret ".":=wf (by decide +kernel);simp only[cZ,re,lw,sd,em,sw];refine yk sg ∅ λT aT lT=>?_;simp only[re,lw,sw,mG,wf (gZ (i:=0) (j:=6) ∅ ∅)];refine yD (λ_ s=>s=()) rfl (λk s hk hs=>?_) (λs hs=>?_)
  .simp only[re,lw];refine Ph aT lT (ss:=pC) ⋯ ⋯ Ml λv hv=>?_;obtain⟨U,rfl,aU,lU⟩:=hv;refine(qf g ∅ aU).use ?_;simp only[sw,bS,Be,Aq,if_false,lw,sd];refine KC ∅ ∅ bnd λss2 l2 g2=>?_;refine yk g2 ∅ λU aU lU=>?_;refine(qf g ∅ aU).use ?_;simp only[sw,bS,Be,Aq,if_false]
  .simp only[qJ,lw,re,cZ,sw,yz];refine JB (λ_ s=>s=()) rfl (λi x s hx hs=>?_) (λs hs=>?_)
   .have hz:Hu x=true/\∀T,x≠.str T:=by
     have:=AI hx;simp only[Au,BI,or_false]at this;rcases this with rfl|rfl|rfl|rfl|rfl|rfl|rfl|rfl|rfl|rfl|rfl<;>exact⟨rfl,λ_ e=>by cases e⟩
    simp only[lw];refine(MZ hz.1 hz.2).use ?_;simp only[sw,nQ,beq_self_eq_true,Be,cW,re,Aq,if_false]
   .simp only[qJ,sw]
 .simp only[qJ,lw,re,sw,fM,fK];refine⟨a6 (by simp),?_⟩;rw[sw];refine tQ (S:=λv=>v=.bl true) (λx hx R r=>?_) λms hl hs=>?_
  .have hz:∃T,x=.str T/\T.length<=800/\asc T:=by
    simp only[Fh,C4,Au,BI,or_false]at hx;rcases hx with rfl|rfl|rfl|rfl|rfl|rfl|rfl|rfl|rfl|rfl|rfl|rfl<;>exact⟨_,rfl,by decide +kernel,mQ (by decide +kernel)⟩
   obtain⟨T,rfl,lT,aT⟩:=hz;exact(qf aaA lT aT).use (r _ rfl)
  .rw[Pq hs];rfl
def all_d{K:Aa}(X:K.In h)(G:h.Ns ii mg)(HL:DX K "is_whole" (top 1))(O0:DX K "is_row" (top 2))(Lg:DX K "is_word" (top 6))(HM:DX K "is_grown" (top 7))(HN:DX K "is_great" (top 8))(HK:DX K "parts_of" (top 9))(R5:DX K "nodes" (top 10))(sL:DX K "split_dates" (top 13))(Lh:DX K "is_date" (top 14))(HP:DX K "is_dates" (top 15))(yQ:DX K "_law_hand" (top 32))(yN:DX K "_law_take" (top 33))(wy:DX K "_law_words" (top 34))(sM:DX K "_law_joined" (top 35))(wB:DX K "_law_great" (top 36))(yP:DX K "_law_rows" (top 37))(wD:DX K "_law_dates" (top 38))(yO:DX K "_law_same" (top 39))(yR:DX K "_law_bent" (top 41))(wC:DX K "_law_fault" (top 42))(nS:DX K "_law_are_dates" (top 43))(wA:DX K "_law_moved" (top 44))(e__law_right:DXc K "_law_right" (top 45) 285)(aes:RD K)(e_xd:XD K)(yJ:DX K "take_many" IX)(sJ:DX K "take_number" Qy)(qY:DX K "take_numbers" IW)(HJ:DX K "read_all" Qz)(wz:DX K "_law_place" sPl)(e_read_dates:DXc K "read_dates" (top 30) 197)(cI:Ay K ii "LONGEST_WORD"=al (al (.int 8 ju)))(fU:Ay K ii "LETTERS"=al (al (.str "abcdefghijklmnopqrstuvwxyz" tq)))(eZ:Ay K ii "LAST_DATE"=al (al (.int 99 n8))){Kf:Tok}(nU:Ay K ii "FIGURES"=al (al (.str "0123456789" Kf))){pW:Tok}(gp:Ay K ii "MOST_FIGURES"=al (al (.int 4 pW))){Qm:Tok}(wN:Ay K ii "POINT"=al (al (.str "." Qm)))(lJ:Ay K ii "isinstance"=al bn)(LX:Ay K ii "bool"=al bn)(SE:Ay K ii "int"=al bn)(SD:Ay K ii "len"=al bn)(Ip:Ay K ii "tuple"=al bn)(SA:Ay K ii "str"=al bn)(XM:Ay K ii "all"=al bn)(Uq:Ay K ii "list"=al bn)(zu:Ay K ii "reversed"=al bn)(XF:Ay K ii "zip"=al bn)(XJ:Ay K ii "max"=al bn)(XG:Ay K ii "set"=al bn)(P9:Ay K ii "range"=al bn)(XN:Ay K ii "abs"=al bn)(xu:Ay K ii "enumerate"=al bn)(XI:Ay K ii "min"=al bn)(uD:Ay K ii "ValueError"=al bn):Uo K mg Uc 290:=by
 constructor
 rintro v rfl rfl D aaH;have aaB:kN 290 "law.<locals>.<lambda>":=⟨by decide +kernel,by decide +kernel⟩;have q:∀b,NB (v.at b):=λb=>⟨Az X G lJ,Az X G LX,Az X G SE,Az X G SD,Az X G Ip,Az X G SA,Az X G XM,Az X G Uq,Az X G zu,Az X G XF,Az X G XJ,Az X G XG,Az X G P9,Az X G XN,Az X G xu,Az X G XI⟩;replace cI:=Bg X G cI;replace fU:=Bg X G fU;replace eZ:=Bg X G eZ;replace nU:=Bg X G nU;replace gp:=Bg X G gp;replace wN:=Bg X G wN;have p:=q v.base;obtain⟨rD⟩:=HL.zp (d:=i4) X G;have Ie:∀b,i4.C (v.at b):=λb=>(rD.at b).c (Hi (rD.at b) (q b));obtain⟨zj⟩:=O0.zp (d:=jQ) X G;have zc:∀b,jQ.C (v.at b):=λb=>(zj.at b).c (NY (zj.at b) (q b));obtain⟨eL⟩:=Lg.zp (d:=fP) X G;have XC:∀b,fP.C (v.at b):=λb=>(eL.at b).c (tW (eL.at b) (q b) cI fU);obtain⟨rE⟩:=HM.zp (d:=(i5 eL.f)) X G;have Ig:∀b,(i5 eL.f).C (v.at b):=λb=>(rE.at b).c (Hj (rE.at b) ((eL.at b).cA (tW (eL.at b) (q b) cI fU)) (zc b));obtain⟨rF⟩:=HN.zp (d:=i6) X G;have Ih:∀b,i6.C (v.at b):=λb=>(rF.at b).c (Hk (rF.at b) eL.at' (Ig b));obtain⟨rC⟩:=HK.zp (d:=iZ) X G;have Ic:∀b,iZ.C (v.at b):=λb=>(rC.at b).c (Hh (rC.at b) (q b));obtain⟨J3⟩:=R5.zp (d:=pN) X G;have Sq:∀b,pN.C (v.at b):=λb=>(J3.at b).c (Rv (J3.at b) (q b) (Ic b));obtain⟨kR⟩:=sL.zp (d:=eS) X G;have sT:∀b,eS.C (v.at b):=λb=>(kR.at b).c (sy (kR.at b) (q b));obtain⟨uA⟩:=Lh.zp (d:=kh) X G;have LA:∀b,kh.C (v.at b):=λb=>(uA.at b).c (KS (uA.at b) (q b) eZ);obtain⟨rG⟩:=HP.zp (d:=k8) X G;have Ii:∀b,k8.C (v.at b):=λb=>(rG.at b).c (Hl (rG.at b) (q b) (Ih b) (Sq b) (Ie b) (zc b) (sT b) (LA b));have xa:kN 197 "read_dates.<locals>.<lambda>":=⟨by decide +kernel,by decide +kernel⟩;obtain⟨⟨wV⟩,⟨mR⟩⟩:=Zd (v:=v) (mD:=aR) (kD:=4) (sD:=top 15) X G aes e_xd yJ sJ qY HJ e_read_dates wz xa Ii ⋯ nU gp wN (Az X G SD) (Az X G lJ) (Az X G SA) (Az X G LX) (Az X G SE) (Az X G uD) (Az X G Ip);refine yQ.go (d:=jS) X G (λD=>yi D p) λzf=>?_;refine yN.go (d:=cL) X G (λD=>yh D) λdB=>?_;refine wy.go (d:=i7) X G (λD=>vw D p dB) λwW=>?_;refine sM.go (d:=gT) X G (λD=>sA D p dB) λsU=>?_;refine wB.go (d:=ja) X G (λD=>vB D p dB sU wW) λwZ=>?_;refine yP.go (d:=gI) X G (λD=>oA D p 12) λoH=>?_;refine wD.go (d:=jc) X G (λD=>vD D p oH dB) λw5=>?_;refine yO.go (d:=jR) X G (λD=>oz D p 4) λzd=>?_;refine yR.go (d:=jT) X G (λD=>yj D p dB) λzg=>?_;refine wC.go (d:=jb) X G (λD=>vC D p) λw4=>?_;refine nS.go (d:=eK) X G (λD=>nC D p oH) λnX=>?_;refine wA.go (d:=i9) X G (λD=>vA D p dB) λwY=>?_;obtain⟨mT,xf⟩:=e__law_right.mk3 (d:=i8) X G;have xb:kN 285 "_law_right.<locals>.<lambda>":=⟨by decide +kernel,by decide +kernel⟩;have wX:=mT.c (vz mT xf xb mR p w4 nX zd wV);exact Zp D aaH aaB mR p zf wZ w5 wX zg wY
end My
end
open PySem PySem.W PyProof.Rows
structure PySem.W.Fast:Prop where(tw2975548121505803778 tw13451614059765457497 tw9436557968099447975 tw17202446153592178583 tw16715522531280707921 tw3205350200099782295 tw9238236725064643467 tw1023396027120802761 tw16141899263861331179 tw17921394037909975381 tw1310458352823791516 tw2553040104482792638 tw6347140337905928569 tw5395269742676124659 tw8853849474731306033 tw16904972900815737533 tw2910893827155558605 tw4432413024462368758 tw8839527499103474091 tw17132171634982858386 tw12294593374326948279 tw5685505375185759100 tw11278853187448947181 tw2960531909734406537 tw1192792150945467647 tw15826861136152182444 tw3131915151527460270 tw738622461957829670 tw9337501317773194690 tw16436527250012885081 tw13150963674513243618 tw9907986014891258664 tw17669561758560607333 tw11271228880010895902 tw3339279762217844382 tw17437043723384535960 tw17477831517244653455 tw13639854868366211134 tw8928192331102595670 tw2579258356722753724 tw10682806484663236493 tw4785815095209644060 tw6859866070597031046 tw15429576278058645590 tw15524742226885011039 tw11327931906138201829 tw5025969514069811569 tw17595409441504936678 tw11148784938818060350 tw6533778499260869873 tw17408469677062620886 tw6617649489007095854 tw15351812842332765595 tw16059548051122245707 tw3737214559854791572 tw12290445899901183220 tw2583584875012897983 tw13350331156942382500 tw887023582297184087 tw13378001238889882102 tw15391944662540840695 tw4125960633199670161 tw333000122740498071 tw10611352118547431005 tw8388085619768778638 tw12699903164205224582 tw3077606021589907509 tw8636916680386776389 tw13437595784573336136 tw16310734800900221323 tw7016970127455966833 tw528317905586119364 tw9808524425374103527 tw13708386341850869085 tw972938482225167934 tw1755880320599411820 tw1292625725534393428 tw693029469131063237 tw9221387918738238074 tw16314191875249970872 tw13011296550763416685 tw17124247789177971009 tw17003022889850964401 tw1783904953287388554 tw4335263957372085689 tw8436862672703309557 tw8053959629723270879 tw15718588914169558608 tw4339073273029188 tw7601753027542804117 tw9210259510488637210 tw12862296709058281340 tw11682218274166867770 tw8323988086740241815 tw10469005282228036577 tw10919639894015732260 tw16643983479879741641 tw11454013096101418551 tw13575657196926070930 tw6330782703402349749 tw669819792276572083 tw1958836692503280823 tw18087571101772026023 tw15898262469086364739 tw4230071563958449754 tw12893019603344467805 tw4048734060844078666 tw15949453440025477791 tw2539236482916923372 tw14413607118994659429 tw15854390648318623350 tw11711580103096645803 tw12660290267114758345 tw8617657091526031424 tw9773508409095758572 tw9433729424115991116 tw289350175071073772 tw17787715829649495148 tw5994304783745504723 tw7644142407693820606 tw10872196273401902941 tw8022765772356669943 tw7549372411700312491 tw4974562224404844086 tw4366631043687986773 tw2814940852507361088 tw17572747060672363718 tw14320957106855642152 tw3825433851651054097 tw5261529868003048241 tw15582071304131723249 tw4470662487936341281 tw18290528363654395320 tw15379433417863896625 tw14991715932126216842 tw11491373843630815941 tw13724907014896792776 tw8193939851109132213 tw7945310096712823113 tw8149284685750372291 tw292063448030105494 tw15232014445874765907 tw10602139279320585655 tw12045147260989070498 tw5169052639516785412 tw15629182610700732740 tw523120640546456129 tw13073959072595909862 tw7976445703345130252 tw9079747606033061400 tw13488977547555962418 tw14241937983345205486 tw17932990910135362133 tw6814093357372917687 tw13491134033166154268 tw2770924168955312222 tw17263695276903632917 tw6845410353963539051 tw12524549137771565874 tw14702559594238739844 tw3851929476076699526 tw7687582705420563602 tw8283628672385589582 tw17050683074547677386 tw6288851691511737585 tw15034898746264878863 tw11017999529583664574 tw66833161862303479 tw6968573781946273903 tw1605052690230749258 tw14405449715274002312 tw6235827848412990595 tw11957806012309696129 tw577115162290261465 tw929035515454299787 tw16400062514835361277 tw1359776434601706508 tw14340797314442513130 tw11080702013982105442 tw14844555029899791118 tw5989548745938585296 tw2056641365813158914 tw8487993948424163704 tw275536639577370161 tw4567741912542014340 tw15073912470754709462 tw15701496541197547236 tw18160005253618636949 tw15009670974202637119 tw8539248384428281216 tw11299212138972951061 tw6934436737122520684 tw11818777196917410907 tw8744196791222054063 tw1664350200336111141 tw14922718836146045424 tw6930855540189197904 tw12591019880508727442 tw5393596743423421 tw2148063434009957712 tw15947666847354849116 tw14700636459721739891 tw13781102146156302609 tw15718791753285937201 tw10818699497546918336 tw10119487547943485743 tw7150420728049797912 tw5914391137551059952 tw18311730853372310902 tw8448609568777059625 tw1874702082608067571 tw10922089643769560338 tw14302466859640400703 tw12603524017907366263 tw2922154392042881711 tw12243040570371663345 tw6845098916647427901 tw4219631459595057809 tw3624634767725697270 tw2261192916397048090 tw10568448370994910332 tw15271343633966720937 tw18356173350530907365 tw6669941137263043566 tw5448747755262397856 tw8929732266995217640 tw4884637487851881438 tw9619827896750516410 tw5719533728734506734 tw15816453882467043514 tw9812798629380347613 tw3368129503660064457 tw11277243604672250430 tw1751708340856907829 tw9426205700107941174 tw11882588643869250203 tw15125342239358623393 tw5058415450286325390 tw4442945054237234905 tw7282556123667934319 tw5564189891733592164 tw15248039513035543115 tw13038711899685801856 tw4803547446325160471 tw6552544905555108747 tw3230206865030472258 tw10216988201889900954 tw10721494875265218867 tw6942007815245138100 tw6229526400281076019 tw14493903532029488567 tw3438036920463086912 tw11664113302932969879 tw13623437898932862661 tw7890213320446257015 tw422994031335800353 tw8632738036016686134 tw17755313870644724328 tw16171117979325961026 tw10421378457484304609 tw2172646530081142280 tw12947990868829545515 tw11701923495252345326 tw17434470715471629442 tw13443016732735124556 tw3270956203113223468 tw17335539747787363213 tw5855402462143860761 tw5947973042703574914 tw6486131216276117119 tw12623067332526874545 tw17241227065920940184 tw8747464934477642426:True)
def PySem.W.Fast.tw7136595944742004519:=PySem.Challenge.pw_treewithin_k76_texts_that_write_no_dates
theorem PySem.W.Fast.te7136595944742004519:PySem.Challenge.pw_treewithin_k76_texts_that_write_no_dates=PySem.W.Fast.tw7136595944742004519:=rfl
set_option maxRecDepth 100000 in
set_option maxHeartbeats 0 in
theorem PySem.Challenge.cw_treewithin_k76_texts_that_write_no_dates_holds : PySem.Challenge.rw_treewithin_k76_texts_that_write_no_dates.Holds := by
 w_on;o_law;k_head;(case hw=>w_witness2)
 k_fill
 refine FL.walkT (l:=PySem.Challenge.rw_treewithin_k76_texts_that_write_no_dates) (k:=15) rfl rfl ⟨rfl,by decide,by decide,rfl⟩ (fun w h Y=>⟨PySem.W.km_in_of Y,PySem.W.km_tabs_of Y⟩) ?K ?C ?F
 case K=>
  intro w P hP;have hP:P∈[285,197,290]:=hP;simp only[List.mem_cons,List.not_mem_nil,or_false]at hP;rcases hP with rfl|rfl|rfl
  all_goals first|rfl|k_is
 case C=>
  intro w h hK P hP;have hP:P∈[285,197,290]:=hP;simp only[List.mem_cons,List.not_mem_nil,or_false]at hP;rcases hP with rfl|rfl|rfl
  ·(refine' FL.DXc.tab (x:="_law_right") (st:=My.top 45) (FL.dxc ?a ?l ?h ?k ?e ?z) hK;(case a=>k_is);(case l=>k_is);(case h=>k_is);(case k=>k_is);(case e=>k_is);(case z=>exact⟨_,_,_,_,_,_,_,rfl,rfl,rfl,rfl,rfl,rfl,by decide⟩))
  ·(refine' FL.DXc.tab (x:="read_dates") (st:=My.top 30) (FL.dxc ?a ?l ?h ?k ?e ?z) hK;(case a=>k_is);(case l=>k_is);(case h=>k_is);(case k=>k_is);(case e=>k_is);(case z=>exact⟨_,_,_,_,_,_,_,rfl,rfl,rfl,rfl,rfl,rfl,by decide⟩))
  ·(refine' FL.DXc.tab (x:="law") (st:=My.top 46) (FL.dxc ?a ?l ?h ?k ?e ?z) hK;(case a=>k_is);(case l=>k_is);(case h=>k_is);(case k=>k_is);(case e=>k_is);(case z=>exact⟨_,_,_,_,_,_,_,rfl,rfl,rfl,rfl,rfl,rfl,by decide⟩))
 case F=>
  intro w mg fa h KX G hmg;have e8_xd:=FL.forK (fun K=>My.XD K) KX (by
   show My.XD _;refine' My.xdx ?e1 ?e2 ?e3 ?e4 ?e5 ?e6 ?e7 ?e8 ?e9 ?e10 ?e11 ?e12 ?e13 ?e14 ?e15 ?e16 ?e17 ?e18 ?e19 ?e20 ?e21 ?e22 ?e23 ?e24 ?e25 ?e26 ?e27 ?e28 ?e29 ?e30 ?e31 ?e32 ?e33 ?e34 ?e35 ?e36 ?e37 ?e38
   case e1=>k_is
   case e2=>k_is
   case e3=>show Gf _ _ [.type "ValueError",.type "Exception",.type "BaseException",.type "object"] _=true;k_exc
   case e4=>k_is
   case e7=>k_is
   case e21=>k_is
   case e25=>k_is
   case e26=>k_is
   case e5=>k_is
   case e6=>k_is
   case e8=>k_is
   case e9=>k_is
   case e10=>k_is
   case e11=>k_is
   case e12=>k_is
   case e13=>k_is
   case e14=>k_is
   case e15=>k_is
   case e16=>k_is
   case e17=>k_is
   case e18=>k_is
   case e19=>k_is
   case e20=>k_is
   case e22=>k_is
   case e23=>k_is
   case e24=>k_is
   case e27=>k_is
   case e28=>k_is
   case e29=>k_is
   case e30=>k_is
   case e31=>k_is
   case e32=>k_is
   case e33=>k_is
   case e34=>rfl
   case e35=>rfl
   case e36=>k_is
   case e37=>k_is
   case e38=>k_is
   )
  have e8__law_right:=FL.forK (fun K=>FL.DXc K "_law_right" (My.top 45) 285) KX (by
   show FL.DXc _ _ _ _;refine' FL.dxc ?a ?l ?h ?k ?e ?z
   case a=>k_is
   case l=>k_is
   case h=>k_is
   case k=>k_is
   case e=>k_is
   case z=>exact⟨_,_,_,_,_,_,_,rfl,rfl,rfl,rfl,rfl,rfl,by decide⟩)
  have e8_read_dates:=FL.forK (fun K=>FL.DXc K "read_dates" (My.top 30) 197) KX (by
   show FL.DXc _ _ _ _;refine' FL.dxc ?a ?l ?h ?k ?e ?z
   case a=>k_is
   case l=>k_is
   case h=>k_is
   case k=>k_is
   case e=>k_is
   case z=>exact⟨_,_,_,_,_,_,_,rfl,rfl,rfl,rfl,rfl,rfl,by decide⟩)
  have e8_law:=FL.forK (fun K=>FL.DXc K "law" (My.top 46) 290) KX (by
   show FL.DXc _ _ _ _;refine' FL.dxc ?a ?l ?h ?k ?e ?z
   case a=>k_is
   case l=>k_is
   case h=>k_is
   case k=>k_is
   case e=>k_is
   case z=>exact⟨_,_,_,_,_,_,_,rfl,rfl,rfl,rfl,rfl,rfl,by decide⟩)
  refine' FL.mkAllC (st:=My.top 46) (P:=290) (k:=15) My.law76_ok KX G hmg e8_law (fun _ _ _ _ _ _=>FL.usN fun _=>rfl) (My.all_d KX G (e_xd:=e8_xd) (e__law_right:=e8__law_right) (e_read_dates:=e8_read_dates) ..)
  all_goals try first|(refine' FL.dx ?a ?l ?c ?k;(case a=>k_is);(case l=>k_is);(case c=>k_is);(case k=>k_is))|(refine' My.rdx ?a ?m2 ?l1 ?c1 ?k1 ?m1 ?m3 ?m4 ?d1 ?d2 ?d3 ?d4 ?n1 ?n2 ?g2 ?l2 ?c2 ?k2 ?i2 ?g3 ?l3 ?c3 ?k3 ?i3;(case a=>k_is);(case m2=>k_is);(case l1=>k_is);(case c1=>k_is);(case k1=>k_is);(case m1=>k_is);(case m3=>k_is);(case m4=>k_is);(case d1=>k_is);(case d2=>k_is);(case d3=>k_is);(case d4=>k_is);(case n1=>k_is);(case n2=>k_is);(case g2=>k_is);(case l2=>k_is);(case c2=>k_is);(case k2=>k_is);(case i2=>k_is);(case g3=>k_is);(case l3=>k_is);(case c3=>k_is);(case k3=>k_is);(case i3=>k_is))|k_is
#print axioms PySem.Challenge.cw_treewithin_k76_texts_that_write_no_dates_holds
