import PyProof.Rows.All
import Wide.All
import OpenK.AllK
import Wide.FinOn
import Lean
import PyProof.EqAt
import PyProof.EqKinds
import PyProof.TupleCall
import PyProof.NeKinds
import PyProof.FactsAll.tuple_2
import PyProof.FactsAll.str_0
import PyProof.FactsAll.str_1
import PyProof.FactsAll.str_2
import PyProof.FactsAll.str_3
import PyProof.Rows.MinMaxN
import PyProof.Rows.SumAny
import PyProof.Rows.SetFrom
import PyProof.ReprRoads
import PyProof.Rows.StrKeys3
import PyProof.CallFns
import KE.KSortTup
import KE.KDictSum
import KE.KIsAll
import KE.KIntText
import PyProof.StrLawsIn
import PyProof.StrLawsTight
import PyProof.StrLawsChain
import PySem.Challenge.RW_treewithin_k75_dates_written_and_read
open PySem.W renaming Frag -> Aa, findIn -> Av, nsIn -> Aw, mg_none_of -> Ay, kitOne -> AG, keepIn -> AH, Looks -> AX, kia_one -> A5, mg_of -> Ba, fnOf -> Be, mroIn -> Bx, emptyDict -> BD, clsIn -> BF, looks_findIn -> BI, callWith_K -> BS, codeIn -> BX, specialIn -> B3, hasDictIn -> B4, instObj -> B7, looks_mroIn -> Cr, looks_clsIn -> Cs, kitAny -> Cu, isFn -> Cz, plainGet -> CV, any_some -> CW, InstAt -> Dh, FnAt -> Di, methodCall_KW -> Dz, subIn -> DE, plainGet_of -> DU, typeIn -> Ef, lookIn -> Eg, callWith_F -> Eh, plainOver -> Ey, methodObj -> Ez, kitx_list -> EA, kitx_dict -> EB, envX -> E3, cellsFrom_some -> E4, takesIn -> Fe, takerIn -> Ff, makesIn -> Fg, tabObj -> Fu, hideAll_size -> Fv, hideAll_none -> Fw, hideAll_get -> FJ, findObj_own -> FK, excIn -> FP, of_hideAll -> FU, looks_find -> FV, kitx_tuple -> FW, set_plain -> F1, handedIn -> F8, InitBack -> F9
open PySem renaming wpAny_bind -> Ab, wpAny_pure -> Ae, wpAny_Call_Name_kw -> AL, wpAny_field -> AV, Addr -> AW, Value -> AZ, wpAny_holding -> A4, wpAny_loadPart -> A7, wpAny_setField_rec -> Bc, mem_of_lookup -> Bg, wpAny_truthy_bool -> Bl, wpAny_callSpecial?_slot -> Bt, wpAny_mono -> Bv, Str -> BJ, Expr -> BL, wpAny_seqItems -> BM, wpAny_newObj_type -> BN, wpAny_standAt -> BW, Pos -> Cc, wpAny_call_entry -> Cd, wpAny_passesOwn -> Ck, wpAny_call -> Cp, wpAny_execs_nil -> CF, wpAny_attempt -> CJ, wpAny_of_eq -> CP, Shared -> CY, wpAny_rule -> Dc, wpAny_letGo -> Df, wpAny_setField -> Dp, wpAny_pyIter_enum -> Dq, wpAny_newTuple -> Dr, wpAny_loadPart_at -> Ds, wpAny_bindName -> Du, wpAny_onRaise -> DG, wpAny_updateSeq_pair -> DL, wpAny_updateSeq -> DR, wpAny_isSubtype_exc -> DW, boot_len -> Ep, Heap -> Er, wpAny_pyIter_tuple -> Es, wpAny_letOwnedTupleGo_enum -> Et, wpAny_pyIter_list -> EE, wpAny_comprehension_free -> ER, wpAny_isInstance -> EX, wpAny_execs_cons -> EY, wpAny_specialOf -> Fj, wpAny_listPart -> FE, Obj -> FI, frameOf -> FQ, Program -> FR, Within -> F4
open PySem.Heap renaming get?_push_of_some -> Ad, lt_size -> Ai, get?_push_size -> Al, get?_update_ne -> Bf, size_push -> Bi, get?_update_self -> Cj, SameBut -> CC, get?_update_other -> Dl
open List renaming getElem?_eq_getElem -> Af, size_toArray -> Ag, length_append -> Ah, getElem?_eq_some_iff -> Ak, length_map -> Am, getElem?_map -> An, length_cons -> Ap, replicate -> Ar, mem_cons -> Az, mem_cons_of_mem -> AD, lookup_cons -> AI, range -> AN, getD_eq_getElem?_getD -> AQ, mem_map -> AR, getElem?_append_left -> AU, map_cons -> AY, getElem?_append_right -> A1, getElem?_eq_none -> A2, append_nil -> A3, mem_append_right -> A8, mem_of_getElem? -> A9, filterMap_cons -> Bh, mem_range -> Bj, all_eq_true -> Bk, drop_eq_getElem_cons -> Bo, mem_cons_self -> Bp, getElem?_replicate -> Bu, mem_filter -> Bz, map_map -> BC, map_append -> BH, length_replicate -> BQ, getElem?_set_ne -> B1, eq_nil_of_length_eq_zero -> B2, forIn_cons -> B8, length_pos_iff -> Ca, length_take -> Cf, mem_singleton -> Ci, length_set -> Cm, any_cons -> Cq, flatMap_append -> Ct, not_mem_nil -> Cv, lookup -> Cy, getElem?_set_self -> CD, nodup_cons -> CG, ext_getElem? -> CM, append_assoc -> CN, takeWhile_cons_of_pos -> CS, takeWhile_cons_of_neg -> CT, length -> CU, length_drop -> CZ, replicate_succ -> C1, length_reverse -> C2, getElem?_range -> C3, nil_append -> C6, mem_append -> C7, foldl_cons -> C8, mem_filterMap -> Dd, take_of_length_le -> Dv, reverse_cons -> Dw, pairwise_lt_range -> Dx, length_singleton -> DA, length_filter_le -> DB, filter_cons -> DD, getElem_toArray -> DM, getElem?_of_mem -> DN, of_mem_zip -> DS, find?_cons -> DT, take_succ_cons -> DY, map_congr_left -> DZ, getElem?_zip_eq_some -> Ex, pairwise_map -> EH, nodup_append -> EI, length_range -> EJ, getElem?_set -> EK, flatten_cons -> EL, set_comm -> ES, length_erase_of_mem -> ET, drop_length -> E1, map_nil -> E7, length_pos_of_mem -> E8, drop_eq_nil_of_le -> E9, all_map -> Fb, singleton_append -> Fo, lookup_cons_self -> Fp, contains_iff_mem -> Fq, mem_append_left -> FH, reverse_append -> FN, getElem_of_mem -> FO
open Nat renaming le_refl -> Aj, lt_of_lt_of_le -> Au, ne_of_lt -> AB, le_trans -> AE, lt_irrefl -> AM, zero_le -> Bn, le_add_right -> Br, le_of_ble_eq_true -> BE, lt_succ_self -> Ce, lt_or_ge -> Ec, le_of_lt -> Ed, le_of_eq -> Ee, not_lt -> Eu, lt_succ_of_lt -> EG, ne_of_gt -> E6, le_succ -> FG, add_assoc -> FT, zero_add -> F6, ble -> F7
open PySem.Value renaming ref -> Ao, none -> AJ, type -> Co, int -> CH, bool -> C9, str -> Ga
open Bool renaming false_eq_true -> Aq, and_eq_true -> AA, not_true -> Bm, false_ne_true -> Bq, not_false -> Cw, not_eq_true' -> Dy, true_and -> DH, and_false -> Ew
open False renaming elim -> AO
open PySem.Calls renaming spliced_cons -> A6, spliced_nil -> BK, callWith_builtin -> Dn, Name_function_global -> Eo, evalArgs_plain -> FA
open PySem.NameKind renaming free -> Bb, cell -> CI
open PyProof.Rows renaming callWith_type1 -> Bd, callWith_builtin1 -> DC
open Or renaming inl -> Bs, inr -> Bw
open Ne renaming symm -> BA
open PySem.PyData renaming hasDict -> BG, shown -> Ea, hasDictAll -> EC
open PySem.PassesOwn renaming never -> BO, leaving -> F2
open True renaming intro -> BR
open PySem.AutoSeq1 renaming wpAny_loadPart' -> BU, sub_list_tuple -> DK
open Int renaming emod_lt_of_pos -> BV, emod_nonneg -> B9, toNat_natCast -> CO, toNat_of_nonneg -> D7, eq_ofNat_of_zero_le -> E2, zero_add -> Fc, le_refl -> Gh
open PySem.Challenge renaming pw_treewithin_k75_dates_written_and_read -> BZ
open PySem.Str renaming length_append -> B5, length -> CA, ofString -> Dj, cps_append -> Fy, empty -> Gb
open PySem.F renaming plainAttrs_list -> B6, slot_tuple_iterator_next -> Cg, slot_enumerate_next -> CK, args_tuple_add_2 -> C4, entry_tuple_add -> De, slot_tuple_add -> Dm, args_list_extend_2 -> DJ, slot_zip_next -> DP, args_tuple_iterator_next_1 -> DQ, entry_list_extend -> DV, entry_tuple_iterator_next -> Eb, excCall_ValueError -> Ek, excBase_ValueError -> El, excAttr_ValueError -> Em, slot_list_extend -> En, type_list_append -> EN, slot_list_append -> EO, args_enumerate_next_1 -> EW, entry_enumerate_next -> E5, entry_bexc_ga -> Fm, args_bexc_ga -> Fz
open PySem.Obj renaming mapFields -> Cb, mapSeq -> CB
open ForInStep renaming yield -> Cn
open PySem.EntryCells renaming newEntry -> C0
open Option renaming map_some -> C5, getD_none -> EZ, isSome_some -> FY, isSome_map -> F5
open And renaming right -> Dg
open PySem.Manifest.AttrKind renaming slot -> Dk
open Array renaming toList_append -> D8, length_toList -> D9, getElem?_eq_none -> Fd
open PySem.SeqAt.RcNeAt renaming lists_lengths -> Ei, lists -> FX
open PySem.SeqAt renaming EqAt -> Ej
open PySem.EqBoolInt renaming of_rcne -> ED, of_rc -> Fh
open PySem.SeqAt.RcAt renaming lists_lengths -> EM, lists -> Gd
open PySem.StrLaws renaming found_one -> EU
open PySem.Around renaming frames_deeper -> FC
open PySem.callAny renaming viaDunder -> FZ
open PySem.Within renaming cons -> F0
open PySem.Data renaming seq -> F3
open PySem.IsL renaming isList -> Ge
open PySem.IntMulOk renaming of_bits -> Gf
open PyProof.Rows.IsTup renaming new -> Gg
open Sum renaming inr -> Gi, inl -> Gj
open PySem.Flow renaming ret -> Gk
open PySem.Fin renaming done -> Gm
set_option compiler.extract_closed false
set_option Elab.async false
set_option linter.all false
set_option maxRecDepth 100000
set_option maxHeartbeats 1000000
open Option renaming some→al,none→bn
open PyProof.Rows renaming envOfC→xL,assignInOrder_cons→BT,boot_isinstance→Ch,boot_str→FS,boot_tuple→Ix,AllBare→Rs,IntsAre→SC
open PySem renaming Value→ce,Addr→db,wpAny→f8,Shared→gl,mainGlobals→gt,model→ii,starEach→lf,Heap→lw,Expr→o0,eval→pc,swapsWith→pr,rawInt→re,compareOp→r6,Program→sw,attributeBase→sB,Stmt→sK,bootBuiltins→tz,holding→u8,behindInMarks→wf,FuncData→wp,cellsFrom→wv,binaryOp→ww,World→wE,Around→wP,Scope→wS,PassesOwn→wT,NameKind→xz,codeAny_mono→zn,swapsWithSole→Da,swappedStores→Db,sysModules→EQ,sliceBounds→Fa,isInstance→Fk,call_meets→FB,cLine→FM,IntMulOk→Gc,Builtin→GE,sizeLine_eq→GM,checkBuiltinCall→GT,backTo→IR,assignEach→KB,standAt→KF,codeAny→KM,setField→Op,excClassObj→Os,codeAny_call_builtin→Pi,assign→Pv,builtinsNs→PP,bindArgs→P3,keywordEach→Re,codeAmong→Sc,setItem→SB,letOwnedTupleGo→SZ,getAttrByItsOwn→Tk
set_option genSizeOf false
local macro_rules | `(command|def $i:declId $s:optDeclSig $v:declVal)=>`(command|noncomputable def $i:declId $s:optDeclSig $v:declVal)
local macro_rules | `(command|abbrev $i:declId $s:optDeclSig $v:declVal)=>`(command|noncomputable abbrev $i:declId $s:optDeclSig $v:declVal)
theorem rTq9(h:0=0:=by rfl):0=0:=h
local macro_rules | `(‹$p›)=>`(autoParam $p rTq9._auto_1)
local macro_rules | `(‹_›)=>`(by assumption)
theorem dTq9(h:0=0:=by decide):0=0:=h
local macro_rules | `(~~~$p)=>`(autoParam $p dTq9._auto_1)
local macro_rules | `(∅)=>`(by lia)
local macro_rules | `(⋯)=>`(by decide)
open PySem PySem.Spec PyProof.Rows
abbrev O.{u}(α:Type u):=List α
namespace L2
end L2
namespace My
end My
namespace PL
end PL
namespace FL
end FL
open L2 My PL FL
namespace L2
abbrev Key:=Sum Int Str
def rh:Key->ce->Bool
 |.inl k,v=>Value.isInt k v
 |.inr x,v=>Value.isStrOf x v
def aae(w:wE):Key->Int
 |.inl k=>hashInt k
 |.inr x=>hashStr w x
def bG:∀{k:Key}{v:ce},rh k v=true->(∃i t,k=Gj i/\v=CH i t)\/(∃x t,k=Gi x/\v=Ga x t)
 |.inl i,v,h=>by
  obtain⟨t,e⟩:=Value.isInt_shape h;exact .inl ⟨i,t,rfl,e⟩
 |.inr x,v,h=>by
  obtain⟨t,e⟩:=Value.isStrOf_shape (v:=v) h;exact .inr ⟨x,t,rfl,e⟩
def Ht(i:Int)(t:Tok):rh (.inl i) (.int i t)=true:=by simp[rh,Value.isInt]
def Hs(x:Str)(t:Tok):rh (.inr x) (.str x t)=true:=by simp[rh,Value.isStrOf]
def Ss(a b:Int):decide ((Gj a:Key)=Gj b)=(a==b):=by
 by_cases e:a=b
 .subst e;simp
 .rw[decide_eq_false (λq=>e (Gj.inj q))];exact(beq_eq_false_iff_ne.mpr e).symm
def So(a b:Str):decide ((Gi a:Key)=Gi b)=decide (a=b):=by
 by_cases e:a=b
 .simp
 .rw[decide_eq_false (λq=>e (Gi.inj q)),decide_eq_false e]
def Sr(a:Int)(b:Str):decide ((Gj a:Key)=Gi b)=false:=decide_eq_false (λq=>nomatch q)
def Sq(a:Str)(b:Int):decide ((Gi a:Key)=Gj b)=false:=decide_eq_false (λq=>nomatch q)
def cq(prog:sw)(w:wE):PySem.KeyKind prog w Key where
 is:=rh
 hash:=aae w
 inj:=λv a b ha hb=>by
  rcases bG ha with⟨i,t,rfl,rfl⟩|⟨x,t,rfl,rfl⟩
  .rcases bG hb with⟨j,u,rfl,e⟩|⟨y,u,rfl,e⟩
   .injection e with e1 _;rw[e1]
   .exact nomatch e
  .rcases bG hb with⟨j,u,rfl,e⟩|⟨y,u,rfl,e⟩
   .exact nomatch e
   .injection e with e1 _;rw[e1]
 byValue:=λk v h=>by
  rcases bG h with⟨i,t,rfl,rfl⟩|⟨x,t,rfl,rfl⟩<;>rfl
 pyHash:=λhv h=>by
  rcases bG hv with⟨i,t,rfl,rfl⟩|⟨x,t,rfl,rfl⟩
  .exact wpAny_pyHash_int h
  .exact wpAny_pyHash_str h
 eqBool:=λhu hv h=>by
  rcases bG hu with⟨i,t,rfl,rfl⟩|⟨x,t,rfl,rfl⟩
  .rcases bG hv with⟨j,u,rfl,rfl⟩|⟨y,u,rfl,rfl⟩
   .rw[Ss]at h;exact wpAny_eqBool_int h
   .rw[Sr]at h;exact Ej.int_str i t y u _ _ _ _ h
  .rcases bG hv with⟨j,u,rfl,rfl⟩|⟨y,u,rfl,rfl⟩
   .rw[Sq]at h;exact Ej.str_int x t j u _ _ _ _ h
   .rw[So]at h;exact wpAny_eqBool_str h
 «strs»:=λk x t v h=>by
  rcases bG h with⟨i,u,rfl,e⟩|⟨y,u,rfl,e⟩
  .exact nomatch e
  .injection e with e1 _;subst e1;cases v<;>rfl
def vo(prog:sw)(w:wE)(i:Int)(t:Tok):(cq prog w).is (.inl i) (.int i t)=true:=Ht i t
def vn(prog:sw)(w:wE)(x:Str)(t:Tok):(cq prog w).is (.inr x) (.str x t)=true:=Hs x t
end L2
variable{us:O AZ}{u:AZ}{a b e:AW}{P:FR}{w:PySem.World}{h h':Er}{α β:Type}
namespace L2
inductive V where
 |br|bl (b:Bool)|int (i:Int)|str (x:Str)|QD (b:Array UInt8)|S3 (b:UInt64)|ref (a:db)|ty (n:String)
 deriving DecidableEq
def RelV:V->ce->Prop
 |.br,u=>u=AJ
 |.bl b,u=>u=C9 b
 |.int i,u=>∃t,u=CH i t
 |.str x,u=>∃t,u=Ga x t
 |.QD b,u=>∃t,u=Value.bytes b t
 |.S3 b,u=>∃t,u=Value.float b t
 |.ref a,u=>u=Ao a
 |.ty n,u=>u=Co n
abbrev Vals:O V->O ce->Prop:=Paired RelV
def Vals.length{xs:O V}(r:Vals xs us):xs.length=us.length:=Paired.length r
theorem Vals.get:∀{xs:O V}{us:O ce}{i:Nat}{x:V},Vals xs us->xs[i]?=al x->∃u,us[i]?=al u/\RelV x u
 |_,_,_,_,.nil,e=>by simp at e
 |_,_,0,_,.cons r _,e=>by simp at e;subst e;exact⟨_,rfl,r⟩
 |_,_,i+1,x,.cons _ t,e=>by
  obtain⟨u,h1,h2⟩:=Vals.get t (by simpa using e);exact⟨u,by simpa using h1,h2⟩
theorem Vals.set{x:V}(r:RelV x u):∀{xs:O V}{us:O ce} (i:Nat),Vals xs us->Vals (xs.set i x) (us.set i u)
 |_,_,_,.nil=>.nil
 |_,_,0,.cons _ t=>.cons r t
 |_,_,i+1,.cons q t=>.cons q (Vals.set r i t)
theorem Vals.append:∀{xs ys:O V}{us ws:O ce},Vals xs us->Vals ys ws->Vals (xs++ys) (us++ws)
 |_,_,_,_,.nil,s=>s
 |_,_,_,_,.cons r t,s=>.cons r (Vals.append t s)
theorem Vals.take:∀{xs:O V}{us:O ce} (n:Nat),Vals xs us->Vals (xs.take n) (us.take n)
 |_,_,0,_=>.nil
 |_,_,_+1,.nil=>.nil
 |_,_,n+1,.cons r t=>.cons r (Vals.take n t)
theorem Vals.drop:∀{xs:O V}{us:O ce} (n:Nat),Vals xs us->Vals (xs.drop n) (us.drop n)
 |_,_,0,r=>r
 |_,_,_+1,.nil=>.nil
 |_,_,n+1,.cons _ t=>Vals.drop n t
def lq:Option V->Option ce->Prop
 |some v,al u=>RelV v u
 |none,bn=>True
 |_,_=>False
def KV{κ:Type}:O (κ×V)->O (κ×ce)->Prop:=Paired λ(p:κ×V) (q:κ×ce)=>p.1=q.1/\RelV p.2 q.2
def kV:Key->V
 |.inl i=>.int i
 |.inr x=>.str x
inductive HO where
 |lst (xs:List V)
 |tup (xs:List V)
 |dK (ay:List (Key×V))|dT (ay:List (List Key×V))
 |set (S:Int->Bool) (n:Nat)
 |ins (C dx:db) (fs:List (Str×V))
 |own (x:db)
 |xd (fs:List (Str×V))
 |met (f x:db)
 |ZJ (lo hi:Int)
 |cE (o:Obj) (u:HO)
 |mP (ps:Array ce)
 |ext (φ:lw->Prop)
abbrev Hp:=db->Option HO
def upd(H:Hp)(a:db)(o:HO):Hp:=λb=>if b=a then al o else H b
def aw{H:Hp}{o:HO}:upd H a o a=al o:=by unfold upd;rw[if_pos rfl]
def af{H:Hp}{o:HO}(h:b≠a):upd H a o b=H b:=by unfold upd;rw[if_neg h]
def vj{H:Hp}{o u:HO}(h:H a=al o)(h':H b=al u)(d:o≠u):a≠b:=by
 intro e;subst e;rw[h]at h';exact d (Option.some.inj h')
def a6{H:Hp}{o:HO}(h:H a=al o)(h':H b=bn):a≠b:=by
 intro e;subst e;rw[h]at h';cases h'
section
variable(P:sw)(w:wE)
def bC(H:Hp)(h:lw)(a:db):HO->Prop
 |.lst xs=>xs.length<=sizeLine/\∃(ao:O ce) (n:Nat),Vals xs ao/\h.get? a=al {cls:=.type "list",data:=.seq ao.toArray n}
 |.tup xs=>xs.length<=sizeLine/\∃ao:O ce,Vals xs ao/\IsTup h a ao.toArray/\∃o,h.get? a=al o/\o.dict=bn
 |.dK ay=>ay.length<=sizeLine/\(a==EQ)=false/\∃vs,KV ay vs/\h.DictOf (cq P w) a vs
 |.dT ay=>ay.length<=sizeLine/\(a==EQ)=false/\∃xs:O (O Key×db×ce),
   Paired (λ(p:O Key×V) (q:O Key×db×ce)=>p.1=q.1/\H q.2.1=al (.tup (p.1.map kV))/\RelV p.2 q.2.2) ay xs/\
   ∃o es ep,h.get? a=al o/\o.ExactDict/\o.data=.dict es ep/\es.toList=xs.map (entryOfKey (tupleKind (cq P w)))/\(xs.map (·.1)).Nodup
 |.set S n=>h.SetOf (intKind P w) a S n
 |.ins C dx fs=>H dx=al (.own a)/\fs.length<=1000/\dx≠a/\h.get? a=al (B7 C dx)/\
   ∃mA,h.Ns1 dx mA/\(∀f,lq (fs.lookup f) (mA f))/\F4 mA (fs.map (·.1))
 |.own _=>∃o,h.get? a=al o
 |.xd fs=>∃mA,h.Ns1 a mA/\∀f,lq (fs.lookup f) (mA f)
 |.ZJ lo hi=>∃t u v,h.get? a=al {cls:=.type "range",data:=.fields #[.int lo t,.int hi u,.int 1 v]}
 |.cE o u=>h.get? a=al o/\bC H h a u
 |.mP ps=>h.get? a=al {cls:=.none,data:=.fields ps}
 |.met f x=>h.get? a=al (Ez (.ref f) (.ref x))
 |.ext φ=>φ h/\(∃o,h.get? a=al o)/\∀h1 h2:lw,φ h1->(∀o,h1.get? a=al o->h2.get? a=al o)->φ h2
def gJ(H:Hp)(h:lw):Prop:=∀a o,H a=al o->bC P w H h a o
end
section
variable{H H':Hp}{o:HO}
def bC.lt(x:bC P w H h a o):a<h.objs.size:=by
 cases o with
 |lst xs=>obtain⟨_,_,_,_,e⟩:=x;exact Ai e
 |tup xs=>obtain⟨_,_,_,p,_⟩:=x;exact p.lt
 |dK ay=>obtain⟨_,_,_,_,o,_,_,e,_⟩:=x;exact Ai e
 |dT ay=>obtain⟨_,_,_,_,o,_,_,e,_⟩:=x;exact Ai e
 |set S n=>obtain⟨o,_,_,_,e,_⟩:=x;exact Ai e
 |ins C dx fs=>obtain⟨_,_,_,e,_⟩:=x;exact Ai e
 |own y=>obtain⟨_,e⟩:=x;exact Ai e
 |xd fs=>obtain⟨_,⟨_,_,_,e,_⟩,_⟩:=x;exact Ai e
 |ZJ lo hi=>obtain⟨_,_,_,e⟩:=x;exact Ai e
 |cE ob u=>obtain⟨e,_⟩:=x;exact Ai e
 |mP ps=>exact Ai (x)
 |met f y=>exact Ai (show h.get? a=al _ from x)
 |ext φ=>obtain⟨_,⟨_,e⟩,_⟩:=x;exact Ai e
theorem Paired.Sb{F G:α->β->Prop}:∀{l₁:List α}{l₂:List β},Paired F l₁ l₂->(∀a b,F a b->G a b)->Paired G l₁ l₂
 |_,_,.nil,_=>.nil
 |_,_,.cons r t,f=>.cons (f _ _ r) (Paired.Sb t f)
def bC.lB(x:bC P w H h a o)(k:∀b u,(b=a\/H b=al (.own a))->h.get? b=al u->h'.get? b=al u)(ho:∀b,H b=al (.own a)->H' b=al (.own a))(ht:∀b xs,H b=al (.tup xs)->H' b=al (.tup xs)):bC P w H' h' a o:=by
 induction o with
 |lst xs=>obtain⟨z,ao,n,r,e⟩:=x;exact⟨z,ao,n,r,k _ _ (.inl rfl) e⟩
 |tup xs=>obtain⟨z,ao,r,⟨ob,e,c⟩,od,e2,d⟩:=x;exact⟨z,ao,r,⟨ob,k _ _ (.inl rfl) e,c⟩,od,k _ _ (.inl rfl) e2,d⟩
 |dK ay=>obtain⟨z,y,vs,r,ob,es,ep,e,c⟩:=x;exact⟨z,y,vs,r,ob,es,ep,k _ _ (.inl rfl) e,c⟩
 |dT ay=>
  obtain⟨z,y,xs,r,ob,es,ep,e,c⟩:=x;exact⟨z,y,xs,Paired.Sb r λp q z=>⟨z.1,ht _ _ z.2.1,z.2.2⟩,ob,es,ep,k _ _ (.inl rfl) e,c⟩
 |set S n=>obtain⟨ob,es,ep,t,e,c⟩:=x;exact⟨ob,es,ep,t,k _ _ (.inl rfl) e,c⟩
 |ins C dx fs=>
  obtain⟨d,z,ne,e,mA,⟨od,es,ep,e2,c⟩,r⟩:=x;exact⟨ho _ d,z,ne,k _ _ (.inl rfl) e,mA,⟨od,es,ep,k _ _ (.inr d) e2,c⟩,r⟩
 |own y=>obtain⟨ob,e⟩:=x;exact⟨ob,k _ _ (.inl rfl) e⟩
 |xd fs=>obtain⟨mA,⟨od,es,ep,e,c⟩,r⟩:=x;exact⟨mA,⟨od,es,ep,k _ _ (.inl rfl) e,c⟩,r⟩
 |ZJ lo hi=>obtain⟨t,u,v,e⟩:=x;exact⟨t,u,v,k _ _ (.inl rfl) e⟩
 |cE ob u ih=>obtain⟨e,q⟩:=x;exact⟨k _ _ (.inl rfl) e,ih q⟩
 |mP ps=>
  have e:h.get? a=al {cls:=.none,data:=.fields ps}:=x;show h'.get? a=al {cls:=.none,data:=.fields ps};exact k a _ (.inl rfl) e
 |met f y=>
  have e:h.get? a=al (Ez (.ref f) (.ref y)):=x;show h'.get? a=al (Ez (.ref f) (.ref y));exact k a _ (.inl rfl) e
 |ext φ=>obtain⟨p,⟨o,e⟩,st⟩:=x;exact⟨st _ _ p λo q=>k _ _ (.inl rfl) q,⟨o,k _ _ (.inl rfl) e⟩,st⟩
def gJ.lt(x:gJ P w H h)(e:H a=al o):a<h.objs.size:=(x a o e).lt
def gJ.fresh(x:gJ P w H h)(e:h.objs.size<=a):H a=bn:=by
 cases q:H a with
 |none=>rfl
 |some u=>exact absurd (Au (x.lt q) e) (AM _)
def gJ.kept(x:gJ P w H h)(k:∀b u,h.get? b=al u->h'.get? b=al u):gJ P w H h':=λa o e=>
 (x a o e).lB (λb u _ q=>k b u q) (λ_ q=>q) λ_ _ q=>q
def gJ.laid(x:gJ P w H h)(k:∀b u,h.get? b=al u->h'.get? b=al u)(hp:h.objs.size<=a)(new:bC P w (upd H a o) h' a o):gJ P w (upd H a o) h':=λb u e=>by
 have hn:=x.fresh hp;by_cases hb:b=a
 .subst hb;rw[aw]at e;cases e;exact new
 .rw[af hb]at e;exact(x b u e).lB (λc v _ q=>k c v q) (λc q=>by rw[af (a6 q hn)];exact q) λc xs q=>by rw[af (a6 q hn)];exact q
end
def Rd(H:Hp)(a:db)(u:HO):Prop:=H a=al u\/∃o,H a=al (.cE o u)
def Rd.ok{H:Hp}{u:HO}(r:Rd H a u)(x:gJ P w H h):bC P w H h a u:=by
 rcases r with r|⟨o,r⟩
 .exact x a u r
 .obtain⟨_,q⟩:=x a _ r;exact q
def XQ:Option HO->Prop
 |some (.lst _)=>True
 |some (.dK _)=>True
 |some (.dT _)=>True
 |some (.set _ _)=>True
 |some (.ins _ _ _)=>True
 |some (.ext _)=>True
 |_=>False
section
variable{H:Hp}{x:db}{o':HO}
def gJ.write(ok:gJ P w H h)(mu:XQ (H x))(he:e=x\/H e=al (.own x))(k:∀b u,b≠e->h.get? b=al u->h'.get? b=al u)(Uq:∃u,h'.get? e=al u)(new:bC P w (upd H x o') h' x o'):gJ P w (upd H x o') h':=λb u q=>by
 have N0:∀c y,H c=al (.own y)->c≠x:=λc y r z=>by subst z;rw[r]at mu;exact mu
 have ZV:∀c xs,H c=al (.tup xs)->c≠x:=λc xs r z=>by subst z;rw[r]at mu;exact mu
 by_cases hb:b=x
 .subst hb;rw[aw]at q;cases q;exact new
 .rw[af hb]at q;by_cases SW:b=e
  .have q':H b=al (.own x):=by
    rcases he with z|z
    .exact absurd (SW.trans z) hb
    .rw[SW];exact z
   rw[q]at q';cases q';obtain⟨v,hv⟩:=Uq;exact⟨v,by rw[SW];exact hv⟩
  .refine(ok b u q).lB (λc v hc r=>k c v ?_ r) (λc r=>by rw[af (N0 c b r)];exact r) λc xs r=>by rw[af (ZV c xs r)];exact r
   rcases hc with rfl|hc
   .exact SW
   .rintro rfl;rcases he with z|z
    .exact N0 c b hc z
    .rw[hc]at z;cases z;exact hb rfl
end
structure Un(fs ex:List db)(H H':Hp)(h h':lw):Prop where
 keep:∀b o,h.get? b=al o->H b=bn->b∉fs->b∉ex->h'.get? b=al o
 slot:∀b o,h.get? b=al o->H b=bn->b∈fs->b∉ex->∃sl,h'.get? b=al {o with slots:=sl}
 free:∀b o,h.get? b=al o->H b=bn->b∉ex->H' b=bn
 there:∀b o,h.get? b=al o->b∉ex->∃o',h'.get? b=al o'
 bN:∀b xs,H b=al (.tup xs)->H' b=al (.tup xs)
 kS:∀b o u,H b=al (.cE o u)->H' b=al (.cE o u)
 lA:∀b ps,H b=al (.mP ps)->∃more,H' b=al (.mP (ps++more))
section
variable{fs ex:O db}{H H1:Hp}{h1:lw}{x:db}{o:HO}
def Un.any(u:Un fs ex H H1 h h1){ob:Obj}(q:h.get? b=al ob)(n:H b=bn)(hx:b∉ex):∃sl,h1.get? b=al {ob with slots:=sl}:=by
 by_cases hb:b∈fs
 .exact u.slot b ob q n hb hx
 .exact⟨ob.slots,u.keep b ob q n hb hx⟩
def Un.kept(k:∀b u,h.get? b=al u->h'.get? b=al u):Un fs ex H H h h':=
 ⟨λb ob q _ _ _=>k b ob q,λb ob q _ _ _=>⟨ob.slots,k b ob q⟩,λ_ _ _ n _=>n,λb ob q _=>⟨ob,k b ob q⟩,λ_ _ q=>q,λ_ _ _ q=>q,λ_ ps q=>⟨#[],by rw[q];simp⟩⟩
def Un.refl:Un fs ex H H h h:=Un.kept λ_ _ q=>q
def Un.laid(k:∀b u,h.get? b=al u->h'.get? b=al u)(hp:h.objs.size<=a)(hn:H a=bn):Un fs ex H (upd H a o) h h' where
 keep:=λb u q _ _ _=>k b u q
 slot:=λb u q _ _ _=>⟨u.slots,k b u q⟩
 free:=λb u q n _=>by rw[af (AB (Au (Ai q) hp))];exact n
 there:=λb u q _=>⟨u,k b u q⟩
 bN:=λb xs q=>by rw[af (a6 q hn)];exact q
 kS:=λb u xs q=>by rw[af (a6 q hn)];exact q
 lA:=λb ps q=>⟨#[],by rw[af (a6 q hn),q];simp⟩
def Un.write(mu:XQ (H x))(he:e=x\/H e=al (.own x))(k:∀b u,b≠e->h.get? b=al u->h'.get? b=al u)(Uq:∃u,h'.get? e=al u):Un fs ex H (upd H x o) h h':=by
 have hx:∀b,H b=bn->b≠x:=λb n z=>by subst z;rw[n]at mu;exact mu
 have hb:∀b,H b=bn->b≠e:=λb n z=>by
  subst z;rcases he with r|r
  .exact hx b n r
  .rw[n]at r;cases r
 have hm:∀b u,H b=al u->¬XQ (al u)->b≠x:=λb u q nm z=>by subst z;rw[q]at mu;exact nm mu
 refine⟨λb u q n _ _=>k b u (hb b n) q,λb u q n _ _=>⟨u.slots,k b u (hb b n) q⟩,λb u q n _=>by rw[af (hx b n)];exact n,λb u q _=>?_,
  λb xs q=>by rw[af (hm b _ q λz=>z)];exact q,λb u xs q=>by rw[af (hm b _ q λz=>z)];exact q,λb ps q=>⟨#[],by rw[af (hm b _ q λz=>z),q];simp⟩⟩
 by_cases SW:b=e
 .subst SW;exact Uq
 .exact⟨u,k b u SW q⟩
end
def Zi(h:lw)(H:Hp):O db:=(AN h.objs.size).filter λa=>(H a).isSome
def tE(h:lw)(H:Hp):lw:=PySem.W.hideAll h (Zi h H)
def HE(h:lw)(H:Hp):(tE h H).objs.size=h.objs.size:=Fv _ _
def KW{H:Hp}{o:Obj}(e:h.get? b=al o)(n:H b=bn):(tE h H).get? b=al o:=
 FJ _ e λhm=>by
  have q:=(Bz.mp hm).2;rw[n]at q;simp at q
def NQ{H:Hp}{o:Obj}(e:(tE h H).get? b=al o):h.get? b=al o/\H b=bn:=by
 have e':=FU (Zi h H) e;refine⟨e',?_⟩;cases q:H b with
 |none=>rfl
 |some x=>
  have z:(tE h H).get? b=bn:=Fw (Zi h H) (Bz.mpr ⟨Bj.mpr (Ai e'),by simp[q]⟩);rw[z]at e;cases e
def O3(g h:lw)(L:db):O (db×Obj):=(AN h.objs.size).filterMap λa=>if a=L\/(g.get? a).isSome=true then bn else (h.get? a).map λo=>(a,o)
def rest(g h:lw)(L d:db):O (db×Obj):=(O3 g h L).filter λp=>decide (p.1≠d)
end L2
variable{H H':L2.Hp}{o:FI}{Z:O (AW×FI)}{s s':CY}{g':Array PySem.GenState}{ch:O AW}{it:AW}{i j:Nat}{M:PySem.Model}{A:PySem.Around}{E:AZ->CY->Prop}{v:L2.V}{Q:Unit->CY->Prop}
namespace L2
structure Mod(K:Aa)(mg:Str->Option ce)(base:lw):Prop where
 Kw:K.In base
 glob:base.Ns gt mg
 blt:∃mb,base.Ns PP mb/\∀x:Str,x≠"__name__"->mb x=tz x
 nolimit:base.NoLimit
 bm:∃bm ob,mg "__builtins__"=al (.ref bm)/\bm≠PP/\base.get? bm=al ob/\ob.cls=.type "module"/\ob.dict=al PP/\ob.data=.plain
structure Cx where
 prog:sw
 w:wE
 K:Aa
 mg:Str->Option ce
 base:lw
 A:wP
 N:List Str
 s₀:gl
 H₀:Hp
 env:Env
 outer:List Env
 stack:List Env
 ex:List db
 fn:Str->Bool
 calm:Bool
 pn:List (db×Obj)
 xe:ce->gl->Prop
abbrev dn(x:Str):Prop:=(x==("__debug__":Str))=false
abbrev qI(x:Str):Prop:=(x==("__classdict__":Str))=false
abbrev dX(X:Cx)(e:o0)(es:O o0):Prop:=lf (e::es) X.env=(false,pc e X.env)::lf es X.env
abbrev fD(X:Cx)(p:Pos)(es:O o0):Prop:=(IR p (lf es X.env)).any (·.1)=false
abbrev pV(X:Cx)(e:o0):Prop:=∀x,foldedSetIterable e X.env x=pure x
abbrev UH(X:Cx)(p:Pos)(l:O o0):Prop:=((IR p (lf l X.env)).all (λx=>!x.1)&&(backToKw p (Re [] X.env)).all (λx=>x.1.isSome)&&decide (l.length+([]:O Keyword).length+(if ([]:O Keyword).isEmpty then 0 else 1)<30))=true
abbrev Pc(p q:Pos):Prop:=(p.endLine==q.line)=true
abbrev Md(X:Cx)(y:Str):Prop:=X.fn y=true\/X.env.scope.names.lookup y=al .local
def m5(l:O Env):O db:=l.filterMap (·.frame)
abbrev Cx.fs(X:Cx):O db:=m5 X.outer
def qF(sc:wS)(x:Str):Prop:=sc.names.lookup x=al .local\/sc.names.lookup x=al .cell\/sc.names.lookup x=al .free
def Loc(sc:wS)(x:Str):Prop:=sc.names.lookup x=al .local\/sc.names.lookup x=al .cell
def Look(env:Env)(h:lw)(m:Str->Option ce)(x:Str)(u:ce):Prop:=
 (env.kindOf x=al .local/\m x=al u)\/((env.kindOf x=al .cell\/env.kindOf x=al .free)/\∃c,env.cells.lookup x=al c/\h.IsCell c (al u))
structure Cx.Ok(X:Cx):Prop where
 mod:Mod X.K X.mg X.base
 kind:X.env.scope.kind=.function
 glob:X.env.globals=gt
 blt:X.env.builtins=PP
 above:X.s₀.heap.objs.size<=X.env.locals
 inj:∀x y c,X.env.cells.lookup x=al c->X.env.cells.lookup y=al c->x=y
 has:∀x,(X.env.kindOf x=al .cell\/X.env.kindOf x=al .free)->∃c,X.env.cells.lookup x=al c
 Tv:∀x c,X.fn x=true->X.env.cells.lookup x=al c->X.s₀.heap.objs.size<=c
 hd:X.calm=true->X.A.handled=bn
 frames:X.A.frames=al X.stack
 Vd:X.stack=X.outer\/(X.stack=X.env::X.outer/\X.env.frame=al X.env.locals)
 exf:∀b∈X.ex,b≠X.env.locals/\∀x c,X.env.cells.lookup x=al c->c≠b
 bs:∀b o,X.base.get? b=al o->X.s₀.heap.get? b=al o/\X.H₀ b=bn
 LW:X.base.objs.size<=X.s₀.heap.objs.size
 He:∀b o,X.base.get? b=al o->b∉X.ex
 HL:∀b∈X.ex,b∉X.fs
 iV:X.s₀.heap.FunFrames X.base X.outer
 Mr:∀b∈X.fs,X.H₀ b=bn
structure Inv(X:Cx)(Z:List (db×Obj))(σ:List (Option V))(H:Hp)(s:gl):Prop where
 ok:X.Ok
 os:s.os=X.s₀.os
 bare:Rs s.gens
 base:Un X.fs X.ex X.H₀ H X.s₀.heap s.heap
 loc:∃m,s.heap.Ns X.env.locals m/\∀(i:Nat) (x:Str) (v:V),X.N[i]?=al x->σ[i]?=al (al v)->qF X.env.scope x->∃u,RelV v u/\Look X.env s.heap m x u
 cell:∀x c,X.env.cells.lookup x=al c->∃v,s.heap.IsCell c v
 free:H X.env.locals=bn
 eu:∀x c,X.env.cells.lookup x=al c->H c=bn
 pin:∀p∈X.pn++Z,s.heap.get? p.1=al p.2/\H p.1=bn/\p.1≠X.env.locals/\p.1∉X.fs/\∀v,p.2.data≠.cell v
 aK:gJ X.prog X.w H s.heap
 len:σ.length=X.N.length
section
variable{X:Cx}{σ:O (Option V)}
def Cx.Ok.ZY(ok:X.Ok)(e:X.base.get? b=al o):b∉X.fs:=λhb=>by
 have:=(ok.iV.mem hb).1;rw[e]at this;cases this
def Inv.bs(I:Inv X Z σ H s):∀b o,X.base.get? b=al o->s.heap.get? b=al o/\H b=bn:=λb o e=>
 ⟨I.base.keep b o (I.ok.bs b o e).1 (I.ok.bs b o e).2 (I.ok.ZY e) (I.ok.He b o e),I.base.free b o (I.ok.bs b o e).1 (I.ok.bs b o e).2 (I.ok.He b o e)⟩
def Inv.bk(I:Inv X Z σ H s):∀b o,X.base.get? b=al o->s.heap.get? b=al o:=λb o e=>(I.bs b o e).1
def Inv.mod(I:Inv X Z σ H s):Mod X.K X.mg X.base:=I.ok.mod
def Inv.ek(I:Inv X Z σ H s):X.K.In s.heap:=I.ok.mod.Kw.keeps I.bk
def Inv.lt(I:Inv X Z σ H s):X.env.locals<s.heap.objs.size:=let ⟨_,hn,_⟩:=I.loc;hn.lt
def Inv.sz(I:Inv X Z σ H s):X.s₀.heap.objs.size<=s.heap.objs.size:=AE I.ok.above (Ed I.lt)
def Inv.ZX(I:Inv X Z σ H s)(h:s.heap.objs.size<=a):a∉X.fs:=λhb=>by
 obtain⟨_,o,ho,_⟩:=I.ok.iV.mem hb;exact absurd (Au (Ai ho) (AE I.sz h)) (AM _)
def Inv.IG(I:Inv X Z σ H s):∀x c,X.env.cells.lookup x=al c->c≠X.env.locals:=λx c e z=>by
 obtain⟨v,o,ho,hd⟩:=I.cell x c e;obtain⟨m,⟨o',es,ep,KR,ú,_⟩,_⟩:=I.loc;rw[z,KR]at ho;cases ho;rw[ú]at hd;cases hd
def Inv.iV(I:Inv X Z σ H s):s.heap.FunFrames X.base X.outer:=by
 have all:∀l,(∀b∈m5 l,b∈X.fs)->X.s₀.heap.FunFrames X.base l->s.heap.FunFrames X.base l:=by
  intro l
  induction l with
  |nil=>intro _ _;trivial
  |cons env r ih=>
   intro hs hl;obtain⟨hk,⟨L,o,hf,hn,ho,hd⟩,hr⟩:=hl;have hL:=hs L (by unfold m5;rw[Bh,hf];exact Bp);obtain⟨sl,e⟩:=I.base.slot L o ho (I.ok.Mr L hL) hL λz=>I.ok.HL L z hL;exact⟨hk,⟨L,_,hf,hn,e,hd⟩,ih (λb hb=>hs b (by unfold m5;rw[Bh,hf];exact AD _ hb)) hr⟩
 exact all X.outer (λ_ hb=>hb) I.ok.iV
def Inv.stack(I:Inv X Z σ H s):s.heap.FunFrames X.base X.stack:=by
 rcases I.ok.Vd with e|⟨e,hf⟩
 .rw[e];exact I.iV
 .rw[e];obtain⟨m,hn,_⟩:=I.loc;refine .cons (by rw[I.ok.kind];decide) hf hn ?_ I.iV;exact Heap.get?_none_of_le (AE I.ok.LW I.ok.above)
def Inv.n6(I:Inv X Z σ H s):∀b∈m5 X.stack,b∈X.env.locals::X.fs:=λb hb=>by
 rcases I.ok.Vd with e|⟨e,hf⟩
 .rw[e]at hb;exact AD _ hb
 .rw[e]at hb;unfold m5 at hb;rw[Bh,hf]at hb;exact hb
def Inv.km(I:Inv X Z σ H s):∀b∈m5 X.stack,H b=bn:=λb hb=>by
 rcases Az.mp (I.n6 b hb) with e|hb
 .rw[e];exact I.free
 .obtain⟨_,o,ho,_⟩:=I.ok.iV.mem hb;exact I.base.free b o ho (I.ok.Mr b hb) λz=>I.ok.HL b z hb
def Inv.step{t':Nat}{d':Drawn}(I:Inv X Z σ H s)(K0:∀b∈ch,(b∈X.ex\/X.s₀.heap.objs.size<=b)/\b≠X.env.locals/\(∀x c,X.env.cells.lookup x=al c->c≠b)/\∀p∈X.pn++Z,p.1≠b)(keep:∀b o,b≠X.env.locals->b∉X.fs->b∉ch->s.heap.get? b=al o->H b=bn->h'.get? b=al o)(slot:∀b o,b≠X.env.locals->b∈X.fs->b∉ch->s.heap.get? b=al o->H b=bn->∃sl,h'.get? b=al {o with slots:=sl})(free:∀b o,b∉ch->s.heap.get? b=al o->H b=bn->H' b=bn)(there:∀b o,b∉ch->s.heap.get? b=al o->∃o',h'.get? b=al o')(bN:∀b xs,H b=al (.tup xs)->H' b=al (.tup xs))(kS:∀b o u,H b=al (.cE o u)->H' b=al (.cE o u))(lA:∀b ps,H b=al (.mP ps)->∃more,H' b=al (.mP (ps++more)))(ns:∀m,s.heap.Ns X.env.locals m->h'.Ns X.env.locals m)(aK:gJ X.prog X.w H' h')(hg:Rs g'):Inv X Z σ H' {s with heap:=h',gens:=g',drawn:=d',toks:=t'}:=by
 have neL:∀b o,X.s₀.heap.get? b=al o->b≠X.env.locals:=λb o e=>AB (Au (Ai e) I.ok.above);have Yl:∀b o,X.s₀.heap.get? b=al o->b∉X.ex->b∉ch:=λb o e hx hb=>by
  rcases (K0 b hb).1 with z|z
  .exact hx z
  .exact absurd (Au (Ai e) z) (AM _)
 have Ú:∀x c,X.env.cells.lookup x=al c->∀v,s.heap.IsCell c v->h'.IsCell c v:=λx c e v ⟨o,ho,hd⟩=>by
  have V7:c∉ch:=λz=>(K0 c z).2.2.1 x c e rfl;by_cases hc:c∈X.fs
  .obtain⟨sl,q⟩:=slot c o (I.IG x c e) hc V7 ho (I.eu x c e);exact⟨_,q,hd⟩
  .exact⟨o,keep c o (I.IG x c e) hc V7 ho (I.eu x c e),hd⟩
 refine⟨I.ok,I.os,hg,⟨λb o e n hb hx=>?_,λb o e n hb hx=>?_,λb o e n hx=>?_,λb o e hx=>?_,λb xs e=>bN b xs (I.base.bN b xs e),λb o xs e=>kS b o xs (I.base.kS b o xs e),λb ps e=>?_⟩,?_,λx c e=>?_,?_,λx c e=>?_,λp hp=>?_,aK,I.len⟩
 .exact keep b o (neL b o e) hb (Yl b o e hx) (I.base.keep b o e n hb hx) (I.base.free b o e n hx)
 .obtain⟨sl,e1⟩:=I.base.slot b o e n hb hx;obtain⟨M5,e2⟩:=slot b _ (neL b o e) hb (Yl b o e hx) e1 (I.base.free b o e n hx);exact⟨M5,e2⟩
 .obtain⟨o',e1⟩:=I.base.there b o e hx;exact free b o' (Yl b o e hx) e1 (I.base.free b o e n hx)
 .obtain⟨o',e1⟩:=I.base.there b o e hx;exact there b o' (Yl b o e hx) e1
 .obtain⟨m1,e1⟩:=I.base.lA b ps e;obtain⟨m2,e2⟩:=lA b _ e1;exact⟨m1++m2,by rw[e2,Array.append_assoc]⟩
 .obtain⟨m,hn,hl⟩:=I.loc;refine⟨m,ns m hn,λi x v e1 e2 e3=>?_⟩;obtain⟨u,r,l⟩:=hl i x v e1 e2 e3;refine⟨u,r,?_⟩;rcases l with l|⟨k,c,e,z⟩
  .exact .inl l
  .exact .inr ⟨k,c,e,Ú x c e _ z⟩
 .obtain⟨v,z⟩:=I.cell x c e;exact⟨v,Ú x c e v z⟩
 .obtain⟨m,⟨o,_,_,ho,_⟩,_⟩:=I.loc;exact free _ o (λz=>(K0 _ z).2.1 rfl) ho I.free
 .obtain⟨v,o,ho,hd⟩:=I.cell x c e;exact free c o (λz=>(K0 c z).2.2.1 x c e rfl) ho (I.eu x c e)
 .obtain⟨e,n,ne,nf,d⟩:=I.pin p hp;have V7:p.1∉ch:=λz=>(K0 p.1 z).2.2.2 p hp rfl;exact⟨keep p.1 p.2 ne nf V7 e n,free p.1 p.2 V7 e n,ne,nf,d⟩
def Inv.un{t':Nat}(I:Inv X Z σ H s)(u:Un X.fs [] H H' s.heap h')(aK:gJ X.prog X.w H' h'):Inv X Z σ H' {s with heap:=h',toks:=t'}:=by
 obtain⟨m,⟨o,es,ep,ho,r⟩,_⟩:=id I.loc;obtain⟨sl,hL⟩:=u.any ho I.free (by simp);exact I.step (g':=s.gens) (d':=s.drawn) (ch:=[]) (λ_ z=>nomatch z) (λb o _ hb _ e n=>u.keep b o e n hb (by simp)) (λb o _ hb _ e n=>u.slot b o e n hb (by simp)) (λb o _ e n=>u.free b o e n (by simp)) (λb o _ e=>u.there b o e (by simp)) u.bN u.kS u.lA (λm' hm=>by
  obtain⟨o',ć,Ĉ,KR,r'⟩:=hm;rw[ho]at KR;cases KR;exact⟨_,ć,Ĉ,hL,r'⟩) aK I.bare
def Inv.call{t':Nat}{d':Drawn}(I:Inv X Z σ H s)(u:Un (m5 X.stack) ch H H' s.heap h')(aK:gJ X.prog X.w H' h')(hg:Rs g')(K0:∀b∈ch,(b∈X.ex\/X.s₀.heap.objs.size<=b)/\b≠X.env.locals/\(∀x c,X.env.cells.lookup x=al c->c≠b)/\∀p∈X.pn++Z,p.1≠b):Inv X Z σ H' {s with heap:=h',gens:=g',drawn:=d',toks:=t'}:=by
 obtain⟨m,⟨o,es,ep,ho,r⟩,_⟩:=id I.loc;obtain⟨sl,hL⟩:=u.any ho I.free λz=>(K0 _ z).2.1 rfl;exact I.step (ch:=ch) K0 (λb o hL hb hc e n=>u.keep b o e n (λz=>(Az.mp (I.n6 b z)).elim hL hb) hc) (λb o _ _ hc e n=>u.any e n hc) (λb o hc e n=>u.free b o e n hc) (λb o hc e=>u.there b o e hc) u.bN u.kS u.lA (λm' hm=>by
  obtain⟨o',ć,Ĉ,KR,r'⟩:=hm;rw[ho]at KR;cases KR;exact⟨_,ć,Ĉ,hL,r'⟩) aK hg
def Inv.turned{t':Nat}(I:Inv X Z σ H s)(k:∀b o,b≠it->s.heap.get? b=al o->h'.get? b=al o)(hn:H it=bn)(hL:it≠X.env.locals)(h1:it∈X.ex\/X.s₀.heap.objs.size<=it)(h2:∀x c,X.env.cells.lookup x=al c->c≠it)(h3:∀p∈X.pn++Z,p.1≠it):Inv X Z σ H {s with heap:=h',toks:=t'}:=by
 have P6:∀b u,H b=al u->b≠it:=λb u e z=>by rw[z,hn]at e;cases e
 refine I.step (g':=s.gens) (d':=s.drawn) (ch:=[it]) (λb hb=>?_) (λb o _ _ hc e _=>k b o (λz=>hc (by simp[z])) e) (λb o _ _ hc e _=>⟨o.slots,k b o (λz=>hc (by simp[z])) e⟩) (λ_ _ _ _ n=>n)
  (λb o hc e=>⟨o,k b o (λz=>hc (by simp[z])) e⟩) (λ_ _ e=>e) (λ_ _ _ e=>e) (λb ps e=>⟨#[],by rw[e];simp⟩) (λm hm=>?_) (λb u e=>?_) I.bare
 .have e:b=it:=by simpa using hb
  subst e;exact⟨h1,hL,h2,h3⟩
 .obtain⟨o,es,ep,ho,r⟩:=hm;exact⟨o,es,ep,k _ o (BA hL) ho,r⟩
 .refine(I.aK b u e).lB (λc v hc q=>k c v ?_ q) (λ_ q=>q) λ_ _ q=>q;rcases hc with z|z
  .rw[z];exact P6 b u e
  .exact P6 c _ z
def Inv.tok(I:Inv X Z σ H s)(t:Nat):Inv X Z σ H {s with toks:=t}:=I.un Un.refl I.aK
def Inv.kept{t':Nat}(I:Inv X Z σ H s)(k:∀b u,s.heap.get? b=al u->h'.get? b=al u):Inv X Z σ H {s with heap:=h',toks:=t'}:=I.un (Un.kept k) (I.aK.kept k)
def Inv.laid{o:HO}{t':Nat}(I:Inv X Z σ H s)(k:∀b u,s.heap.get? b=al u->h'.get? b=al u)(hp:s.heap.objs.size<=a)(new:bC X.prog X.w (upd H a o) h' a o):Inv X Z σ (upd H a o) {s with heap:=h',toks:=t'}:=I.un (Un.laid k hp (I.aK.fresh hp)) (I.aK.laid k hp new)
def Inv.write{x:db}{o:HO}{t':Nat}(I:Inv X Z σ H s)(mu:XQ (H x))(he:e=x\/H e=al (.own x))(k:∀b u,b≠e->s.heap.get? b=al u->h'.get? b=al u)(Uq:∃u,h'.get? e=al u)(new:bC X.prog X.w (upd H x o) h' x o):Inv X Z σ (upd H x o) {s with heap:=h',toks:=t'}:=I.un (Un.write mu he k Uq) (I.aK.write mu he k Uq new)
def Inv.zD{vc:O (db×Obj)}(I:Inv X Z σ H s)(h:∀p∈vc,s.heap.get? p.1=al p.2/\H p.1=bn/\p.1≠X.env.locals/\p.1∉X.fs/\∀v,p.2.data≠.cell v):Inv X vc σ H s:=
 ⟨I.ok,I.os,I.bare,I.base,I.loc,I.cell,I.free,I.eu,λp hp=>(C7.mp hp).elim (λz=>I.pin p (FH _ z)) (h p),I.aK,I.len⟩
def oG{N:O Str}(hN:N.Nodup){x:Str}(a:N[i]?=al x)(b:N[j]?=al x):i=j:=by
 obtain⟨h1,e1⟩:=Ak.mp a;obtain⟨h2,e2⟩:=Ak.mp b;exact(List.getElem_inj hN).mp (e1.trans e2.symm)
def qO{x:Str}(I:Inv X Z σ H s)(hN:X.N.Nodup)(hi:X.N[i]?=al x)(hx:Loc X.env.scope x)(r:RelV v u)(h:∀s',Inv X Z (σ.set i (al v)) H s'->(∃a,CC a s.heap s'.heap/\(a=X.env.locals\/X.env.cells.lookup x=al a))->Q () s')(hf:Md X x:=by first|exact .inl rfl|exact .inr rfl|assumption):f8 M A (storeName X.env x u) Q E s:=by
 obtain⟨m,hn,hl⟩:=id I.loc;have KZ:(X.env.scope.kind==.class||(X.env.scope.kind==.module&&X.env.locals != X.env.globals))=false:=by rw[I.ok.kind];rfl
 have WQ:i < σ.length:=by rw[I.len];exact(Ak.mp hi).1
 have IG:=I.IG;have Ë:∀{a:db}{h':lw},(∃o,s.heap.get? a=al o/\H a=bn)->CC a s.heap h'->gJ X.prog X.w H h':=λ{a h'} ha hs b ob e=>by
  obtain⟨_,_,Qo⟩:=ha;refine(I.aK b ob e).lB (λc w' hc q=>(hs.2 c ?_).trans q) (λ_ q=>q) λ_ _ q=>q;rintro rfl;rcases hc with rfl|hc
  .rw[Qo]at e;cases e
  .rw[Qo]at hc;cases hc
 rcases hx with hk|hk
 .refine wpAny_storeName_local hk hn (λh' WJ hs=>?_) KZ;obtain⟨oL,_,_,hoL,_⟩:=id hn;refine h _ ⟨I.ok,I.os,I.bare,⟨λb o e n hb hx=>?_,λb o e n hb hx=>?_,I.base.free,λb o e hx=>?_,I.base.bN,I.base.kS,I.base.lA⟩,⟨_,WJ,λj y v' e1 e2 e3=>?_⟩,λy c e=>?_,I.free,I.eu,λp hp=>?_,Ë ⟨oL,hoL,I.free⟩ hs,by simpa using I.len⟩ ⟨_,hs,.inl rfl⟩
  .exact(hs.2 b (AB (Au (Ai e) I.ok.above))).trans (I.base.keep b o e n hb hx)
  .obtain⟨sl,e1⟩:=I.base.slot b o e n hb hx;exact⟨sl,(hs.2 b (AB (Au (Ai e) I.ok.above))).trans e1⟩
  .obtain⟨o',e1⟩:=I.base.there b o e hx;exact⟨o',(hs.2 b (AB (Au (Ai e) I.ok.above))).trans e1⟩
  .by_cases hj:j=i
   .subst hj;rw[hi]at e1;cases e1;rw[CD WQ]at e2;cases e2;exact⟨u,r,.inl ⟨hk,by simp⟩⟩
   .rw[B1 (BA hj)]at e2;obtain⟨u',r',q⟩:=hl j y v' e1 e2 e3;refine⟨u',r',?_⟩;rcases q with⟨k,e⟩|⟨k,c,e,z⟩
    .refine .inl ⟨k,?_⟩;have:y≠x:=λe=>hj (oG hN e1 (e▸hi));simp[this,e]
    .exact .inr ⟨k,c,e,z.sameBut hs (IG y c e)⟩
  .obtain⟨w',z⟩:=I.cell y c e;exact⟨w',z.sameBut hs (IG y c e)⟩
  .obtain⟨e,n,ne,nf,d⟩:=I.pin p hp;exact⟨(hs.2 p.1 ne).trans e,n,ne,nf,d⟩
 .have SR:X.fn x=true:=by
   rcases hf with z|z
   .exact z
   .rw[z]at hk;cases hk
  obtain⟨c,hc⟩:=I.ok.has x (.inl hk);obtain⟨w',z⟩:=I.cell x c hc;refine wpAny_storeName_cell I.ok.kind hk hc z (λh' uO hs=>?_);obtain⟨oc,ï,aav⟩:=id z;refine h {s with heap:=h'} ⟨I.ok,I.os,I.bare,⟨λb o e n hb hx=>?_,λb o e n hb hx=>?_,I.base.free,λb o e hx=>?_,I.base.bN,I.base.kS,I.base.lA⟩,⟨m,hn.sameBut hs (BA (IG x c hc)),λj y v' e1 e2 e3=>?_⟩,λy c' e=>?_,I.free,I.eu,λp hp=>?_,Ë ⟨oc,ï,I.eu x c hc⟩ hs,by simpa using I.len⟩ ⟨c,hs,.inr hc⟩
  .exact(hs.2 b (AB (Au (Ai e) (I.ok.Tv x c SR hc)))).trans (I.base.keep b o e n hb hx)
  .obtain⟨sl,e1⟩:=I.base.slot b o e n hb hx;exact⟨sl,(hs.2 b (AB (Au (Ai e) (I.ok.Tv x c SR hc)))).trans e1⟩
  .obtain⟨o',e1⟩:=I.base.there b o e hx;exact⟨o',(hs.2 b (AB (Au (Ai e) (I.ok.Tv x c SR hc)))).trans e1⟩
  .by_cases hj:j=i
   .subst hj;rw[hi]at e1;cases e1;rw[CD WQ]at e2;cases e2;exact⟨u,r,.inr ⟨.inl hk,c,hc,uO⟩⟩
   .rw[B1 (BA hj)]at e2;obtain⟨u',r',q⟩:=hl j y v' e1 e2 e3;refine⟨u',r',?_⟩;rcases q with q|⟨k,c',e,z'⟩
    .exact .inl q
    .refine .inr ⟨k,c',e,z'.sameBut hs ?_⟩;rintro rfl;exact hj (oG hN e1 (I.ok.inj _ _ _ e hc▸hi))
  .by_cases Ov:c'=c
   .subst Ov;exact⟨_,uO⟩
   .obtain⟨w2,z2⟩:=I.cell y c' e;exact⟨w2,z2.sameBut hs Ov⟩
  .obtain⟨e,n,ne,nf,d⟩:=I.pin p hp;refine⟨(hs.2 p.1 ?_).trans e,n,ne,nf,d⟩;intro q;rw[q,ï]at e;have q':oc=p.2:=Option.some.inj e;exact d w' (by rw[<- q'];exact aav)
def dN{x:Str}(I:Inv X Z σ H s)(hN:X.N.Nodup)(hi:X.N[i]?=al x)(hx:Loc X.env.scope x)(r:RelV v u)(h:∀s',Inv X Z (σ.set i (al v)) H s'->Q () s')(hf:Md X x:=by first|exact .inl rfl|exact .inr rfl|assumption):f8 M A (storeName X.env x u) Q E s:=
 qO I hN hi hx r (λs' I' _=>h s' I') hf
def Inv.XF(I:Inv X Z σ H s)(ho:s'.os=s.os)(u:Un (m5 X.stack) ch H H' s.heap s'.heap)(aK:gJ X.prog X.w H' s'.heap)(hg:Rs s'.gens)(K0:∀b∈ch,(b∈X.ex\/X.s₀.heap.objs.size<=b)/\b≠X.env.locals/\(∀x c,X.env.cells.lookup x=al c->c≠b)/\∀p∈X.pn++Z,p.1≠b):Inv X Z σ H' s':=by
 obtain⟨h',g',d',t',o'⟩:=s';have e:o'=s.os:=ho;subst e;exact I.call (g':=g') (t':=t') (d':=d') u aK hg K0
end
abbrev XK:=ce->Option db->Hp->Prop
abbrev St:=O (Option V)
abbrev VK:=V->Hp->Prop
abbrev TE:=St->Hp->VK->Prop
abbrev TT:=St->Hp->(Bool->Hp->Prop)->Prop
abbrev TA:=St->Hp->(O V->Hp->Prop)->Prop
structure Ends where
 nx:St->Hp->Prop
 rt:VK
 bk:St->Hp->Prop:=λ_ _=>False
 ct:St->Hp->Prop:=λ_ _=>False
abbrev TS:=Ends->St->Hp->Prop
def EP(X:Cx)(Z:O (db×Obj))(σ:St)(Q:VK)(u:ce)(s':gl):Prop:=∃v H',Inv X Z σ H' s'/\RelV v u/\Q v H'
def TP(X:Cx)(Z:O (db×Obj))(σ:St)(Q:Bool->Hp->Prop)(b:Bool)(s':gl):Prop:=∃H',Inv X Z σ H' s'/\Q b H'
def AP(X:Cx)(Z:O (db×Obj))(σ:St)(Q:O V->Hp->Prop)(us:O ce)(s':gl):Prop:=∃vs H',Inv X Z σ H' s'/\Vals vs us/\Q vs H'
def SP(X:Cx)(Z:O (db×Obj))(D:Ends)(f:Flow)(s':gl):Prop:=
 match f with
 |.next=>∃σ' H',Inv X Z σ' H' s'/\D.nx σ' H'
 |.brk=>∃σ' H',Inv X Z σ' H' s'/\D.bk σ' H'
 |.cont=>∃σ' H',Inv X Z σ' H' s'/\D.ct σ' H'
 |.ret u=>∃v σ' H',Inv X Z σ' H' s'/\RelV v u/\D.rt v H'
def PE(X:Cx)(e:o0)(t:TE):Prop:=
 ∀(Z:O (db×Obj)) (s:gl) (σ:St) (H:Hp) (Q:VK),Inv X Z σ H s->t σ H Q->f8 (ii X.prog X.w) X.A (pc e X.env) (EP X Z σ Q) X.xe s
def PT(X:Cx)(e:o0)(t:TT):Prop:=
 ∀(Z:O (db×Obj)) (s:gl) (σ:St) (H:Hp) (Q:Bool->Hp->Prop),Inv X Z σ H s->t σ H Q->f8 (ii X.prog X.w) X.A (isTrue e X.env (pc e X.env)) (TP X Z σ Q) X.xe s
def PW(X:Cx)(e:o0)(t:TT):Prop:=
 ∀(Ä:Sem ce) (Z:O (db×Obj)) (s:gl) (σ:St) (H:Hp) (Q:Bool->Hp->Prop),Inv X Z σ H s->t σ H Q->f8 (ii X.prog X.w) X.A (isTrue e X.env Ä) (TP X Z σ Q) X.xe s
def PW.pt{X:Cx}{e:o0}{t:TT}(h:PW X e t):PT X e t:=h _
def PA(X:Cx)(es:O o0)(t:TA):Prop:=
 ∀(pos:Pos) (Z:O (db×Obj)) (s:gl) (σ:St) (H:Hp) (Q:O V->Hp->Prop),Inv X Z σ H s->t σ H Q->f8 (ii X.prog X.w) X.A (spliced (IR pos (lf es X.env))) (AP X Z σ Q) X.xe s
def PS(X:Cx)(st:sK)(t:TS):Prop:=
 ∀(Z:O (db×Obj)) (s:gl) (σ:St) (H:Hp) (D:Ends),Inv X Z σ H s->t D σ H->f8 (ii X.prog X.w) X.A (exec st X.env) (SP X Z D) X.xe s
def mf(X:Cx)(st:O sK)(t:TS):Prop:=
 ∀(Z:O (db×Obj)) (s:gl) (σ:St) (H:Hp) (D:Ends),Inv X Z σ H s->t D σ H->f8 (ii X.prog X.w) X.A (execs st X.env) (SP X Z D) X.xe s
def aR{t:Sem α}{Q Q':α->gl->Prop}(h:f8 M A t Q E s)(hQ:∀a s,Q a s->Q' a s):f8 M A t Q' E s:=Bv h hQ λ_ _ x=>x
end L2
variable{a e:BL}{X:L2.Cx}{σ:L2.St}{Q:AZ->CY->Prop}{ta tb:L2.TE}{R:L2.V->L2.V->L2.Hp->Prop}{pos:Cc}{op:PySem.CmpOp}
namespace L2
section
def bin{b:o0}(ha:PE X a ta)(hb:PE X b tb)(I:Inv X Z σ H s)(h:ta σ H λx H1=>tb σ H1 λy H2=>R x y H2){Q:α->gl->Prop}{f:ce->ce->Sem α}(hf:∀v u s2 x y H2,Inv X Z σ H2 s2->RelV x v->RelV y u->R x y H2->f8 (ii X.prog X.w) X.A (f v u) Q X.xe s2):f8 (ii X.prog X.w) X.A (pc a X.env) (λv s₁=>f8 (ii X.prog X.w) X.A (pc b X.env) (λu s₂=>f8 (ii X.prog X.w) X.A (f v u) Q X.xe s₂) X.xe s₁) X.xe s:=by
 refine aR (ha Z s σ H _ I h) λv s1 ⟨x,H1,I1,r1,q1⟩=>?_;refine aR (hb Z s1 σ H1 _ I1 q1) λu s2 ⟨y,H2,I2,r2,q2⟩=>?_;exact hf v u s2 x y H2 I2 r1 r2 q2
def QZ(i:Nat):TE:=λσ H Q=>∃v,σ[i]?=al (al v)/\Q v H
def tC(v:V):TE:=λ_ H Q=>Q v H
def cy{x:Str}(hN:X.N[i]?=al x)(hv:qF X.env.scope x)(hd: ~~~(dn x))(cS: ~~~(qI x)):PE X (.Name x pos) (QZ i):=by
 intro Z s σ H Q I h;obtain⟨v,e,h⟩:=h;obtain⟨m,hn,hl⟩:=I.loc;obtain⟨u,r,l⟩:=hl i x v hN e hv;have fin:EP X Z σ Q u s:=⟨v,H,I,r,h⟩;rcases l with⟨hk,hm⟩|⟨hk,c,hc,vI⟩
 .exact wpAny_Name (wpAny_loadName_local I.ok.kind hk hn hm fin) hd
 .rcases hk with hk|hk
  .exact wpAny_Name (wpAny_loadName_cell I.ok.kind hk hc vI fin) hd
  .exact wpAny_Name (wpAny_loadName_free I.ok.kind hk hc vI fin cS) hd
def iG{i j pos}:PE X (.Constant (.int i) j pos) (tC (.int i)):=λ_ _ _ H _ I h=>wpAny_Constant_int ⟨.int i,H,I.tok _,⟨_,rfl⟩,h⟩
def VP{b j pos}:PE X (.Constant (.bool b) j pos) (tC (.bl b)):=λ_ _ _ H _ I h=>Constant_bool ⟨.bl b,H,I,rfl,h⟩
def sL{j pos}:PE X (.Constant .none j pos) (tC .br):=λ_ _ _ H _ I h=>Constant_none ⟨.br,H,I,rfl,h⟩
def xA{x j pos}:PE X (.Constant (.str x) j pos) (tC (.str x)):=λ_ _ _ H _ I h=>Calls.Constant_str ⟨.str x,H,I.tok _,⟨_,rfl⟩,h⟩
def Gl(X:Cx)(x:Str):Prop:=X.env.kindOf x=al .globalImplicit
def eF{x:Str}(I:Inv X Z σ H s)(hg:Gl X x)(hm:X.mg x=al u)(h:Q u s)(hd: ~~~(dn x)):f8 (ii X.prog X.w) X.A (pc (.Name x pos) X.env) Q E s:=
 Eo I.ok.kind hg (Calls.loadGlobal_global (by rw[I.ok.glob];exact I.mod.glob.keeps I.bk) hm h) hd
def gh{x:Str}(I:Inv X Z σ H s)(hg:Gl X x)(hm:X.mg x=bn)(hv:tz x=al u)(h:Q u s)(hn: ~~~(x≠"__name__"))(hd: ~~~(dn x)):f8 (ii X.prog X.w) X.A (pc (.Name x pos) X.env) Q E s:=by
 obtain⟨mb,h1,h2⟩:=I.mod.blt;exact Eo I.ok.kind hg (Calls.loadGlobal_builtin (by rw[I.ok.glob];exact I.mod.glob.keeps I.bk) hm (by rw[I.ok.blt];exact h1.keeps I.bk) ((h2 x hn).trans hv) h) hd
def dD{x:Str}(hg:Gl X x)(hm:X.mg x=al u)(r:RelV v u)(hd: ~~~(dn x)):PE X (.Name x pos) (tC v):=
 λ_ _ _ H _ I h=>eF I hg hm ⟨v,H,I,r,h⟩ hd
def kB{x:Str}(hg:Gl X x)(hm:X.mg x=bn)(hv:tz x=al u)(r:RelV v u)(hn: ~~~(x≠"__name__"))(hd: ~~~(dn x)):PE X (.Name x pos) (tC v):=
 λ_ _ _ H _ I h=>gh I hg hm hv ⟨v,H,I,r,h⟩ hn hd
variable{b:o0}
def PC(X:Cx)(op:CmpOp)(a b:o0)(t:TE):Prop:=
 ∀(Z:O (db×Obj)) (s:gl) (σ:St) (H:Hp) (Q:VK),Inv X Z σ H s->t σ H Q->
  f8 (ii X.prog X.w) X.A (pc a X.env) (λv s₁=>f8 (ii X.prog X.w) X.A (pc b X.env) (λu s₂=>f8 (ii X.prog X.w) X.A (r6 op v u) (EP X Z σ Q) X.xe s₂) X.xe s₁) X.xe s
def tB(t:TE):TT:=λσ H Q=>t σ H λx H1=>∃c,x=.bl c/\Q c H1
def Ry{t:TE}(h:PC X op a b t)(h1:wf op b=false:=by first|exact V5 _ ⋯ ⋯ | rfl):PT X (.Compare a [op] [b] pos) (tB t):=by
 intro Z s σ H Q I hw;refine wpAny_isTrue_Compare1 (aR (h Z s σ H _ I hw) λv s1 h1=>aR h1 λu s2 h2=>aR h2 λc s3 ⟨x,H1,I1,r1,q1⟩=>?_) h1;obtain⟨d,rfl,q⟩:=q1;cases r1;exact Bl ⟨H1,I1,q⟩
def f9{t:TE}(h:PE X e t)(he:∀Ä,isTrue e X.env Ä=(do let v <- Ä;KF e.pos;u8 [v] (truthy v)):=by intro _;rfl):PT X e (tB t):=by
 intro Z s σ H Q I hw;refine isTrue_plain (aR (h Z s σ H _ I hw) λv s1 ⟨x,H1,I1,r1,q1⟩=>?_) (he _);obtain⟨d,rfl,q⟩:=q1;cases r1;exact Bl ⟨H1,I1,q⟩
variable{tA X6:TT}{rest:O o0}
def Zx(t u:TT):TT:=λσ H Q=>t σ H λc H1=>if c=true then u σ H1 Q else Q false H1
def tOr(t u:TT):TT:=λσ H Q=>t σ H λc H1=>if c=true then Q true H1 else u σ H1 Q
def Zq(t:TT):TT:=λσ H Q=>t σ H λc H1=>Q (!c) H1
def zB(ha:PT X a tA):PW X (.BoolOp .And [a] pos) tA:=by
 intro wh Z s σ H Q I h;refine isTrue_and (aR (ha Z s σ H Q I h) λc s1 e=>?_);cases c with
 |true=>exact isTrue_and_nil e
 |false=>exact e
def xu(ha:PT X a tA):PW X (.BoolOp .Or [a] pos) tA:=by
 intro wh Z s σ H Q I h;refine isTrue_or (aR (ha Z s σ H Q I h) λc s1 e=>?_);cases c with
 |false=>exact isTrue_or_nil e
 |true=>exact e
def JD(ha:PT X a tA)(hb:PW X (.BoolOp .And (b::rest) pos) X6):PW X (.BoolOp .And (a::b::rest) pos) (Zx tA X6):=by
 intro wh Z s σ H Q I h;refine isTrue_and (aR (ha Z s σ H _ I h) λc s1 ⟨H1,I1,q1⟩=>?_);cases c with
 |true=>exact hb wh Z s1 σ H1 Q I1 q1
 |false=>exact⟨H1,I1,q1⟩
def JB(ha:PT X a tA)(hb:PW X (.BoolOp .Or (b::rest) pos) X6):PW X (.BoolOp .Or (a::b::rest) pos) (tOr tA X6):=by
 intro wh Z s σ H Q I h;refine isTrue_or (aR (ha Z s σ H _ I h) λc s1 ⟨H1,I1,q1⟩=>?_);cases c with
 |true=>exact⟨H1,I1,q1⟩
 |false=>exact hb wh Z s1 σ H1 Q I1 q1
def lH(ha:PT X a tA):PT X (.UnaryOp .Not a pos) (Zq tA):=by
 intro Z s σ H Q I h;exact isTrue_not (ha Z s σ H (λc H1=>Q (!c) H1) I h)
def Vb(ta tb:TE):TE:=λσ H Q=>ta σ H λx H1=>∃c,x=.bl c/\if c=true then tb σ H1 Q else Q (.bl false) H1
def Zp(ta tb:TE):TE:=λσ H Q=>ta σ H λx H1=>∃c,x=.bl c/\if c=true then Q (.bl true) H1 else tb σ H1 Q
def UZ(ta:TE):TE:=λσ H Q=>ta σ H λx H1=>∃c,x=.bl c/\Q (.bl (!c)) H1
def xB{op}{t:TE}(h:PE X a t):PE X (.BoolOp op [a] pos) t:=λZ s σ H Q I hw=>BoolOp_one (h Z s σ H Q I hw)
def JZ(ha:PE X a ta)(hb:PE X (.BoolOp .And (b::rest) pos) tb):PE X (.BoolOp .And (a::b::rest) pos) (Vb ta tb):=by
 intro Z s σ H Q I h;refine BoolOp_and (aR (ha Z s σ H _ I h) λv s1 ⟨x,H1,I1,r1,q1⟩=>?_);obtain⟨c,rfl,q1⟩:=q1;cases r1;refine Bl ?_;cases c with
 |true=>exact hb Z s1 σ H1 Q I1 q1
 |false=>exact⟨.bl false,H1,I1,rfl,q1⟩
def VL(ha:PE X a ta)(hb:PE X (.BoolOp .Or (b::rest) pos) tb):PE X (.BoolOp .Or (a::b::rest) pos) (Zp ta tb):=by
 intro Z s σ H Q I h;refine BoolOp_or (aR (ha Z s σ H _ I h) λv s1 ⟨x,H1,I1,r1,q1⟩=>?_);obtain⟨c,rfl,q1⟩:=q1;cases r1;refine Bl ?_;cases c with
 |false=>exact hb Z s1 σ H1 Q I1 q1
 |true=>exact⟨.bl true,H1,I1,rfl,q1⟩
def JT(ha:PE X a ta):PE X (.UnaryOp .Not a pos) (UZ ta):=by
 intro Z s σ H Q I h;refine UnaryOp_ (aR (ha Z s σ H _ I h) λv s1 ⟨x,H1,I1,r1,q1⟩=>?_);obtain⟨c,rfl,q1⟩:=q1;cases r1;exact not_of (Bl ⟨.bl (!c),H1,I1,rfl,q1⟩)
def tIf(t:TT)(ta tb:TE):TE:=λσ H Q=>t σ H λc H1=>if c=true then ta σ H1 Q else tb σ H1 Q
def JU{c:o0}(hc:PT X c tA)(ha:PE X a ta)(hb:PE X b tb):PE X (.IfExp c a b pos) (tIf tA ta tb):=by
 intro Z s σ H Q I h;refine wpAny_IfExp (aR (hc Z s σ H _ I h) λd s1 ⟨H1,I1,q1⟩=>?_);cases d with
 |true=>exact ha Z s1 σ H1 Q I1 q1
 |false=>exact hb Z s1 σ H1 Q I1 q1
end
end L2
variable{xs ys:O L2.V}{y:L2.V}{D:L2.Ends}{te to:L2.TE}{es:O BL}{n:Nat}{tg:BL}{È px py pt:Cc}{body:O PySem.Stmt}
namespace L2
def cL(K:Aa)(H:Hp)(a:db)(xs:O V):Prop:=
 Rd H a (.lst xs)\/
  ∃(o:Obj) (ao:Array ce) (n:Nat),K.lookup a=al o/\o.cls=.type "list"/\o.dict=bn/\o.data=.seq ao n/\ao.size<=sizeLine/\Vals xs ao.toList
def dh(K:Aa)(H:Hp)(a:db)(xs:O V):Prop:=
 Rd H a (.tup xs)\/
  ∃(o:Obj) (ao:Array ce) (n:Nat),K.lookup a=al o/\o.cls=.type "tuple"/\o.data=.seq ao n/\ao.size<=sizeLine/\Vals xs ao.toList
def abr:ce->Option V
 |.none=>al .br
 |.bool b=>al (.bl b)
 |.int i _=>al (.int i)
 |.str x _=>al (.str x)
 |.bytes b _=>al (.QD b)
 |.float b _=>al (.S3 b)
 |.ref a=>al (.ref a)
 |.type n=>al (.ty n)
 |_=>bn
def RelV.abs{x:V}(r:RelV x u):abr u=al x:=by
 cases x with
 |br=>cases r;rfl
 |bl _=>cases r;rfl
 |int _=>obtain⟨t,rfl⟩:=r;rfl
 |str _=>obtain⟨t,rfl⟩:=r;rfl
 |QD _=>obtain⟨t,rfl⟩:=r;rfl
 |S3 _=>obtain⟨t,rfl⟩:=r;rfl
 |ref _=>cases r;rfl
 |ty _=>cases r;rfl
def RelV.inj{x:V}(r:RelV x u)(q:RelV y u):x=y:=Option.some.inj (r.abs.symm.trans q.abs)
theorem Vals.inj:∀{xs ys:O V}{us:O ce},Vals xs us->Vals ys us->xs=ys
 |_,_,_,.nil,.nil=>rfl
 |_,_,_,.cons r t,.cons r' t'=>by rw[r.inj r',Vals.inj t t']
section
variable{a:db}
def cL.of{K:Aa}(h:H a=al (.lst xs)):cL K H a xs:=.inl (.inl h)
def dh.of{K:Aa}(h:H a=al (.tup xs)):dh K H a xs:=.inl (.inl h)
theorem Inv.list(I:Inv X Z σ H s)(h:cL X.K H a xs):∃ao:O ce,Vals xs ao/\PlainL s.heap a ao.toArray/\xs.length<=sizeLine:=by
 rcases h with h|⟨o,ao,n,hk,hc,hd,hs,hz,r⟩
 .obtain⟨z,ao,n,r,e⟩:=h.ok I.aK;exact⟨ao,r,⟨_,n,e,rfl,rfl,rfl⟩,z⟩
 .refine⟨ao.toList,r,⟨o,n,I.ek a o hk,hc,hd,by simpa using hs⟩,?_⟩;have e:=r.length;simp at e;lia
theorem Inv.tuple(I:Inv X Z σ H s)(h:dh X.K H a xs):∃ao:O ce,Vals xs ao/\IsTup s.heap a ao.toArray/\xs.length<=sizeLine:=by
 rcases h with h|⟨o,ao,n,hk,hc,hs,hz,r⟩
 .obtain⟨z,ao,r,p,_⟩:=h.ok I.aK;exact⟨ao,r,p,z⟩
 .refine⟨ao.toList,r,⟨o,I.ek a o hk,hc,n,by simpa using hs⟩,?_⟩;have e:=r.length;simp at e;lia
def Inv.vw(I:Inv X Z σ H s)(h:cL X.K H a xs)(h':cL X.K H a ys):xs=ys:=by
 obtain⟨ao,r,⟨o,n,e,_,_,d⟩,_⟩:=I.list h;obtain⟨its',r',⟨o',n',e',_,_,d'⟩,_⟩:=I.list h';rw[e]at e';cases e';rw[d]at d';injection d' with d1 _;have:ao=its':=by simpa using congrArg Array.toList d1
 subst this;exact r.inj r'
def Inv.i7(I:Inv X Z σ H s)(h:dh X.K H a xs)(h':dh X.K H a ys):xs=ys:=by
 obtain⟨ao,r,⟨o,e,_,n,d⟩,_⟩:=I.tuple h;obtain⟨its',r',⟨o',e',_,n',d'⟩,_⟩:=I.tuple h';rw[e]at e';cases e';rw[d]at d';injection d' with d1 _;have:ao=its':=by simpa using congrArg Array.toList d1
 subst this;exact r.inj r'
end
abbrev Cx.lz(X:Cx)(E:ce->gl->Prop):Cx:={X with xe:=E}
abbrev Cx.Hd(X:Cx):Cx:=X.lz λ_ _=>False
def Cx.Ok.lz(ok:X.Ok)(E:ce->gl->Prop):(X.lz E).Ok:=
 ⟨ok.mod,ok.kind,ok.glob,ok.blt,ok.above,ok.inj,ok.has,ok.Tv,ok.hd,ok.frames,ok.Vd,ok.exf,ok.bs,ok.LW,ok.He,ok.HL,ok.iV,ok.Mr⟩
def Cx.Ok.gM(ok:(X.lz E).Ok):X.Ok:=
 ⟨ok.mod,ok.kind,ok.glob,ok.blt,ok.above,ok.inj,ok.has,ok.Tv,ok.hd,ok.frames,ok.Vd,ok.exf,ok.bs,ok.LW,ok.He,ok.HL,ok.iV,ok.Mr⟩
section
def Inv.lz(I:Inv X Z σ H s)(E:ce->gl->Prop):Inv (X.lz E) Z σ H s:=⟨I.ok.lz E,I.os,I.bare,I.base,I.loc,I.cell,I.free,I.eu,I.pin,I.aK,I.len⟩
def Inv.gM(I:Inv (X.lz E) Z σ H s):Inv X Z σ H s:=⟨I.ok.gM,I.os,I.bare,I.base,I.loc,I.cell,I.free,I.eu,I.pin,I.aK,I.len⟩
def SP.gM{f:Flow}(h:SP (X.lz E) Z D f s'):SP X Z D f s':=by
 cases f with
 |next=>obtain⟨σ',H',I,q⟩:=h;exact⟨σ',H',I.gM,q⟩
 |brk=>obtain⟨σ',H',I,q⟩:=h;exact⟨σ',H',I.gM,q⟩
 |cont=>obtain⟨σ',H',I,q⟩:=h;exact⟨σ',H',I.gM,q⟩
 |ret u=>obtain⟨v,σ',H',I,r,q⟩:=h;exact⟨v,σ',H',I.gM,r,q⟩
def mf.Hd{st:O sK}{t:TS}(h:mf X.Hd st t):mf X st t:=λZ s σ H D I hw=>
 Bv (h Z s σ H D (I.lz _) hw) (λ_ _ q=>q.gM) λ_ _ z=>AO z
end
section
variable{st:sK}{rest:O sK}{t u:TS}
def U1:TS:=λD σ H=>D.nx σ H
def Zm(t u:TS):TS:=λD σ H=>t {D with nx:=u D} σ H
def cU:mf X [] U1:=λ_ _ σ H _ I h=>CF ⟨σ,H,I,h⟩
def aJ(h1:PS X st t)(h2:mf X rest u):mf X (st::rest) (Zm t u):=by
 intro Z s σ H D I h;refine EY (aR (h1 Z s σ H {D with nx:=u D} I h) λf s1 q=>?_);cases f with
 |next=>
  obtain⟨σ',H',I',q⟩:=q;exact h2 Z s1 σ' H' D I' q
 |ret v=>exact q
 |brk=>exact q
 |cont=>exact q
def aZ(h1:PS X st t):mf X [st] t:=by
 intro Z s σ H D I h;refine EY (aR (h1 Z s σ H D I h) λf s1 q=>?_);cases f with
 |next=>exact CF q
 |ret v=>exact q
 |brk=>exact q
 |cont=>exact q
def U7:TS:=λD σ H=>D.ct σ H
def va:PS X (.Continue pos) U7:=λ_ _ σ H _ I h=>wpAny_Continue ⟨σ,H,I,h⟩
def Inv.quiet(I:Inv X Z σ H s):interactive X.env=false:=by simp[interactive,I.ok.kind]
def U6(te:TE):TS:=λD σ H=>te σ H λ_ H1=>D.nx σ H1
def gR(he:PE X e te)(hs:‹pr e bn pos.line X.env=pure false›):PS X (.Expr e pos) (U6 te):=by
 intro Z s σ H D I h;exact wpAny_Expr_any (aR (he Z s σ H _ I h) λv s1 ⟨x,H1,I1,r1,q1⟩=>⟨σ,H1,I1,q1⟩) I.quiet hs
def Zn(te:TE):TS:=λD σ H=>te σ H D.rt
def cK(he:PE X e te):PS X (.Return (al e) pos) (Zn te):=by
 intro Z s σ H D I h;exact wpAny_Return_some (aR (he Z s σ H _ I h) λv s1 ⟨x,H1,I1,r1,q1⟩=>⟨x,σ,H1,I1,r1,q1⟩)
def Zs(c:TT)(t u:TS):TS:=λD σ H=>c σ H λb H1=>if b=true then t D σ H1 else u D σ H1
def iD{c:o0}{a b:O sK}{tc:TT}(hc:PT X c tc)(ha:mf X a t)(hb:mf X b u):PS X (.If c a b pos) (Zs tc t u):=by
 intro Z s σ H D I h;refine wpAny_If (aR (hc Z s σ H _ I h) λd s1 ⟨H1,I1,q1⟩=>?_);cases d with
 |true=>exact ha Z s1 σ H1 D I1 q1
 |false=>exact hb Z s1 σ H1 D I1 q1
def Q2:TS:=λ_ _ _=>False
end
abbrev TG:=V->St->Hp->(St->Hp->Prop)->Prop
abbrev TR:=O V->St->Hp->(St->Hp->Prop)->Prop
def PG(X:Cx)(Í:o0)(t:TG):Prop:=
 ∀(Z:O (db×Obj)) (s:gl) (σ:St) (H:Hp) (v:V) (u:ce) (Q:St->Hp->Prop),Inv X Z σ H s->RelV v u->t v σ H Q->
  f8 (ii X.prog X.w) X.A (Pv Í X.env u) (λ_ s'=>∃σ' H',Inv X Z σ' H' s'/\Q σ' H') X.xe s
def Y3(X:Cx)(ts:O o0)(t:TR):Prop:=
 ∀(Z:O (db×Obj)) (s:gl) (σ:St) (H:Hp) (vs:O V) (us:O ce) (Q:St->Hp->Prop),Inv X Z σ H s->Vals vs us->t vs σ H Q->
  f8 (ii X.prog X.w) X.A (assignInOrder ((KB ts X.env).map (·.2)) us) (λ_ s'=>∃σ' H',Inv X Z σ' H' s'/\Q σ' H') X.xe s
abbrev Mc:=V->V->V->Hp->(Hp->Prop)->Prop
def Io(X:Cx)(t:Mc):Prop:=
 ∀(Z:O (db×Obj)) (s:gl) (σ:St) (H:Hp) (o i v:V) (ov iv u:ce) (Q:Hp->Prop),Inv X Z σ H s->RelV o ov->RelV i iv->RelV v u->t o i v H Q->
  f8 (ii X.prog X.w) X.A (SB ov iv u) (λ_ s'=>∃H',Inv X Z σ H' s'/\Q H') X.xe s
section
def gG(i:Nat):TG:=λv σ H Q=>Q (σ.set i (al v)) H
def Nu{x:Str}(hN:X.N.Nodup)(hi:X.N[i]?=al x)(hx:Loc X.env.scope x)(hf:Md X x:=by first|exact .inl rfl|exact .inr rfl|assumption):PG X (.Name x pos) (gG i):=by
 intro Z s σ H v u Q I r h;exact wpAny_assign_Name (dN I hN hi hx r (λs' I'=>⟨_,H,I',h⟩) hf)
def W4:TR:=λvs σ H Q=>vs=[]/\Q σ H
def K6(t:TG)(u:TR):TR:=λvs σ H Q=>∃v r,vs=v::r/\t v σ H λσ' H'=>u r σ' H' Q
def ku:Y3 X [] W4:=by
 intro Z s σ H vs us Q I r h;obtain⟨e,h⟩:=h;subst e;cases r;exact assignInOrder_nil ⟨σ,H,I,h⟩
def cI{t:TG}{u:TR}(h1:PG X e t)(h2:Y3 X es u)(hs:‹(KB (e::es) X.env).map (·.2)=Pv e X.env::(KB es X.env).map (·.2)›):Y3 X (e::es) (K6 t u):=by
 intro Z s σ H vs us Q I r h;obtain⟨v,vr,e1,h⟩:=h;subst e1;cases r with
 |cons r rr=>
  rw[hs];exact BT (aR (h1 Z s σ H _ _ _ I r h) λ_ s1 ⟨σ1,H1,I1,q1⟩=>h2 Z s1 σ1 H1 _ _ Q I1 rr q1)
def W3(K:Aa)(n:Nat)(t:TR):TG:=λv σ H Q=>∃a xs,v=.ref a/\dh K H a xs/\xs.length=n/\t xs σ H Q
def oy{k:Nat}{t:TR}(hc:X.calm=true)(h:Y3 X es t)(hn:‹(KB es X.env).length=n›)(ly:‹(KB es X.env).findIdx? (·.1)=bn›):PG X (.Tuple es k pos) (W3 X.K n t):=by
 intro Z s σ H v u Q I r hw;obtain⟨a,xs,e1,hq,hl,hw⟩:=hw;subst e1;cases r;obtain⟨ao,rv,ht,hz⟩:=I.tuple hq;exact assign_Tuple_tuple (I.ok.hd hc) ht (by simp[hn,<- hl,rv.length]) ly λh' hx=>h Z _ σ H xs _ Q (I.kept λb o e=>hx b o (AB (Ai e)) e) (by simpa using rv) hw
def aaW(to ti:TE)(t:Mc):TG:=λv σ H Q=>to σ H λo H1=>ti σ H1 λi H2=>t o i v H2 λH3=>Q σ H3
def RE{o i:o0}{ti:TE}{t:Mc}(ho:PE X o to)(hi:PE X i ti)(hs:Io X t)(ha:∀v,Pv (.Subscript o i pos) X.env v=(do
   let ov <- u8 [v] (pc o X.env)
   let iv <- u8 [v,ov] (pc i X.env)
   KF pos
   u8 [v,ov,iv] (SB ov iv v)
   release [v,ov,iv] []):=by intro _;rfl):PG X (.Subscript o i pos) (aaW to ti t):=by
 intro Z s σ H v u Q I r h;exact Ab (A4 (aR (ho Z s σ H _ I h) λov s1 ⟨x,H1,I1,r1,q1⟩=>Ab (A4 (aR (hi Z s1 σ H1 _ I1 q1) λiv s2 ⟨y,H2,I2,r2,q2⟩=>Ab (BW (Ab (A4 (aR (hs Z s2 σ H2 x y v ov iv u _ I2 r1 r2 r q2) λ_ s3 ⟨H3,I3,q3⟩=>wpAny_release ⟨σ,H3,I3,q3⟩))))))))
def Q5(te:TE)(g:TG):TS:=λD σ H=>te σ H λx H1=>g x σ H1 D.nx
def JL{g:TG}(he:PE X e te)(hg:PG X tg g)(hs:‹Da [tg] e pos.line X.env=pure false›)(hw:‹Db [tg] e X.env=pure bn›)(h1:‹(KB [tg] X.env).map (·.2)=[Pv tg X.env]›):PS X (.Assign [tg] e pos) (Q5 te g):=by
 intro Z s σ H D I h;refine wpAny_Assign_stores (aR (he Z s σ H _ I h) λv s1 ⟨x,H1,I1,r1,q1⟩=>?_) hs hw;rw[h1];exact aR (hg Z s1 σ H1 x v _ I1 r1 q1) λ_ s2 q=>q
def cV{x:Str}(hN:X.N.Nodup)(hi:X.N[i]?=al x)(hx:Loc X.env.scope x)(he:PE X e te)(hs:‹pr e (al (.Name x È)) pos.line X.env=pure false›)(hf:Md X x:=by first|exact .inl rfl|exact .inr rfl|assumption):PS X (.Assign [.Name x È] e pos) (Q5 te (gG i)):=by
 intro Z s σ H D I h;refine wpAny_Assign_Name (aR (he Z s σ H _ I h) λv s1 ⟨y,H1,I1,r1,q1⟩=>?_) hs;exact dN I1 hN hi hx r1 (λs2 I2=>⟨_,H1,I2,q1⟩) hf
def Zo(i j:Nat)(ta:TA):TS:=λD σ H=>ta σ H λvs H1=>∃v w,vs=[v,w]/\D.nx ((σ.set i (al v)).set j (al w)) H1
def JJ{x y:Str}{b:o0}{ta:TA}{kt k2 u9}(hc:X.calm=true)(hN:X.N.Nodup)(hi:X.N[i]?=al x)(hj:X.N[j]?=al y)(Mp:i≠j)(hx:X.env.scope.names.lookup x=al .local)(hy:X.env.scope.names.lookup y=al .local)(ha:PA X [a,b] ta)(hw:Db [.Tuple [.Name x px,.Name y py] kt pt] (.Tuple [a,b] k2 u9) X.env=pure (al [x,y]))(hs:‹Da [.Tuple [.Name x px,.Name y py] kt pt] (.Tuple [a,b] k2 u9) pos.line X.env=pure false›):PS X (.Assign [.Tuple [.Name x px,.Name y py] kt pt] (.Tuple [a,b] k2 u9) pos) (Zo i j ta):=by
 intro Z s σ H D I h;refine Ab (BW ?_);refine Ab (Ae ?_);refine Ab (Tuple_ (aR (ha _ Z s σ H _ I h) λus s1 ⟨vs,H1,I1,r1,q1⟩=>?_));obtain⟨v,w,e1,q1⟩:=q1;subst e1;obtain⟨u1,u2,rfl,rv,G0⟩:∃u1 u2,us=[u1,u2]/\RelV v u1/\RelV w u2:=by
  cases r1 with
  |cons p q=>
   cases q with
   |cons p' q'=>
    cases q';exact⟨_,_,rfl,p,p'⟩
 refine BN ?_ (by show 2<=sizeLine;decide);rw[hw];refine Ab (Ae ?_);refine Ab (Dc (Ab (unpackItems_tuple (items:=#[u1,u2]) (I.ok.hd hc) (Gg s1.heap _) λh' qu=>?_)));refine Ab (BT (Du (dN ((I1.kept λb o e=>Ad _ e).kept (t':=s1.toks) λb o e=>qu b o (AB (Ai e)) e) hN hj (.inl hy) G0 (λs2 I4=>?_) (.inr hy))));refine BT (Du (dN I4 hN hi (.inl hx) rv (λs3 I5=>assignInOrder_nil (Ae ?_)) (.inr hx)));rw[ES _ _ (BA Mp)]at I5;exact⟨_,H1,I5,q1⟩
end
section
def QY(c:TT)(tb:TS):TS:=λD σ H=>∃W:Nat->St->Hp->Prop,(∃m,W m σ H)/\∀m σ H,W m σ H->
 c σ H λb H1=>if b=true then ∃N:St->Hp->Prop,(∀σ' H',N σ' H'->∃m',m'<m/\W m' σ' H')/\tb {D with nx:=N,ct:=N,bk:=D.nx} σ H1 else D.nx σ H1
def kq{c:o0}{tc:TT}{tb:TS}(hp:wT (ii X.prog X.w) X.A X.env X.xe)(hc:PT X c tc)(hb:mf X body tb):PS X (.While c body [] pos) (QY tc tb):=by
 intro Z s σ H D I h;obtain⟨W,⟨m0,w0⟩,Ð⟩:=h;refine wpAny_While (codeAny_whileLoop (λn s'=>∃σ' H',Inv X Z σ' H' s'/\W n σ' H') ?_ m0 ⟨σ,H,I,w0⟩);rintro n s1 ⟨σ1,H1,I1,w1⟩;refine Ck hp (aR (hc Z s1 σ1 H1 _ I1 (Ð n σ1 H1 w1)) λb s2 ⟨H2,I2,q2⟩=>?_);cases b with
 |true=>
  obtain⟨N,hN,q2⟩:=q2;refine Ck hp (aR (hb Z s2 σ1 H2 _ I2 q2) λf s3 q3=>?_);cases f with
  |next=>
   obtain⟨σ3,H3,I3,n3⟩:=q3;obtain⟨m',hm,w3⟩:=hN σ3 H3 n3;exact⟨m',hm,σ3,H3,I3,w3⟩
  |cont=>
   obtain⟨σ3,H3,I3,n3⟩:=q3;obtain⟨m',hm,w3⟩:=hN σ3 H3 n3;exact⟨m',hm,σ3,H3,I3,w3⟩
  |brk=>exact q3
  |ret v=>exact q3
 |false=>
  exact CF ⟨σ1,H2,I2,q2⟩
end
structure It where
 go:Nat->Hp->Prop
 Pg:Nat->Hp->V->Hp->Prop
 stop:Nat->Hp->Prop
def qJ(X:Cx)(Z:O (db×Obj))(H:Hp)(b:db):Prop:=
 H b=bn/\b≠X.env.locals/\b∉X.fs/\(b∈X.ex\/X.s₀.heap.objs.size<=b)/\(∀x c,X.env.cells.lookup x=al c->c≠b)/\∀p∈X.pn++Z,p.1≠b
def Inv.yx(I:Inv X Z σ H s)(hb:s.heap.objs.size<=b)(hn:H' b=bn):qJ X Z H' b:=by
 refine⟨hn,E6 (Au I.lt hb),I.ZX hb,.inr (AE I.sz hb),λx c e z=>?_,λp hp z=>?_⟩
 .obtain⟨v,q⟩:=I.cell x c e;exact absurd (Au q.lt (by rw[z];exact hb)) (AM _)
 .exact absurd (Au (Ai (I.pin p hp).1) (by rw[z];exact hb)) (AM _)
structure Turn(P:sw)(w:wE)(K:Aa)(tg:o0)(J:It)(fp:List db)(it:db)(tn:Nat->lw->Prop):Prop where
 mem:it∈fp
 obj:∀i h,tn i h->∀b∈fp,∃o,h.get? b=al o/\∀v,o.data≠.cell v
 keep:∀i h h',tn i h->(∀b∈fp,∀o,h.get? b=al o->h'.get? b=al o)->tn i h'
 item:∀(X:Cx),X.prog=P->X.w=w->X.K=K->X.calm=true->∀(i:Nat) (Z:List (db×Obj)) (s:gl) (σ:St) (H:Hp) (E:ce->gl->Prop),Inv X Z σ H s->(∀b∈fp,qJ X Z H b)->tn i s.heap->J.go i H->
  f8 (ii P w) X.A (pyNext (.ref it)) (λr s1=>∃u,r=al u/\
   f8 (ii P w) X.A (SZ tg (.ref it) u) (λ_ s2=>∃x H',Inv X Z σ H' s2/\RelV x u/\J.Pg i H x H'/\tn (i+1) s2.heap/\∀b∈fp,H' b=bn) E s1) E s
 done:∀(X:Cx),X.prog=P->X.w=w->X.K=K->X.calm=true->∀(i:Nat) (Z:List (db×Obj)) (s:gl) (σ:St) (H:Hp) (E:ce->gl->Prop),Inv X Z σ H s->(∀b∈fp,qJ X Z H b)->tn i s.heap->J.stop i H->
  f8 (ii P w) X.A (pyNext (.ref it)) (λr s1=>r=bn/\Inv X Z σ H s1) E s
 self:∀(A:wP) (i:Nat) (s:gl) (Q:ce->gl->Prop) (E:ce->gl->Prop),tn i s.heap->Q (.ref it) s->f8 (ii P w) A (pyIter (.ref it)) Q E s
abbrev TI:=St->Hp->(It->Hp->Prop)->Prop
def PIE(X:Cx)(Z:O (db×Obj))(σ:St)(tg:o0)(R:It->Hp->Prop)(Yq:ce)(s2:gl):Prop:=
 ∃(it:db) (fp:O db) (tn:Nat->lw->Prop) (J:It) (H':Hp),Yq=.ref it/\Inv X Z σ H' s2/\Turn X.prog X.w X.K tg J fp it tn/\tn 0 s2.heap/\(∀b∈fp,qJ X Z H' b)/\R J H'
def PI(X:Cx)(tg iter:o0)(wi:TI):Prop:=
 ∀(Z:O (db×Obj)) (s:gl) (σ:St) (H:Hp) (R:It->Hp->Prop),Inv X Z σ H s->wi σ H R->
  f8 (ii X.prog X.w) X.A (pc iter X.env) (λv s1=>f8 (ii X.prog X.w) X.A (pyIter v) (PIE X Z σ tg R) X.xe s1) X.xe s
def vL{n:String}{vs:Array ce}{Q:Unit->gl->Prop}(ho:s.heap.get? it=al o)(hc:o.cls=.type n)(hd:o.data=.fields vs)(hn:["enumerate","zip","dict_itemiterator","dict_reverseitemiterator","odict_iterator","itertools.zip_longest","itertools.pairwise"].contains n=false)(hQ:Q () s):f8 M A (SZ tg (.ref it) u) Q E s:=by
 unfold SZ;cases tg<;>first
  |exact Ae hQ
  |(cases u<;>first
    |exact Ae hQ
    |(
      refine Ab (wpAny_load ho ?_);rw[hc,hd];show f8 M A (if (["enumerate","zip","dict_itemiterator","dict_reverseitemiterator","odict_iterator","itertools.zip_longest","itertools.pairwise"].contains n&&vs[0]?==al (re _))=true then _ else _) Q E s;rw[if_neg (by intro h;rw[hn,Bool.false_and]at h;cases h)];exact Ae hQ))
def Itl(K:Aa)(a:db):It:=
 ⟨λi H=>∃xs x,cL K H a xs/\xs[i]?=al x,λi H x H'=>H'=H/\∀xs,cL K H a xs->xs[i]?=al x,λi H=>∃xs,cL K H a xs/\xs.length<=i⟩
def Itt(K:Aa)(a:db):It:=
 ⟨λi H=>∃xs x,dh K H a xs/\xs[i]?=al x,λi H x H'=>H'=H/\∀xs,dh K H a xs->xs[i]?=al x,λi H=>∃xs,dh K H a xs/\xs.length<=i⟩
def Y5(lo:Int)(n:Nat):It:=⟨λi _=>i<n,λi H x H'=>H'=H/\x=.int (lo+i),λi _=>n<=i⟩
theorem GO{K:Aa}(a it:db):Turn P w K tg (Itl K a) [it] it (λi h=>h.IsListIter it a i) where
 mem:=by simp
 obj:=λi h st b hb=>by
  have e:b=it:=by simpa using hb
  subst e;obtain⟨o,e,c,d⟩:=st;exact⟨o,e,λv z=>by rw[d]at z;cases z⟩
 keep:=λi h h' st k=>st.at λo e=>k it (by simp) o e
 item:=by
  intro X hP hw hK hc i Z s σ H E I hf st hg;subst hP hw hK;obtain⟨xs,x,hq,hx⟩:=hg;obtain⟨ao,rv,p,hz⟩:=I.list hq;obtain⟨u,hu,ru⟩:=rv.get hx;obtain⟨f0,f1,f2,f3,f4,f5⟩:=hf it (by simp);refine wpAny_pyNext_list_item st p.isList (by simpa using hu) λh' zh sb=>?_;obtain⟨o,e,c,d⟩:=id zh;exact⟨u,rfl,vL e c d ⋯ ⟨x,H,(I.turned (λb o hb e=>(sb.2 b hb).trans e) f0 f1 f3 f4 f5),ru,⟨rfl,λys hy=>by rw[I.vw hy hq];exact hx⟩,zh,λb hb=>(hf b hb).1⟩⟩
 done:=by
  intro X hP hw hK hc i Z s σ H E I hf st hg;subst hP hw hK;obtain⟨xs,hq,hx⟩:=hg;obtain⟨ao,rv,p,hz⟩:=I.list hq;obtain⟨f0,f1,f2,f3,f4,f5⟩:=hf it (by simp);have hl:=rv.length;exact wpAny_pyNext_list_end (I.ok.hd hc) st p.isList (by simp;lia) λh' eb=>⟨rfl,I.turned (t':=s.toks) (λb o hb e=>eb b o hb e) f0 f1 f3 f4 f5⟩
 self:=λ_ _ _ _ _ st h=>wpAny_pyIter_listiter st h
theorem xa{K:Aa}(a it:db):Turn P w K tg (Itt K a) [it] it (λi h=>h.IsTupleIter it a i) where
 mem:=by simp
 obj:=λi h st b hb=>by
  have e:b=it:=by simpa using hb
  subst e;obtain⟨o,e,c,d⟩:=st;exact⟨o,e,λv z=>by rw[d]at z;cases z⟩
 keep:=λi h h' st k=>st.at λo e=>k it (by simp) o e
 item:=by
  intro X hP hw hK hc i Z s σ H E I hf st hg;subst hP hw hK;obtain⟨xs,x,hq,hx⟩:=hg;obtain⟨ao,rv,p,hz⟩:=I.tuple hq;obtain⟨u,hu,ru⟩:=rv.get hx;obtain⟨f0,f1,f2,f3,f4,f5⟩:=hf it (by simp);refine wpAny_pyNext_tuple_item st (p) (by simpa using hu) λh' zh sb=>?_;obtain⟨o,e,c,d⟩:=id zh;exact⟨u,rfl,vL e c d ⋯ ⟨x,H,(I.turned (λb o hb e=>(sb.2 b hb).trans e) f0 f1 f3 f4 f5),ru,⟨rfl,λys hy=>by rw[I.i7 hy hq];exact hx⟩,zh,λb hb=>(hf b hb).1⟩⟩
 done:=by
  intro X hP hw hK hc i Z s σ H E I hf st hg;subst hP hw hK;obtain⟨xs,hq,hx⟩:=hg;obtain⟨ao,rv,p,hz⟩:=I.tuple hq;obtain⟨f0,f1,f2,f3,f4,f5⟩:=hf it (by simp);have hl:=rv.length;exact wpAny_pyNext_tuple_end (I.ok.hd hc) st (show s.heap.IsTuple a ao.toArray from p) (by simp;lia) λh' eb=>⟨rfl,I.turned (t':=s.toks) (λb o hb e=>eb b o hb e) f0 f1 f3 f4 f5⟩
 self:=λ_ _ _ _ _ st h=>wpAny_pyIter_tupleiter st h
theorem xc{K:Aa}(it:db)(lo:Int)(n:Nat):Turn P w K tg (Y5 lo n) [it] it (λi h=>IsRangeIter h it (lo+(i:Nat)*1) ((n:Int)-(i:Nat)) 1) where
 mem:=by simp
 obj:=λi h st b hb=>by
  have e:b=it:=by simpa using hb
  subst e;exact⟨_,st,λv z=>by
   have z':=z;cases z'⟩
 keep:=λi h h' st k=>k it (by simp) _ st
 item:=by
  intro X hP hw hK hc i Z s σ H E I hf st hg;subst hP hw hK;obtain⟨f0,f1,f2,f3,f4,f5⟩:=hf it (by simp);refine(Walks.range (prog:=X.prog) (I.ok.hd hc) it lo 1 n).item i s _ _ hg st λv h' tk hv zh kk=>?_;obtain⟨t,rfl⟩:=hv;refine⟨_,rfl,vL zh rfl rfl ⋯ ⟨.int (lo+i),H,(I.turned (λb o hb e=>kk b o (by simpa using hb) e) f0 f1 f3 f4 f5),⟨t,?_⟩,⟨rfl,rfl⟩,zh,λb hb=>(hf b hb).1⟩⟩;rw[Int.mul_one]
 done:=by
  intro X hP hw hK hc i Z s σ H E I hf st hg;obtain⟨f0,f1,f2,f3,f4,f5⟩:=hf it (by simp);exact wpAny_pyNext_range_end (I.ok.hd hc) st (by have:n<=i:=hg;lia) λh' eb=>⟨rfl,I.turned (λb o hb e=>eb b o hb e) f0 f1 f3 f4 f5⟩
 self:=λ_ _ _ _ _ st h=>wpAny_pyIter_rangeiter st h
end L2
variable{p:Cc}{fp:O AW}{iter:BL}{wi:L2.TI}
namespace L2
section
theorem Jt{R:It->Hp->Prop}{lo hi:Int}{t u v:Tok}{tk:Nat}(I:Inv X Z σ H s)(h1:-(2 ^ 62)<=lo)(h2:lo < 2 ^ 62)(h3:-(2 ^ 62)<=hi)(h4:hi < 2 ^ 62)(q:R (Y5 lo (hi-lo).toNat) H):f8 (ii X.prog X.w) X.A (pyIter (.ref s.heap.objs.size)) (PIE X Z σ tg R) E {s with heap:=s.heap.push {cls:=.type "range",data:=.fields #[.int lo t,.int hi u,.int 1 v]},toks:=tk}:=by
 refine wpAny_pyIter_range (IsRange.new ..) (small_one h1 h2 h3 h4) ?_;have I1:Inv X Z σ H {s with heap:=s.heap.push {cls:=.type "range",data:=.fields #[.int lo t,.int hi u,.int 1 v]},toks:=tk}:=I.kept λb o e=>Ad _ e;refine⟨(s.heap.push {cls:=.type "range",data:=.fields #[.int lo t,.int hi u,.int 1 v]}).objs.size,[(s.heap.push {cls:=.type "range",data:=.fields #[.int lo t,.int hi u,.int 1 v]}).objs.size],_,_,H,rfl,
  I1.kept (t':=tk) λb o e=>Ad _ e,xc _ lo (hi-lo).toNat,?_,λb hb=>?_,q⟩
 .have e1:lo+((0:Nat):Int)*1=lo:=by simp
  have e2:(((hi-lo).toNat:Nat):Int)-((0:Nat):Int)=Builtin.Range.rangeSize lo hi 1:=by rw[rangeSize_one];split<;>lia
  show IsRangeIter _ _ (lo+((0:Nat):Int)*1) ((((hi-lo).toNat:Nat):Int)-((0:Nat):Int)) 1;rw[e1,e2];exact Al _ rfl
 .have e:b=(s.heap.push {cls:=.type "range",data:=.fields #[.int lo t,.int hi u,.int 1 v]}).objs.size:=by simpa using hb
  subst e;exact I1.yx (Aj _) (I1.aK.fresh (Aj _))
def Wx(ta:TA):TI:=λσ H R=>ta σ H λvs H1=>∃j:Int,vs=[.int j]/\-(2 ^ 62)<=j/\j<2 ^ 62/\R (Y5 0 j.toNat) H1
theorem G7{ta:TA}(hg:Gl X "range")(hm:X.mg "range"=bn)(ha:PA X [a] ta)(hs:‹lf [a] X.env=[(false,pc a X.env)]›):PI X tg (.Call (.Name "range" p) [a] [] pos) (Wx ta):=by
 intro Z s σ H R I h;refine Call_ (gh I hg hm boot_range (Bd (aR (ha pos Z s σ H _ I h) λus s1 ⟨vs,H1,I1,r1,q1⟩=>?_) hs rfl));obtain⟨j,e,q1,q2,q⟩:=q1;subst e;cases r1 with
 |cons r rr=>
  cases rr;obtain⟨t,rfl⟩:=r;exact call_range_1 (Jt I1 ∅ ∅ q1 q2 (by simpa using q))
def Zt(wi:TI)(g:TG)(tb:TS):TS:=λD σ H=>wi σ H λJ H1=>∃W:Nat->Nat->St->Hp->Prop,(∃m,W 0 m σ H1)/\∀i m σ H,W i m σ H->
 (J.stop i H/\D.nx σ H)\/(J.go i H/\∃N:St->Hp->Prop,(∀σ' H',N σ' H'->∃m',m'<m/\W (i+1) m' σ' H')/\∀x H',J.Pg i H x H'->g x σ H' λσ2 H2=>tb {D with nx:=N,ct:=N,bk:=D.nx} σ2 H2)
def lJ(fp:O db)(h:lw):O (db×Obj):=fp.filterMap λb=>(h.get? b).map λo=>(b,o)
def gV(hb:b∈fp)(e:h.get? b=al o):(b,o)∈lJ fp h:=Dd.mpr ⟨b,hb,by rw[e];rfl⟩
def Hc{p:db×Obj}(hp:p∈lJ fp h):p.1∈fp/\h.get? p.1=al p.2:=by
 obtain⟨b,hb,e⟩:=Dd.mp hp;cases q:h.get? b with
 |none=>rw[q]at e;cases e
 |some o=>
  rw[q]at e;have e':=Option.some.inj e;subst e';exact⟨hb,q⟩
def Inv.pinned(I:Inv X Z σ H s)(hf:∀b∈fp,qJ X Z H b)(ho:∀b∈fp,∃o,s.heap.get? b=al o/\∀v,o.data≠.cell v):Inv X (Z++lJ fp s.heap) σ H s:=
 I.zD λp hp=>(C7.mp hp).elim (λz=>I.pin p (A8 _ z)) λz=>by
  obtain⟨hb,e⟩:=Hc z;obtain⟨f0,f1,f2,_⟩:=hf p.1 hb;obtain⟨o,e',d⟩:=ho p.1 hb;rw[e]at e';cases e';exact⟨e,f0,f1,f2,d⟩
def Inv.iz{pl:O (db×Obj)}(I:Inv X (Z++pl) σ H s):Inv X Z σ H s:=I.zD λp hp=>I.pin p (A8 _ (FH _ hp))
def JK{g:TG}{tb:TS}(hp:wT (ii X.prog X.w) X.A X.env X.xe)(hc:X.calm=true)(hi:PI X tg iter wi)(hg:PG X tg g)(hb:mf X body tb)(hs:pV X iter:=by intro _;rfl):PS X (.For tg iter body [] pos) (Zt wi g tb):=by
 intro Z s σ H D I h;refine wpAny_For (aR (hi Z s σ H _ I h) λv s1 h1=>aR h1 λYq s2 h2=>?_) hs;obtain⟨it,fp,tn,J,H2,e,I2,T,MY,f2,W,⟨m0,w0⟩,Ð⟩:=h2;subst e;have Q8:∀{H':Hp},(∀b∈fp,H' b=bn)->∀b∈fp,qJ X Z H' b:=λhn b hb=>⟨hn b hb,(f2 b hb).2⟩;refine codeAny_forLoop_any (λn s'=>∃i σ' H',Inv X Z σ' H' s'/\tn i s'.heap/\(∀b∈fp,H' b=bn)/\W i n σ' H') ?_ m0 ⟨0,σ,H2,I2,MY,λb hb=>(f2 b hb).1,w0⟩;rintro n s3 ⟨i,σ3,H3,I3,Vh,W7,w3⟩;rcases Ð i n σ3 H3 w3 with⟨stop,qn⟩|⟨go,N,hN,step⟩
 .refine Ck hp (aR (T.done X rfl rfl rfl hc i Z s3 σ3 H3 X.xe I3 (Q8 W7) Vh stop) λr s4 ⟨hr,I4⟩=>?_);subst hr;exact CF ⟨σ3,H3,I4,qn⟩
 .refine Ck hp (aR (T.item X rfl rfl rfl hc i Z s3 σ3 H3 X.xe I3 (Q8 W7) Vh go) λr s4 ⟨u,hr,h4⟩=>?_);subst hr;refine Ck hp (aR h4 λ_ s5 ⟨x,H5,I5,r5,y5,Q9,ā⟩=>?_);refine Ck hp (aR (hg _ s5 σ3 H5 x u _ (I5.pinned (Q8 ā) (T.obj _ _ Q9)) r5 (step x H5 y5)) λ_ s6 ⟨σ6,H6,I6,q6⟩=>?_);refine Ck hp (aR (hb _ s6 σ6 H6 _ I6 q6) λf s7 q7=>?_);have again:∀{σ7:St}{H7:Hp},Inv X (Z++lJ fp s5.heap) σ7 H7 s7->N σ7 H7->∃m,m<n/\∃i σ' H',Inv X Z σ' H' s7/\tn i s7.heap/\(∀b∈fp,H' b=bn)/\W i m σ' H':=λ{σ7 H7} I7 n7=>by
   obtain⟨m',hm,w7⟩:=hN σ7 H7 n7;refine⟨m',hm,i+1,σ7,H7,I7.iz,T.keep _ _ _ Q9 λb hb o e=>(I7.pin (b,o) (A8 _ (A8 _ (gV hb e)))).1,λb hb=>?_,w7⟩;obtain⟨o,e,d⟩:=T.obj _ _ Q9 b hb;exact(I7.pin (b,o) (A8 _ (A8 _ (gV hb e)))).2.1
  cases f with
  |next=>obtain⟨σ7,H7,I7,n7⟩:=q7;exact again I7 n7
  |cont=>obtain⟨σ7,H7,I7,n7⟩:=q7;exact again I7 n7
  |brk=>obtain⟨σ7,H7,I7,q7⟩:=q7;exact⟨σ7,H7,I7.iz,q7⟩
  |ret v=>obtain⟨x7,σ7,H7,I7,r7,q7⟩:=q7;exact⟨x7,σ7,H7,I7.iz,r7,q7⟩
end
end L2
variable{i:Int}{g:Int->Int->Int}{Iw:PySem.CmpOp}{ao:O AZ}
namespace L2
abbrev R2:=V->V->Hp->VK->Prop
def fy(X:Cx)(f:ce->ce->Sem ce)(r:R2):Prop:=
 ∀(Z:O (db×Obj)) (s:gl) (σ:St) (H:Hp) (x y:V) (v u:ce) (Q:VK),Inv X Z σ H s->RelV x v->RelV y u->r x y H Q->
  f8 (ii X.prog X.w) X.A (f v u) (EP X Z σ Q) X.xe s
def UnR(X:Cx)(f:ce->Sem ce)(r:V->Hp->VK->Prop):Prop:=
 ∀(Z:O (db×Obj)) (s:gl) (σ:St) (H:Hp) (x:V) (v:ce) (Q:VK),Inv X Z σ H s->RelV x v->r x H Q->
  f8 (ii X.prog X.w) X.A (f v) (EP X Z σ Q) X.xe s
def bz(X:Cx)(f:ce)(r:O V->Hp->VK->Prop):Prop:=
 ∀(Z:O (db×Obj)) (s:gl) (σ:St) (H:Hp) (xs:O V) (us:O ce) (Q:VK),Inv X Z σ H s->Vals xs us->r xs H Q->
  f8 (ii X.prog X.w) X.A (call f us) (EP X Z σ Q) X.xe s
def abw(X:Cx)(r:V->Hp->(Bool->Hp->Prop)->Prop):Prop:=
 ∀(Z:O (db×Obj)) (s:gl) (σ:St) (H:Hp) (x:V) (v:ce) (Q:Bool->Hp->Prop),Inv X Z σ H s->RelV x v->r x H Q->
  f8 (ii X.prog X.w) X.A (truthy v) (TP X Z σ Q) X.xe s
def Q1(r:R2)(ta tb:TE):TE:=λσ H Q=>ta σ H λx H1=>tb σ H1 λy H2=>r x y H2 Q
def tUn(r:V->Hp->VK->Prop)(ta:TE):TE:=λσ H Q=>ta σ H λx H1=>r x H1 Q
def rI(C:Int->Int->Prop)(g:Int->Int->V):R2:=λx y H Q=>∃i j,x=.int i/\y=.int j/\C i j/\Q (g i j) H
def Ni(g:Int->Int->V):R2:=λx y H Q=>∃i j,x=.int i/\y=.int j/\Q (g i j) H
def rU(g:Int->V):V->Hp->VK->Prop:=λx H Q=>∃i,x=.int i/\Q (g i) H
section
variable{b:o0}
def Tw(ha:PE X a ta)(hb:PE X b tb)(I:Inv X Z σ H s)(h:ta σ H λx H1=>tb σ H1 λy H2=>R x y H2){f:ce->ce->Sem ce}(hf:∀v u s2 x y H2,Inv X Z σ H2 s2->RelV x v->RelV y u->R x y H2->f8 (ii X.prog X.w) X.A (f v u) Q X.xe s2):f8 (ii X.prog X.w) X.A (pc a X.env) (λv s₁=>f8 (ii X.prog X.w) X.A (pc b X.env) (λu s₂=>f8 (ii X.prog X.w) X.A (f v u) Q X.xe s₂) X.xe s₁) X.xe s:=by
 exact aR (ha Z s σ H _ I h) λv s1 ⟨x,H1,I1,r1,q1⟩=>aR (hb Z s1 σ H1 _ I1 q1) λu s2 ⟨y,H2,I2,r2,q2⟩=>hf v u s2 x y H2 I2 r1 r2 q2
def oz{op:Operator}{r:R2}(ho:fy X (ww op) r)(ha:PE X a ta)(hb:PE X b tb):PE X (.BinOp a op b pos) (Q1 r ta tb):=by
 intro Z s σ H Q I h;exact wpAny_BinOp (Tw ha hb I h λv u s2 x y H2 I2 rx ry q=>ho Z s2 σ H2 x y v u Q I2 rx ry q)
def PZ{op:UnaryOp}{r:V->Hp->VK->Prop}(ho:UnR X (unaryOp op) r)(ha:PE X a ta):PE X (.UnaryOp op a pos) (tUn r ta):=by
 intro Z s σ H Q I h;exact UnaryOp_ (aR (ha Z s σ H _ I h) λv s1 ⟨x,H1,I1,r1,q1⟩=>ho Z s1 σ H1 x v Q I1 r1 q1)
def Yh{f:ce->ce->Sem ce}{C:Int->Int->Prop}(rule:∀(i j:Int) (t u:Tok) (s:gl) (Q:ce->gl->Prop) (E:ce->gl->Prop),C i j->Q (.int (g i j) s.toks) {s with toks:=s.toks+1}->f8 (ii X.prog X.w) X.A (f (.int i t) (.int j u)) Q E s):fy X f (rI C λi j=>.int (g i j)):=by
 intro Z s σ H x y v u Q I rx ry h;obtain⟨i,j,rfl,rfl,hc,q⟩:=h;obtain⟨t,rfl⟩:=rx;obtain⟨t',rfl⟩:=ry;exact rule i j t t' s _ _ hc ⟨.int (g i j),H,I.tok _,⟨_,rfl⟩,q⟩
def V0{f:ce->ce->Sem ce}(rule:∀(i j:Int) (t u:Tok) (s:gl) (Q:ce->gl->Prop) (E:ce->gl->Prop),Q (.int (g i j) s.toks) {s with toks:=s.toks+1}->f8 (ii X.prog X.w) X.A (f (.int i t) (.int j u)) Q E s):fy X f (Ni λi j=>.int (g i j)):=by
 intro Z s σ H x y v u Q I rx ry h;obtain⟨i,j,rfl,rfl,q⟩:=h;obtain⟨t,rfl⟩:=rx;obtain⟨t',rfl⟩:=ry;exact rule i j t t' s _ _ ⟨.int (g i j),H,I.tok _,⟨_,rfl⟩,q⟩
def NK{f:ce->ce->Sem ce}{g:Int->Int->Bool}(rule:∀(i j:Int) (t u:Tok) (s:gl) (Q:ce->gl->Prop) (E:ce->gl->Prop),Q (.bool (g i j)) s->f8 (ii X.prog X.w) X.A (f (.int i t) (.int j u)) Q E s):fy X f (Ni λi j=>.bl (g i j)):=by
 intro Z s σ H x y v u Q I rx ry h;obtain⟨i,j,rfl,rfl,q⟩:=h;obtain⟨t,rfl⟩:=rx;obtain⟨t',rfl⟩:=ry;exact rule i j t t' s _ _ ⟨.bl (g i j),H,I,rfl,q⟩
def Ml(i j:Int):Prop:=0<j/\j<1073741824
def Mj(i j:Int):Prop:=0<=j/\j<=1000000/\i.natAbs<2 ^ 64
def Pb(i j:Int):Prop:=(-(2 ^ 64)<i/\i<2 ^ 64)\/(-(2 ^ 64)<j/\j<2 ^ 64)
def Pb.ok{j:Int}(h:Pb i j):Gc i j:=by
 rcases h with⟨h1,h2⟩|⟨h1,h2⟩
 .exact .of_left (intBits_le_64 h1 h2)
 .exact .of_right (intBits_le_64 h1 h2)
def J3:fy X (ww .Add) (Ni λi j=>.int (i+j)):=V0 λ_ _ _ _ _ _ _ q=>add_int q
def J1:fy X (ww .Sub) (Ni λi j=>.int (i-j)):=V0 λ_ _ _ _ _ _ _ q=>sub_int q
theorem NG:fy X (ww .FloorDiv) (rI Ml λi j=>.int (i / j)):=Yh λi j _ _ _ _ _ hc q=>by
 have h1:(0:Int)<j:=hc.1;have h2:j<1073741824:=hc.2;exact floordiv_int ∅ (by rw[Int.fdiv_eq_ediv_of_nonneg i ∅];exact q) (.inl (PyProof.noPylong_small ∅))
theorem RK:fy X (ww .Mod) (rI (λ_ j=>0<j) λi j=>.int (i % j)):=Yh λi j _ _ _ _ _ hc q=>by
 have h1:(0:Int)<j:=hc;exact mod_int' ∅ (by rw[Int.fmod_eq_emod_of_nonneg i ∅];exact q)
def RI:fy X (ww .Pow) (rI Mj λi j=>.int (i ^ j.toNat)):=Yh λ_ _ _ _ _ _ _ hc q=>pow_int_small hc.1 hc.2.1 hc.2.2 q
def unI{f:ce->Sem ce}{g:Int->Int}(rule:∀(i:Int) (t:Tok) (s:gl) (Q:ce->gl->Prop) (E:ce->gl->Prop),Q (.int (g i) s.toks) {s with toks:=s.toks+1}->f8 (ii X.prog X.w) X.A (f (.int i t)) Q E s):UnR X f (rU λi=>.int (g i)):=by
 intro Z s σ H x v Q I rx h;obtain⟨i,rfl,q⟩:=h;obtain⟨t,rfl⟩:=rx;exact rule i t s _ _ ⟨.int (g i),H,I.tok _,⟨_,rfl⟩,q⟩
def IT:UnR X (unaryOp .USub) (rU λi=>.int (-i)):=unI λ_ _ _ _ _ q=>neg_int q
end
section
variable{b c:o0}{tc:TE}
def K8{Q:VK}{k k':Bool}(I:Inv X Z σ H s)(q:Q (.bl k) H)(e:k=k'):EP X Z σ Q (.bool k') s:=by
 subst e;exact⟨.bl k,H,I,rfl,q⟩
def zI:fy X (r6 .Lt) (Ni λi j=>.bl (decide (i<j))):=NK λ_ _ _ _ _ _ _ q=>lt_int q
def VX:fy X (r6 .LtE) (Ni λi j=>.bl (decide (i<=j))):=NK λ_ _ _ _ _ _ _ q=>le_int q
def VY:fy X (r6 .Gt) (Ni λi j=>.bl (decide (j<i))):=NK λ_ _ _ _ _ _ _ q=>gt_int q
def VZ:fy X (r6 .GtE) (Ni λi j=>.bl (decide (j<=i))):=NK λ_ _ _ _ _ _ _ q=>ge_int q
def qX:fy X (r6 .In) (λx y H Q=>∃i j,x=.str i/\y=.str j/\Q (.bl (!(Builtin.Str.occurrences j i 0 j.length 1).isEmpty)) H):=by
 intro Z s σ H x y v u Q I rx ry h;obtain⟨i,j,rfl,rfl,q⟩:=h;obtain⟨t,rfl⟩:=rx;obtain⟨t',rfl⟩:=ry;exact in_str (K8 I q rfl)
def J2:fy X (r6 .Is) (λx y H Q=>y=.br/\Q (.bl (decide (x=.br))) H):=by
 intro Z s σ H x y v u Q I rx ry h;obtain⟨rfl,q⟩:=h;cases ry;refine is_none_gen (K8 I q ?_);cases x<;>first
  |(cases rx;rfl)
  |(obtain⟨t,rfl⟩:=rx;rfl)
def fy.or{f:ce->ce->Sem ce}{r r':R2}(h:fy X f r)(h':fy X f r'):fy X f (λx y H Q=>r x y H Q\/r' x y H Q):=by
 intro Z s σ H x y v u Q I rx ry q;rcases q with q|q
 .exact h Z s σ H x y v u Q I rx ry q
 .exact h' Z s σ H x y v u Q I rx ry q
def eV(b:o0)(h: ~~~(op≠.In))(h2: ~~~(op≠.NotIn)):wf op b=false:=by
 have e1:(op==CmpOp.In)=false:=by cases op<;>first|rfl|exact absurd rfl h
 have e2:(op==CmpOp.NotIn)=false:=by cases op<;>first|rfl|exact absurd rfl h2
 cases b<;>simp[wf,e1,e2]
def ny{r:R2}(ho:fy X (r6 op) r)(ha:PE X a ta)(hb:PE X b tb)(hm:wf op b=false):PE X (.Compare a [op] [b] pos) (Q1 r ta tb):=by
 intro Z s σ H Q I h;exact wpAny_Compare1 (Tw ha hb I h λv u s2 x y H2 I2 rx ry q=>ho Z s2 σ H2 x y v u Q I2 rx ry q) hm
def Pr(t:TE):TT:=λσ H Q=>t σ H λx H'=>∃k,x=.bl k/\Q k H'
def ja{r:R2}(ho:fy X (r6 op) r)(ha:PE X a ta)(hb:PE X b tb)(hm:wf op b=false):PT X (.Compare a [op] [b] pos) (Pr (Q1 r ta tb)):=by
 intro Z s σ H Q I h;refine wpAny_isTrue_Compare1 (aR (ha Z s σ H _ I h) λv s1 ⟨x,H1,I1,r1,q1⟩=>aR (hb Z s1 σ H1 _ I1 q1) λu s2 ⟨y,H2,I2,r2,q2⟩=>
  aR (ho Z s2 σ H2 x y v u _ I2 r1 r2 q2) λc s3 ⟨z,H3,I3,r3,k,e,q3⟩=>?_) hm
 subst e;cases r3;exact Bl ⟨H3,I3,q3⟩
def xj(r r':R2)(ta tb tc:TE):TE:=λσ H Q=>ta σ H λx H1=>tb σ H1 λy H2=>r x y H2 λz H3=>∃k,z=.bl k/\
 (if k=true then tc σ H3 λw' H4=>r' y w' H4 Q else Q (.bl false) H3)
def JX{r r':R2}(ho:fy X (r6 op) r)(KR:fy X (r6 Iw) r')(ha:PE X a ta)(hb:PE X b tb)(hc:PE X c tc)(hm:lastMarks [op,Iw] [b,c]=false:=by with_unfolding_all rfl):PE X (.Compare a [op,Iw] [b,c] pos) (xj r r' ta tb tc):=by
 intro Z s σ H Q I h;refine Compare_chain (aR (ha Z s σ H _ I h) λv s1 ⟨x,H1,I1,r1,q1⟩=>chain_link (aR (hb Z s1 σ H1 _ I1 q1) λu s2 ⟨y,H2,I2,r2,q2⟩=>
  aR (ho Z s2 σ H2 x y v u _ I2 r1 r2 q2) λd s3 ⟨z,H3,I3,r3,k,e,q3⟩=>?_)) hm
 subst e;cases r3;refine Bl ?_;cases k with
 |false=>exact ite_ff ⟨.bl false,H3,I3,rfl,q3⟩
 |true=>exact ite_tt (chain_last (aR (hc Z s3 σ H3 _ I3 q3) λw' s4 ⟨z',H4,I4,r4,q4⟩=>KR Z s4 σ H4 y z' u w' Q I4 r2 r4 q4))
def JH{r r':R2}(ho:fy X (r6 op) r)(KR:fy X (r6 Iw) r')(ha:PE X a ta)(hb:PE X b tb)(hc:PE X c tc)(hm:lastMarks [op,Iw] [b,c]=false:=by with_unfolding_all rfl):PT X (.Compare a [op,Iw] [b,c] pos) (Pr (xj r r' ta tb tc)):=by
 intro Z s σ H Q I h;refine isTrue_chain (aR (ha Z s σ H _ I h) λv s1 ⟨x,H1,I1,r1,q1⟩=>test_link (aR (hb Z s1 σ H1 _ I1 q1) λu s2 ⟨y,H2,I2,r2,q2⟩=>
  aR (ho Z s2 σ H2 x y v u _ I2 r1 r2 q2) λd s3 ⟨z,H3,I3,r3,k,e,q3⟩=>?_)) hm
 subst e;cases r3;refine Bl ?_;cases k with
 |false=>
  obtain⟨k',e',q'⟩:=q3;cases e';exact ite_ff ⟨H3,I3,q'⟩
 |true=>
  refine ite_tt (test_last (aR (hc Z s3 σ H3 _ I3 q3) λw' s4 ⟨z',H4,I4,r4,q4⟩=>aR (KR Z s4 σ H4 y z' u w' _ I4 r2 r4 q4) λd' s5 ⟨z2,H5,I5,r5,k2,e2,q5⟩=>?_));subst e2;cases r5;exact Bl ⟨H5,I5,q5⟩
def TQ(K:Aa)(x:V)(H:Hp)(k:Bool):Prop:=
 match x with
 |.br=>k=false
 |.bl b=>k=b
 |.int i=>k=(i != 0)
 |.str y=>y.length<=sizeLine/\k=((y.length:Int) != 0)
 |.QD y=>y.size<=sizeLine/\k=((y.size:Int) != 0)
 |.ref p=>(∃xs,cL K H p xs/\k=!xs.isEmpty)\/(∃xs,dh K H p xs/\k=!xs.isEmpty)\/∃ay,H p=al (.dK ay)/\k=!ay.isEmpty
 |_=>False
def yf{κ:Type}{ay:O (κ×V)}{vs:O (κ×ce)}(r:KV ay vs):(!vs.isEmpty)=!ay.isEmpty:=by
 cases r<;>rfl
def oY(r:Vals xs ao):(!ao.toArray.isEmpty)=!xs.isEmpty:=by
 cases r<;>simp
def sX:(sizeLine:Nat)<2 ^ 63:=by rw[GM];decide
theorem QT:abw X (λx H Q=>∃k,TQ X.K x H k/\Q k H):=by
 intro Z s σ H x v Q I rx h;obtain⟨k,e,q⟩:=h;have hs:=GM;cases x with
 |br=>
  cases rx;have e':=e;subst e';exact truthy_none ⟨H,I,q⟩
 |bl b=>
  cases rx;have e':=e;subst e';exact Bl ⟨H,I,q⟩
 |int i=>
  obtain⟨t,rfl⟩:=rx;have e':=e;subst e';exact PySem.P.truthy_int ⟨H,I,q⟩
 |str y=>
  obtain⟨t,rfl⟩:=rx;obtain⟨hy,e'⟩:y.length<=sizeLine/\k=((y.length:Int) != 0):=e;subst e';exact PySem.P.truthy_str ∅ ⟨H,I.tok _,q⟩
 |QD y=>
  obtain⟨t,rfl⟩:=rx;obtain⟨hy,e'⟩:y.size<=sizeLine/\k=((y.size:Int) != 0):=e;subst e';exact PySem.W.truthy_bytes ∅ ⟨H,I.tok _,q⟩
 |ref p=>
  cases rx;have e':=e;rcases e' with⟨xs,hx,e'⟩|⟨xs,hx,e'⟩|⟨ay,hx,e'⟩
  .subst e';obtain⟨ao,r,pl,hz⟩:=I.list hx;have Â:=r.length;exact wpAny_truthy_list pl.isList (by simp;lia) ⟨H,I.tok _,by rw[oY r];exact q⟩
  .subst e';obtain⟨ao,r,pl,hz⟩:=I.tuple hx;have Â:=r.length;exact truthy_tuple pl (by simp only[Ag];lia) ⟨H,I.tok _,by rw[oY r];exact q⟩
  .subst e';obtain⟨hz,hS,vs,r,m⟩:ay.length<=sizeLine/\(p==EQ)=false/\∃vs,KV ay vs/\s.heap.DictOf (cq X.prog X.w) p vs:=I.aK p _ hx;have Â:=Paired.length r;exact wpAny_truthy_dict hS m ∅ ⟨H,I.tok _,by rw[yf r];exact q⟩
 |_=>exact(e).elim
def JG(ha:PE X a ta)(he:∀Ä,isTrue a X.env Ä=(do let v <- Ä;KF a.pos;u8 [v] (truthy v))):PT X a (λσ H Q=>ta σ H λx H'=>∃k,TQ X.K x H' k/\Q k H'):=by
 intro Z s σ H Q I h;exact isTrue_plain (aR (ha Z s σ H _ I h) λv s1 ⟨x,H1,I1,r1,q1⟩=>QT Z s1 σ H1 x v Q I1 r1 q1) (he _)
def xF:fy X (ww .Add) (λx y H Q=>∃i j,x=.str i/\y=.str j/\i.length+j.length<=sizeLine/\Q (.str (i++j)) H):=by
 intro Z s σ H x y v u Q I rx ry h;obtain⟨i,j,rfl,rfl,hz,q⟩:=h;obtain⟨t,rfl⟩:=rx;obtain⟨t',rfl⟩:=ry;exact add_str (λt' tk=>⟨.str (i++j),H,I.tok _,⟨_,rfl⟩,q⟩) hz
def vals1{x:V}(r:Vals [x] us):∃u,us=[u]/\RelV x u:=by
 cases r with
 |cons r1 r2=>cases r2;exact⟨_,rfl,r1⟩
def vals2{x:V}(r:Vals [x,y] us):∃u w',us=[u,w']/\RelV x u/\RelV y w':=by
 cases r with
 |cons r1 r2=>
  cases r2 with
  |cons r3 r4=>cases r4;exact⟨_,_,rfl,r1,r3⟩
def LU:bz X (.builtin "abs") (λxs H Q=>∃i,xs=[.int i]/\Q (.int (if i < 0 then -i else i)) H):=by
 intro Z s σ H xs us Q I r h;obtain⟨i,rfl,q⟩:=h;obtain⟨u,rfl,t,rfl⟩:=vals1 r;exact call_abs_int λu tk=>⟨.int (if i<0 then -i else i),H,I.tok _,⟨_,rfl⟩,q⟩
def Ib(hc:X.calm=true):bz X (.builtin "max") (λxs H Q=>∃i j,xs=[.int i,.int j]/\Q (.int (if j > i then j else i)) H):=by
 intro Z s σ H xs us Q I r h;obtain⟨i,j,rfl,q⟩:=h;obtain⟨u,w',rfl,⟨t,rfl⟩,⟨t',rfl⟩⟩:=vals2 r;refine max_two_ints (I.ok.hd hc) λh' tk k=>⟨_,H,I.kept k,?_,q⟩;by_cases hj:j > i
 .rw[if_pos hj,if_pos hj];exact⟨_,rfl⟩
 .rw[if_neg hj,if_neg hj];exact⟨_,rfl⟩
def Ii:bz X (.type "int") (λxs H Q=>(∃i,xs=[.int i]/\Q (.int i) H)\/∃k,xs=[.bl k]/\Q (.int (if k then 1 else 0)) H):=by
 intro Z s σ H xs us Q I r h;rcases h with⟨i,rfl,q⟩|⟨k,rfl,q⟩
 .obtain⟨u,rfl,t,rfl⟩:=vals1 r;exact call_int_int ⟨.int i,H,I,⟨_,rfl⟩,q⟩
 .obtain⟨u,rfl,r1⟩:=vals1 r;cases r1;exact call_int_bool ⟨.int (if k then 1 else 0),H,I.tok _,⟨_,rfl⟩,q⟩
def XS(K:Aa)(x:V)(H:Hp)(n:Nat):Prop:=
 match x with
 |.str y=>y.length<=sizeLine/\n=y.length
 |.QD y=>y.size<=sizeLine/\n=y.size
 |.ref p=>(∃xs,cL K H p xs/\n=xs.length)\/∃xs,dh K H p xs/\n=xs.length
 |_=>False
theorem LR:bz X (.builtin "len") (λxs H Q=>∃x n,xs=[x]/\XS X.K x H n/\Q (.int n) H):=by
 intro Z s σ H xs us Q I r h;obtain⟨x,n,rfl,e,q⟩:=h;obtain⟨u,rfl,rx⟩:=vals1 r;have hs:=GM;cases x with
 |str y=>
  obtain⟨t,rfl⟩:=rx;obtain⟨hy,e'⟩:y.length<=sizeLine/\n=y.length:=e;subst e';exact len_str ∅ ⟨.int _,H,I.tok _,⟨_,rfl⟩,q⟩
 |QD y=>
  obtain⟨t,rfl⟩:=rx;obtain⟨hy,e'⟩:y.size<=sizeLine/\n=y.size:=e;subst e';exact PySem.W.len_bytes ∅ ⟨.int _,H,I.tok _,⟨_,rfl⟩,q⟩
 |ref p=>
  cases rx;have e':=e;rcases e' with⟨xs,hx,e'⟩|⟨xs,hx,e'⟩
  .subst e';obtain⟨ao,r',pl,hz⟩:=I.list hx;have Â:=r'.length;exact Calls.call_len_list pl.isList (by simp;lia) ⟨.int xs.length,H,I.tok _,⟨_,by simp only[Ag];rw[Â]⟩,q⟩
  .subst e';obtain⟨ao,r',pl,hz⟩:=I.tuple hx;have Â:=r'.length;exact len_tuple pl (by simp only[Ag];lia) ⟨.int xs.length,H,I.tok _,⟨_,by simp only[Ag];rw[Â]⟩,q⟩
 |_=>exact(e).elim
end
end L2
variable{a:AW}{o:Option AZ}{R:PySem.Result->CY->Prop}{pl:PySem.Sem Bool}{mA:BJ->Option AZ}{prog:FR}{kw:O (BJ×AZ)}{env:PySem.Env}{Ã:BL}{jz Á:Cc}{tv:L2.TE}
namespace L2
structure yZ(h:lw)(x dx C:db)(mA:Str->Option ce):Prop where
 obj:h.get? x=al (B7 C dx)
 ns:h.Ns1 dx mA
 ne:dx≠x
def q8{dx:db}(n:h.Ns1 dx mA):∃od,h.get? dx=al od/\∀name,Eg name od=al (mA name):=by
 obtain⟨o,es,ep,ho,hd,hk,_,hm⟩:=n;refine⟨o,ho,λname=>?_⟩;have e:=hm name;unfold nsFind findBy at e;rw[<- Array.find?_toList]at e;unfold Eg;rw[hd];dsimp only
 split
 .rename_i y q;rw[q]at e;exact congrArg al e
 .rename_i q;rw[q]at e;have a:es.toList.any (·.refKey)=false:=by
   rw[List.any_eq_false];intro y hy;obtain⟨z,t,aaD⟩:=hk y (Array.mem_toList_iff.mp hy);simp[DictEntry.refKey,aaD]
  have a':¬es.toList.any (·.refKey)=true:=by rw[a];exact Bq
  rw[if_neg a'];exact congrArg al e
def yZ.look{x dx C:db}(I:yZ h x dx C mA):∃od,Dh h x (B7 C dx) C (al od)/\∀name,Eg name od=al (mA name):=
 let ⟨od,ho,hl⟩:=q8 I.ns
 ⟨od,⟨I.obj,rfl,rfl,ho⟩,hl⟩
section
variable{K:Aa}{x dx C f:db}{name:Str}{v:ce}
def get_map{expr:Bool}(X:K.In s.heap)(I:yZ s.heap x dx C mA)(hg:CV K C name=true)(hh:B4 K C=true)(ha:Av K (.ref C) name=al bn)(hv:mA name=al v)(Yt:F8 v=true)(h:Q v {s with toks:=s.toks+1}):f8 (ii prog w) A (getAttr (.ref x) name expr) Q E s:=by
 obtain⟨od,J,hl⟩:=I.look;exact PySem.W.get_value X J (DU hg).1 (FK hh ha rfl (by rw[hl,hv])) Yt h
def K4{Q:ce×O ce->gl->Prop}(X:K.In s.heap)(I:yZ s.heap x dx C mA)(hg:CV K C name=true)(hf:Av K (.ref C) name=al (al (.ref f)))(ht:Cz K (.ref f)=true)(hv:mA name=bn)(h:Q (.ref f,[.ref x]) s):f8 (ii prog w) A (getMethod (.ref x) name pl) Q E s:=by
 obtain⟨od,J,hl⟩:=I.look;exact PySem.W.method_fn X J (DU hg).1 (DU hg).2 hf (beq_iff_eq.mp ht) (by show(Eg name od).map (·.isSome)=al false;rw[hl,hv];rfl) h
theorem Na{ns:O Str}{Q:Unit->gl->Prop}(X:K.In s.heap)(I:yZ s.heap x dx C mA)(hs:Av K (.ref C) "__setattr__"=al (al (.builtin "object.__setattr__")))(hp:Ey K C=true)(ht:Ff K C name=al bn)(hh:B4 K C=true)(hw:F4 mA ns)(hsz:ns.length<=sizeLine)(h:∀h',yZ h' x dx C (λy=>if y=name then al v else mA y)->CC dx s.heap h'->Q () {s with heap:=h',toks:=s.toks+2}):f8 (ii prog w) A (setAttr (.ref x) name v) Q E s:=by
 obtain⟨od,J,hl⟩:=I.look;refine F1 X J hs (PySem.W.osa_open X J hp ht λb=>?_);obtain⟨cd,hc,ú⟩:=CW hh;refine Ab (Ae (Ab (Ab (A7 I.obj (Ab (AX.here (s:={s with toks:=s.toks+1}) (Cs X hc) ?_))))));rw[ú];refine Ae (Ab (Ae (Ab ?_)));refine wpAny_nsSet1 (s:={s with toks:=s.toks+1}) I.ns λh' hn2 uM=>?_;obtain⟨oD,esD,epD,ð,ù,K1⟩:=hn2.count (F0 name v hw);exact Ab (wpAny_lookBehind ð (by rw[ù];exact pastItsLine_dict (AE K1 (by rw[Ap];lia))) (Ae (h _ ⟨(uM.2 _ (BA I.ne)).trans I.obj,hn2,I.ne⟩ uM)))
def Km{vs:O ce}(X:K.In s.heap)(hm:Fg K C=true)(hi:Av K (.ref C) "__init__"=al (al (.ref f)))(hf:Ef K (.ref f)=al (.type "function"))(h:KM (ii prog w) (A.under (.builtin "type.__call__" ⟨.ref C::vs,kw⟩)) (.call (.ref f) ⟨.ref (s.heap.objs.size+1)::vs,kw⟩) (F9 (s.heap.objs.size+1) R)
   {s with heap:=(s.heap.push BD).push (B7 C s.heap.objs.size)}):KM (ii prog w) A (.call (.ref C) ⟨vs,kw⟩) R s:=by
 obtain⟨hh,g,d,t,os⟩:=s;exact PySem.W.make_core (PySem.W.makes_of X hm) (BI X hi) (λself=>PySem.W.bind_fn X self hf) (.inl rfl) h
end
def iq(f:Str)(v:V):O (Str×V)->O (Str×V)
 |[]=>[(f,v)]
 |(g,x)::r=>if g=f then (g,v)::r else (g,x)::iq f v r
theorem mw(f g:Str)(v:V):∀fs:O (Str×V),(iq f v fs).lookup g=if g=f then al v else fs.lookup g
 |[]=>by
  show Cy g [(f,v)]=_;by_cases h:g=f
  .have hb:(g==f)=true:=beq_iff_eq.mpr h;simp only[Cy,hb,if_pos h]
  .have hb:=beq_eq_false_iff_ne.mpr h;simp only[Cy,hb,if_neg h]
 |(k,x)::r=>by
  rw[show iq f v ((k,x)::r)=(if k=f then (k,v)::r else (k,x)::iq f v r) from rfl];by_cases hk:k=f
  .rw[if_pos hk];by_cases h:g=k
   .simp only[Cy,(beq_iff_eq.mpr h),if_pos (h.trans hk)]
   .simp only[Cy,(beq_eq_false_iff_ne.mpr h),if_neg (λe:g=f=>h (e.trans hk.symm))]
  .rw[if_neg hk];by_cases h:g=k
   .simp only[Cy,(beq_iff_eq.mpr h),if_neg (λe:g=f=>hk (h.symm.trans e))]
   .simp only[Cy,(beq_eq_false_iff_ne.mpr h)];exact(mw f g v r)
theorem lQ(f:Str)(v:V):∀fs:O (Str×V),f∈(iq f v fs).map (·.1)/\∀g,g∈fs.map (·.1)->g∈(iq f v fs).map (·.1)
 |[]=>⟨by simp[iq],λg h=>by simp at h⟩
 |(k,x)::r=>by
  obtain⟨i1,i2⟩:=lQ f v r;rw[show iq f v ((k,x)::r)=(if k=f then (k,v)::r else (k,x)::iq f v r) from rfl];by_cases hk:k=f
  .subst hk;exact⟨by simp,λg h=>by simpa using h⟩
  .rw[if_neg hk];refine⟨?_,λg h=>?_⟩
   .exact AD _ i1
   .rcases Az.mp h with e|e
    .exact Az.mpr (.inl e)
    .exact AD _ (i2 g e)
theorem mz(f:Str)(v:V):∀fs:O (Str×V),(iq f v fs).length<=fs.length+1
 |[]=>by simp[iq]
 |(k,x)::r=>by
  have ih:=mz f v r;rw[show iq f v ((k,x)::r)=(if k=f then (k,v)::r else (k,x)::iq f v r) from rfl];by_cases hk:k=f
  .rw[if_pos hk,Ap,Ap];lia
  .rw[if_neg hk,Ap,Ap];lia
def lq.some_of(r:lq (al v) o):∃u,o=al u/\RelV v u:=by
 cases o with
 |none=>exact(r).elim
 |some u=>exact⟨u,rfl,r⟩
def lq.none_of(r:lq bn o):o=bn:=by
 cases o with
 |none=>rfl
 |some u=>exact(r).elim
def HG(r:RelV v u):F8 u=true:=by
 cases v with
 |br=>cases (r);rfl
 |bl b=>cases (r);rfl
 |int i=>obtain⟨t,e⟩:=(r);cases e;rfl
 |str x=>obtain⟨t,e⟩:=(r);cases e;rfl
 |QD b=>obtain⟨t,e⟩:=(r);cases e;rfl
 |S3 b=>obtain⟨t,e⟩:=(r);cases e;rfl
 |ref a=>cases (r);rfl
 |ty n=>cases (r);rfl
section
variable{C dx:db}{fs:O (Str×V)}
def nI(aK:gJ P w H h)(e:H a=al (.ins C dx fs)):∃mA,yZ h a dx C mA/\(∀f,lq (fs.lookup f) (mA f))/\F4 mA (fs.map (·.1))/\fs.length<=1000/\H dx=al (.own a):=by
 obtain⟨d,z,ne,ob,mA,n,r,q⟩:=(aK a _ e);exact⟨mA,⟨ob,n,ne⟩,r,q,z,d⟩
end
structure GJ(K:Aa)(C:db):Prop where
 pg:CV K C Gb=true
 hd:B4 K C=true
 po:Ey K C=true
 sa:Av K (.ref C) "__setattr__"=al (al (.builtin "object.__setattr__"))
def GJ.get{K:Aa}{C:db}(c:GJ K C)(f:Str):CV K C f=true:=c.pg
def ed(K:Aa)(C:db)(f:Str):Prop:=Av K (.ref C) f=al bn
def ed.taker{K:Aa}{C:db}{f:Str}(n:ed K C f):Ff K C f=al bn:=by
 unfold Ff;rw[show Av K (.ref C) f=al bn from n];rfl
structure Meth(K:Aa)(C:db)(m:Str)(f:db):Prop where
 at_:Av K (.ref C) m=al (al (.ref f))
 fn:Cz K (.ref f)=true
 kp:AH K (.ref f)=true
section
variable{C dx:db}{fs:O (Str×V)}{f:Str}
def yq{b:Bool}(I:Inv X Z σ H s)(e:H a=al (.ins C dx fs))(c:GJ X.K C)(n:ed X.K C f)(l:fs.lookup f=al v)(h:∀u s',Inv X Z σ H s'->RelV v u->Q u s'):f8 (ii X.prog X.w) A (getAttr (.ref a) f b) Q E s:=by
 obtain⟨mA,O_,r,_,_,_⟩:=nI I.aK e;obtain⟨u,hu,ru⟩:=lq.some_of (by rw[<- l];exact r f);exact get_map I.ek O_ (c.get f) c.hd n hu (HG ru) (h u _ (I.tok _) ru)
def o8{m:Str}{g:db}{Q:ce×O ce->gl->Prop}(I:Inv X Z σ H s)(e:H a=al (.ins C dx fs))(c:GJ X.K C)(k:Meth X.K C m g)(l:fs.lookup m=bn)(h:Q (.ref g,[.ref a]) s):f8 (ii X.prog X.w) A (getMethod (.ref a) m pl) Q E s:=by
 obtain⟨mA,O_,r,_,_,_⟩:=nI I.aK e;exact K4 I.ek O_ (c.get m) k.at_ k.fn (lq.none_of (by rw[<- l];exact r m)) h
theorem xq{Q:Unit->gl->Prop}(I:Inv X Z σ H s)(e:H a=al (.ins C dx fs))(c:GJ X.K C)(n:ed X.K C f)(hl:fs.length<1000)(ry:RelV y u)(h:∀s',Inv X Z σ (upd H a (.ins C dx (iq f y fs))) s'->Q () s'):f8 (ii X.prog X.w) A (setAttr (.ref a) f u) Q E s:=by
 obtain⟨mA,O_,r,wi,_,ho⟩:=nI I.aK e;have hz:(fs.map (·.1)).length<=sizeLine:=by rw[Am,GM];lia
 refine Na I.ek O_ c.sa c.po n.taker c.hd wi hz λh' O' sb=>h _ ?_;have hd:∃o,h'.get? dx=al o:=let ⟨o,_,_,e',_⟩:=O'.ns;⟨o,e'⟩;refine I.write (by rw[e];exact BR) (.inr ho) (λb q hb z=>(sb.2 b hb).trans z) hd ?_;refine⟨by rw[af O_.ne];exact ho,?_,O_.ne,O'.obj,_,O'.ns,λg=>?_,λg hg=>?_⟩
 .have:=mz f y fs;lia
 .rw[mw];by_cases q:g=f
  .rw[if_pos q,if_pos q];exact ry
  .rw[if_neg q,if_neg q];exact r g
 .by_cases q:g=f
  .rw[q];exact(lQ f y fs).1
  .refine(lQ f y fs).2 g (wi g λz=>hg ?_);show(if g=f then al u else mA g)=bn;rw[if_neg q];exact z
def Inv.made(I:Inv X Z σ H s):Inv X Z σ (upd (upd H s.heap.objs.size (.own (s.heap.objs.size+1))) (s.heap.objs.size+1) (.ins C s.heap.objs.size [])) {s with heap:=(s.heap.push BD).push (B7 C s.heap.objs.size)}:=by
 have e1:(s.heap.push BD).get? s.heap.objs.size=al BD:=Al s.heap rfl;have e2:((s.heap.push BD).push (B7 C s.heap.objs.size)).get? (s.heap.objs.size+1)=al (B7 C s.heap.objs.size):=by
  have:=Al (s.heap.push BD) (o:=B7 C s.heap.objs.size) rfl
  rwa [Bi]at this
 have e3:(s.heap.push BD).Ns s.heap.objs.size (λ_=>bn):=⟨BD,#[],_,e1,rfl,(λe he=>absurd he (by simp)),λ_=>rfl⟩;have I1:=I.laid (a:=s.heap.objs.size) (o:=.own (s.heap.objs.size+1)) (h':=s.heap.push BD) (t':=s.toks) (λb u q=>Ad _ q) (Aj _) ⟨_,e1⟩;refine I1.laid (a:=s.heap.objs.size+1) (o:=.ins C s.heap.objs.size []) (t':=s.toks) (λb u q=>Ad _ q) (Ee (Bi _ _)) ?_;have ne:s.heap.objs.size≠s.heap.objs.size+1:=AB (Ce _);refine⟨by rw[af ne,aw],Bn _,ne,e2,λ_=>bn,(Heap.Ns1.of_empty e3).at λo q=>Ad _ q,λ_=>BR,λy hy=>absurd rfl hy⟩
def GC{f:Str}{s:gl}(hb:sB e f env (pc e env)=pc e env)(h:f8 (ii prog w) A (pc e env) (λo s₁=>f8 (ii prog w) A (getAttr o f true) Q E s₁) E s):f8 (ii prog w) A (pc (.Attribute e f pos) env) Q E s:=
 Attribute_any_ h (by rw[arm_eval_Attribute,hb])
end
def Zu(K:Aa)(ta:TE)(f:Str):TE:=λσ H Q=>ta σ H λx H1=>∃a C dx fs v,x=.ref a/\H1 a=al (.ins C dx fs)/\GJ K C/\ed K C f/\fs.lookup f=al v/\Q v H1
def ZI(K:Aa)(ta tv:TE)(f:Str):TS:=λD σ H=>tv σ H λy H1=>ta σ H1 λx H2=>∃a C dx fs,x=.ref a/\H2 a=al (.ins C dx fs)/\GJ K C/\ed K C f/\fs.length<1000/\
 D.nx σ (upd H2 a (.ins C dx (iq f y fs)))
section
variable{o:o0}{f:Str}
def gb(he:PE X e ta)(hb:sB e f X.env (pc e X.env)=pc e X.env):PE X (.Attribute e f pos) (Zu X.K ta f):=by
 intro Z s σ H Q I h;refine GC hb (aR (he Z s σ H _ I h) λu s1 ⟨x,H1,I1,rx,a,C,dx,fs,v,ex,ea,c,n,l,q⟩=>?_);subst ex;obtain rfl:u=Ao a:=rx;exact yq I1 ea c n l λu' s2 I2 ru=>⟨v,H1,I2,ru,q⟩
def xw(ha:PE X o ta)(hv:PE X Ã tv)(hs:pr Ã (al (.Attribute o f È)) pos.line X.env=pure false):PS X (.Assign [.Attribute o f È] Ã pos) (ZI X.K ta tv f):=by
 intro Z s σ H D I h;refine plainObj_wpAny_Assign_Attribute (aR (hv Z s σ H _ I h) λu s1 ⟨y,H1,I1,ry,q⟩=>aR (ha Z s1 σ H1 _ I1 q) λov s2 ⟨x,H2,I2,rx,a,C,dx,fs,ex,ea,c,n,l,q2⟩=>?_) hs;subst ex;obtain rfl:ov=Ao a:=rx;exact xq I2 ea c n l ry λs3 I3=>⟨σ,_,I3,q2⟩
def P8{m:Str}{args:O o0}(he:PE X e te)(I:Inv X Z σ H s)(h:te σ H λx H1=>∃a C dx fs g,x=.ref a/\H1 a=al (.ins C dx fs)/\GJ X.K C/\Meth X.K C m g/\fs.lookup m=bn/\
   ∀s1,Inv X Z σ H1 s1->f8 (ii X.prog X.w) X.A (callWith pos (.ref g) [.ref a] (IR pos (lf args X.env)) (backToKw pos (Re [] X.env))) Q X.xe s1)(ht:pc (.Call (.Attribute e m Á) args [] pos) X.env=(do
   let ov <- pc e X.env
   KF Á.atName
   let (f,first) <- u8 [ov] (getMethod ov m pl)
   callWith pos f first (IR pos (lf args X.env)) (backToKw pos (Re [] X.env)))):f8 (ii X.prog X.w) X.A (pc (.Call (.Attribute e m Á) args [] pos) X.env) Q X.xe s:=by
 refine Dz (pl:=pl) (aR (he Z s σ H _ I h) λu s1 ⟨x,H1,I1,rx,a,C,dx,fs,g,ex,ea,c,k,l,q⟩=>?_) ht;subst ex;obtain rfl:u=Ao a:=rx;exact o8 I1 ea c k l (q s1 I1)
end
section
variable{c:ce}{b:Bool}
inductive i6(K:Aa)(H:Hp):V->ce->Prop where
 |br:i6 K H .br (.type "NoneType")
 |bl (x:Bool):i6 K H (.bl x) (.type "bool")
 |int (i:Int):i6 K H (.int i) (.type "int")
 |str (x:Str):i6 K H (.str x) (.type "str")
 |S3 (x:UInt64):i6 K H (.S3 x) (.type "float")
 |lst {a:db}{xs:List V} (e:H a=al (.lst xs)):i6 K H (.ref a) (.type "list")
 |cE {a:db}{o:Obj}{xs:List V} (e:H a=al (.cE o (.lst xs))):i6 K H (.ref a) (.type "list")
 |tup {a:db}{xs:List V} (e:H a=al (.tup xs)):i6 K H (.ref a) (.type "tuple")
 |dK {a:db}{ay:List (Key×V)} (e:H a=al (.dK ay)):i6 K H (.ref a) (.type "dict")
 |dT {a:db}{ay:List (List Key×V)} (e:H a=al (.dT ay)):i6 K H (.ref a) (.type "dict")
 |ins {a C dx:db}{fs:List (Str×V)} (e:H a=al (.ins C dx fs)) (cl:GJ K C) (ha:Av K (.ref C) "__class__"=al (al (.builtin "object.__class__")))
   (hn:B3 K (.builtin "object.__class__") "__get__"=al (al (.builtin "getset_descriptor.__get__"))) (Yv:Fe K (.builtin "object.__class__")=al true)
   (hm:Bx K C (.type "object")=al true):i6 K H (.ref a) (.ref C)
def Hw{x:V}{t:ce}(I:Inv X Z σ H s)(rx:RelV x u)(ty:i6 X.K H x t)(e:AG X.K t c=al b)(h:∀tk,Q (.bool b) {s with toks:=tk}):f8 (ii X.prog X.w) A (call (.builtin "isinstance") [u,c]) Q E s:=by
 cases ty with
 |br=>cases (show u=AJ from rx);exact A5 PySem.W.kitx_none I.ek BR e (λz=>nomatch z) h
 |bl y=>cases (show u=C9 y from rx);exact A5 PySem.W.kitx_bool I.ek BR e (λz=>nomatch z) h
 |int i=>obtain⟨t,q⟩:=(show ∃t,u=CH i t from rx);cases q;exact A5 PySem.W.kitx_int I.ek BR e (λz=>nomatch z) h
 |str y=>obtain⟨t,q⟩:=(show ∃t,u=Ga y t from rx);cases q;exact A5 PySem.W.kitx_str I.ek BR e (λz=>nomatch z) h
 |S3 y=>obtain⟨t,q⟩:=(show ∃t,u=Value.float y t from rx);cases q;exact A5 PySem.W.kitx_float I.ek BR e (λz=>nomatch z) h
 | @lst a xs ea=>
  cases (show u=Ao a from rx);obtain⟨_,_,n,_,h1⟩:=(show bC X.prog X.w H s.heap a (.lst xs) from I.aK a _ ea);exact A5 EA I.ek ⟨_,h1,rfl⟩ e (λz=>nomatch z) h
 | @cE a ob xs ea=>
  cases (show u=Ao a from rx);obtain⟨_,_,_,n,_,h1⟩:=(show bC X.prog X.w H s.heap a (.cE ob (.lst xs)) from I.aK a _ ea);exact A5 EA I.ek ⟨_,h1,rfl⟩ e (λz=>nomatch z) h
 | @tup a xs ea=>
  cases (show u=Ao a from rx);obtain⟨_,_,_,p,_⟩:=(show bC X.prog X.w H s.heap a (.tup xs) from I.aK a _ ea);obtain⟨o,h1,h2,_⟩:=p;exact A5 FW I.ek ⟨o,h1,h2⟩ e (λz=>nomatch z) h
 | @dK a ay ea=>
  cases (show u=Ao a from rx);obtain⟨_,_,vs,_,p⟩:=(show bC X.prog X.w H s.heap a (.dK ay) from I.aK a _ ea);obtain⟨o,es,ep,h1,h2,_⟩:=p;exact A5 EB I.ek ⟨o,h1,h2.1⟩ e (λz=>nomatch z) h
 | @dT a ay ea=>
  cases (show u=Ao a from rx);obtain⟨_,_,xs,_,o,es,ep,h1,h2,_⟩:=(show bC X.prog X.w H s.heap a (.dT ay) from I.aK a _ ea);exact A5 EB I.ek ⟨o,h1,h2.1⟩ e (λz=>nomatch z) h
 | @ins a C dx fs ea cl ha hn Yv hm=>
  cases (show u=Ao a from rx);obtain⟨mA,O_,_⟩:=nI I.aK ea;obtain⟨od,J,_⟩:=O_.look;exact A5 (PySem.W.kitx_own (cl.get _) cl.hd ha hn Yv hm) I.ek J e (λz=>nomatch z) h
end
end L2
variable{o:BL}{v cd Ç pm bE ct oc:AZ}{vs:O L2.V}{mg:BJ->Option AZ}{base:Er}{fd:PySem.FuncData}{ps:O BJ}{outer:O PySem.Env}{sc scope:PySem.Scope}{qual:BJ}{an od:Option AW}{G9:Array (Option AZ)}
namespace L2
structure bf(k:Nat)(A:wP):Prop where
 hd:A.handled=bn
 dp:A.depth+3*k+5<recursionLimit
 un:A.units+16*k+200<FM
 gd:A.guards=al []
theorem bf.mono{k:Nat}(r:bf k A)(h:j<=k):bf j A:=⟨r.hd,by have:=r.dp;lia,by have:=r.un;lia,r.gd⟩
theorem bf.deeper{k:Nat}(r:bf (k+1) A)(env:Env):bf k (A.deeper env):=
 ⟨r.hd,by have:=r.dp;show A.depth+1+3*k+5<_;lia,by have:=r.un;show A.units+3+16*k+200<_;lia,r.gd⟩
def xR{C:db}:(A.under (.builtin "type.__call__" ⟨.ref C::us,kw⟩)).depth=A.depth+1:=by
 first|rfl|simp
def xQ{C:db}:(A.under (.builtin "type.__call__" ⟨.ref C::us,kw⟩)).units=A.units+1:=by
 first|rfl|simp
theorem bf.make{k:Nat}(r:bf (k+1) A)(C:db)(us:O ce)(kw:O (Str×ce)):bf k (A.under (.builtin "type.__call__" ⟨.ref C::us,kw⟩)):=
 ⟨r.hd,by have:=r.dp;rw[xR];lia,by have:=r.un;rw[xQ];lia,by have h:=r.gd;simp[Around.under,Code.guards,Code.isGuard,guardIds,pushGuards,h]⟩
theorem bf.depth{k:Nat}(r:bf k A):A.depth<recursionLimit:=by have:=r.dp;lia
def U0:TA:=λ_ H Q=>Q [] H
def Pu(ta:TE)(tr:TA):TA:=λσ H Q=>ta σ H λx H1=>tr σ H1 λxs H2=>Q (x::xs) H2
section
variable{t:TA}
def aA:PA X [] U0:=λ_ _ _ _ H Q I h=>BK ⟨[],H,I,.nil,h⟩
def ah(ha:PE X e te)(hr:PA X es t)(hs:‹dX X e es›):PA X (e::es) (Pu te t):=by
 intro pos Z s σ H Q I h;rw[hs];exact A6 (aR (ha Z s σ H _ I h) λu s1 ⟨x,H1,I1,r1,q1⟩=>aR (hr pos Z s1 σ H1 _ I1 q1) λus s2 ⟨xs,H2,I2,r2,q2⟩=>⟨x::xs,H2,I2,.cons r1 r2,q2⟩)
end
abbrev Sp:=O V->Hp->VK->XK->Prop
abbrev II:=O Env->Hp->gl->XK->ce->gl->Prop
structure uH(P:sw)(w:wE)(K:Aa)(mg:Str->Option ce)(base:lw)(A:wP)(outer:List Env)(s:gl)(H:Hp):Prop where
 frames:A.frames=al outer
 mod:Mod K mg base
 bs:∀b o,base.get? b=al o->s.heap.get? b=al o/\H b=bn
 LW:base.objs.size<=s.heap.objs.size
 iV:s.heap.FunFrames base outer
 Mr:∀b∈m5 outer,H b=bn
 aK:gJ P w H s.heap
 bare:Rs s.gens
def CE(outer:O Env)(P:sw)(w:wE)(H:Hp)(s:gl)(Q:VK)(u:ce)(s':gl):Prop:=
 ∃v H',s'.os=s.os/\Rs s'.gens/\Un (m5 outer) [] H H' s.heap s'.heap/\gJ P w H' s'.heap/\RelV v u/\Q v H'
def CR(CX:II)(outer:O Env)(P:sw)(w:wE)(H:Hp)(s:gl)(Q:VK)(E:XK)(r:Result)(s':gl):Prop:=
 match r with
 |.ok (.ret u)=>CE outer P w H s Q u s'
 |.ok _=>False
 |.error e=>CX outer H s E e s'
structure aY(P:sw)(w:wE)(K:Aa)(mg:Str->Option ce)(base:lw)(CX:II)(k:Nat)(f:db)(fd:wp)(ps:List Str)(sp:Sp):Prop where
 len:∀vs H Q E,sp vs H Q E->vs.length=ps.length
 run:∀(A:wP) (outer:List Env) (s:gl) (H:Hp) (args:Args) (us:List ce) (vs:List V) (Q:VK) (E:XK),bf k A->uH P w K mg base A outer s H->BindsTo s fd args (ps.zip us)->Vals vs us->sp vs H Q E->
  KM (ii P w) A (.call (.ref f) args) (CR CX outer P w H s Q E) s
def aY.imp{K:Aa}{CX:II}{k:Nat}{f:db}{sp Vm:Sp}(F:aY P w K mg base CX k f fd ps sp)(h:∀vs H Q E,Vm vs H Q E->sp vs H Q E):aY P w K mg base CX k f fd ps Vm:=
 ⟨λvs H Q E q=>F.len vs H Q E (h _ _ _ _ q),λA outer s H args us vs Q E hr he hb hv hs=>F.run A outer s H args us vs Q E hr he hb hv (h _ _ _ _ hs)⟩
def uH.make{K:Aa}(e:uH P w K mg base A outer s H)(C:db)(us:O ce)(kw:O (Str×ce)):uH P w K mg base (A.under (.builtin "type.__call__" ⟨.ref C::us,kw⟩)) outer s H:=⟨by first | exact e.frames | (simpa[Around.under,Code.envs,Code.isFrame,pushEnvs]using e.frames),e.mod,e.bs,e.LW,e.iV,e.Mr,e.aK,e.bare⟩
section
def Inv.Lr(I:Inv X Z σ H s):uH X.prog X.w X.K X.mg X.base X.A X.stack s H:=
 ⟨I.ok.frames,I.ok.mod,I.bs,AE I.ok.LW I.sz,I.stack,I.km,I.aK,I.bare⟩
def Inv.after{Q:VK}(I:Inv X Z σ H s)(h:CE X.stack X.prog X.w H s Q u s'):EP X Z σ Q u s':=by
 obtain⟨v,H',os,bare,un,aK,r,q⟩:=h;obtain⟨hh,g,d,t,VW⟩:=s';obtain rfl:VW=s.os:=os;exact⟨v,H',I.call (h':=hh) (g':=g) (d':=d) (t':=t) (ch:=[]) un aK bare (λb z=>absurd z (by simp)),r,q⟩
end
def Pw(sp:Sp)(ua:O V)(E:XK)(t:TA):TE:=λσ H Q=>t σ H λvs H1=>sp (vs++ua) H1 Q E
def U2(C:db)(m:Str)(sp:Sp)(ua:O V)(E:XK)(ta:TE)(t:TA):TE:=λσ H Q=>ta σ H λx H1=>∃a dx fs,x=.ref a/\H1 a=al (.ins C dx fs)/\fs.lookup m=bn/\
 t σ H1 λvs H2=>sp (x::(vs++ua)) H2 Q E
def U3(C:db)(sp:Sp)(ua:O V)(E:XK)(t:TA):TE:=λσ H Q=>t σ H λvs H1=>∀x dx,H1 x=bn->H1 dx=bn->dx≠x->
 sp (.ref x::(vs++ua)) (upd (upd H1 dx (.own x)) x (.ins C dx [])) (λv H2=>v=.br/\Q (.ref x) H2) E
def Binds(K:Aa)(fd:wp)(ps:O Str)(ds:O ce):Prop:=
 ∀(s:gl) (us:O ce),K.In s.heap->(us++ds).length=ps.length->BindsTo s fd ⟨us,[]⟩ (ps.zip (us++ds))
def Binds.all{K:Aa}(h:∀us:O ce,us.length=ps.length->P3 fd ⟨us,[]⟩=pure (ps.zip us)):Binds K fd ps []:=λs us _ hl=>by
 rw[A3]at hl ⊢;exact .of_eq (h us hl)
def Passes(CX:II)(X:Cx)(E:XK):Prop:=∀(Z:O (db×Obj)) (σ:St) (H:Hp) (s:gl) (e:ce) (s':gl),Inv X Z σ H s->CX X.stack H s E e s'->X.xe e s'
section
variable{CX:II}{k:Nat}{f C:db}{sp:Sp}{ua:O V}{ds:O ce}{E:XK}{x m:Str}{t:TA}
def oj{Q:VK}(F:aY X.prog X.w X.K X.mg X.base CX k f fd ps sp)(hr:bf k X.A)(hb:Binds X.K fd ps ds)(hd:Vals ua ds)(hx:Passes CX X E)(I:Inv X Z σ H s)(r:Vals vs us)(h:sp (vs++ua) H Q E):f8 (ii X.prog X.w) X.A (call (.ref f) us) (EP X Z σ Q) X.xe s:=by
 have r2:Vals (vs++ua) (us++ds):=r.append hd;have hl:(us++ds).length=ps.length:=by rw[<- r2.length];exact F.len _ _ _ _ h
 refine Cp (zn (F.run X.A X.stack s H ⟨us,[]⟩ (us++ds) (vs++ua) Q E hr I.Lr (hb s us I.ek hl) r2 h) λr s' hq=>?_);cases r with
 |error e=>exact hx Z σ H s e s' I hq
 |ok fl=>
  cases fl with
  |ret u=>exact I.after hq
  |next=>exact AO hq
  |brk=>exact AO hq
  |cont=>exact AO hq
def zH(F:aY X.prog X.w X.K X.mg X.base CX k f fd ps sp)(hr:bf k X.A)(hg:Gl X x)(hm:X.mg x=al (.ref f))(hk:AH X.K (.ref f)=true)(hb:Binds X.K fd ps ds)(hd:Vals ua ds)(hx:Passes CX X E)(ha:PA X (e::es) t)(dQ: ~~~(dn x))(he:‹dX X e es›)(bH:‹fD X pos es›):PE X (.Call (.Name x p) (e::es) [] pos) (Pw sp ua E t):=by
 intro Z s σ H Q I h;exact AL (eF I hg hm (BS I.ok.mod.Kw hk (aR (ha pos Z s σ H _ I h) λus s1 ⟨vs,H1,I1,r,q⟩=>⟨I1.ek,oj F hr hb hd hx I1 r q⟩) he bH) dQ)
def gT(he:PE X o ta)(c:GJ X.K C)(hm:Meth X.K C m f)(F:aY X.prog X.w X.K X.mg X.base CX k f fd ps sp)(hr:bf k X.A)(hb:Binds X.K fd ps ds)(hd:Vals ua ds)(hx:Passes CX X E)(ha:PA X (e::es) t)(ly:‹dX X e es›)(bH:‹fD X pos es›)(ht:‹pc (.Call (.Attribute o m Á) (e::es) [] pos) X.env=(do
   let ov <- pc o X.env
   KF Á.atName
   let (f,first) <- u8 [ov] (getMethod ov m pl)
   callWith pos f first (IR pos (lf (e::es) X.env)) (backToKw pos (Re [] X.env)))›):PE X (.Call (.Attribute o m Á) (e::es) [] pos) (U2 C m sp ua E ta t):=by
 intro Z s σ H Q I h;refine Dz (pl:=pl) (aR (he Z s σ H _ I h) λu s1 ⟨x,H1,I1,rx,a,dx,fs,ex,ea,l,q⟩=>?_) ht;subst ex;obtain rfl:u=Ao a:=rx;refine o8 I1 ea c hm l ?_;refine BS (first:=[.ref a]) (h₀:=X.base) I.ok.mod.Kw hm.kp (aR (ha pos Z s1 σ H1 _ I1 q) λus s2 ⟨vs,H2,I2,r,q2⟩=>⟨I2.ek,?_⟩) ly bH;exact oj (us:=.ref a::us) (vs:=.ref a::vs) F hr hb hd hx I2 (.cons rfl r) q2
structure Mk(K:Aa)(C f:db):Prop where
 makes:Fg K C=true
 init:Av K (.ref C) "__init__"=al (al (.ref f))
 fn:Cz K (.ref f)=true
 kp:AH K (.ref C)=true
def Jn{Q:VK}(M:Mk X.K C f)(F:aY X.prog X.w X.K X.mg X.base CX k f fd ps sp)(hr:bf (k+1) X.A)(hb:Binds X.K fd ps ds)(hd:Vals ua ds)(hx:Passes CX X E)(I:Inv X Z σ H s)(r:Vals vs us)(h:∀x dx,H x=bn->H dx=bn->dx≠x->sp (.ref x::(vs++ua)) (upd (upd H dx (.own x)) x (.ins C dx [])) (λv H2=>v=.br/\Q (.ref x) H2) E):f8 (ii X.prog X.w) X.A (call (.ref C) us) (EP X Z σ Q) X.xe s:=by
 have hq:=h (s.heap.objs.size+1) s.heap.objs.size (I.aK.fresh (FG _)) (I.aK.fresh (Aj _)) (AB (Ce _));have I2:=Inv.made (C:=C) I;have r2:Vals (V.ref (s.heap.objs.size+1)::(vs++ua)) (Ao (s.heap.objs.size+1)::(us++ds)):=.cons rfl (r.append hd);have hl:(Ao (s.heap.objs.size+1)::us++ds).length=ps.length:=by
  have e:=r2.length;rw[F.len _ _ _ _ hq]at e;exact e.symm
 refine Cp (Km I.ek M.makes M.init (beq_iff_eq.mp M.fn) (zn (F.run _ X.stack _ _ ⟨Ao (s.heap.objs.size+1)::us,[]⟩ (Ao (s.heap.objs.size+1)::(us++ds)) _ _ E (hr.make C us [])
  (I2.Lr.make C us []) (hb _ (Ao (s.heap.objs.size+1)::us) I2.ek hl) r2 hq) λr s' HB=>?_))
 cases r with
 |error e=>exact hx Z σ _ _ e s' I2 HB
 |ok fl=>
  cases fl with
  |ret u=>
   obtain⟨v,H',I3,rv,ev,q3⟩:=I2.after HB;subst ev;exact⟨rv,⟨V.ref (s.heap.objs.size+1),H',I3,rfl,q3⟩⟩
  |next=>exact AO HB
  |brk=>exact AO HB
  |cont=>exact AO HB
def Nx(M:Mk X.K C f)(F:aY X.prog X.w X.K X.mg X.base CX k f fd ps sp)(hr:bf (k+1) X.A)(hg:Gl X x)(hm:X.mg x=al (.ref C))(hb:Binds X.K fd ps ds)(hd:Vals ua ds)(hx:Passes CX X E)(ha:PA X (e::es) t)(dQ: ~~~(dn x))(he:‹dX X e es›)(bH:‹fD X pos es›):PE X (.Call (.Name x p) (e::es) [] pos) (U3 C sp ua E t):=by
 intro Z s σ H Q I h;exact AL (eF I hg hm (BS I.ok.mod.Kw M.kp (aR (ha pos Z s σ H _ I h) λus s1 ⟨vs,H1,I1,r,q⟩=>⟨I1.ek,Jn M F hr hb hd hx I1 r q⟩) he bH) dQ)
end
structure bu(N P:List Str)(sc:wS):Prop where
 kind:sc.kind=.function
 co:sc.isCoroutine=false
 gen:sc.isGenerator=false
 nd:N.Nodup
 pre:N.take P.length=P
 par:∀x∈P,sc.names.lookup x=al .local\/sc.names.lookup x=al .cell
 R1:∀y∈sc.names,y.2≠.free
theorem rH{kindOf:Str->Option xz}{x:Str}:∀{binds:O (Str×ce)}{m:Str->Option ce},(∀v,(x,v)∉binds)->bindL kindOf binds m x=m x
 |[],_,_=>rfl
 |(n,v)::r,m,h=>by
  unfold bindL;rw[rH λw hw=>h w (AD _ hw)]
  split
  .have:x≠n:=by rintro rfl;exact h v Bp
   simp[this]
  .rfl
theorem rK{kindOf:Str->Option xz}{x:Str}:∀{binds:O (Str×ce)}{m:Str->Option ce},(∀v,(x,v)∉binds)->bindC kindOf binds m x=m x
 |[],_,_=>rfl
 |(n,v)::r,m,h=>by
  unfold bindC;rw[rK λw hw=>h w (AD _ hw)]
  split
  .rfl
  .have:x≠n:=by rintro rfl;exact h v Bp
   simp[this]
theorem rJ{kindOf:Str->Option xz}{x:Str}:∀{P:O Str}{vs:O ce}{i:Nat}{m:Str->Option ce},P.Nodup->P[i]?=al x->vs[i]?=al v->kindOf x=al .local->bindL kindOf (P.zip vs) m x=al v
 |[],_,_,_,_,h,_,_=>by simp at h
 |_::_,[],_,_,_,_,h,_=>by simp at h
 |p::P,w::vs,0,m,nd,h1,h2,hk=>by
  simp at h1 h2;subst h1;subst h2;show bindL kindOf ((p,w)::P.zip vs) m p=_;unfold bindL;rw[rH λv hv=>(CG.mp nd).1 (DS hv).1,if_pos hk];simp
 |p::P,w::vs,i+1,m,nd,h1,h2,hk=>by
  unfold bindL;exact rJ (CG.mp nd).2 (by simpa using h1) (by simpa using h2) hk
theorem rL{kindOf:Str->Option xz}{x:Str}:∀{P:O Str}{vs:O ce}{i:Nat}{m:Str->Option ce},P.Nodup->P[i]?=al x->vs[i]?=al v->kindOf x≠al .local->bindC kindOf (P.zip vs) m x=al v
 |[],_,_,_,_,h,_,_=>by simp at h
 |_::_,[],_,_,_,_,h,_=>by simp at h
 |p::P,w::vs,0,m,nd,h1,h2,hk=>by
  simp at h1 h2;subst h1;subst h2;show bindC kindOf ((p,w)::P.zip vs) m p=_;unfold bindC;rw[rK λv hv=>(CG.mp nd).1 (DS hv).1,if_neg hk];simp
 |p::P,w::vs,i+1,m,nd,h1,h2,hk=>by
  unfold bindC;exact rL (CG.mp nd).2 (by simpa using h1) (by simpa using h2) hk
def start(N:O Str)(vs:O V):St:=vs.map al++Ar (N.length-vs.length) bn
def jB(CX:II)(P:sw)(w:wE)(K:Aa)(mg:Str->Option ce)(base:lw)(N:O Str)(qual:Str)(scope:wS)(f:db)(cd:ce)(A:wP)(outer:O Env)(s:gl)(H:Hp)(E:XK):Cx where
 prog:=P
 w:=w
 K:=K
 mg:=mg
 base:=base
 A:=A.deeper (xL qual scope s.heap.objs.size f cd)
 N:=N
 s₀:=s
 H₀:=H
 env:=xL qual scope s.heap.objs.size f cd
 outer:=outer
 stack:=xL qual scope s.heap.objs.size f cd::outer
 ex:=[]
 calm:=true
 fn:=λ_=>true
 pn:=[]
 xe:=λe s'=>f8 (ii P w) (A.deeper (xL qual scope s.heap.objs.size f cd)) (leaving (xL qual scope s.heap.objs.size f cd) e) (λ_ GZ=>CX outer H s E e GZ) (λe' GZ=>CX outer H s E e' GZ) s'
def wF{x:Str}(h:sc.names.lookup x=al .cell):∃c,(wv n sc.names []).lookup x=al c:=by
 exact Option.isSome_iff_exists.mp (E4 sc.names n [] (.inl h))
theorem Hy{CX:II}{K:Aa}{N:O Str}{f:db}{s1:gl}{E:XK}(S:bu N ps scope)(hd:A.handled=bn)(e0:uH P w K mg base A outer s H)(hl:vs.length=ps.length)(r:Vals vs us)(x:InCallC s s.heap.objs.size (bindL (xL qual scope s.heap.objs.size f cd).kindOf (ps.zip us) λ_=>bn) (wv (s.heap.objs.size+1) scope.names []) (bindC (xL qual scope s.heap.objs.size f cd).kindOf (ps.zip us) λ_=>bn) s1):Inv (jB CX P w K mg base N qual scope f cd A outer s H E) [] (start N vs) H s1:=by
 have bH:ps.length<=N.length:=by have:=congrArg CU S.pre;rw[Cf]at this;lia
 obtain⟨h1,tk,rfl,hk⟩:=x.done;have V6:∀b:db,b∉(jB CX P w K mg base N qual scope f cd A outer s H E).ex:=λb z=>absurd (show b∈([]) from z) (by simp);refine⟨⟨e0.mod,S.kind,rfl,rfl,Aj _,λy z c h1 h2=>?_,λy hy=>?_,λy c _ h=>?_,λ_=>hd,FC e0.frames,.inr ⟨rfl,rfl⟩,λb z=>absurd z (V6 b),e0.bs,e0.LW,λb _ _=>V6 b,λb z=>absurd z (V6 b),e0.iV,e0.Mr⟩,
  rfl,e0.bare,Un.kept hk,⟨_,x.toInCall.ns,λi y v h1 h2 h3=>?_⟩,λy c h=>⟨_,x.cell y c h⟩,e0.aK.fresh (Aj _),λy c h=>?_,λp hp=>absurd (show p∈([]) from hp) (by simp),e0.aK.kept hk,?_⟩
 .exact name_of_addr x.apart (Bg h1) (Bg h2)
 .rcases hy with hy|hy
  .exact wF hy
  .exact absurd rfl (S.R1 _ (Bg hy))
 .exact Ed (x.above y c (Bg h))
 .have hi:i<vs.length:=by
   unfold start at h2;by_cases hi:i<vs.length
   .exact hi
   .rw[A1 (by simpa using hi)]at h2;rw[Bu]at h2
    split at h2<;>cases h2
  have ha:vs[i]?=al v:=by
   unfold start at h2;rw[AU (by simpa using hi),An]at h2;cases e:vs[i]? with
   |none=>rw[e]at h2;cases h2
   |some a=>rw[e]at h2;cases h2;rfl
  obtain⟨u,hu,rv⟩:=r.get ha;have hp:ps[i]?=al y:=by
   rw[<- S.pre,List.getElem?_take_of_lt ∅];exact h1
  have ndP:ps.Nodup:=by rw[<- S.pre];exact S.nd.sublist (List.take_sublist _ _)
  refine⟨u,rv,?_⟩;rcases S.par y (A9 hp) with k|k
  .exact .inl ⟨k,rJ ndP hp hu k⟩
  .obtain⟨c,e⟩:=wF k;refine .inr ⟨.inl k,c,e,?_⟩;have q:=x.cell y c e;rw[rL ndP hp hu (by show scope.names.lookup y≠_;rw[k];decide)]at q;exact q
 .exact e0.aK.fresh (Ed (x.above y c (Bg h)))
 .unfold start;show _=N.length;rw[Ah,Am,BQ];lia
def zV{CX:II}{K:Aa}{k:Nat}{f:db}{name:Str}{params:Arguments}{dV kV:ce}{N:O Str}{sp:Sp}(lk:K.lookup f=al ⟨oc,od,.func (Be name qual params body scope dV kV Ç pm an bE ct),G9⟩)(cS:BX K bE qual=true)(S:bu N ps scope)(len:∀vs H Q E,sp vs H Q E->vs.length=ps.length)(kQ:∀(A:wP) (outer:O Env) (s:gl) (H:Hp) (vs:O V) (Q:VK) (E:XK),bf k (A.deeper (xL qual scope s.heap.objs.size f bE))->sp vs H Q E->
   ∃t,mf (jB CX P w K mg base N qual scope f bE A outer s H E) body t/\t {nx:=λ_ H'=>Q .br H',rt:=Q} (start N vs) H):aY P w K mg base CX (k+1) f (Be name qual params body scope dV kV Ç pm an bE ct) ps sp:=by
 refine⟨len,λA outer s H args us vs Q E hr e0 hb r uL=>?_⟩;have hl:=len _ _ _ _ uL;have KX:K.In s.heap:=e0.mod.Kw.keeps λb o e=>(e0.bs b o e).1;have lim:s.heap.NoLimit:=e0.mod.nolimit.keeps λb o e=>(e0.bs b o e).1;have WN:∀y∈ps.zip us,scope.names.lookup y.1=al .local\/(scope.names.lookup y.1=al .cell/\((wv (s.heap.objs.size+1) scope.names []).lookup y.1).isSome=true):=λ⟨n,v⟩ hy=>by
  rcases S.par n (DS hy).1 with q|q
  .exact .inl q
  .exact .inr ⟨q,E4 _ _ _ (.inl q)⟩
 refine codeAny_call_function hr.depth (KX _ _ lk) rfl S.co S.gen rfl (PySem.W.codeRec_of KX cS) (hb _ _ _ _ ?_);refine wpAny_newFunctionEnv_cells S.kind WN λenv he s1 x=>?_;subst he;refine⟨lim.keeps x.toInCall.keep,codeAny_func ?_⟩;obtain⟨t,ht,hq⟩:=kQ A outer s H vs Q E (hr.deeper _) uL;have I:Inv (jB CX P w K mg base N qual scope f bE A outer s H E) [] (start N vs) H s1:=Hy S hr.hd e0 hl r x;refine Bv (ht [] s1 (start N vs) H _ I hq) (λfl s' hs=>?_) λe s' hs=>hs;have fin:∀{σ':St}{H':Hp}{v:V}{u:ce},Inv (jB CX P w K mg base N qual scope f bE A outer s H E) [] σ' H' s'->RelV v u->Q v H'->CE outer P w H s Q u s':=
  λ{σ' H' v u} J rv q=>⟨v,H',J.os,J.bare,J.base,J.aK,rv,q⟩
 cases fl with
 |ret u=>
  obtain⟨v,σ',H',J,rv,q⟩:=hs;exact fin J rv q
 |next=>
  obtain⟨σ',H',J,q⟩:=hs;exact fin (v:=V.br) (u:=AJ) J rfl q
 |brk=>
  obtain⟨_,_,_,q⟩:=hs;exact AO q
 |cont=>
  obtain⟨_,_,_,q⟩:=hs;exact AO q
end L2
variable{T:String}
namespace L2
section
variable{x:Str}{t:TA}{id:String}{r:O V->Hp->VK->Prop}
def Zw(r:O V->Hp->VK->Prop)(t:TA):TE:=λσ H Q=>t σ H λvs H1=>r vs H1 Q
def bo(hc:bz X (.builtin id) r)(hg:Gl X x)(hm:X.mg x=bn)(hv:tz x=al (.builtin id))(ha:PA X (e::es) t)(hn: ~~~(x≠"__name__"))(dQ: ~~~(dn x))(he:‹dX X e es›)(bH:‹fD X pos es›):PE X (.Call (.Name x p) (e::es) [] pos) (Zw r t):=by
 intro Z s σ H Q I h;refine AL (gh I hg hm hv ?_ hn dQ);exact DC (aR (ha pos Z s σ H _ I h) λus s1 ⟨vs,H1,I1,r1,q1⟩=>hc Z s1 σ H1 vs us Q I1 r1 q1) he bH
def eK(hc:bz X (.type T) r)(hg:Gl X x)(hm:X.mg x=bn)(hv:tz x=al (.type T))(ha:PA X (e::es) t)(hn: ~~~(x≠"__name__"))(dQ: ~~~(dn x))(he:‹dX X e es›)(bH:‹fD X pos es›):PE X (.Call (.Name x p) (e::es) [] pos) (Zw r t):=by
 intro Z s σ H Q I h;refine AL (gh I hg hm hv ?_ hn dQ);exact Bd (aR (ha pos Z s σ H _ I h) λus s1 ⟨vs,H1,I1,r1,q1⟩=>hc Z s1 σ H1 vs us Q I1 r1 q1) he bH
end
end L2
namespace HT
open PySem PyProof.Rows
section
def OW{t:db}{vs ws:O ce}(ht:IsTup s.heap t vs.toArray)(hb:IsTup s.heap b ws.toArray)(hv:vs≠[])(h1:ws=[]->Q (.ref t) s)(h2:ws≠[]->Q (.ref s.heap.objs.size) {s with heap:=s.heap.push {cls:=.type "tuple",data:=.seq (vs++ws).toArray}})(hsz:vs.length+ws.length<=sizeLine):f8 (ii prog w) A (ww .Add (.ref t) (.ref b)) Q E s:=by
 obtain⟨⟨cls,dd,data,sl⟩,ho,hc,n,hd⟩:=id ht;obtain⟨⟨Xy,Xu,data2,Ua⟩,Mn,Us,n2,ß⟩:=id hb;simp only at hc hd Us ß;subst hc hd Us ß;have e:vs.toArray++ws.toArray=(vs++ws).toArray:=by simp
 by_cases hw:ws=[]
 .exact concat_meets ⟨_,ho,rfl⟩ ⟨_,Mn,rfl⟩ noFill_tuple_add seq_tuple_add Dm De (C4 _ _)
   (tuple_addW1 t b vs.toArray ws.toArray n n2 dd Xu sl Ua (by simpa using hv) (by simp[hw])) ⟨ho,Mn,h1 hw⟩
 .refine concat_meets ⟨_,ho,rfl⟩ ⟨_,Mn,rfl⟩ noFill_tuple_add seq_tuple_add Dm De (C4 _ _)
   (tuple_addW2 t b vs.toArray ws.toArray n n2 dd Xu sl Ua (by simpa using hv) (by simpa using hw) (by rw[Ag,Ag];exact hsz)) ⟨ho,Mn,?_⟩
  rw[e];exact h2 hw
def qR(n d:Nat):Option Int->Nat
 |none=>d
 |some v=>if v<0 then (v+(n:Int)).toNat else min v.toNat n
theorem Jm(n d:Nat):qR n d bn=d:=rfl
theorem Nc(n d k:Nat):qR n d (al (k:Int))=min k n:=by
 show(if k<0 then ((k:Int)+n).toNat else min (k:Int).toNat n)=min k n;rw[if_neg ∅,CO]
end
end HT
variable{ns:O Int}{p2:Cc}
namespace L2
abbrev TO:=St->Hp->(Option Int->Hp->Prop)->Prop
def PO(X:Cx)(e:Option o0)(t:TO):Prop:=
 ∀(Z:O (db×Obj)) (s:gl) (σ:St) (H:Hp) (Q:Option Int->Hp->Prop),Inv X Z σ H s->t σ H Q->
  f8 (ii X.prog X.w) X.A (evalPart e X.env) (λu s'=>∃o H',Inv X Z σ H' s'/\IsPart u o/\Q o H') X.xe s
def MU:TO:=λ_ H Q=>Q bn H
def UX(t:TE):TO:=λσ H Q=>t σ H λx H1=>∃i,x=.int i/\Q (al i) H1
def intsAre_of:∀{us:O ce},Vals (ns.map V.int) us->SC us ns:=by
 induction ns with
 |nil=>intro us r;rw[E7]at r;cases r;exact .nil
 |cons n ns ih=>
  intro us r;cases r with
  |cons r1 r2=>
   obtain⟨t,e⟩:=r1;subst e;exact .cons n t (ih r2)
section
variable{lo hi:Option o0}{tl th:TO}
def Nr:PO X bn MU:=by
 intro Z s σ H Q I h;exact Ae ⟨bn,H,I,.none,h⟩
def Nq(h:PE X e te):PO X (al e) (UX te):=by
 intro Z s σ H Q I hw;refine aR (h Z s σ H _ I hw) λu s1 ⟨x,H1,I1,r1,q1⟩=>?_;obtain⟨i,rfl,q⟩:=q1;obtain⟨t,rfl⟩:=r1;exact⟨al i,H1,I1,.int i t,q⟩
def TV(X:Cx)(r:V->Option Int->Option Int->Hp->VK->Prop):Prop:=
 ∀(Z:O (db×Obj)) (s:gl) (σ:St) (H:Hp) (x:V) (v vl vu:ce) (lo hi:Option Int) (sl:db) (Q:VK),Inv X Z σ H s->RelV x v->s.heap.IsSliceOf sl vl vu .none->IsPart vl lo->IsPart vu hi->r x lo hi H Q->
  ∃T id,typeLookup (.type T) "__getitem__"=pure (al (.builtin id))/\s.TypeIs v T/\f8 (ii X.prog X.w) X.A (getItem v (.ref sl)) (EP X Z σ Q) X.xe s
def tSl(r:V->Option Int->Option Int->Hp->VK->Prop)(te:TE)(tl th:TO):TE:=λσ H Q=>te σ H λx H1=>tl σ H1 λl H2=>th σ H2 λu H3=>r x l u H3 Q
def JS{r:V->Option Int->Option Int->Hp->VK->Prop}(hr:TV X r)(he:PE X e te)(hl:PO X lo tl)(hu:PO X hi th):PE X (.Subscript e (.Slice lo hi bn p2) pos) (tSl r te tl th):=by
 intro Z s σ H Q I h;refine Subscript_ (aR (he Z s σ H _ I h) λv s1 ⟨x,H1,I1,r1,q1⟩=>?_);refine wpAny_Slice (aR (hl Z s1 σ H1 _ I1 q1) λvl s2 ⟨l,H2,I2,pl,q2⟩=>aR (hu Z s2 σ H2 _ I2 q2) λvu s3 ⟨u,H3,I3,pu,q3⟩=>?_);rw[evalPart_none];refine Ae ?_;have I4:Inv X Z σ H3 {s3 with heap:=s3.heap.push {cls:=.type "slice",data:=.fields #[vl,vu,.none]}}:=I3.kept (t':=s3.toks) λb ob q=>Ad _ q;obtain⟨T,id,hT,ht,hg⟩:=hr Z {s3 with heap:=s3.heap.push {cls:=.type "slice",data:=.fields #[vl,vu,.none]}} σ H3 x v vl vu l u s3.heap.objs.size Q I4 r1 (Heap.IsSliceOf.new ..) pl pu q3;show f8 (ii X.prog X.w) X.A (subscriptTail e (.Slice lo hi bn p2) v (.ref s3.heap.objs.size)) (EP X Z σ Q) X.xe {s3 with heap:=s3.heap.push {cls:=.type "slice",data:=.fields #[vl,vu,.none]}};exact tail_any (ops:=[.ref s3.heap.objs.size,v]) ht hT hg (by with_unfolding_all rfl)
def HY(xs:O V)(lo hi:Option Int):O V:=(xs.drop (HT.qR xs.length 0 lo)).take (HT.qR xs.length xs.length hi-HT.qR xs.length 0 lo)
theorem wC(xs:O V)(lo hi:Option Int):(HY xs lo hi).length<=xs.length:=by
 unfold HY;rw[Cf,CZ];lia
def PY(K:Aa):R2:=λx y H Q=>∃a b xs ys,x=.ref a/\y=.ref b/\dh K H a xs/\dh K H b ys/\xs≠[]/\xs.length+ys.length<=sizeLine/\
 (ys=[]->Q (.ref a) H)/\(ys≠[]->∀p,H p=bn->Q (.ref p) (upd H p (.tup (xs++ys))))
def Vals.gU(r:Vals xs us):us=[]↔xs=[]:=by
 cases r with
 |nil=>simp
 |cons _ _=>simp
def zJ:fy X (ww .Add) (PY X.K):=by
 intro Z s σ H x y v u Q I rx ry h;obtain⟨a,b,xs,ys,rfl,rfl,ha,hb,hx,hz,q1,q2⟩:=h;cases rx;cases ry;obtain⟨ao,r1,p1,_⟩:=I.tuple ha;obtain⟨bX,r2,p2,_⟩:=I.tuple hb;refine HT.OW p1 p2 (λz=>hx (r1.gU.mp z)) (λz=>⟨.ref a,H,I,rfl,q1 (r2.gU.mp z)⟩) (λz=>?_) (by rw[<- r1.length,<- r2.length];exact hz);refine⟨.ref s.heap.objs.size,_,I.laid (λb ob q=>Ad _ q) (Aj _) ?_,rfl,q2 (λw=>z (r2.gU.mpr w)) _ (I.aK.fresh (Aj _))⟩;exact⟨by rw[Ah];exact hz,_,r1.append r2,Gg _ _,_,Al _ rfl,rfl⟩
end
end L2
variable{r':L2.R2}{its':O AZ}{n':Nat}
namespace L2
def vH(n:Nat)(i:Int):Option Nat:=if 0<=i then (if i<n then al i.toNat else bn) else if -(n:Int)<=i then al (i+n).toNat else bn
def dY(xs:List α)(i:Int):Option α:=(vH xs.length i).bind λj=>xs[j]?
theorem zS(h:vH n i=al j):seqIndex? i n=al j/\j<n/\-(n:Int)<=i/\i<n:=by
 unfold vH at h;by_cases h0:0<=i
 .rw[if_pos h0]at h;by_cases h1:i<n
  .rw[if_pos h1]at h;have e:=Option.some.inj h;exact⟨by rw[seqIndex_of h0 h1,e],by lia,by lia,h1⟩
  .rw[if_neg h1]at h;cases h
 .rw[if_neg h0]at h;by_cases h1:-n<=i
  .rw[if_pos h1]at h;have e:=Option.some.inj h;exact⟨by rw[seqIndex_neg ∅ h1,e],by lia,h1,by lia⟩
  .rw[if_neg h1]at h;cases h
def uk{xs:List α}{v:α}(h:dY xs i=al v):∃j,seqIndex? i xs.length=al j/\xs[j]?=al v/\j<xs.length/\-(xs.length:Int)<=i/\i<xs.length:=by
 unfold dY at h;cases e:vH xs.length i with
 |none=>rw[e]at h;cases h
 |some j=>
  rw[e]at h;obtain⟨h1,h2,h3,h4⟩:=zS e;exact⟨j,h1,h,h2,h3,h4⟩
theorem lj{xs:List α}{v:α}(h:xs[j]?=al v):dY xs (j:Int)=al v:=by
 have hj:=(Ak.mp h).1;have e:vH xs.length j=al j:=by
  unfold vH;rw[if_pos ∅,if_pos ∅];simp
 unfold dY;rw[e];exact h
def uB(b:o0):Prop:=∀o i,subscripted b false o i=operate [o,i] (getItem o i)
def Mu(X:Cx)(r:R2):Prop:=
 ∀(Ã Ê:o0) (Z:O (db×Obj)) (s:gl) (σ:St) (H:Hp) (x y:V) (v u:ce) (Q:VK),Inv X Z σ H s->RelV x v->RelV y u->r x y H Q->
  subscripted Ê false v u=operate [v,u] (getItem v u)->f8 (ii X.prog X.w) X.A (subscriptTail Ã Ê v u) (EP X Z σ Q) X.xe s
def Y4(X:Cx)(id:String)(r:V->O V->Hp->VK->Prop):Prop:=
 ∀(Z:O (db×Obj)) (s:gl) (σ:St) (H:Hp) (x:V) (xs:O V) (v:ce) (us:O ce) (Q:VK),Inv X Z σ H s->RelV x v->Vals xs us->r x xs H Q->
  f8 (ii X.prog X.w) X.A (call (.builtin id) (v::us)) (EP X Z σ Q) X.xe s
section
variable{X:Cx}{a b:o0}{ta tb:TE}{pos:Pos}
def Mu.or{r:R2}(h:Mu X r)(h':Mu X r'):Mu X (λx y H Q=>r x y H Q\/r' x y H Q):=by
 intro Ã Ê Z s σ H x y v u Q I rx ry q hs;rcases q with q|q
 .exact h Ã Ê Z s σ H x y v u Q I rx ry q hs
 .exact h' Ã Ê Z s σ H x y v u Q I rx ry q hs
def zG{r:R2}(hr:Mu X r)(ha:PE X a ta)(hb:PE X b tb)(hs:uB b):PE X (.Subscript a b pos) (Q1 r ta tb):=by
 intro Z s σ H Q I h;exact Subscript_ (Tw ha hb I h λv u s2 x y H2 I2 rx ry q=>hr a b Z s2 σ H2 x y v u Q I2 rx ry q (hs _ _))
def Vz(K:Aa):R2:=λx y H Q=>∃p xs i v,x=.ref p/\y=.int i/\cL K H p xs/\dY xs i=al v/\Q v H
def Vy(K:Aa):R2:=λx y H Q=>∃p xs i v,x=.ref p/\y=.int i/\dh K H p xs/\dY xs i=al v/\Q v H
def Rt:R2:=λx y H Q=>∃z i c,x=.str z/\y=.int i/\z.length<=sizeLine/\dY z.cps.toList i=al c/\Q (.str ⟨#[c]⟩) H
theorem Og:Mu X (Vz X.K):=by
 intro Ã Ê Z s σ H x y v u Q I rx ry h hs;obtain⟨p,xs,i,z,rfl,rfl,hq,he,q⟩:=h;cases rx;obtain⟨t,rfl⟩:=ry;obtain⟨ao,r,pl,hz⟩:=I.list hq;obtain⟨j,h1,h2,h3,h4,h5⟩:=uk he;obtain⟨w,ew,G0⟩:=r.get h2;have hl:=r.length;have hn:=sX;have fin:EP X Z σ Q w s:=⟨z,H,I,G0,q⟩;by_cases h0:0<=i
 .have hj:i.toNat=j:=by
   rw[seqIndex_of h0 h5]at h1;exact Option.some.inj h1
  exact item_listR pl.isList h0 ∅ (by rw[hj];simpa using ew) fin hs
 .have hj:(i+ao.toArray.size).toNat=j:=by
   rw[seqIndex_neg ∅ h4]at h1;rw[Ag,<- hl];exact Option.some.inj h1
  exact subscriptTail_builtinR pl.isList.typeIs slot_list_getitem.lookup
   (wpAny_getItem_list_neg pl.isList ∅ (by rw[Ag]<;>lia) ∅ (by rw[hj];simpa using ew) ⟨rfl,fin⟩) hs
theorem Sv:Mu X (Vy X.K):=by
 intro Ã Ê Z s σ H x y v u Q I rx ry h hs;obtain⟨p,xs,i,z,rfl,rfl,hq,he,q⟩:=h;cases rx;obtain⟨t,rfl⟩:=ry;obtain⟨ao,r,pl,hz⟩:=I.tuple hq;obtain⟨j,h1,h2,h3,h4,h5⟩:=uk he;obtain⟨w,ew,G0⟩:=r.get h2;have hn:=sX;have fin:EP X Z σ Q w s:=⟨z,H,I,G0,q⟩;exact subscriptTail_builtinR pl.typeIs slot_tuple_getitem.lookup
  (getItem_tuple pl ∅ ∅ (by rw[Ag,<- r.length];exact h1) (by simpa using ew) ⟨rfl,fin⟩) hs
theorem KD:Mu X Rt:=by
 intro Ã Ê Z s σ H x y v u Q I rx ry h hs;obtain⟨z,i,c,rfl,rfl,hz,he,q⟩:=h;obtain⟨t,rfl⟩:=rx;obtain⟨t',rfl⟩:=ry;obtain⟨j,h1,h2,h3,h4,h5⟩:=uk he;have hl:z.cps.toList.length=z.length:=by simp[CA]
 rw[hl]at h1 h4 h5;have hn:=sX;exact tail_any (typeIs_str s z t) slot_str_getitem.lookup (getItem_str (by
  rw[(decide_eq_false ∅),(decide_eq_false ∅),Bool.or_false]) (by rw[h1];simpa using h2) ⟨.str ⟨#[c]⟩,H,I.tok _,⟨_,rfl⟩,q⟩) hs
def rIx(K:Aa):R2:=λx y H Q=>Vz K x y H Q\/Vy K x y H Q\/Rt x y H Q
def Sw:Mu X (rIx X.K):=Og.or (Sv.or KD)
def xP(ao:O ce)(n j:Nat)(u:ce):CB (·.setIfInBounds j u) {cls:=.type "list",data:=.seq ao.toArray n}={cls:=.type "list",data:=.seq (ao.set j u).toArray n}:=by
 simp[CB]
def Inv.lst{Z:O (db×Obj)}{σ:St}{H:Hp}{s:gl}{p:db}{xs:O V}(I:Inv X Z σ H s)(h:H p=al (.lst xs)):∃(ao:O ce) (n:Nat),Vals xs ao/\s.heap.get? p=al {cls:=.type "list",data:=.seq ao.toArray n}/\xs.length<=sizeLine:=by
 obtain⟨z,ao,n,r,e⟩:=I.aK p _ h;exact⟨ao,n,r,e,z⟩
def Inv.Se{p:db}{f:Obj->Obj}(I:Inv X Z σ H s)(h:H p=al (.lst xs))(ho:s.heap.get? p=al {cls:=.type "list",data:=.seq ao.toArray n})(hf:f {cls:=.type "list",data:=.seq ao.toArray n}={cls:=.type "list",data:=.seq its'.toArray n'})(r:Vals ys its')(hz:ys.length<=sizeLine)(t:Nat):Inv X Z σ (upd H p (.lst ys)) {s with heap:=s.heap.update p f,toks:=t}:=by
 have e:(s.heap.update p f).get? p=al {cls:=.type "list",data:=.seq its'.toArray n'}:=by
  rw[Cj f ho (by rw[hf]<;>rfl),hf]
 refine I.write (x:=p) (e:=p) (by rw[h];trivial) (.inl rfl) (λb u hb q=>(Dl _ _ (BA hb)).trans q) ⟨_,e⟩ ?_;exact⟨hz,its',n',r,e⟩
def Vw:V->V->V->Hp->(Hp->Prop)->Prop:=λo i v H Q=>∃p xs k j,o=.ref p/\i=.int k/\H p=al (.lst xs)/\vH xs.length k=al j/\Q (upd H p (.lst (xs.set j v)))
theorem set_list:Io X Vw:=by
 intro Z s σ H o i v ov iv u Q I ro ri rv h;obtain⟨p,xs,k,j,rfl,rfl,hp,hj,q⟩:=h;cases ro;obtain⟨t,rfl⟩:=ri;obtain⟨ao,n,r,ho,hz⟩:=I.lst hp;obtain⟨h1,h2,h3,h4⟩:=zS hj;have hl:=r.length;have hn:=sX;have I':=
  I.Se hp ho (xP ao n j u) (r.set rv j) (by rw[Cm];exact hz) s.toks
 by_cases h0:0<=k
 .have hk:k.toNat=j:=by
   rw[seqIndex_of h0 h4]at h1;exact Option.some.inj h1
  exact PySem.W.ki_setAt ho h0 ∅ (by rw[Ag,<- hl];exact h4) (by rw[hk];exact⟨_,I',q⟩)
 .have hk:(k+ao.toArray.size).toNat=j:=by
   rw[seqIndex_neg ∅ h3]at h1;rw[Ag,<- hl];exact Option.some.inj h1
  exact PySem.W.ki_setBack ho ∅ (by rw[Ag,<- hl];exact h3) ∅ (by rw[hk];exact⟨_,I',q⟩)
theorem sj(lo hi:Option Int)(n:Nat):(Fa lo hi bn n).1=((HT.qR n 0 lo:Nat):Int)/\(Fa lo hi bn n).2.1=((HT.qR n n hi:Nat):Int)/\(Fa lo hi bn n).2.2=1:=by
 refine⟨?_,?_,rfl⟩
 .cases lo with
  |none=>simp[Fa,HT.qR]
  |some i=>
   simp only[Fa,HT.qR,EZ];by_cases h:i<0
   .simp only[h,if_true]<;>lia
   .simp only[h,if_false]<;>lia
 .cases hi with
  |none=>simp[Fa,HT.qR]
  |some i=>
   simp only[Fa,HT.qR,EZ,if_true];by_cases h:i<0
   .simp only[h,if_true]<;>lia
   .simp only[h,if_false]<;>lia
def qg(ao:O ce)(lo hi:Option Int):slicePick ao.toArray lo hi bn=((ao.drop (HT.qR ao.length 0 lo)).take (HT.qR ao.length ao.length hi-HT.qR ao.length 0 lo)).toArray:=by
 obtain⟨h1,h2,h3⟩:=sj lo hi ao.toArray.size;unfold slicePick;rw[h1,h2,h3];simp only[sliceRange_one,pick_run]<;>rfl
def ZM(K:Aa):V->Option Int->Option Int->Hp->VK->Prop:=λx lo hi H Q=>∃a xs,x=.ref a/\cL K H a xs/\∀p,H p=bn->Q (.ref p) (upd H p (.lst (HY xs lo hi)))
theorem M4:TV X (ZM X.K):=by
 intro Z s σ H x v vl vu lo hi sl Q I rx hs pl pu h;obtain⟨a,xs,rfl,hx,q⟩:=h;cases rx;obtain⟨ao,r,ht,hz⟩:=I.list hx;have Â:=r.length;refine⟨"list",_,slot_list_getitem.lookup,ht.isList.typeIs,?_⟩;refine wpAny_getItem_list_slice ht.isList hs pl pu .none (by simp) ?_ (by rw[Ag] <;> lia);rw[qg,<- Â];refine⟨.ref s.heap.objs.size,_,I.laid (λb ob q=>Ad _ q) (Aj _) ?_,rfl,q _ (I.aK.fresh (Aj _))⟩;exact⟨AE (wC xs lo hi) hz,_,0,(r.drop (HT.qR xs.length 0 lo)).take (HT.qR xs.length xs.length hi-HT.qR xs.length 0 lo),Al _ rfl⟩
theorem ug:bz X (.type "list") (λxs H Q=>∃p ys,xs=[.ref p]/\(cL X.K H p ys\/dh X.K H p ys)/\∀l,H l=bn->Q (.ref l) (upd H l (.lst ys))):=by
 intro Z s σ H xs us Q I r h;obtain⟨p,ys,rfl,hq,q⟩:=h;obtain⟨u,rfl,rx⟩:=vals1 r;cases rx;have fin:∀ao,Vals ys ao->ys.length<=sizeLine->∀(h':lw) c',(∀b o',s.heap.get? b=al o'->h'.get? b=al o')->
   h'.get? s.heap.objs.size=al {cls:=.type "list",dict:=bn,data:=.seq ao.toArray c',slots:=#[]}->EP X Z σ Q (.ref s.heap.objs.size) {s with heap:=h'}:=λao r' hz h' c' kp e=>
  ⟨.ref s.heap.objs.size,_,I.laid (t':=s.toks) kp (Aj _) (show bC X.prog X.w _ h' _ (.lst ys) from⟨hz,ao,c',r',e⟩),rfl,q _ (I.aK.fresh (Aj _))⟩
 rcases hq with hq|hq
 .obtain⟨ao,r',pl,hz⟩:=I.list hq;have Â:=r'.length;obtain⟨o,ho,hc,n,hd⟩:=pl.isList;exact call_list_seq p (.inl rfl) ho hc hd (λh' c' kp e=>fin ao r' hz h' c' kp e) (by simp only[Ag]<;>lia)
 .obtain⟨ao,r',pl,hz⟩:=I.tuple hq;have Â:=r'.length;obtain⟨o,ho,hc,n,hd⟩:=pl;exact call_list_seq p (.inr rfl) ho hc hd (λh' c' kp e=>fin ao r' hz h' c' kp e) (by simp only[Ag]<;>lia)
theorem jK:bz X (.type "tuple") (λxs H Q=>∃p ys,xs=[.ref p]/\((cL X.K H p ys/\∀l,H l=bn->Q (.ref l) (upd H l (.tup ys)))\/(dh X.K H p ys/\Q (.ref p) H))):=by
 intro Z s σ H xs us Q I r h;obtain⟨p,ys,rfl,h⟩:=h;obtain⟨u,rfl,rx⟩:=vals1 r;cases rx;rcases h with⟨hq,q⟩|⟨hq,q⟩
 .obtain⟨ao,r',pl,hz⟩:=I.list hq;have Â:=r'.length;refine call_tuple_list pl.isList (λh' kp=>?_) (by simp<;>lia);have I1:=I.kept (t':=s.toks) kp;have I2:=
   I1.laid (t':=s.toks) (λb o e=>Ad _ e) (Aj _) (show bC X.prog X.w _ _ _ (.tup ys) from⟨hz,ao,r',Gg _ _,_,Al _ rfl,rfl⟩)
  exact⟨.ref h'.objs.size,_,I2,rfl,q _ (I1.aK.fresh (Aj _))⟩
 .obtain⟨ao,r',pl,hz⟩:=I.tuple hq;exact call_tuple_same pl ⟨.ref p,H,I,rfl,q⟩
def X4(K:Aa)(T:String)(x:V)(H:Hp):Prop:=match x with
 |.str _=>T="str"
 |.int _=>T="int"
 |.ref p=>(T="list"/\∃xs,cL K H p xs)\/(T="tuple"/\∃o,K.lookup p=al o/\o.cls=.type "tuple"/\o.dict=bn)\/
   (T="dict"/\((∃ay,H p=al (.dK ay))\/∃ay,H p=al (.dT ay)))\/(T="set"/\∃S n,H p=al (.set S n))
 |_=>False
def IU{x:V}(I:Inv X Z σ H s)(r:RelV x v)(ty:X4 X.K T x H):s.TypeIs v T/\∀a,v=.ref a->∃ob,s.heap.get? a=al ob/\ob.dict=bn:=by
 cases x with
 |str z=>
  obtain⟨t,rfl⟩:=r;cases (ty);exact⟨typeIs_str s z t,λ_ e=>nomatch e⟩
 |int i=>
  obtain⟨t,rfl⟩:=r;cases (ty);exact⟨typeIs_int s i t,λ_ e=>nomatch e⟩
 |ref p=>
  cases r;rcases ty with⟨rfl,xs,hq⟩|⟨rfl,o,hk,hc,hd⟩|⟨rfl,hk⟩|⟨rfl,S,n,hk⟩
  .obtain⟨ao,_,pl,_⟩:=I.list hq;refine⟨pl.isList.typeIs,λa e=>?_⟩;cases e;obtain⟨o,n,e,c,hd,_⟩:=pl;exact⟨o,e,hd⟩
  .refine⟨⟨o,I.ek p o hk,hc⟩,λa e=>?_⟩;cases e;exact⟨o,I.ek _ o hk,hd⟩
  .have z:∃o,s.heap.get? p=al o/\o.ExactDict:=by
    rcases hk with⟨ay,hk⟩|⟨ay,hk⟩
    .obtain⟨_,_,_,_,o,_,_,e,ex,_⟩:=I.aK p _ hk;exact⟨o,e,ex⟩
    .obtain⟨_,_,_,_,o,_,_,e,ex,_⟩:=I.aK p _ hk;exact⟨o,e,ex⟩
   obtain⟨o,e,ex⟩:=z;refine⟨⟨o,e,ex.1⟩,λa e2=>?_⟩;cases e2;exact⟨o,e,ex.2.1⟩
  .obtain⟨o,_,_,_,e,ex,_⟩:=I.aK p _ hk;refine⟨⟨o,e,ex.1⟩,λa e2=>?_⟩;cases e2;exact⟨o,e,ex.2.1⟩
 |_=>exact AO ty
def Va(K:Aa)(T:String)(r:V->O V->Hp->VK->Prop)(to:TE):TE:=λσ H Q=>to σ H λx H1=>X4 K T x H1/\r x [] H1 Q
def tBM(K:Aa)(T:String)(r:V->O V->Hp->VK->Prop)(to:TE)(t:TA):TE:=λσ H Q=>to σ H λx H1=>X4 K T x H1/\t σ H1 λxs H2=>r x xs H2 Q
variable{o e:o0}{es:O o0}{to:TE}{t:TA}{name:Str}{Á bD:Pos}{T id:String}{r:V->O V->Hp->VK->Prop}
def RF(pa:PlainAttrs T)(slot:Slot T name id)(zT:typeOf (.builtin id)=pure (.type "method_descriptor"))(hm:Y4 X id r)(ho:PE X o to)(cD:‹sB o name X.env (pc o X.env)=pc o X.env›)(dP:‹Pc Á bD›):PE X (.Call (.Attribute o name Á) [] [] bD) (Va X.K T r to):=by
 intro Z s σ H Q I h;refine wpAny_Call_method0_late cD dP (aR (ho Z s σ H _ I h) λv s1 ⟨x,H1,I1,r1,ty,q1⟩=>?_);obtain⟨h1,h2⟩:=IU I1 r1 ty;exact⟨T,id,pa,slot,zT,h1,h2,Dn rfl (PySem.evalArgs_none (hm Z s1 σ H1 x [] v [] Q I1 r1 .nil q1))⟩
def VO(pa:PlainAttrs T)(slot:Slot T name id)(zT:typeOf (.builtin id)=pure (.type "method_descriptor"))(hm:Y4 X id r)(ho:PE X o to)(ha:PA X (e::es) t)(cD:‹sB o name X.env (pc o X.env)=pc o X.env›)(o7:‹UH X bD (e::es)›)(dP:‹Pc Á bD›)(hs:‹dX X e es›)(fg:‹fD X bD es›):PE X (.Call (.Attribute o name Á) (e::es) [] bD) (tBM X.K T r to t):=by
 intro Z s σ H Q I h;refine wpAny_Call_method_late cD o7 dP rfl (aR (ho Z s σ H _ I h) λv s1 ⟨x,H1,I1,r1,ty,q1⟩=>?_);obtain⟨h1,h2⟩:=IU I1 r1 ty;refine⟨T,id,pa,slot,zT,h1,h2,?_⟩;have hA:=ha bD Z s1 σ H1 _ I1 q1;rw[hs]at hA ⊢;exact Dn (by show(false||(IR bD (lf es X.env)).any (·.1))=false;rw[fg]<;>rfl) (FA (aR hA λus s2 ⟨vs,H2,I2,r2,q2⟩=>hm Z s2 σ H2 x vs v us Q I2 r1 r2 q2))
end
end L2
variable{l:AW}
namespace L2
def GD(X:Cx)(id:String)(r:V->O V->Hp->VK->Prop):Prop:=
 ∀(Z:O (db×Obj)) (s:gl) (σ:St) (H:Hp) (x:V) (xs:O V) (v:ce) (us:O ce) (Q:VK),Inv X Z σ H s->RelV x v->Vals xs us->r x xs H Q->
  f8 (ii X.prog X.w) X.A (call (.builtin id) (v::us)) (EP X Z σ Q) X.xe s
def Vals.one:∀{x:V}{us:O ce},Vals [x] us->∃u,us=[u]/\RelV x u
 |_,_,.cons r .nil=>⟨_,rfl,r⟩
def Vals.zero:∀{us:O ce},Vals [] us->us=[]
 |_,.nil=>rfl
def Vals.dropLast(h:Vals xs us):Vals xs.dropLast us.dropLast:=by
 induction h with
 |nil=>exact .nil
 |cons r t ih=>
  cases t with
  |nil=>exact .nil
  |cons q t'=>exact .cons r ih
theorem Vals.rep(h:Vals xs us):∀k:Nat,Vals (Ar k xs).flatten (Ar k us).flatten
 |0=>.nil
 |k+1=>by
  exact Vals.append h (Vals.rep h k)
theorem yB(l:List α):l.eraseIdx (l.length-1)=l.dropLast:=by
 induction l with
 |nil=>rfl
 |cons a r ih=>
  cases r with
  |nil=>rfl
  |cons b r=>
   have e:(a::b::r).length-1=((b::r).length-1)+1:=by
    have h1:(a::b::r).length=r.length+2:=rfl;have h2:(b::r).length=r.length+1:=rfl;lia
   rw[e,List.eraseIdx_cons_succ,ih]
   all_goals rfl
theorem foldl_rep(ao:O ce):∀(k:Nat) (acc:O ce),List.foldl (λx1 x2=>x1++x2) acc.toArray (Ar k ao.toArray)=(acc++(Ar k ao).flatten).toArray
 |0,acc=>by simp
 |k+1,acc=>by
  have e:acc.toArray++ao.toArray=(acc++ao).toArray:=by simp
  have e2:(acc++ao)++(Ar k ao).flatten=acc++(Ar (k+1) ao).flatten:=by
   rw[C1,EL,CN]
  rw[<- e2,<- foldl_rep ao k (acc++ao),<- e,C1,C8]
section
def Inv.xT{f:Array ce->Array ce}{t':Nat}(I:Inv X Z σ H s)(hH:H l=al (.lst xs))(e:s.heap.get? l=al {cls:=.type "list",data:=.seq ao.toArray n})(hf:f ao.toArray=its'.toArray)(hv:Vals ys its')(hz:ys.length<=sizeLine):Inv X Z σ (upd H l (.lst ys)) {s with heap:=s.heap.update l (CB f),toks:=t'}:=by
 have q:=PySem.IsL.update e f;rw[hf]at q;refine I.write (by rw[hH];exact trivial) (.inl rfl) (λb' u hb hu=>(Dl s.heap (CB f) (BA hb)).trans hu) ⟨_,q⟩ ?_;exact⟨hz,its',_,hv,q⟩
def Inv.Sf{t':Nat}(I:Inv X Z σ H s)(hv:Vals ys ao)(hz:ys.length<=sizeLine):Inv X Z σ (upd H s.heap.objs.size (.lst ys)) {s with heap:=s.heap.push {cls:=.type "list",data:=.seq ao.toArray},toks:=t'}:=
 I.laid (λ_ _ q=>Ad _ q) (Aj _) ⟨hz,ao,0,hv,Al _ rfl⟩
def Inv.fresh(I:Inv X Z σ H s):H s.heap.objs.size=bn:=I.aK.fresh (Aj _)
def Inv.jX(I:Inv X Z σ H s)(hH:H l=al (.lst xs)):xs.length<=sizeLine/\∃(ao:O ce) (n:Nat),Vals xs ao/\xs.length=ao.length/\s.heap.get? l=al {cls:=.type "list",data:=.seq ao.toArray n}:=by
 obtain⟨z,ao,n,r,e⟩:=I.aK l _ hH;exact⟨z,ao,n,r,r.length,e⟩
theorem gB(h:n<=sizeLine):Builtin.List.listTooLong n=false:=by
 exact decide_eq_false ∅
end
section
def Nl:V->O V->Hp->VK->Prop:=λx vs H Q=>∃l xs y,x=.ref l/\vs=[y]/\H l=al (.lst xs)/\xs.length<sizeLine/\Q .br (upd H l (.lst (xs++[y])))
theorem Hf:GD X "list.append" Nl:=by
 intro Z s σ H x vs v us Q I rx rv h;obtain⟨l,xs,y,rfl,rfl,hH,hz,q⟩:=h;cases rx;obtain⟨u,rfl,ru⟩:=rv.one;obtain⟨z,ao,n,r,hl,e⟩:=I.jX hH;refine FB F.slot_list_append ⟨_,e,rfl⟩ F.entry_list_append (F.args_list_append_2 _ _) (PySem.list_append l ao.toArray n u (by rw[Ag];lia)) ⟨e,?_⟩;refine⟨.br,_,I.xT hH e (by simp) (r.append (.cons ru .nil)) ?_,rfl,q⟩;rw[Ah,DA];lia
def Nj:V->O V->Hp->VK->Prop:=λx vs H Q=>∃l b xs zs,x=.ref l/\vs=[.ref b]/\H l=al (.lst xs)/\H b=al (.lst zs)/\xs.length+zs.length<=sizeLine/\Q .br (upd H l (.lst (xs++zs)))
theorem Ui:GD X "list.extend" Nj:=by
 intro Z s σ H x vs v us Q I rx rv h;obtain⟨l,b,xs,zs,rfl,rfl,hH,hB,hz,q⟩:=h;cases rx;obtain⟨u,rfl,ru⟩:=rv.one;cases ru;obtain⟨z,ao,n,r,hl,e⟩:=I.jX hH;obtain⟨z2,bX,n2,r2,Oq,e2⟩:=I.jX hB;have hsz:ao.toArray.size+bX.toArray.size<=sizeLine:=by rw[Ag,Ag];lia
 have o6:¬(!ao.toArray.isEmpty&&Builtin.List.listTooLong (ao.toArray.size+bX.toArray.size))=true:=by
  rw[gB hsz,Ew];exact Bq
 refine FB En ⟨_,e,rfl⟩ DV (DJ _ _)
  (AutoSeq1.list_extend_list_list_0 l ao.toArray n b bX.toArray n2 o6 (by rw[Ag];lia) ∅) ⟨e,e2,?_⟩
 refine⟨.br,_,I.xT hH e (by simp) (r.append r2) ?_,rfl,q⟩;rw[Ah];lia
def ZO:V->O V->Hp->VK->Prop:=λx vs H Q=>∃l xs y,x=.ref l/\vs=[]/\H l=al (.lst xs)/\xs[xs.length-1]?=al y/\Q y (upd H l (.lst xs.dropLast))
theorem R8:GD X "list.pop" ZO:=by
 intro Z s σ H x vs v us Q I rx rv h;obtain⟨l,xs,y,rfl,rfl,hH,hy,q⟩:=h;cases rx;have hus:=rv.zero;subst hus;obtain⟨z,ao,n,r,hl,e⟩:=I.jX hH;obtain⟨u,hu,ru⟩:=r.get hy;have hy':ao.toArray[ao.toArray.size-1]?=al u:=by
  show ao.toArray[ao.length-1]?=al u;rw[<- Array.getElem?_toList,<- hl];exact hu
 refine FB F.slot_list_pop ⟨_,e,rfl⟩ F.entry_list_pop (F.args_list_pop_1 _) (MeetsSeq.list_pop_last l ao.toArray n u hy' (by rw[Ag];lia)) ⟨e,?_⟩;refine⟨y,_,I.xT hH e ?_ r.dropLast ?_,ru,q⟩
 .rw[Ag,List.eraseIdxIfInBounds_toArray,yB]
 .rw[List.length_dropLast];lia
def ZP:R2:=λx y H Q=>∃l b xs zs,x=.ref l/\y=.ref b/\H l=al (.lst xs)/\H b=al (.lst zs)/\xs.length+zs.length<=sizeLine/\∀p,H p=bn->Q (.ref p) (upd H p (.lst (xs++zs)))
theorem RM:fy X (ww .Add) ZP:=by
 intro Z s σ H x y v u Q I rx ry h;obtain⟨l,b,xs,zs,rfl,rfl,hH,hB,hz,q⟩:=h;cases rx;cases ry;obtain⟨z,ao,n,r,hl,e⟩:=I.jX hH;obtain⟨z2,bX,n2,r2,Oq,e2⟩:=I.jX hB;refine PySem.P.add_list e e2 ?_ (by rw[Ag,Ag];lia);have ea:ao.toArray++bX.toArray=(ao++bX).toArray:=by simp
 rw[ea];exact⟨.ref _,_,I.Sf (r.append r2) (by rw[Ah];lia),rfl,q _ I.fresh⟩
def ZN:R2:=λx y H Q=>∃l k xs,x=.ref l/\y=.int k/\H l=al (.lst xs)/\-(2 ^ 63)<=k/\k<2 ^ 63/\xs.length*k.toNat<=sizeLine/\
 ∀p,H p=bn->Q (.ref p) (upd H p (.lst (Ar k.toNat xs).flatten))
def len_rep(xs:List α)(k:Nat):(Ar k xs).flatten.length=k*xs.length:=by
 induction k with
 |zero=>simp
 |succ k ih=>rw[C1,EL,Ah,ih,Nat.succ_mul,Nat.add_comm]
theorem RH:fy X (ww .Mult) ZN:=by
 intro Z s σ H x y v u Q I rx ry h;obtain⟨l,k,xs,rfl,rfl,hH,h1,h2,hz,q⟩:=h;cases rx;obtain⟨t,rfl⟩:=ry;obtain⟨z,ao,n,r,hl,e⟩:=I.jX hH;have Â:ao.toArray.size*k.toNat<=sizeLine:=by rw[Ag,<- hl];exact hz
 have yk:¬ao.toArray.size*k.toNat > (2 ^ 63-1) / 8:=by
  have:(sizeLine:Nat)<=(2 ^ 63-1) / 8:=by decide
  lia
 have aaJ:¬(!Builtin.List.listFitsIndex k)=true:=by
  rw[fitsIndex_both h1 h2];exact Bq
 have o6:¬Builtin.List.listTooLong (ao.toArray.size*k.toNat)=true:=by
  rw[gB Â];exact Bq
 have aay:List.foldl (λx1 x2=>x1++x2) #[] (Ar (if ao.toArray.isEmpty=true then 0 else k.toNat) ao.toArray)=(Ar k.toNat ao).flatten.toArray:=by
  have f0:∀m:Nat,List.foldl (λx1 x2=>x1++x2) #[] (Ar m ao.toArray)=(Ar m ao).flatten.toArray:=λm=>by
   have:=foldl_rep ao m [];exact this
  rw[f0];cases ao with
  |nil=>simp
  |cons a r'=>rw[if_neg (by simp)]
 refine wpAny_binaryOp_repeat_ref (T:="list") ⋯ ⟨_,e,rfl⟩ (λs'=>typeIs_int s' k t) noFill_list_mul F.fills_int_mul F.slot_int_rmul repeat_list F.slot_int_index.lookup
  (FB F.slot_int_rmul (typeIs_int s k t) F.entry_int_rmul (F.args_int_rmul_2 _ _) (int___rmul___int_list k t l ao.toArray n)
   ⟨e,rfl,⟨_,e,rfl⟩,FB F.slot_list_mul ⟨_,e,rfl⟩ F.entry_list_mul (F.args_list_mul_2 _ _) (AutoListH.list___mul___list_int_3 l ao.toArray n k t aaJ yk o6) ⟨e,?_⟩⟩)
 rw[aay];exact⟨.ref _,_,I.Sf (r.rep k.toNat) (by rw[len_rep,Nat.mul_comm];exact hz),rfl,q _ I.fresh⟩
end
section
def GS(ao bX:O ce)(a c:Nat):ao.toArray.extract 0 a++bX.toArray++ao.toArray.extract c ao.toArray.size=(ao.take a++bX++ao.drop c).toArray:=by
 apply Array.toList_inj.mp
 first
  |(
    simp;exact Dv (by simp))
  |simp
  |simp
theorem yS{a c:Nat}(Ut:a<=c)(hc:c<=n):Fa (al (a:Int)) (al (c:Int)) bn n=((a:Int),(c:Int),1):=by
 simp only[Fa,EZ];have h1:¬(a<0):=by lia
 congr 1
 .omega
 .congr 1;lia
set_option maxRecDepth 100000 in
theorem qh{l b sl:db}{items new:Array ce}{n n2:Nat}{vl vu:ce}{a c:Nat}{Q:Unit->gl->Prop}(e:s.heap.get? l=al {cls:=.type "list",data:=.seq items n})(e2:s.heap.get? b=al {cls:=.type "list",data:=.seq new n2})(IB:l≠b)(hs:s.heap.IsSliceOf sl vl vu .none)(pl:IsPart vl (al (a:Int)))(pu:IsPart vu (al (c:Int)))(Ut:a<=c)(hc:c<=items.size)(hsz:items.size+new.size<=sizeLine)(h:Q () {s with heap:=s.heap.update l (CB λxs=>xs.extract 0 a++new++xs.extract c xs.size)}):f8 (ii prog w) A (SB (.ref l) (.ref sl) (.ref b)) Q E s:=by
 have hl:s.heap.IsList l items:=Ge e;have hb:s.heap.IsList b new:=Ge e2;obtain⟨os,YB,hcs,ö⟩:=id hs;have hTs:s.TypeIs (.ref sl) "slice":=⟨os,YB,hcs⟩;have WD:¬((rawPart bn==re 0)=true):=Bq;have KP:Builtin.List.listSameRef (.ref l) (.ref b)=false:=by
  unfold Builtin.List.listSameRef;exact beq_eq_false_iff_ne.mpr IB
 have aaA:(max (a:Int) (c:Int)).toNat=c:=by lia
 have KO:((λxs:Array ce=>xs.extract 0 a++new++xs.extract c xs.size) items).size<=sizeLine+1:=by
  simp only[Array.size_append,Array.size_extract];lia
 unfold SB
 try with_reducible refine A4 ?_
 first|refine Ab (Ae ?_)|skip
 refine Ab (wpAny_sequenceKey hl.typeIs ⋯ ?_);refine Ab (Bt (name:=Dj "__setitem__") hl.typeIs slot_list_setitem
  (Cd slot_list_setitem hl.typeIs entry_list_setitem ?_ (args_list_setitem _ _ _)))
 show f8 _ _ (Builtin.List.listSubscript? (.ref sl) >>= _) _ _ s;refine Ab ?_;unfold Builtin.List.listSubscript?;refine Ab (Fj hTs slice_no_index ?_);simp only[Option.isNone_none,if_true];refine Ae ?_;show f8 _ _ (typeOf (.ref sl) >>= _) _ _ s;refine Ab (wpAny_typeOf hTs ?_)
 first
  |rw[if_neg ⋯]
  |refine PySem.W.KFB.if_not ⋯ ?_
 rw[listSliceParts_eq];refine Ab (Ab (AV YB ö (x:=.none) rfl (Ab (FE .none ?_))));rw[if_neg WD];refine Ab (AV YB ö (x:=vl) rfl (Ab (FE pl ?_)));refine Ab (AV YB ö (x:=vu) rfl (Ab (FE pu (Ae ?_))))
 first
  |simp only[KP,Aq,if_false]
  |refine PySem.W.KFB.if_not KP ?_
  |(
    dsimp only;rw[if_neg (by rw[KP];exact Bq)])
 refine Ab (m:=Builtin.List.listAllItems (.ref b) "must assign iterable to extended slice") ?_;unfold Builtin.List.listAllItems;refine Ab (wpAny_typeOf hb.typeIs ?_)
 first
  |refine PySem.W.KFB.if_so ⋯ ?_
  |rw[if_pos ⋯]
  |simp only[beq_self_eq_true,Bool.true_or,if_true]
 unfold Builtin.List.listItems;refine Ab (BM e2 rfl (Ae ?_));refine Ab (Ab (BM e rfl (Ae ?_)));refine Ab (CP ((sliceIndices_raw (al (a:Int)) (al (c:Int)) bn items.size (by simp)).trans (congrArg (pure:Int×Int×Int->Sem (Int×Int×Int)) (yS Ut hc))) ?_);show f8 _ _ (if ((1:Int)==1)=true then _ else _) _ _ s;rw[if_pos ⋯];refine Ab (Dc ?_)
 first
  |simp only[gB hsz,Aq,if_false]
  |refine PySem.W.KFB.if_not (gB hsz) ?_
 first|refine Ab (Ae ?_)|skip
 show f8 _ _ (updateSeq l (λxs=>xs.extract 0 ((a:Int)).toNat++new++xs.extract (max (a:Int) (c:Int)).toNat xs.size) >>= _) _ _ s;rw[aaA,CO];refine Ab (DR (hz:=AE (Br _ _) hsz) (_hz':=KO) e rfl ?_);refine Ab (Df ?_)
 first
  |exact Ab (Ae (Ae ⟨.none,rfl,Ae h⟩))
  |exact Ae ⟨.none,rfl,Ae h⟩
end
section
theorem GU{sl:db}{a c:Int}{vl vu:ce}{Q:Unit->gl->Prop}(I:Inv X Z σ H s)(hH:H l=al (.lst xs))(hB:H b=al (.lst ys))(IB:l≠b)(hs:s.heap.IsSliceOf sl vl vu .none)(ra:RelV (.int a) vl)(rc:RelV (.int c) vu)(h0:0<=a)(Ut:a<=c)(hc:c<=xs.length)(hz:xs.length+ys.length<=sizeLine)(h:∀s',Inv X Z σ (upd H l (.lst (xs.take a.toNat++ys++xs.drop c.toNat))) s'->Q () s'):f8 (ii X.prog X.w) X.A (SB (.ref l) (.ref sl) (.ref b)) Q X.xe s:=by
 obtain⟨ta,rfl⟩:=ra;obtain⟨tc,rfl⟩:=rc;obtain⟨z,ao,n,r,hl,e⟩:=I.jX hH;obtain⟨z2,bX,n2,r2,Oq,e2⟩:=I.jX hB;obtain⟨a',rfl⟩:=E2 h0;obtain⟨c',rfl⟩:=E2 (Int.le_trans h0 Ut);simp only[CO]at h;refine qh (a:=a') (c:=c') e e2 IB hs (.int _ _) (.int _ _) ∅ (by rw[Ag];lia) (by rw[Ag,Ag];lia) (h _ ?_);refine I.xT (its':=ao.take a'++bX++ao.drop c') (t':=s.toks) hH e ?_ (Vals.append (Vals.append (r.take _) r2) (r.drop _)) ?_
 .exact GS ao bX a' c'
 .rw[Ah,Ah,Cf,CZ];lia
end
end L2
variable{xs:O (O L2.Key×AW×AZ)}{v:L2.V}{ay:O (O L2.Key×L2.V)}
namespace L2
section
variable{κ:Type}[DecidableEq κ]
def mO(ay:O (κ×V))(k:κ):Option V:=(ay.find? λkv=>decide (kv.1=k)).map (·.2)
def putK(ay:O (κ×V))(k:κ)(v:V):O (κ×V):=
 if (ay.any λkv=>decide (kv.1=k))=true then ay.map (λkv=>if kv.1=k then (kv.1,v) else kv) else ay++[(k,v)]
def nU{p:κ×V}{r:O (κ×V)}{k:κ}(e:p.1=k):mO (p::r) k=al p.2:=by simp[mO,e]
def nV{p:κ×V}{r:O (κ×V)}{k:κ}(e:¬p.1=k):mO (p::r) k=mO r k:=by simp[mO,e]
theorem kh(k:κ):∀ay:O (κ×V),(ay.any λkv=>decide (kv.1=k))=(mO ay k).isSome
 |[]=>rfl
 |p::r=>by
  rw[Cq];by_cases e:p.1=k
  .simp only[nU e,decide_eq_true e,Bool.true_or,FY]
  .rw[nV e,decide_eq_false e,Bool.false_or];exact kh k r
theorem my(ay:O (κ×V))(k:κ)(v:V):(putK ay k v).length<=ay.length+1:=by
 unfold putK
 split
 .rw[Am];lia
 .rw[Ah,Ap,List.length_nil];lia
def lq.lS{o:Option V}{u:Option ce}(r:lq o u):o.isSome=u.isSome:=by
 cases o with
 |none=>cases u with
  |none=>rfl
  |some _=>exact(r).elim
 |some _=>cases u with
  |none=>exact(show False from r).elim
  |some _=>rfl
def KV.val{ay:O (κ×V)}{vs:O (κ×ce)}(r:KV ay vs)(k:κ):lq (mO ay k) (valueAt vs k):=by
 unfold KV at r
 induction r with
 |nil=>exact BR
 | @cons p q ps qs h t ih=>
  obtain⟨h1,h2⟩:=h;by_cases e:p.1=k
  .have e':q.1=k:=h1.symm.trans e;have b:valueAt (q::qs) k=al q.2:=by simp[valueAt,DT,e']
   rw[nU e,b];exact h2
  .have e':¬q.1=k:=λz=>e (h1.trans z);have b:valueAt (q::qs) k=valueAt qs k:=by simp[valueAt,DT,e']
   rw[nV e,b];exact ih
def KV.any{ay:O (κ×V)}{vs:O (κ×ce)}(r:KV ay vs)(k:κ):(ay.any λkv=>decide (kv.1=k))=vs.any λkv=>decide (kv.1=k):=by
 induction r with
 |nil=>rfl
 |cons h t ih=>rw[Cq,Cq,ih,h.1]
def KV.Rk{ay:O (κ×V)}{vs:O (κ×ce)}(r:KV ay vs)(k:κ)(ry:RelV y u):KV (ay.map λkv=>if kv.1=k then (kv.1,y) else kv) (vs.map λkv=>if kv.1=k then (kv.1,u) else kv):=by
 induction r with
 |nil=>exact .nil
 | @cons p q ps qs h t ih=>
  rw[AY,AY];refine .cons ?_ ih;obtain⟨h1,h2⟩:=h;by_cases e:p.1=k
  .rw[if_pos e,if_pos (h1.symm.trans e)];exact⟨h1,ry⟩
  .rw[if_neg e,if_neg (λz=>e (h1.trans z))];exact⟨h1,h2⟩
def KV.put{ay:O (κ×V)}{vs:O (κ×ce)}(r:KV ay vs)(k:κ)(ry:RelV y u):KV (putK ay k y) (stored vs k u):=by
 unfold putK stored;rw[r.any k];by_cases e:(vs.any λkv=>decide (kv.1=k))=true
 .rw[if_pos e,if_pos e];exact r.Rk k ry
 .rw[if_neg e,if_neg e];exact Paired.snoc r ⟨rfl,ry⟩
def KV.length{ay:O (κ×V)}{vs:O (κ×ce)}(r:KV ay vs):ay.length=vs.length:=Paired.length r
end
def Kz{k:Key}(r:RelV (kV k) u):(cq P w).is k u=true:=by
 cases k with
 |inl i=>obtain⟨t,e⟩:=(r);subst e;exact vo P w i t
 |inr x=>obtain⟨t,e⟩:=(r);subst e;exact vn P w x t
theorem rm:∀{ks:O Key}{us:O ce},Vals (ks.map kV) us->ItemsAre (cq P w) ks us
 |[],_,r=>by rw[E7]at r;cases r;exact .nil
 |k::ks,_,r=>by
  cases r with
  |cons h t=>exact .cons (Kz h) (rm t)
abbrev KT(H:Hp):O (O Key×V)->O (O Key×db×ce)->Prop:=Paired λp q=>p.1=q.1/\H q.2.1=al (.tup (p.1.map kV))/\RelV p.2 q.2.2
def KT.val(r:KT H ay xs)(k:O Key):lq (mO ay k) ((atKey xs k).map (·.2)):=by
 induction r with
 |nil=>exact BR
 | @cons p q ps qs h t ih=>
  obtain⟨h1,_,h2⟩:=h;by_cases e:p.1=k
  .have e':=h1.symm.trans e;have b:atKey (q::qs) k=al q.2:=by simp[atKey,DT,e']
   rw[nU e,b];exact h2
  .have e':¬q.1=k:=λz=>e (h1.trans z);have b:atKey (q::qs) k=atKey qs k:=by simp[atKey,DT,e']
   rw[nV e,b];exact ih
def KT.Rk(r:KT H ay xs)(k:O Key)(ry:RelV y u):KT H (ay.map λkv=>if kv.1=k then (kv.1,y) else kv) (xs.map (putAt k u)):=by
 induction r with
 |nil=>exact .nil
 | @cons p q ps qs h t ih=>
  rw[AY,AY];refine .cons ?_ ih;obtain⟨h1,h2,h3⟩:=h;unfold putAt;by_cases e:p.1=k
  .rw[if_pos e,if_pos (h1.symm.trans e)];exact⟨h1,h2,ry⟩
  .rw[if_neg e,if_neg (λz=>e (h1.trans z))];exact⟨h1,h2,h3⟩
def KT.put(r:KT H ay xs)(k:O Key)(hb:H b=al (.tup (k.map kV)))(ry:RelV y u):KT H (putK ay k y) (storedH xs k b u):=by
 have e:(ay.any λkv=>decide (kv.1=k))=(atKey xs k).isSome:=by
  rw[kh,(r.val k).lS,F5]
 unfold putK storedH;rw[e];by_cases q:(atKey xs k).isSome=true
 .rw[if_pos q,if_pos q];exact r.Rk k ry
 .rw[if_neg q,if_neg q];exact Paired.snoc r ⟨rfl,hb,ry⟩
def KT.keeps(r:KT H ay xs)(ht:∀b ys,H b=al (.tup ys)->H' b=al (.tup ys)):KT H' ay xs:=
 Paired.Sb r λ_ _ z=>⟨z.1,ht _ _ z.2.1,z.2.2⟩
section
def PQ{u:HO}(ok:gJ P w H h)(e:Rd H a u):bC P w H h a u:=e.ok ok
def wz{ay:O (Key×V)}(ok:gJ P w H h)(e:Rd H a (.dK ay)):ay.length<=sizeLine/\(a==EQ)=false/\∃vs,KV ay vs/\h.DictOf (cq P w) a vs:=
 show bC P w H h a (.dK ay) from PQ ok e
def Xt{ay:O (Key×V)}(ok:gJ P w H h)(e:H a=al (.dK ay)):ay.length<=sizeLine/\(a==EQ)=false/\∃vs,KV ay vs/\h.DictOf (cq P w) a vs:=wz ok (.inl e)
def xX{ks:O Key}(ok:gJ P w H h)(e:H a=al (.tup (ks.map kV))):(tupleKind (cq P w)).is h ks a:=by
 obtain⟨_,ao,r,⟨o,h1,h2,n,h3⟩,_⟩:=(show bC P w H h a (.tup (ks.map kV)) from ok a _ e);exact⟨o,ao.toArray,n,h1,h2,h3,by simpa using rm r⟩
def wy(ok:gJ P w H h)(e:Rd H a (.dT ay)):ay.length<=sizeLine/\(a==EQ)=false/\ ∃xs,KT H ay xs/\h.DictOfH (tupleKind (cq P w)) a xs:=by
 obtain⟨z,y,xs,r,o,es,ep,h1,h2,h3,h4,h5⟩:=(PQ ok e);refine⟨z,y,xs,r,o,es,ep,h1,h2,h3,h4,λx hx=>?_,h5⟩;have all:∀{l:O (O Key×V)}{m:O (O Key×db×ce)},KT H l m->∀x∈m,(tupleKind (cq P w)).is h x.1 x.2.1:=by
  intro l m q
  induction q with
  |nil=>intro x hx;exact nomatch hx
  | @cons p q ps qs hq t ih=>
   intro x hx;rcases Az.mp hx with e|hx
   .subst e;exact xX ok (by rw[<- hq.1];exact hq.2.1)
   .exact ih x hx
 exact all r x hx
def Xq(ok:gJ P w H h)(e:H a=al (.dT ay)):ay.length<=sizeLine/\(a==EQ)=false/\ ∃xs,KT H ay xs/\h.DictOfH (tupleKind (cq P w)) a xs:=wy ok (.inl e)
end
def Iq(H:Hp)(a:db)(y:V)(r:Option V):Prop:=
 (∃ay k,Rd H a (.dK ay)/\y=kV k/\r=mO ay k)\/∃ay k b,Rd H a (.dT ay)/\y=.ref b/\H b=al (.tup (k.map kV))/\r=mO ay k
def Mh(H:Hp)(a:db)(y v:V)(H':Hp):Prop:=
 (∃ay k,H a=al (.dK ay)/\y=kV k/\ay.length<sizeLine/\H'=upd H a (.dK (putK ay k v)))\/
 ∃ay k b,H a=al (.dT ay)/\y=.ref b/\H b=al (.tup (k.map kV))/\ay.length<sizeLine/\H'=upd H a (.dT (putK ay k v))
theorem Iq.k{ay:O (Key×V)}{k:Key}(e:H a=al (.dK ay)):Iq H a (kV k) (mO ay k):=.inl ⟨ay,k,.inl e,rfl,rfl⟩
theorem Mh.k{ay:O (Key×V)}{k:Key}(e:H a=al (.dK ay))(hl:ay.length<sizeLine):Mh H a (kV k) v (upd H a (.dK (putK ay k v))):=.inl ⟨ay,k,e,rfl,hl,rfl⟩
section
variable{r:ce}{o:Option V}
def Inv.big(I:Inv X Z σ H s):EQ<s.heap.objs.size:=by
 exact Nat.lt_trans ⋯ ((I.mod.glob.keeps I.bk).lt)
def abn(hu:A.units+1<FM)(I:Inv X Z σ H s)(g:Iq H a y o)(ry:RelV y u)(h:∀s',Inv X Z σ H s'->Q (.bool o.isSome) s'):f8 (ii X.prog X.w) A (r6 .In u (.ref a)) Q E s:=by
 rcases g with⟨ay,k,e,ey,l⟩|⟨ay,k,b,e,ey,eb,l⟩
 .subst ey;obtain⟨z,hd,vs,Ô,dd⟩:=wz I.aK e;refine wpAny_in_of (Kz ry) hd dd.mapOf ?_;rw[<- (Ô.val k).lS,<- l];exact h _ (I.tok _)
 .subst ey;cases (show u=Ao b from ry);obtain⟨z,hd,xs,Ô,dd⟩:=wy I.aK e;refine wpAny_in_heap (tupleKind_room_in1 hu) (xX I.aK eb) hd dd ?_;have q:=(Ô.val k).lS;rw[F5]at q;rw[<- q,<- l];exact h _ (I.tok _)
def Gx{t':Nat}{ob:HO}(I:Inv X Z σ H s)(mu:XQ (H a))(hs:CC a s.heap h')(he:∃q,h'.get? a=al q)(new:bC X.prog X.w (upd H a ob) h' a ob):Inv X Z σ (upd H a ob) {s with heap:=h',toks:=t'}:=
 I.write (x:=a) (e:=a) mu (.inl rfl) (λb q hb z=>(hs.2 b hb).trans z) he new
def Tn{ay:O (Key×V)}{vs:O (Key×ce)}(z:ay.length<=sizeLine)(hd:(a==EQ)=false)(Ô:KV ay vs)(dd:h'.DictOf (cq P w) a vs):bC P w H' h' a (.dK ay):=⟨z,hd,vs,Ô,dd⟩
theorem HX{Q:Unit->gl->Prop}(hu:A.units+1<FM)(I:Inv X Z σ H s)(g:Mh H a y v H')(ry:RelV y u)(rv:RelV v r)(h:∀s',Inv X Z σ H' s'->Q () s'):f8 (ii X.prog X.w) A (SB (.ref a) u r) Q E s:=by
 rcases g with⟨ay,k,e,ey,l,eH⟩|⟨ay,k,b,e,ey,eb,l,eH⟩
 .subst ey eH;obtain⟨z,hd,vs,Ô,dd⟩:=Xt I.aK e;have hz:vs.length<=sizeLine:=by rw[<- Ô.length];exact z
  have hl:(putK ay k v).length<=sizeLine:=by have:=my ay k v;lia
  refine wpAny_setItem_pairs (hsz:=hz) (Kz ry) dd λh' Tp hs=>h _ ?_;have he:∃q,h'.get? a=al q:=let ⟨q,_,_,hq,_⟩:=Tp;⟨q,hq⟩;exact Gx I (by rw[e];exact BR) hs he (Tn hl hd (Ô.put k rv) Tp)
 .subst ey eH;cases (show u=Ao b from ry);obtain⟨z,hd,xs,Ô,dd⟩:=Xq I.aK e;have hz:xs.length<=sizeLine:=by rw[<- Paired.length Ô];exact z
  have hl:(putK ay k v).length<=sizeLine:=by have:=my ay k v;lia
  refine wpAny_setItem_heap (hsz:=hz) (tupleKind_room_in1 hu) (xX I.aK eb) dd λh' Tp hs=>h _ ?_;obtain⟨q,es,ep,hq,h2,h3,h4,_,h5⟩:=Tp;refine Gx I (by rw[e];exact BR) hs ⟨q,hq⟩ ⟨hl,hd,_,(Ô.put k eb rv).keeps λc ys ec=>?_,q,es,ep,hq,h2,h3,h4,h5⟩;rw[af (vj ec e (λz=>nomatch z))];exact ec
end
def Zv(ty td:TE):TE:=λσ H Q=>ty σ H λy H1=>td σ H1 λx H2=>∃a o,x=.ref a/\Iq H2 a y o/\Q (.bl o.isSome) H2
def Vq(td ty tv:TE):TS:=λD σ H=>tv σ H λv H1=>td σ H1 λx H2=>ty σ H2 λy H3=>∃a H4,x=.ref a/\Mh H3 a y v H4/\D.nx σ H4
section
variable{i:o0}{td ty:TE}
def RG(hu:X.A.units+1<FM)(hi:PE X i ty)(ho:PE X o td):PC X .In i o (Zv ty td):=by
 intro Z s σ H Q I h;refine aR (hi Z s σ H _ I h) λiv s1 ⟨y,H1,I1,ry,q1⟩=>aR (ho Z s1 σ H1 _ I1 q1) λu s2 ⟨x,H2,I2,rx,a,ov,ex,g,q2⟩=>?_;subst ex;obtain rfl:u=Ao a:=rx;exact abn hu I2 g ry λs3 I3=>⟨.bl ov.isSome,H2,I3,rfl,q2⟩
def Np(hu:X.A.units+1<FM)(ho:PE X o td)(hi:PE X i ty)(hv:PE X Ã tv)(hs:pr Ã (al (.Subscript o i È)) pos.line X.env=pure false):PS X (.Assign [.Subscript o i È] Ã pos) (Vq td ty tv):=by
 intro Z s σ H D I h;refine wpAny_Assign_Subscript (aR (hv Z s σ H _ I h) λr s1 ⟨v,H1,I1,rv,q1⟩=>aR (ho Z s1 σ H1 _ I1 q1) λu s2 ⟨x,H2,I2,rx,q2⟩=>aR (hi Z s2 σ H2 _ I2 q2) λiv s3 ⟨y,H3,I3,ry,a,H4,ex,g,q3⟩=>?_) hs;subst ex;obtain rfl:u=Ao a:=rx;exact HX hu I3 g ry rv λs4 I4=>⟨σ,H4,I4,q3⟩
end
def LJ(h:lw)(hb:EQ < h.objs.size):bC P w H (h.push {cls:=.type "dict",data:=.dict #[]}) h.objs.size (.dK []):=
 ⟨Bn _,beq_eq_false_iff_ne.mpr (BA (AB hb)),[],.nil,Heap.DictOf.new h⟩
def Q4:TE:=λ_ H Q=>∀p,H p=bn->Q (.ref p) (upd H p (.dK []))
section
def JV:PE X (.Dict [] [] pos) Q4:=λZ s σ H Q I h=>
 wpAny_Dict_empty ⟨.ref s.heap.objs.size,_,I.laid (λ_ _ q=>Ad _ q) (Aj _) (LJ s.heap I.big),rfl,h _ (I.aK.fresh (Aj _))⟩
end
structure M2(X:Cx)(o:o0)(m:Str)(Á:Pos)(e f:o0)(bD:Pos):Prop where
 base:sB o m X.env (pc o X.env)=pc o X.env
 Uw:((IR bD (lf [e,f] X.env)).all (λx=>!x.1)&&(backToKw bD (Re [] X.env)).all (λx=>x.1.isSome)
  && decide (([e,f]:List o0).length+([]:List Keyword).length+(if ([]:List Keyword).isEmpty then 0 else 1)<30))=true
 line:(Á.endLine==bD.line)=true
 trees:IR bD (lf [e,f] X.env)=[(false,pc e X.env),(false,pc f X.env)]
def IsD(H:Hp)(a:db):Prop:=(∃ay,Rd H a (.dK ay))\/∃ay,Rd H a (.dT ay)
end L2
variable{Õ:O BJ}{XP:(BJ->Option AZ)->Er->Prop}{YP:PySem.World->Er->Prop}
namespace Att
open PySem PySem.W PySem.Calls PyProof.Rows
def mX{P:Params}:∀(ns:O Int) (vs:O ce),WellAll P h vs (ns.map WData.int)->SC vs ns:=by
 intro ns
 induction ns with
 |nil=>
  intro vs w;cases w;exact .nil
 |cons n ns ih=>
  intro vs w;cases w with
  |cons a b=>
   cases a;exact .cons _ _ (ih _ b)
theorem GW{l:OpenLaw}(hn:l.most=al n){P:Params}{args:O WData}{Û:O ce}(Oo:l.row.toRowW.claim.pre args=true)(é:WellAll P h Û args):∃a vs ns,Û=[Ao a]/\args=[WData.list (ns.map WData.int)]/\h.get? a=al {cls:=.type "list",data:=.seq vs.toArray}/\SC vs ns/\ns.length<=n:=by
 have hc:l.pre.holds [] {args:=args}=true:=(pre_splitW Oo).2;obtain⟨d,r,rfl,h1,h2⟩:=hasAllW_cons ((pre_splitW Oo).1);obtain rfl:=hasAllW_nil h2;obtain⟨xs,rfl,h3⟩:=hasW_list h1;obtain⟨ns,rfl⟩:=items_int h3;have Â:ns.length<=n:=by
  unfold OpenLaw.pre at hc;have h4:(WTm.not (.lt (.lit (.int (n:Int))) (.len (.arg 0)))).holds [] {args:=[.list (ns.map .int)]}=true:=by
   have h4:=(holds_andW hc).1;rw[hn]at h4;exact h4
  have h5:=condW_of h4 (w_not (w_lt w_lit (w_len_list (w_arg rfl))));refine Nat.le_of_not_lt λq=>?_
  first
   |(rw[decide_eq_true q']at h5;exact absurd h5 ⋯)
   |(simp at h5;lia)
 cases é with
 |cons w1 w2=>
  cases w2;cases w1 with
  |list ho aaR=>exact⟨_,_,ns,rfl,rfl,ho,mX ns _ aaR,Â⟩
def G6(l:OpenLaw)(args:O WData):l.row.toRowW.claim.post args (.bool true) args=true:=
 postW_of
  (show WShape.has [] (.bool true) .bool=true by first|rfl|decide|simp[WShape.has,WShape.arms])
  (w_eq_bool (w_res rfl) w_lit) rfl
def wK{l:OpenLaw}{q:sw}{d:DefRec}(hn:l.most=al n)(ø:d.params.defaults=[])(call:∀(w:wE) (s₀ s₁:gl) (mg mb:Str->Option ce) (fa:db) (o:Obj) (pm cd Ç:ce) (a:db) (vs:O ce) (ns:O Int),
   Ground q Õ [] XP w s₀ mg mb s₁.heap->YP w s₁.heap->
   s₁.heap.get? fa=al o->o.data=.func (docDef d.name d.params d.body d.scope pm cd Ç)->s₁.heap.CodeRec cd d.name->mg d.name=al (.ref fa)->
   s₁.heap.get? a=al {cls:=.type "list",data:=.seq vs.toArray}->SC vs ns->ns.length<=n->s₁.gens=#[]->
   KM (ii l.prog w) callerA (.call (.ref fa) ⟨[.ref a],[]⟩) (λr s'=>r=.ok (.ret (.bool true))/\OldK s₁.heap s'.heap/\s'.os=s₁.os/\Rs s'.gens) s₁):WalkO q Õ XP YP l.row.toRowW d [] (λf vs=>PySem.call f vs):=by
 intro w s₀ s₁ mg mb G Y fa o pm cd Ç dV kV ho hd cS hD hmg hg args Û as Oo aeR hrd é hlo;obtain rfl:dV=.none:=Dflts.none hD ø;obtain rfl:kV=.none:=Dflts.noKw hD;obtain⟨a,vs,ns,rfl,rfl,SJ,Ö,Â⟩:=GW hn Oo é;refine enter_call (zn (call w s₀ s₁ mg mb fa o pm cd Ç a vs ns G Y ho (fd_plain hd) cS hmg SJ Ö Â hg) λr s' hq=>?_);obtain⟨rfl,h2,h3,h4⟩:=hq;exact⟨.inl ⟨.bool true,.bool true,[],rfl,λ_=>rfl,.bool true,G6 l _,λ_=>⟨List.Pairwise.nil,λ_ hm=>(nomatch hm)⟩⟩,h2,h3,h4⟩
end Att
namespace L2
theorem qL:∀{vs:O ce}{ns:O Int},SC vs ns->Vals (ns.map V.int) vs
 |_,_,.nil=>.nil
 |_,_,.cons n t h=>.cons ⟨t,rfl⟩ (qL h)
end L2
variable{k:Nat}{sp:L2.Sp}{B:Prop}
namespace L2
def bM(s:sK):Arguments:=match s with
 |.FunctionDef _ a _ _ _ _ _ _ _ _=>a
 |_=>{posonlyargs:=[],args:=[],vararg:=bn,kwonlyargs:=[],kw_defaults:=[],kwarg:=bn,defaults:=[]}
def aN(s:sK):O sK:=match s with
 |.FunctionDef _ _ b _ _ _ _ _ _ _=>b
 |_=>[]
def ai(s:sK):wS:=match s with
 |.FunctionDef _ _ _ _ _ _ sc _ _ _=>sc
 |_=>{kind:=.function,names:=[],isGenerator:=false,isCoroutine:=false}
abbrev ip:II:=λ_ _ _ _ _ _=>False
abbrev E0:XK:=λ_ _ _=>False
def mq:Passes ip X E0:=λ_ _ _ _ _ _ _ h=>h.elim
structure kb(K:Aa)(x qual:Str)(st:sK)(f:db)(fd:wp):Prop where
 ex:∃(oc:ce) (od:Option db) (kV Ç pm:ce) (an:Option db) (bE ct:ce) (G9:Array (Option ce)),
  fd=Be x qual (bM st) (aN st) (ai st) .none kV Ç pm an bE ct/\K.lookup f=al ⟨oc,od,.func fd,G9⟩/\BX K bE qual=true
 kp:AH K (.ref f)=true
section
variable{K:Aa}
def kb.ok{x:Str}{st:sK}{f:db}{N:O Str}(F:kb K x qual st f fd)(S:bu N ps (ai st))(len:∀vs H Q E,sp vs H Q E->vs.length=ps.length)(kQ:∀(bE:ce) (A:wP) (outer:O Env) (s:gl) (H:Hp) (vs:O V) (Q:VK) (E:XK),bf k (A.deeper (xL qual (ai st) s.heap.objs.size f bE))->sp vs H Q E->
   ∃t,mf (jB ip P w K mg base N qual (ai st) f bE A outer s H E).Hd (aN st) t/\t {nx:=λ_ H'=>Q .br H',rt:=Q} (start N vs) H):aY P w K mg base ip (k+1) f fd ps sp:=by
 obtain⟨oc,od,kV,Ç,pm,an,bE,ct,G9,rfl,lk,cS⟩:=F.ex;refine zV lk cS S len λA outer s H vs Q E hr uL=>?_;obtain⟨t,h,q⟩:=kQ bE A outer s H vs Q E hr uL;exact⟨t,h.Hd,q⟩
def kb.binds{x:Str}{st:sK}{f:db}(F:kb K x qual st f fd)(h:∀(kV Ç pm:ce) (an:Option db) (bE ct:ce) (us:O ce),us.length=ps.length->P3 (Be x qual (bM st) (aN st) (ai st) .none kV Ç pm an bE ct) ⟨us,[]⟩=pure (ps.zip us)):Binds K fd ps []:=by
 obtain⟨oc,od,kV,Ç,pm,an,bE,ct,G9,rfl,lk,cS⟩:=F.ex;exact .all (h kV Ç pm an bE ct)
def lZ{x:Str}{st:sK}{f:db}{kV:ce}(l:K.lookup f=al ⟨oc,od,.func (Be x qual (bM st) (aN st) (ai st) .none kV Ç pm an bE ct),G9⟩)(c:BX K bE qual=true)(k:AH K (.ref f)=true):kb K x qual st f (Be x qual (bM st) (aN st) (ai st) .none kV Ç pm an bE ct):=⟨⟨oc,od,kV,Ç,pm,an,bE,ct,G9,rfl,l,c⟩,k⟩
end
def qQ(h:n<=1000):n<sizeLine:=Nat.lt_of_le_of_lt h ⋯
section
def pv(i:Nat){x:Str}(hN:‹X.N[i]?=al x›)(hv:qF X.env.scope x:=by first|exact Bs rfl|exact Bw (Bs rfl)|exact Bw (Bw rfl))(hd: ~~~(dn x))(cS: ~~~(qI x)):PE X (.Name x pos) (QZ i):=cy hN hv hd cS
end
def fe{A:Prop}(h:B):if false=true then A else B:=by
 exact h
def iO{A:Prop}(h:A):if true=true then A else B:=by
 exact h
def dW(H H':Hp):Prop:=∀b o,H b=al o->H' b=al o
def dW.refl(H:Hp):dW H H:=λ_ _ h=>h
def dW.free(e:dW H H')(h:H' l=Option.none):H l=Option.none:=by
 cases q:H l with
 |none=>rfl
 |some o=>
  rw[e l o q]at h;cases h
end L2
variable{b:Nat}{H2:L2.Hp}{Xs:PySem.Scope}{N':O BJ}{ix:O (Option Nat)}{cl:O (BJ×AW)}{Å:BL}{É:O BL}{jA:Cc}
namespace L2
def Z4{o:Obj}(e:h.get? b=al o):b<h.objs.size:=Ai e
def neN{a:Nat}(h:a≠b):a≠b:=h
def ltN{a:Nat}(h:a<b):a<b:=h
def QB{c:Nat}{v:Option ce}(q:h.IsCell c v):c<h.objs.size:=q.lt
structure ba(Xs:wS)(N:List Str)(sc:wS)(N':List Str)(ix:List (Option Nat)):Prop where
 kind:sc.kind=.function
 nc:∀y∈sc.names,y.2=.cell->sc.names.lookup y.1=al .cell
 loc:∀y∈sc.names,y.2=.local->sc.names.lookup y.1=al .local
 fr:∀y∈sc.names,y.2=.free->(Xs.names.lookup y.1=al .cell\/Xs.names.lookup y.1=al .free)
 nd:N'.Nodup
 len:ix.length=N'.length
 map:((ix.zip N').all λp=>match p.1 with|none=>true|some j=>decide (N[j]?=al p.2)&&decide (sc.names.lookup p.2=al .free))=true
def ba.at{N:O Str}(S:ba Xs N sc N' ix){i:Nat}{x:Str}(h1:ix[i]?=al (al j))(h2:N'[i]?=al x):N[j]?=al x/\sc.names.lookup x=al .free:=by
 have hm:((al j,x):Option Nat×Str)∈ix.zip N':=by
  refine A9 (i:=i) ?_;rw[Ex];exact⟨h1,h2⟩
 have q:=Bk.mp S.map _ hm;simp at q;exact q
def k7(ix:O (Option Nat))(σ:St):St:=ix.map λo=>match o with|some j=>(σ[j]?).getD bn|none=>bn
def dm(X:Cx)(sc:wS)(N':O Str)(cl:O (Str×db))(C:db)(s2:gl)(H2:Hp)(fp:O db):Cx where
 prog:=X.prog
 w:=X.w
 K:=X.K
 mg:=X.mg
 base:=X.base
 A:=X.A
 N:=N'
 s₀:=s2
 H₀:=H2
 env:=compEnvC sc cl C X.env
 outer:=X.stack
 stack:=X.stack
 ex:=fp
 calm:=X.calm
 fn:=λx=>sc.names.lookup x==al .cell
 pn:=[]
 xe:=λ_ _=>False
theorem j8:∀(names:O (Str×xz)) (cs:O (Str×db)),(∀y∈names,y.2=.free->∃c,env.cells.lookup y.1=al c)->
  ∃cl,(forIn names cs λ(x:Str×xz) (c:O (Str×db))=>(match x with|(name,kind)=>do
    let c <- if (kind==Bb)=true then do let a <- cellOf env name;pure ((name,a)::c) else pure c
    pure (Cn c):Sem (ForInStep (O (Str×db)))))=pure cl/\(∀x c,cl.lookup x=al c->cs.lookup x=al c\/(env.cells.lookup x=al c/\(x,Bb)∈names))/\(∀x,((x,Bb)∈names\/(∃c,cs.lookup x=al c))->∃c,cl.lookup x=al c)
 |[],cs,_=>⟨cs,rfl,λ_ _ h=>.inl h,λx h=>h.elim (λz=>nomatch z) λz=>z⟩
 |(n,k)::r,cs,h=>by
  by_cases hk:k=.free
  .subst hk;obtain⟨c,hc⟩:=h (n,.free) Bp rfl;obtain⟨cl,e,h1,h2⟩:=j8 r ((n,c)::cs) λy hy=>h y (AD _ hy);refine⟨cl,?_,λx d hd=>?_,λx hx=>?_⟩
   .rw[B8,<- e];simp only[beq_self_eq_true,if_true,cellOf,hc,pure_bind]
   .rcases h1 x d hd with z|⟨z1,z2⟩
    .rw[AI]at z;by_cases hx:(x==n)=true
     .rw[hx]at z;have qu:x=n:=eq_of_beq hx;subst qu;cases z;exact .inr ⟨hc,Bp⟩
     .have qu:(x==n)=false:=by simpa using hx
      rw[qu]at z;exact .inl z
    .exact .inr ⟨z1,AD _ z2⟩
   .refine h2 x ?_;rcases hx with hx|⟨d,hd⟩
    .rcases Az.mp hx with z|z
     .injection z with z1 _;subst z1;exact .inr ⟨c,by rw[AI];simp⟩
     .exact .inl z
    .by_cases hx:(x==n)=true
     .exact .inr ⟨c,by rw[AI,hx]⟩
     .have qu:(x==n)=false:=by simpa using hx
      exact .inr ⟨d,by rw[AI,qu];exact hd⟩
  .obtain⟨cl,e,h1,h2⟩:=j8 r cs λy hy=>h y (AD _ hy);refine⟨cl,?_,λx d hd=>?_,λx hx=>?_⟩
   .have hb:(k==Bb)=false:=by simpa using hk
    rw[B8,<- e];simp only[hb,Aq,if_false,pure_bind]
   .rcases h1 x d hd with z|⟨z1,z2⟩
    .exact .inl z
    .exact .inr ⟨z1,AD _ z2⟩
   .refine h2 x ?_;rcases hx with hx|hx
    .rcases Az.mp hx with z|z
     .injection z with _ z2;exact absurd z2.symm hk
     .exact .inl z
    .exact .inr hx
def gn(h:∀y∈sc.names,y.2=.free->∃c,env.cells.lookup y.1=al c):∃cl,closureFor sc env=pure cl/\(∀x c,cl.lookup x=al c->env.cells.lookup x=al c/\(x,Bb)∈sc.names)/\(∀x,(x,Bb)∈sc.names->∃c,cl.lookup x=al c):=by
 obtain⟨cl,e,h1,h2⟩:=j8 sc.names [] h;refine⟨cl,?_,λx c hc=>(h1 x c hc).resolve_left (λz=>nomatch z),λx hx=>h2 x (.inl hx)⟩;unfold closureFor;have e':(forIn sc.names ([]) λx r=>(match x with|(name,kind)=>if (kind==Bb)=true then do let a <- cellOf env name;pure (Cn ((name,a)::r)) else pure (Cn r):Sem (ForInStep (O (Str×db)))))=pure cl:=by
  rw[<- e]
  first
   |rfl
   |(
     congr 1;funext x r;by_cases hk)
   |simp
 simpa using e'
theorem ud:∀(names:O (Str×xz)) (n:Nat) (acc:O (Str×db)) (x:Str) (c:db),(wv n names acc).lookup x=al c->(acc.lookup x=al c/\(x,CI)∉names)\/((x,CI)∈names/\n<=c)
 |[],_,_,_,_,e=>.inl ⟨e,λh=>nomatch h⟩
 |(y,k)::r,n,acc,x,c,e=>by
  unfold wv at e
  split at e
  .rename_i hk;have hk':k=.cell:=eq_of_beq hk;subst hk';rcases ud r _ _ x c e with⟨a,b⟩|⟨a,b⟩
   .rw[AI]at a;cases hx:x==y with
    |true=>
     rw[hx]at a;cases a;exact .inr ⟨by rw[eq_of_beq hx];exact Bp,Aj _⟩
    |false=>
     rw[hx]at a;refine .inl ⟨a,λh=>?_⟩;rcases Az.mp h with z|z
     .cases z;simp at hx
     .exact b z
   .exact .inr ⟨AD _ a,Nat.le_of_succ_le b⟩
  .rename_i hk;rcases ud r _ _ x c e with⟨a,b⟩|⟨a,b⟩
   .refine .inl ⟨a,λh=>?_⟩;rcases Az.mp h with z|z
    .cases z;simp at hk
    .exact b z
   .exact .inr ⟨AD _ a,b⟩
theorem yM:∀(names:O (Str×xz)) (n:Nat) (acc:O (Str×db)) (x:Str),((x,CI)∈names\/∃c,acc.lookup x=al c)->∃c,(wv n names acc).lookup x=al c
 |[],_,_,_,h=>h.elim (λz=>nomatch z) id
 |(y,k)::r,n,acc,x,h=>by
  unfold wv
  split
  .refine yM r _ _ x ?_;cases hx:x==y with
   |true=>exact .inr ⟨n,by rw[AI,hx]⟩
   |false=>
    rcases h with h|⟨c,h⟩
    .rcases Az.mp h with z|z
     .cases z;simp at hx
     .exact .inl z
    .exact .inr ⟨c,by rw[AI,hx];exact h⟩
  .rename_i hk;refine yM r _ _ x ?_;rcases h with h|h
   .rcases Az.mp h with z|z
    .cases z;simp at hk
    .exact .inl z
   .exact .inr h
theorem yL:∀(names:O (Str×xz)) (n:Nat) (acc:O (Str×db)),(∀x y c,acc.lookup x=al c->acc.lookup y=al c->x=y)->(∀x c,acc.lookup x=al c->c<n)->∀x y c,(wv n names acc).lookup x=al c->(wv n names acc).lookup y=al c->x=y
 |[],_,_,h,_=>h
 |(z,k)::r,n,acc,h,hl=>by
  unfold wv
  split
  .refine yL r _ _ (λx y c e1 e2=>?_) λx c e=>?_
   .rw[AI]at e1 e2;cases hx:x==z<;>cases hy:y==z<;>rw[hx]at e1<;>rw[hy]at e2
    .exact h x y c e1 e2
    .cases e2;exact absurd (hl _ _ e1) (AM _)
    .cases e1;exact absurd (hl _ _ e2) (AM _)
    .rw[eq_of_beq hx,eq_of_beq hy]
   .rw[AI]at e;cases hx:x==z<;>rw[hx]at e
    .exact EG (hl _ _ e)
    .cases e;exact Ce _
  .exact yL r _ _ h hl
theorem ue:∀(names:O (Str×xz)) (h:lw) (acc:O (Str×db)) (x:Str) (c:db),(wv h.objs.size names acc).lookup x=al c->acc.lookup x=al c\/(pushCells h names).IsCell c bn
 |[],_,_,_,_,e=>.inl e
 |(y,k)::r,h,acc,x,c,e=>by
  unfold wv at e;unfold pushCells
  split at e
  .rename_i hk;rw[if_pos hk];rw[<- Bi h {cls:=.type "cell",data:=.cell bn}]at e;rcases ue r _ _ x c e with a | a
   .rw[AI]at a;cases hx:x==y<;>rw[hx]at a
    .exact .inl a
    .cases a;exact .inr ⟨_,pushCells_keeps _ _ _ _ (by rw[Bi]at *;exact Al _ rfl),rfl⟩
   .exact .inr a
  .rename_i hk;rw[if_neg hk];exact ue r h acc x c e
def nQ{globals:db}{builtins:db}{Q:Env->gl->Prop}(hQ:∀h',h'.Ns s.heap.objs.size (λ_=>bn)->(∀b o,s.heap.get? b=al o->h'.get? b=al o)->(∀x c,(wv (s.heap.objs.size+1) sc.names cl).lookup x=al c->cl.lookup x=al c\/h'.IsCell c bn)->
   Q (newEnv sc s.heap.objs.size globals (wv (s.heap.objs.size+1) sc.names cl) qual bn .none (al env) builtins) {s with heap:=h'}):f8 M A (newFunctionEnv sc globals cl [] qual bn .none (al env) builtins) Q E s:=by
 simp only[newFunctionEnv,FY,if_true];refine Ab (wpAny_alloc ?_);refine Ab (wpAny_layCells _ (λname kind cells=>by cases hkc:kind==CI <;> simp[hkc]) _ _ _ _ ?_);rw[List.forIn_nil,show({s with heap:=s.heap.push {cls:=.type "dict",data:=.dict #[]}}:gl).heap.objs.size=s.heap.objs.size+1 from Bi ..];refine Ab (Ae (Ae (hQ _ ((Heap.Ns.new s.heap (.type "dict")).keeps (pushCells_keeps _ _)) (λb o e=>pushCells_keeps _ _ b o (Ad _ e)) λx c e=>?_)));rw[<- Bi s.heap {cls:=.type "dict",data:=.dict #[]}]at e;exact ue _ _ _ _ _ e
theorem eZ{env:Env}:∀{names:O (Str×xz)}{x:Str},(names.map λ(n,k)=>if (k==Bb&&env.scope.kind==.function&&env.kindOf n==al .cell) then (n,CI) else (n,k)).lookup x = (names.lookup x).map λk=>if (k==Bb&&env.scope.kind==.function&&env.kindOf x==al .cell) then CI else k
 |[],_=>rfl
 |(n,k)::r,x=>by
  have ih:=@eZ env r x;show Cy x ((if (k==Bb&&env.scope.kind==.function&&env.kindOf n==al .cell)=true then (n,CI) else (n,k))::_)=_;cases hx:x==n with
  |true=>
   have e:=eq_of_beq hx;subst e;by_cases hc:(k==Bb&&env.scope.kind==.function&&env.kindOf x==al .cell)=true
   .rw[if_pos hc,AI,AI,hx];simp only[C5,hc,if_true]
   .rw[if_neg hc,AI,AI,hx];simp only[C5,hc];simp
  |false=>
   by_cases hc:(k==Bb&&env.scope.kind==.function&&env.kindOf n==al .cell)=true
   .rw[if_pos hc,AI,AI,hx];exact ih
   .rw[if_neg hc,AI,AI,hx];exact ih
def UG(X:Cx)(É:O o0)(t:TT):Prop:=
 ∀(Z:O (db×Obj)) (s:gl) (σ:St) (H:Hp) (Q:Bool->Hp->Prop),Inv X Z σ H s->t σ H Q->
  f8 (ii X.prog X.w) X.A (forIn É true λc r=>if r=true then do let ok <- isTrue c X.env (pc c X.env);pure (Cn ok) else pure (Cn r)) (TP X Z σ Q) X.xe s
def Zy:TT:=λ_ H Q=>Q true H
def Nw:UG X [] Zy:=λZ s σ H Q I h=>by
 exact Ae ⟨H,I,h⟩
def Nv{c:o0}{t:TT}(hc:PT X c t):UG X [c] t:=λZ s σ H Q I h=>by
 rw[B8];simp only[if_true,bind_assoc];exact Ab (aR (hc Z s σ H Q I h) λb s1 q=>Ae q)
def Zr(ix:O (Option Nat))(wi:TI)(g:TG)(tf:TT)(te:TE):TE:=λσ H Q=>wi σ H λJ H1=>∀D,H1 D=bn->∃W:Nat->Nat->St->O V->Hp->Prop,
 (∃m,W 0 m (k7 ix σ) [] (upd H1 D (.lst [])))/\∀i m σ' ys H,W i m σ' ys H->H D=al (.lst ys)/\
  ((J.stop i H/\Q (.ref D) H)\/(J.go i H/\∀x H',J.Pg i H x H'->g x σ' H' λσ2 H2=>tf σ2 H2 λb H3=>
   if b=true then te σ2 H3 λy H4=>H4 D=al (.lst ys)/\ys.length+1<=sizeLine/\∃m',m'<m/\W (i+1) m' σ2 (ys++[y]) (upd H4 D (.lst (ys++[y]))) else ∃m',m'<m/\W (i+1) m' σ2 ys H3))
def jC{Í:o0}{it acc:ce}(I:Nat->gl->Prop)(Ð:∀n s,I n s->f8 (ii prog w) A (pyNext it) (λr s₁=>match r with
   |none=>R (.ok .next) s₁
   |some v=>f8 (ii prog w) A (SZ Í it v) (λ_ Px=>f8 (ii prog w) A (Pv Í env v) (λ_ s₂=>
     f8 (ii prog w) A (forIn É true λc r=>if r=true then do let ok <- isTrue c env (pc c env);pure (Cn ok) else pure (Cn r)) (λok s₃=>
      if ok=true then f8 (ii prog w) A (pc Å env) (λx s₄=>
       f8 (ii prog w) A (call (.builtin "list.append") [acc,x]) (λ_ s₅=>∃m,m < n/\I m s₅) (λ_ _=>False) s₄) (λ_ _=>False) s₃
      else ∃m,m<n/\I m s₃) (λ_ _=>False) s₂) (λ_ _=>False) Px) (λ_ _=>False) s₁) (λ_ _=>False) s) n(h:I n s):KM (ii prog w) A (.compLoop (.ListComp Å [⟨Í,iter,É,0⟩] scope pos) 0 it acc env) R s:=by
 refine codeAny_loop rfl I (λn s hI=>?_) n h;refine wpAny_noted ?_;refine Ab (BW (Ab (Bv (Ð n s hI) (λr s₁ h₁=>?_) λ_ _ h'=>h'.elim)));cases r with
 |none=>exact Ae h₁
 |some v=>
  refine Ab (Bv h₁ (λ_ Px Wy=>?_) λ_ _ h'=>h'.elim);refine Ab (Bv Wy (λ_ s₂ h₂=>Ab (Bv h₂ (λok s₃ h₃=>?_) λ_ _ h'=>h'.elim)) λ_ _ h'=>h'.elim);cases ok with
  |false=>exact Ae ⟨rfl,h₃⟩
  |true=>
   exact Ab (Ab (Bv h₃ (λx s₄ h₄=>Ab (Bv h₄ (λ_ s₅ h₅=>Ae (Ae ⟨rfl,h₅⟩)) λ_ _ h'=>h'.elim)) λ_ _ h'=>h'.elim))
section
variable{g:TG}{tf:TT}
structure X1(X:Cx)(Z:List (db×Obj))(H:Hp)(C:db):Prop where
 hn:H C=bn
 hL:C≠X.env.locals
 ab:X.s₀.heap.objs.size<=C
 cl:∀x c,X.env.cells.lookup x=al c->c≠C
 pn:∀p∈X.pn++Z,p.1≠C
theorem zP(hc:X.calm=true)(S:ba X.env.scope X.N sc N' ix)(hg:∀cl C s2 H2 fp,PG (dm X sc N' cl C s2 H2 fp) tg g)(hf:∀cl C s2 H2 fp,UG (dm X sc N' cl C s2 H2 fp) É tf)(he:∀cl C s2 H2 fp,PE (dm X sc N' cl C s2 H2 fp) Å te){s2:gl}(lX:∀x c,cl.lookup x=al c->X.env.cells.lookup x=al c/\(x,Bb)∈sc.names)(tG:∀x,(x,Bb)∈sc.names->∃c,cl.lookup x=al c){tn:Nat->lw->Prop}{J:It}{Q:VK}(I2:Inv X Z σ H2 s2)(T:Turn X.prog X.w X.K tg J fp it tn)(MY:tn 0 s2.heap)(f2:∀b∈fp,qJ X Z H2 b)(hW:∀D,H2 D=bn->∃W:Nat->Nat->St->O V->Hp->Prop,
   (∃m,W 0 m (k7 ix σ) [] (upd H2 D (.lst [])))/\∀i m σ' ys H,W i m σ' ys H->H D=al (.lst ys)/\
    ((J.stop i H/\Q (.ref D) H)\/(J.go i H/\∀x H',J.Pg i H x H'->g x σ' H' λσ2 H2=>tf σ2 H2 λb H3=>
     if b=true then te σ2 H3 λy H4=>H4 D=al (.lst ys)/\ys.length+1<=sizeLine/\∃m',m'<m/\W (i+1) m' σ2 (ys++[y]) (upd H4 D (.lst (ys++[y]))) else ∃m',m'<m/\W (i+1) m' σ2 ys H3))){RR:ce->db->Result->gl->Prop}{E:ce->gl->Prop}(hRR:∀D C m s' H',Inv X Z σ H' s'->Q (.ref D) H'->s'.heap.Ns C m->X1 X Z H' C->RR (.ref D) C (.ok .next) s'):f8 (ii X.prog X.w) X.A (newList []) (λacc s₃=>f8 (ii X.prog X.w) X.A (newFunctionEnv sc X.env.globals cl [] X.env.qual bn .none (al X.env)) (λXB s₄=>
   KM (ii X.prog X.w) X.A (.compStart (.ListComp Å [⟨tg,iter,É,0⟩] sc pos) 0 (.ref it) acc {XB with scope:=relabel sc X.env}) (RR acc XB.locals) s₄) E s₃) E s2:=by
 refine BN (nQ λh₁ yj tD Ov=>?_);generalize hH2:s2.heap.push {cls:=.type "list",dict:=bn,data:=.seq ([]).toArray}=G2 at yj tD Ov ⊢;have hC:G2.objs.size=s2.heap.objs.size+1:=by rw[<- hH2,Bi]
 obtain⟨D,hD⟩:∃D:Nat,s2.heap.objs.size=D:=⟨_,rfl⟩;obtain⟨C,hCC⟩:∃C:Nat,G2.objs.size=C:=⟨_,rfl⟩;simp only[hD,hCC]at yj tD Ov hC ⊢;have hDC:D≠C:=by lia
 have k1:=ud sc.names (C+1) cl;have k2:=yM sc.names (C+1) cl;have k3:=yL sc.names (C+1) cl;generalize wv (C+1) sc.names cl=LN at Ov k1 k2 k3 ⊢;have Ï:∀b o,s2.heap.get? b=al o->h₁.get? b=al o:=λb o e=>tD b o (hH2▸Ad _ e);have WV:h₁.get? D=al {cls:=.type "list",data:=.seq ([]:O ce).toArray}:=by
  refine tD D _ ?_;rw[<- hH2,<- hD];exact Al _ rfl
 have hD2:H2 D=bn:=I2.aK.fresh ∅;obtain⟨W,⟨m0,w0⟩,Ð⟩:=hW D hD2;have QA:∀x c,cl.lookup x=al c->∃v,s2.heap.IsCell c v:=λx c e=>I2.cell x c (lX x c e).1;have Xx:∀x c,cl.lookup x=al c->c<D:=λx c e=>by
  obtain⟨v,q⟩:=QA x c e;have:=QB q;exact ltN ∅
 have YF:∀b∈fp,b<D:=λb hb=>by
  obtain⟨o,e,_⟩:=T.obj 0 _ MY b hb;have:=Z4 e;exact ltN ∅
 have fpC:∀b∈fp,∀x c,LN.lookup x=al c->c≠b:=λb hb x c e=>by
  rcases k1 x c e with⟨z,_⟩|⟨_,z⟩
  .exact(f2 b hb).2.2.2.2.1 x c (lX x c z).1
  .have:=ltN (YF b hb);exact neN (a:=c) (b:=b) ∅
 have Yok:(dm X sc N' LN C s2 H2 fp).Ok:=by
  refine⟨I2.ok.mod,S.kind,I2.ok.glob,I2.ok.blt,?_,?_,?_,?_,I2.ok.hd,I2.ok.frames,.inl rfl,?_,I2.bs,?_,?_,?_,I2.stack,I2.km⟩
  .show s2.heap.objs.size<=C;lia
  .exact k3 (λx y c e1 e2=>I2.ok.inj x y c (lX x c e1).1 (lX y c e2).1) λx c e=>by
    have h1:C=D+1:=by lia
    exact h1▸EG (EG (Xx x c e))
  .intro x hx;have qu:(relabel sc X.env).names.lookup x=al .cell\/(relabel sc X.env).names.lookup x=al .free:=hx;unfold relabel at qu;rw[eZ]at qu;cases q:sc.names.lookup x with
   |none=>rw[q]at qu;simp at qu
   |some k=>
    have hm:=Bg q;refine k2 x ?_;by_cases hk:k=.free
    .subst hk;exact .inr (tG x hm)
    .rw[q]at qu;have hb:(k==Bb)=false:=by simpa using hk
     simp only[C5,hb,Bool.false_and,Aq,if_false]at qu;rcases qu with z|z
     .rw[Option.some.inj z]at hm;exact .inl hm
     .exact absurd (Option.some.inj z) hk
  .intro x c SR e;have aaI:sc.names.lookup x=al .cell:=eq_of_beq SR;rcases k1 x c e with⟨_,z⟩|⟨_,z⟩
   .exact absurd (Bg aaI) z
   .show s2.heap.objs.size<=c;lia
  .intro b hb;refine⟨?_,λx c e z=>fpC b hb x c e z⟩;show b≠C;have:=ltN (YF b hb);exact neN ∅
  .exact AE I2.ok.LW I2.sz
  .intro b o e hb;rcases (f2 b hb).2.2.2.1 with z|z
   .exact I2.ok.He b o e z
   .have h1:=Z4 (h:=X.base) e;have h2:=I2.ok.LW;lia
  .intro b hb z;rcases Az.mp (I2.n6 b z) with q|q
   .exact(f2 b hb).2.1 q
   .exact(f2 b hb).2.2.1 q
 have un0:Un (m5 X.stack) fp H2 (upd H2 D (.lst [])) s2.heap h₁:=Un.laid Ï ∅ hD2;have IY:∀tk,Inv (dm X sc N' LN C s2 H2 fp) [] (k7 ix σ) (upd H2 D (.lst [])) {s2 with heap:=h₁,toks:=tk}:=λtk=>by
  refine⟨Yok,rfl,I2.bare,un0,⟨_,yj,λi x v e1 e2 e3=>?_⟩,λx c e=>?_,?_,λx c e=>?_,λp hp=>absurd (show p∈([]) from hp) (by simp),(I2.aK.laid Ï ∅ ⟨Bn _,[],0,.nil,WV⟩),?_⟩
  .have t6:=e1;unfold k7 at e2;rw[An]at e2;cases q:ix[i]? with
   |none=>rw[q]at e2;cases e2
   |some o=>
    cases o with
    |none=>rw[q]at e2;cases e2
    |some j=>
     rw[q]at e2;have Y1:(σ[j]?).getD bn=al v:=Option.some.inj e2;have e4:σ[j]?=al (al v):=by
      cases z:σ[j]? with
      |none=>rw[z]at Y1;cases Y1
      |some y=>rw[z]at Y1;exact congrArg al Y1
     obtain⟨a1,a2⟩:=S.at q t6;have WK:=Bg a2;have hk:=S.fr _ WK rfl;obtain⟨m,_,hl⟩:=I2.loc;obtain⟨u,r,l⟩:=hl j x v a1 e4 (.inr hk);refine⟨u,r,.inr ⟨?_,?_⟩⟩
     .show(relabel sc X.env).names.lookup x=al .cell\/(relabel sc X.env).names.lookup x=al .free;unfold relabel;rw[eZ,a2];by_cases hb:(X.env.scope.kind==.function&&X.env.kindOf x==al .cell)=true
      .left
       simp only[C5,beq_self_eq_true,DH,hb,if_true]
      .right
       simp only[C5,beq_self_eq_true,DH,hb,if_false,Aq]
     .obtain⟨c,û⟩:=tG x WK;have hcy:LN.lookup x=al c:=by
       obtain⟨c',q'⟩:=k2 x (.inr ⟨c,û⟩);rcases k1 x c' q' with⟨z,_⟩|⟨z,_⟩
       .rw[û]at z;cases z;exact q'
       .rw[S.nc _ z rfl]at a2;cases a2
      refine⟨c,hcy,?_⟩;rcases l with⟨k,_⟩|⟨k,c',e',z⟩
      .have k':X.env.scope.names.lookup x=al .local:=k;rcases hk with y|y<;>rw[k']at y<;>cases y
      .rw[((lX x c û).1)]at e';cases e';obtain⟨o,ho,hd⟩:=z;exact⟨o,Ï _ _ ho,hd⟩
  .rcases Ov x c e with z|z
   .obtain⟨v,o,ho,hd⟩:=QA x c z;exact⟨v,o,Ï _ _ ho,hd⟩
   .exact⟨_,z⟩
  .show upd H2 D (.lst []) C=bn;rw[af (BA hDC)];exact(I2.aK.fresh ∅)
  .rcases k1 x c e with⟨z,_⟩|⟨_,z⟩
   .have lV:=ltN (Xx x c z);rw[af (neN ∅)];exact I2.eu x c (lX x c z).1
   .rw[af (neN (a:=c) (b:=D) ∅)];exact I2.aK.fresh ∅
  .unfold k7;rw[Am];exact S.len
 have Ă:∀{vc:O (db×Obj)}{H':Hp},(∀b∈fp,H' b=bn)->(∀p∈vc,p.1∉fp)->∀b∈fp,qJ (dm X sc N' LN C s2 H2 fp) vc H' b:=λhn hp b hb=>by
  refine⟨hn b hb,?_,?_,.inl hb,λx c e z=>fpC b hb x c e z,λp hpp z=>?_⟩
  .show b≠C;have:=ltN (YF b hb);exact neN ∅
  .exact Yok.HL b hb
  .exact hp p hpp (z▸hb)
 have ã:∀s₃:gl,s₃={s2 with heap:=h₁}->
   KM (ii X.prog X.w) X.A (.compLoop (.ListComp Å [⟨tg,iter,É,0⟩] sc pos) 0 (.ref it) (.ref D) (compEnvC sc LN C X.env)) (RR (.ref D) C) s₃:=by
  rintro s₃ rfl;refine jC (λn s'=>∃i σ' ys H',Inv (dm X sc N' LN C s2 H2 fp) [] σ' H' s'/\tn i s'.heap/\(∀b∈fp,H' b=bn)/\W i n σ' ys H') ?_ m0
   ⟨0,_,[],_,IY _,T.keep _ _ _ MY (λb _ o e=>Ï b o e),λb hb=>by rw[af (AB (YF b hb))];exact(f2 b hb).1,w0⟩
  rintro n s3 ⟨i,σ3,ys,H3,I3,Vh,W7,w3⟩;obtain⟨hDl,w3⟩:=Ð i n σ3 ys H3 w3;rcases w3 with⟨stop,qn⟩|⟨go,step⟩
  .refine aR (T.done (dm X sc N' LN C s2 H2 fp) rfl rfl rfl hc i [] s3 σ3 H3 _ I3 (Ă W7 (by simp)) Vh stop) λr s4 ⟨hr,I4⟩=>?_;subst hr;obtain⟨m,hn,_⟩:=I4.loc;refine hRR D C m s4 H3 (I2.XF I4.os I4.base I4.aK I4.bare λb hb=>?_) qn hn ?_
   .obtain⟨a0,a1,a2,a3,a4,a5⟩:=f2 b hb;exact⟨a3,a1,a4,a5⟩
   .refine⟨I4.free,?_,?_,λx c e z=>?_,λp hp z=>?_⟩
    .have:=ltN I2.lt;exact neN ∅
    .have:=I2.sz;lia
    .obtain⟨v,q⟩:=I2.cell x c e;have:=QB q;exact neN (a:=c) (b:=C) ∅ z
    .have:=Z4 (I2.pin p hp).1;exact neN (b:=C) ∅ z
  .refine aR (T.item (dm X sc N' LN C s2 H2 fp) rfl rfl rfl hc i [] s3 σ3 H3 (λ_ _=>False) I3 (Ă W7 (by simp)) Vh go) λr s4 ⟨u,hr,h4⟩=>?_;subst hr;refine aR h4 λ_ s5 ⟨x,H5,I5,r5,y5,Q9,ā⟩=>?_;refine aR (hg _ _ _ _ _ _ s5 σ3 H5 x u _ (I5.pinned (Ă ā (by simp)) (T.obj _ _ Q9)) r5 (step x H5 y5)) λ_ s6 ⟨σ6,H6,I6,q6⟩=>?_;refine aR (hf _ _ _ _ _ _ s6 σ6 H6 _ I6 q6) λb s7 ⟨H7,I7,q7⟩=>?_;have Kx:∀{s8:gl}{σ8:St}{H8:Hp},Inv (dm X sc N' LN C s2 H2 fp) ([]++lJ fp s5.heap) σ8 H8 s8->tn (i+1) s8.heap/\∀b∈fp,H8 b=bn:=λ{s8 σ8 H8} I8=>by
    refine⟨T.keep _ _ _ Q9 λb hb o e=>(I8.pin (b,o) (A8 _ (A8 _ (gV hb e)))).1,λb hb=>?_⟩;obtain⟨o,e,d⟩:=T.obj _ _ Q9 b hb;exact(I8.pin (b,o) (A8 _ (A8 _ (gV hb e)))).2.1
   cases b with
   |false=>
    obtain⟨m',hm,w7⟩:=q7;obtain⟨t7,fr7⟩:=Kx I7;exact⟨m',hm,i+1,σ6,ys,H7,I7.iz,t7,fr7,w7⟩
   |true=>
    refine aR (he _ _ _ _ _ _ s7 σ6 H7 _ I7 q7) λyv s8 ⟨y,H8,I8,r8,hD8,hz8,m',hm,w8⟩=>?_;obtain⟨z,ao,k,rv,hl8,e8⟩:=I8.jX hD8;obtain⟨t8,fr8⟩:=Kx I8;refine wpAny_list_append_plain (s:=s8) ⟨_,e8⟩ λh9 hl9 hs9=>?_;obtain⟨k9,e9⟩:=hl9;have I9:Inv (dm X sc N' LN C s2 H2 fp) ([]++lJ fp s5.heap) σ6 (upd H8 D (.lst (ys++[y]))) {s8 with heap:=h9,toks:=s8.toks}:=by
     refine I8.write (x:=D) (e:=D) (by rw[hD8];exact trivial) (.inl rfl) (λb u hb hu=>(hs9.2 b hb).trans hu) ⟨_,e9⟩ ?_;refine⟨by rw[Ah,DA];exact hz8,ao++[yv],k9,(Vals.append rv (.cons r8 .nil)),?_⟩;rw[e9];simp
    obtain⟨t9,fr9⟩:=Kx I9;exact⟨m',hm,i+1,σ6,_,_,I9.iz,t9,fr9,w8⟩
 exact codeAny_compStart_list (ã _ rfl) (T.self _ 0 _ _ _ (T.keep _ _ _ MY λb _ o e=>Ï b o e) (ã _ rfl))
def VM(hc:X.calm=true)(S:ba X.env.scope X.N sc N' ix)(hi:PI X tg iter wi)(hg:∀cl C s2 H2 fp,PG (dm X sc N' cl C s2 H2 fp) tg g)(hf:∀cl C s2 H2 fp,UG (dm X sc N' cl C s2 H2 fp) É tf)(he:∀cl C s2 H2 fp,PE (dm X sc N' cl C s2 H2 fp) Å te)(hs:pV X iter:=by intro _;rfl):PE X (.ListComp Å [⟨tg,iter,É,0⟩] sc pos) (Zr ix wi g tf te):=by
 intro Z s σ H Q I h;obtain⟨cl,rA,lX,tG⟩:=gn (λy hy hk=>I.ok.has y.1 (S.fr y hy hk));refine ER rfl hs rA S.kind S.loc (aR (hi Z s σ H _ I h) λv s1 h1=>aR h1 λYq s2 h2=>?_);obtain⟨it,fp,tn,J,H2,rfl,I2,T,MY,f2,hW⟩:=h2;exact zP hc S hg hf he lX tG I2 T MY f2 hW λD C m s' H' I' q hn F=>⟨m,hn,λh' í=>⟨.ref D,H',I'.turned (λb o hb e=>(í.2 b hb).trans e) F.hn F.hL (.inr F.ab) F.cl F.pn,rfl,q⟩⟩
def JI{i:Nat}{x:Str}(hc:X.calm=true)(hN:X.N.Nodup)(tF:X.N[i]?=al x)(hx:X.env.scope.names.lookup x=al .local)(S:ba X.env.scope X.N sc N' ix)(hi:PI X tg iter wi)(hg:∀cl C s2 H2 fp,PG (dm X sc N' cl C s2 H2 fp) tg g)(hf:∀cl C s2 H2 fp,UG (dm X sc N' cl C s2 H2 fp) É tf)(he:∀cl C s2 H2 fp,PE (dm X sc N' cl C s2 H2 fp) Å te)(mY:‹pr (.ListComp Å [⟨tg,iter,É,0⟩] sc pos) (al (.Name x px)) jA.line X.env=pure true›)(hs:pV X iter:=by intro _;rfl):PS X (.Assign [.Name x px] (.ListComp Å [⟨tg,iter,É,0⟩] sc pos) jA) (Q5 (Zr ix wi g tf te) (gG i)):=by
 intro Z s σ H D0 I h;rw[exec_Assign_Name_used _ _ _ _ mY];refine Ab (BW (Ab ?_));show f8 _ X.A (do let _ <- comprehension (.ListComp Å [⟨tg,iter,É,0⟩] sc pos) sc X.env _ (newList []) false (pc iter X.env) (al (Pv (.Name x px) X.env))) _ _ s;have SV:∀y∈sc.names,y.2=.free->∃c,X.env.cells.lookup y.1=al c:=λy hy hk=>I.ok.has y.1 (S.fr y hy hk);obtain⟨cl,rA,lX,tG⟩:=gn SV;refine Ab (Bv (ER (use:=al (Pv (.Name x px) X.env)) (Q:=λ_ s'=>SP X Z D0 .next s') rfl hs rA S.kind S.loc (aR (hi Z s σ H _ I h) λv s1 h1=>aR h1 λYq s2 h2=>?_)) (λ_ s' hq=>Ae (Ae hq)) λ_ _ e=>e);obtain⟨it,fp,tn,J,H2,rfl,I2,T,MY,f2,hW⟩:=h2;refine zP (RR:=λacc C=>compPost (ii X.prog X.w) X.A X.xe (al (Pv (.Name x px) X.env)) (λ_ s'=>SP X Z D0 .next s') acc C) (Q:=λx H1=>gG i x σ H1 D0.nx) hc S hg hf he lX tG I2 T MY f2 hW λD C m s' H' I' q hn F=>?_;show f8 _ X.A (Pv (.Name x px) X.env (.ref D)) _ _ _;refine wpAny_assign_Name (qO (v:=.ref D) I' hN tF (.inl hx) rfl (λGZ I'' SI=>?_) (.inr hx));obtain⟨a,SI,ha⟩:=SI;have haC:C≠a:=by
  rcases ha with z|z
  .rw[z];exact F.hL
  .exact BA (F.cl _ _ z)
 refine⟨m,hn.sameBut SI haC,λh' í=>⟨_,H',?_,q⟩⟩;exact I''.turned (it:=C) (t':=GZ.toks) (λb o hb e=>(í.2 b hb).trans e) F.hn F.hL (.inr F.ab) F.cl F.pn
end
end L2
variable{b:BL}{tl:L2.TE}
namespace L2
section
def fY:bz X (.builtin "isinstance") (λxs H Q=>∃x c t b,xs=[x,.ty c]/\i6 X.K H x t/\AG X.K t (.type c)=al b/\Q (.bl b) H):=by
 intro Z s σ H xs us Q I r h;obtain⟨x,c,t,b,rfl,ty,hk,q⟩:=h;obtain⟨u,w',rfl,ru,G0⟩:=vals2 r;cases (G0);exact Hw I ru ty hk λtk=>⟨.bl b,H,I.tok _,rfl,q⟩
def Ha(hu:X.A.units<FM):fy X (r6 .NotEq) (λx y H Q=>∃p q xs,x=.ref p/\y=.ref q/\cL X.K H p xs/\cL X.K H q []/\Q (.bl (!xs.isEmpty)) H):=by
 intro Z s σ H x y v u Q I rx ry h;obtain⟨p,q,xs,rfl,rfl,hp,hq,k⟩:=h;cases rx;cases ry;obtain⟨ao,r,pl,hz⟩:=I.list hp;obtain⟨bX,r2,VI,hz2⟩:=I.list hq;cases r2;cases xs with
 |nil=>
  cases r;exact ED (FX (e:=λ_=>true) pl.isList VI.isList rfl hu λj h1=>absurd h1 (by simp)) ⟨.bl false,H,I,rfl,k⟩
 |cons y ys=>
  have hl:=r.length;exact ED (Ei pl.isList VI.isList (by simp at hl ⊢;intro z;subst z;simp at hl) hu) ⟨.bl true,H,I,rfl,k⟩
def LX{bs:O Bool}:∀{us:O ce},Vals (bs.map V.bl) us->us=bs.map C9:=by
 induction bs with
 |nil=>intro us r;rw[E7]at r;cases r;rfl
 |cons n ns ih=>
  intro us r;cases r with
  |cons r1 r2=>
   cases r1;rw[ih r2];rfl
def yR(hc:X.calm=true):bz X (.builtin "all") (λxs H Q=>∃(p:db) (bs:O Bool),xs=[.ref p]/\cL X.K H p (bs.map V.bl)/\Q (.bl (bs.all id)) H):=by
 intro Z s σ H xs us Q I r h;obtain⟨p,bs,rfl,hp,q⟩:=h;obtain⟨u,rfl,ru⟩:=vals1 r;cases ru;obtain⟨ao,rv,pl,hz⟩:=I.list hp;have eb:=LX rv;subst eb;have hl:=pl.isList;have lV:p<s.heap.objs.size:=by obtain⟨_,e,_⟩:=hl;exact Ai e
 refine call_all_walk (EE hl ?_);refine⟨s.heap.objs.size,[s.heap.objs.size,p],[s.heap.objs.size],(bs.map C9).toArray.size,_,_,λi=>(bs[i]?).getD true,rfl,Walks.list (A:=X.A.in1) (I.ok.hd hc) _ p (AB lV) (bs.map C9).toArray,
  ⟨⟨_,Al _ rfl,rfl,rfl⟩,hl.push _⟩,λi v s' Q' E' hP hQ=>?_,λh' tk hk=>?_⟩
 .have WX:(bs.map C9)[i]?=al v:=by simpa using hP
  rw[An]at WX;cases e:bs[i]? with
  |none=>rw[e]at WX;cases WX
  |some b=>
   rw[e]at WX;cases WX;simp only[e]at hQ;exact Bl hQ
 .have e:((AN (bs.map C9).toArray.size).all λi=>(bs[i]?).getD true)=bs.all id:=by
   rw[Ag,Am];exact LSm.range_all bs
  rw[e];exact⟨.bl (bs.all id),H,I.kept (LSm.kept_iter hk),rfl,q⟩
def mV(l:db)(items:Array ce)(n:Nat)(b:db)(gY:Array ce)(n2:Nat)(dd:Option db)(sl:Array (Option ce))(Yx:¬(!items.isEmpty&&Builtin.List.listTooLong (items.size+gY.size))=true)(nJ:items.size<=sizeLine)(uM:items.size+gY.size<=sizeLine+1):Meets (GE.«list.extend» ⟨[.ref l,.ref b],[]⟩) (λ_ R s=>s.heap.get? l=al {cls:=.type "list",dict:=bn,data:=.seq items n,slots:=#[]}/\s.heap.get? b=al {cls:=.type "tuple",dict:=dd,data:=.seq gY n2,slots:=sl}/\R (.ok (.ret AJ)) {s with heap:=s.heap.update l (CB λx=>x++gY),toks:=s.toks}):=
 .of_wp λprog w A R s h=>by
  obtain⟨hp,g,d,tk,os⟩:=s;obtain⟨hl,hb,h⟩:=h;have f5:=DK;
  wp_walk using (DR hl rfl),BU hl,BU hb;exact⟨_,rfl,h⟩
def Jy(K:Aa):V->O V->Hp->VK->Prop:=λx vs H Q=>∃l b xs zs,x=.ref l/\vs=[.ref b]/\H l=al (.lst xs)/\dh K H b zs/\xs.length+zs.length<=sizeLine/\Q .br (upd H l (.lst (xs++zs)))
theorem xN:GD X "list.extend" (Jy X.K):=by
 intro Z s σ H x vs v us Q I rx rv h;obtain⟨l,b,xs,zs,rfl,rfl,hH,hB,hz,q⟩:=h;cases rx;obtain⟨u,rfl,ru⟩:=rv.one;cases ru;obtain⟨z,ao,n,r,hl,e⟩:=I.jX hH;obtain⟨bX,r2,⟨⟨cls,dd,data,sl⟩,e2,hc,n2,hd⟩,z2⟩:=I.tuple hB;subst hc hd;have Oq:=r2.length;have hsz:ao.toArray.size+bX.toArray.size<=sizeLine:=by rw[Ag,Ag];lia
 have o6:¬(!ao.toArray.isEmpty&&Builtin.List.listTooLong (ao.toArray.size+bX.toArray.size))=true:=by
  rw[gB hsz,Ew];exact Bq
 refine FB En ⟨_,e,rfl⟩ DV (DJ _ _)
  (mV l ao.toArray n b bX.toArray n2 dd sl o6 (by rw[Ag];lia) ∅) ⟨e,e2,?_⟩
 refine⟨.br,_,I.xT hH e (by simp) (r.append r2) ?_,rfl,q⟩;rw[Ah];lia
def Its(x:Str):It:=⟨λi _=>i<x.cps.size,λi H v H'=>H'=H/\∃c,x.cps[i]?=al c/\v=.str ⟨#[c]⟩,λi _=>x.cps.size<=i⟩
def xb{K:Aa}(it:db)(x:Str)(t:Tok)(ty:String)(zT:ty="str_ascii_iterator"\/ty="str_iterator"):Turn P w K tg (Its x) [it] it (λi h=>h.IsStrIter it ty x t i/\i<=x.cps.size) where
 mem:=by simp
 obj:=λi h st b hb=>by
  have e:b=it:=by simpa using hb
  subst e;obtain⟨⟨o,e,c,d⟩,_⟩:=st;exact⟨o,e,λv z=>by rw[d]at z;cases z⟩
 keep:=λi h h' st k=>⟨let ⟨o,ho,r⟩:=st.1;⟨o,k it (by simp) o ho,r⟩,st.2⟩
 item:=by
  intro X hP hw hK hc i Z s σ H E I hf st hg;subst hP hw hK;obtain⟨f0,f1,f2,f3,f4,f5⟩:=hf it (by simp);have Qn:i<x.cps.size:=hg;obtain⟨st,_⟩:=st;rcases zT with rfl|rfl
  .refine wpAny_pyNext_ascii_item st (c:=x.cps[i]) (by simp[Qn]) λh' zh sb=>?_;have I1:Inv X Z σ H {s with heap:=h',toks:=s.toks+1}:=I.turned (λb o hb e=>(sb.2 b hb).trans e) f0 f1 f3 f4 f5;obtain⟨o,e,c,d⟩:=id zh;exact⟨_,rfl,vL e c d ⋯ ⟨.str ⟨#[x.cps[i]]⟩,H,I1,⟨_,rfl⟩,⟨rfl,_,by simp[Qn],rfl⟩,⟨zh,Qn⟩,λb hb=>(hf b hb).1⟩⟩
  .refine wpAny_pyNext_wide_item st (c:=x.cps[i]) (by simp[Qn]) λh' zh sb=>?_;obtain⟨o,e,c,d⟩:=id zh;exact⟨_,rfl,vL e c d ⋯ ⟨.str ⟨#[x.cps[i]]⟩,H,(I.turned (λb o hb e=>(sb.2 b hb).trans e) f0 f1 f3 f4 f5),⟨_,rfl⟩,⟨rfl,_,by simp[Qn],rfl⟩,⟨zh,Qn⟩,λb hb=>(hf b hb).1⟩⟩
 done:=by
  intro X hP hw hK hc i Z s σ H E I hf st hg;obtain⟨f0,f1,f2,f3,f4,f5⟩:=hf it (by simp);obtain⟨st,_⟩:=st;have hn:x.cps[i]?=bn:=by
   have Qn:x.cps.size<=i:=hg;simp[Qn]
  rcases zT with rfl|rfl
  .exact wpAny_pyNext_ascii_end (I.ok.hd hc) st hn λh' eb=>⟨rfl,I.turned (λb o hb e=>eb b o hb e) f0 f1 f3 f4 f5⟩
  .exact wpAny_pyNext_wide_end (I.ok.hd hc) st hn λh' eb=>⟨rfl,I.turned (t':=s.toks) (λb o hb e=>eb b o hb e) f0 f1 f3 f4 f5⟩
 self:=λ_ _ _ _ _ st h=>by
  obtain⟨st,_⟩:=st;rcases zT with rfl|rfl
  .exact wpAny_pyIter_striter_ascii st h
  .exact wpAny_pyIter_striter_wide st h
def aaj(tl:TE):TI:=λσ H R=>tl σ H λx H1=>∃z,x=.str z/\R (Its z) H1
def RC{l:o0}(hl:PE X l tl):PI X tg l (aaj tl):=by
 intro Z s σ H R I h;refine aR (hl Z s σ H _ I h) λv s1 ⟨x,H1,I1,r1,q1⟩=>?_;obtain⟨z,e,q⟩:=q1;subst e;obtain⟨t,rfl⟩:=r1;have fin:∀ty zT o,(s1.heap.push o).IsStrIter s1.heap.objs.size ty z t 0->PIE X Z σ tg R (.ref s1.heap.objs.size) {s1 with heap:=s1.heap.push o}:=λty zT o st=>by
  refine⟨s1.heap.objs.size,[s1.heap.objs.size],_,_,H1,rfl,I1.kept λb o e=>Ad _ e,xb _ z t ty zT,⟨st,Bn _⟩,λb hb=>?_,q⟩;have e:b=s1.heap.objs.size:=by simpa using hb
  subst e;exact I1.yx (Aj _) (I1.aK.fresh (Aj _))
 cases ha:z.cps.all (· < 128)
 .exact wpAny_pyIter_wide ha (fin _ (.inr rfl) _ ⟨_,Al _ rfl,rfl,rfl⟩)
 .exact wpAny_pyIter_ascii ha (fin _ (.inl rfl) _ ⟨_,Al _ rfl,rfl,rfl⟩)
end
section
variable{lo hi:o0}{th:TE}
def S1(to tl th:TE):TG:=λv σ H Q=>to σ H λx H1=>tl σ H1 λi H2=>th σ H2 λj H3=>∃l b xs ys a c,x=.ref l/\v=.ref b/\i=.int a/\j=.int c/\H3 l=al (.lst xs)/\H3 b=al (.lst ys)/\l≠b/\0<=a/\a<=c/\c<=xs.length/\xs.length+ys.length<=sizeLine/\
 Q σ (upd H3 l (.lst (xs.take a.toNat++ys++xs.drop c.toNat)))
def JQ(ho:PE X o to)(hl:PE X lo tl)(hh:PE X hi th)(ha:∀v,Pv (.Subscript o (.Slice (al lo) (al hi) bn p2) pos) X.env v=(do
   let ov <- u8 [v] (pc o X.env)
   let iv <- u8 [v,ov] (pc (.Slice (al lo) (al hi) bn p2) X.env)
   KF pos
   u8 [v,ov,iv] (SB ov iv v)
   release [iv,v,ov] []):=by intro _;rfl):PG X (.Subscript o (.Slice (al lo) (al hi) bn p2) pos) (S1 to tl th):=by
 intro Z s σ H v u Q I r h;refine Ab (A4 (aR (ho Z s σ H _ I h) λov s1 ⟨x,H1,I1,r1,q1⟩=>?_));refine Ab (A4 (wpAny_Slice ?_));refine aR (hl Z s1 σ H1 _ I1 q1) λvl s2 ⟨i,H2,I2,r2,q2⟩=>aR (hh Z s2 σ H2 _ I2 q2) λvu s3 ⟨j,H3,I3,r3,q3⟩=>Ae ?_;obtain⟨l,b,xs,ys,a,c,rfl,rfl,rfl,rfl,hH,hB,IB,h0,Ut,hc,hz,q⟩:=q3;cases r;cases r1;refine Ab (BW (Ab (A4 (GU (I3.kept λb ob q=>Ad _ q) hH hB IB (Heap.IsSliceOf.new ..) r2 r3 h0 Ut hc hz λs' I'=>?_))));exact wpAny_release ⟨σ,_,I',q⟩
end
end L2
variable{xs:O L2.V}{k':Nat}{bD:Cc}
namespace L2
def jM(l:db)(H H':Hp):Prop:=∀b u,b≠l->H b=al u->H' b=al u
def gw{p:db}(h:H p=bn)(o:HO):dW H (upd H p o):=λb u q=>by rw[af (a6 q h)];exact q
def GX{p:db}(o:HO):jM p H (upd H p o):=λb u n q=>by rw[af n];exact q
def jV(H:Hp)(o:HO)(Q:VK):Prop:=∀p H',dW H H'->H' p=al o->H p=bn->Q (.ref p) H'
def jV.at{o:HO}{Q:VK}(h:jV H o Q)(p:db)(hp:H p=bn):Q (.ref p) (upd H p o):=h p _ (gw hp o) aw hp
def uV(H:Hp)(l:db)(o:HO)(Q:Hp->Prop):Prop:=∀H',jM l H H'->H' l=al o->Q H'
def uV.at{o:HO}{Q:Hp->Prop}(h:uV H l o Q):Q (upd H l o):=h _ (GX o) aw
def fy.mono{f:ce->ce->Sem ce}{r:R2}(h:fy X f r)(hr:∀x y H Q,r' x y H Q->r x y H Q):fy X f r':=λZ s σ H x y v u Q I rx ry q=>h Z s σ H x y v u Q I rx ry (hr _ _ _ _ q)
def bz.mono{f:ce}{r r':O V->Hp->VK->Prop}(h:bz X f r)(hr:∀xs H Q,r' xs H Q->r xs H Q):bz X f r':=λZ s σ H xs us Q I rx q=>h Z s σ H xs us Q I rx (hr _ _ _ q)
def GD.mono{id:String}{r r':V->O V->Hp->VK->Prop}(h:GD X id r)(hr:∀x xs H Q,r' x xs H Q->r x xs H Q):GD X id r':=λZ s σ H x xs v us Q I rx rv q=>h Z s σ H x xs v us Q I rx rv (hr _ _ _ _ q)
def Io.mono{r r':Mc}(h:Io X r)(hr:∀o i v H Q,r' o i v H Q->r o i v H Q):Io X r':=λZ s σ H o i v ov iv u Q I ro ri rv q=>h Z s σ H o i v ov iv u Q I ro ri rv (hr _ _ _ _ _ q)
def TV.mono{r r':V->Option Int->Option Int->Hp->VK->Prop}(h:TV X r)(hr:∀x lo hi H Q,r' x lo hi H Q->r x lo hi H Q):TV X r':=λZ s σ H x v vl vu lo hi sl Q I rx hs pl pu q=>h Z s σ H x v vl vu lo hi sl Q I rx hs pl pu (hr _ _ _ _ _ q)
section
variable{t:TA}
def UW(t:TA):TE:=λσ H Q=>t σ H λxs H1=>xs.length<=sizeLine/\jV H1 (.tup xs) Q
def U4(t:TA):TE:=λσ H Q=>t σ H λxs H1=>xs.length<=sizeLine/\jV H1 (.lst xs) Q
def zE{x1}(h:PA X es t):PE X (.Tuple es x1 pos) (UW t):=by
 intro Z s σ H Q I hq;refine wpAny_Tuple_spliced (aR (h pos Z s σ H _ I hq) λus s1 ⟨xs,H1,I1,r,z,q⟩=>⟨by rw[<- r.length];exact z,?_⟩);have hf:=I1.aK.fresh (Aj _);refine⟨.ref s1.heap.objs.size,upd H1 s1.heap.objs.size (.tup xs),I1.laid (λb u e=>Ad _ e) (Aj _) ?_,rfl,q.at _ hf⟩;exact⟨z,us,r,⟨_,Al _ rfl,rfl,_,rfl⟩,_,Al _ rfl,rfl⟩
def zF(h:PA X es t):PE X (.List es pos) (U4 t):=by
 intro Z s σ H Q I hq;refine wpAny_List_spliced (aR (h pos Z s σ H _ I hq) λus s1 ⟨xs,H1,I1,r,z,q⟩=>⟨by rw[<- r.length];exact z,?_⟩);have hf:=I1.aK.fresh (Aj _);refine⟨.ref s1.heap.objs.size,upd H1 s1.heap.objs.size (.lst xs),I1.laid (λb u e=>Ad _ e) (Aj _) ?_,rfl,q.at _ hf⟩;exact⟨z,us,0,r,Al _ rfl⟩
def Q3:TE:=λ_ H Q=>jV H (.dK []) Q
def JW:PE X (.Dict [] [] pos) Q3:=λZ s σ H Q I h=>JV Z s σ H Q I λp hp=>h.at p hp
def PX(K:Aa):R2:=λx y H Q=>match x with
 |.int i=>∃j,y=.int j/\Q (.int (i+j)) H
 |.str i=>∃j,y=.str j/\i.length+j.length<=sizeLine/\Q (.str (i++j)) H
 |.ref a=>(∃b xs zs,y=.ref b/\H a=al (.lst xs)/\H b=al (.lst zs)/\xs.length+zs.length<=sizeLine/\jV H (.lst (xs++zs)) Q)\/PY K x y H Q
 |_=>False
def NJ:fy X (ww .Add) (PX X.K):=by
 refine((J3.or xF).or (RM.or zJ)).mono λx y H Q h=>?_;cases x with
 |int i=>obtain⟨j,rfl,q⟩:=h;exact .inl (.inl ⟨i,j,rfl,rfl,q⟩)
 |str i=>obtain⟨j,rfl,hl,q⟩:=h;exact .inl (.inr ⟨i,j,rfl,rfl,hl,q⟩)
 |ref a=>
  rcases h with⟨b,xs,zs,rfl,h1,h2,hz,q⟩|h
  .exact .inr (.inl ⟨a,b,xs,zs,rfl,rfl,h1,h2,hz,λp hp=>q.at p hp⟩)
  .exact .inr (.inr h)
 |_=>exact h.elim
def NF:fy X (ww .Mult) (rI Gc λi j=>.int (i*j)):=Yh λ_ _ _ _ _ _ _ hc q=>mul_int q hc
def PU(K:Aa):V->Option Int->Option Int->Hp->VK->Prop:=λx lo hi H Q=>∃a xs,x=.ref a/\cL K H a xs/\jV H (.lst (HY xs lo hi)) Q
def Ji:TV X (PU X.K):=M4.mono λx lo hi H Q ⟨a,xs,e,h,q⟩=>⟨a,xs,e,h,λp hp=>q.at p hp⟩
def yP:bz X (.type "list") (λxs H Q=>∃p ys,xs=[.ref p]/\(cL X.K H p ys\/dh X.K H p ys)/\jV H (.lst ys) Q):=ug.mono λxs H Q ⟨p,ys,e,h,q⟩=>⟨p,ys,e,h,λl hl=>q.at l hl⟩
def wG:bz X (.type "tuple") (λxs H Q=>∃p ys,xs=[.ref p]/\cL X.K H p ys/\jV H (.tup ys) Q):=jK.mono λxs H Q ⟨p,ys,e,h,q⟩=>⟨p,ys,e,.inl ⟨h,λl hl=>q.at l hl⟩⟩
def Jz:V->O V->Hp->VK->Prop:=λx vs H Q=>∃l xs y,x=.ref l/\vs=[y]/\H l=al (.lst xs)/\xs.length<sizeLine/\uV H l (.lst (xs++[y])) (Q .br)
def oK:GD X "list.append" Jz:=Hf.mono λx xs H Q ⟨l,ys,y,e1,e2,h,hz,q⟩=>⟨l,ys,y,e1,e2,h,hz,q.at⟩
def G3(K:Aa):V->O V->Hp->VK->Prop:=λx vs H Q=>∃l b xs zs,x=.ref l/\vs=[.ref b]/\H l=al (.lst xs)/\dh K H b zs/\xs.length+zs.length<=sizeLine/\uV H l (.lst (xs++zs)) (Q .br)
def vm:GD X "list.extend" (G3 X.K):=xN.mono λx xs H Q ⟨l,b,ys,zs,e1,e2,h1,h2,hz,q⟩=>⟨l,b,ys,zs,e1,e2,h1,h2,hz,q.at⟩
def Vx:V->O V->Hp->VK->Prop:=λx vs H Q=>∃l xs y,x=.ref l/\vs=[]/\H l=al (.lst (xs++[y]))/\uV H l (.lst xs) (Q y)
def N1:GD X "list.pop" Vx:=R8.mono λx xs H Q ⟨l,ys,y,e1,e2,h,q⟩=>⟨l,ys++[y],y,e1,e2,h,by simp,by rw[List.dropLast_concat];exact q.at⟩
def Rn:Mc:=λo i v H Q=>∃p xs k j,o=.ref p/\i=.int k/\H p=al (.lst xs)/\vH xs.length k=al j/\uV H p (.lst (xs.set j v)) Q
def GV:Io X Rn:=set_list.mono λo i v H Q ⟨p,xs,k,j,e1,e2,h,hj,q⟩=>⟨p,xs,k,j,e1,e2,h,hj,q.at⟩
end
section
variable(K:Aa)(hK:X.K=K){a:o0}{t:TA}{name:Str}{Um:String}{r:V->O V->Hp->VK->Prop}
include hK
def tu:Mu X (rIx K):=hK▸Sw
def zK:fy X (ww .Add) (PX K):=hK▸NJ
def Jh:TV X (PU K):=hK▸Ji
def Rp(K:Aa):O V->Hp->VK->Prop:=λxs H Q=>∃x n,xs=[x]/\XS K x H n/\Q (.int n) H
def eN:bz X (.builtin "len") (Rp K):=hK▸LR
def Jw(K:Aa):O V->Hp->VK->Prop:=λxs H Q=>∃p ys,xs=[.ref p]/\(cL K H p ys\/dh K H p ys)/\jV H (.lst ys) Q
def yO:bz X (.type "list") (Jw K):=hK▸yP
def VE(K:Aa):O V->Hp->VK->Prop:=λxs H Q=>∃(p:db) (bs:O Bool),xs=[.ref p]/\cL K H p (bs.map V.bl)/\Q (.bl (bs.all id)) H
def Ij(hc:X.calm=true):bz X (.builtin "all") (VE K):=hK▸yR hc
def Ro(K:Aa):R2:=λx y H Q=>∃p q xs,x=.ref p/\y=.ref q/\cL K H p xs/\cL K H q []/\Q (.bl (!xs.isEmpty)) H
def xD(hu:X.A.units<FM):fy X (r6 .NotEq) (Ro K):=hK▸Ha hu
def Zl(K:Aa)(ta:TE):TT:=λσ H Q=>ta σ H λx H'=>∃k,TQ K x H' k/\Q k H'
def qU(ha:PE X a ta)(he:∀Ä,isTrue a X.env Ä=(do let v <- Ä;KF a.pos;u8 [v] (truthy v))):PT X a (Zl K ta):=hK▸JG ha he
def Nz(pa:PlainAttrs T)(slot:Slot T name Um)(zT:typeOf (.builtin Um)=pure (.type "method_descriptor"))(hm:Y4 X Um r)(ho:PE X o to)(cD:‹sB o name X.env (pc o X.env)=pc o X.env›)(dP:‹Pc Á bD›):PE X (.Call (.Attribute o name Á) [] [] bD) (Va K T r to):=hK▸RF pa slot zT hm ho cD dP
def oA(pa:PlainAttrs T)(slot:Slot T name Um)(zT:typeOf (.builtin Um)=pure (.type "method_descriptor"))(hm:Y4 X Um r)(ho:PE X o to)(ha:PA X (e::es) t)(cD:‹sB o name X.env (pc o X.env)=pc o X.env›)(o7:‹UH X bD (e::es)›)(dP:‹Pc Á bD›)(hs:‹dX X e es›)(fg:‹fD X bD es›):PE X (.Call (.Attribute o name Á) (e::es) [] bD) (tBM K T r to t):=hK▸VO pa slot zT hm ho ha cD o7 dP hs fg
omit hK
end
structure Iu(P:sw)(w:wE)(K:Aa)(mg:Str->Option ce)(base:lw)(x:Str)(k:Nat)(ps:List Str)(sp:Sp) where
 f:db
 fd:wp
 ok:aY P w K mg base ip k f fd ps sp
 bi:Binds K fd ps []
 kp:AH K (.ref f)=true
 at':mg x=al (.ref f)
section
variable{x:Str}{t:TA}
def U9(sp:Sp)(t:TA):TE:=λσ H Q=>t σ H λvs H1=>sp vs H1 Q E0
def sM(G:Iu X.prog X.w X.K X.mg X.base x k ps sp)(hr:bf k' X.A)(hk:k<=k')(hg:Gl X x)(ha:PA X (e::es) t)(dQ: ~~~(dn x))(he:‹dX X e es›)(bH:‹fD X pos es›):PE X (.Call (.Name x p) (e::es) [] pos) (U9 sp t):=by
 intro Z s σ H Q I h;refine AL (eF I hg G.at' ?_ dQ);refine BS I.ok.mod.Kw G.kp (aR (ha pos Z s σ H _ I h) λus s1 ⟨vs,H1,I1,r,q⟩=>⟨I1.ek,?_⟩) he bH;refine oj G.ok (hr.mono hk) G.bi .nil mq I1 r ?_;rw[A3];exact q
end
section
theorem L8{xs:List α}(h0:0<=i)(h1:i<xs.length):∃v,dY xs i=al v/\xs[i.toNat]?=al v:=by
 have hk:i.toNat<xs.length:=by lia
 have q:=lj (by rw[Af hk]);have e:i.toNat=i:=by lia
 rw[e]at q;exact⟨_,q,by rw[Af hk]⟩
def Rm{K:Aa}(h:H l=al (.lst xs)):X4 K "list" (.ref l) H:=.inl ⟨rfl,_,cL.of h⟩
def Kh{j:Int}(h1:-18446744073709551616<i)(h2:i<18446744073709551616):Gc i j:=Pb.ok (.inl ⟨h1,h2⟩)
def mul_r{j:Int}(h1:-18446744073709551616<j)(h2:j<18446744073709551616):Gc i j:=Pb.ok (.inr ⟨h1,h2⟩)
end
def bA(h:n<=1000):n<=sizeLine:=Ed (qQ h)
section
variable(K:Aa)(hK:X.K=K)
include hK
def Rv(K:Aa):R2:=λx y H Q=>∃p q xs,x=.ref p/\y=.ref q/\cL K H p xs/\cL K H q []/\Q (.bl xs.isEmpty) H
def xE(hu:X.A.units<FM):fy X (r6 .Eq) (Rv K):=by
 subst hK;intro Z s σ H x y v u Q I rx ry h;obtain⟨p,q,xs,rfl,rfl,hp,hq,k⟩:=h;cases rx;cases ry;obtain⟨ao,r,pl,hz⟩:=I.list hp;obtain⟨bX,r2,VI,hz2⟩:=I.list hq;cases r2;cases xs with
 |nil=>
  cases r;refine Fh (Gd (e:=λ_=>true) pl.isList VI.isList rfl hu λj h1=>absurd h1 (by simp)) ?_;exact⟨.bl true,H,I,rfl,k⟩
 |cons y ys=>
  have hl:=r.length;refine Fh (EM pl.isList VI.isList (by simp at hl ⊢;intro z;subst z;simp at hl) hu) ?_;exact⟨.bl false,H,I,rfl,k⟩
omit hK
end
end L2
variable{items:Array AZ}{p1:Cc}
namespace L2
theorem Vals.u7:∀{xs:O V}{us:O ce},Vals xs us->Vals xs.reverse us.reverse
 |_,_,.nil=>.nil
 |_,_,.cons h t=>by rw[Dw,Dw];exact(Vals.u7 t).append (.cons h .nil)
def Sg:typeLookup (.type "list_reverseiterator") (Dj "__len__")=pure bn:=by kernel_rfl
def N5:typeLookup (.type "list_reverseiterator") (Dj "__length_hint__")=pure (al (.builtin "list_reverseiterator.__length_hint__")):=by kernel_rfl
def MZ:splitId "list_reverseiterator.__length_hint__"=al ("list_reverseiterator","__length_hint__"):=by kernel_rfl
def MW:isSubtype (.type "list_reverseiterator") (.type "list_reverseiterator")=pure true:=by kernel_rfl
def KU{r:db}{Q:Bool->gl->Prop}(h:s.heap.IsRevIter r l i)(q:Q false s):f8 (ii prog w) A (Builtin.List.listLengthHint (Ao r)) Q E s:=by
 refine Ab (Fj h.typeIs Sg ?_);refine Ab (Fj h.typeIs N5 ?_);dsimp only;rw[MZ];dsimp only;exact Ab (EX h.typeIs MW (Ae q))
def qp{r S:db}(hA:A.handled=bn)(h:s.heap.IsRevIter r l (items.size-1))(hl:s.heap.IsList l items)(IB:l≠r)(þ:S≠r)(hSl:S≠l)(hz:items.size<=sizeLine)(hS:s.heap.get? S=al {cls:=Co "list",data:=F3 #[]})(q:∀(h':lw) (tk:Nat) (acc:Array ce) (c:Nat),(∀b o,b≠S->b≠r->s.heap.get? b=al o->h'.get? b=al o)->h'.get? S=al {cls:=Co "list",data:=F3 acc c}->ItemsOf (λi v=>items[items.size-1-i]?=al v) acc items.size->R (.ok (.ret .none)) {s with heap:=h',toks:=tk}):
  f8 (ii prog w) A.in1 (GE.«list.__init__» {pos:=[Ao S,Ao r]})
   (λfin s'=>match fin with|Gm f=>R (Except.ok f) s'|Fin.again c'=>c'.quiet=true/\KM (ii prog w) A c' R s') (λe s'=>R (Except.error e) s') s:=by
 unfold GE.«list.__init__»;refine Ab (wpAny_listItems hS rfl ?_);refine Ab ?_;refine DR hS rfl ?_ (by simp) (by simp);refine Ab (Df ?_);have k1:∀b o,b≠S->s.heap.get? b=al o->(s.heap.update S (CB λ_=>#[])).get? b=al o:=λb o hb e=>by rw[Dl _ _ (BA hb)];exact e
 have hS1:=Cj (CB λ_=>#[]) hS rfl;generalize s.heap.update S (CB λ_=>#[])=h1 at k1 hS1 ⊢;have Yy:h1.IsRevIter r l (items.size-1):=let ⟨o,e,p⟩:=h;⟨o,k1 _ _ (BA þ) e,p⟩;have hl1:h1.IsList l items:=let ⟨o,e,p⟩:=hl;⟨o,k1 _ _ (BA hSl) e,p⟩;unfold Builtin.List.listExtendWith;refine Ab (wpAny_typeOf Yy.typeIs ?_);rw[if_neg (by
  have e1:Builtin.List.listSameRef (Ao S) (Ao r)=false:=by
   unfold Builtin.List.listSameRef;simpa using þ
  rw[e1];decide)]
 refine Ab (wpAny_pyIter_revIter Yy ?_);refine Ab (A4 (KU Yy ?_));refine Ae ⟨plainId_quiet F.plain_extend_loop _,?_⟩;refine codeAny_extend_loopS (Walks.toS (Walks.listRev (A:=A.in1) hA r l IB items)) hz S (by simp[þ,hSl]) .none items.size 0 _ #[] _ (Nat.sub_zero _) (Bn _) ⟨Bn _,by simpa using Yy,hl1⟩ hS1 (ItemsOf.nil _) ?_;intro s' acc c mv e io;rw[mv.eq_with];exact q s'.heap s'.toks acc c (λb o n1 n2 e'=>mv.heap b o (by simp[n1,n2]) (k1 b o n1 e')) e io
def qE{r:db}(hA:A.handled=bn)(h:s.heap.IsRevIter r l (items.size-1))(hl:s.heap.IsList l items)(IB:l≠r)(hz:items.size<=sizeLine)(q:∀(h':lw) (tk:Nat) (acc:Array ce) (c:Nat),(∀b o,b≠r->s.heap.get? b=al o->h'.get? b=al o)->h'.get? s.heap.objs.size=al {cls:=Co "list",data:=F3 acc c}->ItemsOf (λi v=>items[items.size-1-i]?=al v) acc items.size->Q (.ref s.heap.objs.size) {s with heap:=h',toks:=tk}):f8 (ii prog w) A (call (Co "list") [Ao r]) Q E s:=by
 have lr:=let ⟨_,e,_⟩:=h;Ai e;have ll:=let ⟨_,e,_⟩:=hl;Ai e;refine callType_codes F.called_list (F.typeCall_list_1 _) F.entry_list_init (code_list_new (Q₁:=λv s₁=>v=.ref s.heap.objs.size/\s₁={s with heap:=s.heap.push {cls:=Co "list",data:=F3 #[]}}) _ ⟨rfl,rfl⟩) ?_;rintro obj s₁ ⟨rfl,rfl⟩;refine⟨⟨_,Al _ rfl,rfl⟩,F.args_list_init_2 _ _,?_⟩;have kp:∀b o,s.heap.get? b=al o->(s.heap.push {cls:=Co "list",data:=F3 #[]}).get? b=al o:=λb o e=>Ad _ e;refine qp hA (let ⟨o,e,p⟩:=h;⟨o,kp _ _ e,p⟩) (let ⟨o,e,p⟩:=hl;⟨o,kp _ _ e,p⟩) IB (λz=>by rw[z]at lr;exact AM _ lr) (λz=>by rw[z]at ll;exact AM _ ll) hz (Al _ rfl) ?_;intro h' tk acc c k e io;exact⟨rfl,q h' tk acc c (λb o n e'=>k b o (λz=>by rw[z]at e';exact AM _ (Ai e')) n (kp b o e')) e io⟩
def tLR(K:Aa)(te:TE):TE:=λσ H Q=>te σ H λx H1=>∃p ys,x=.ref p/\cL K H1 p ys/\jV H1 (.lst ys.reverse) Q
section
variable(K:Aa)(hK:X.K=K){q1 q2:Pos}
include hK
theorem xC(hc:X.calm=true)(SQ:Gl X "list")(SM:X.mg "list"=bn)(SO:Gl X "reversed")(SK:X.mg "reversed"=bn)(he:PE X e te)(nJ:‹lf [.Call (.Name "reversed" q1) [e] [] q2] X.env=(false,pc (.Call (.Name "reversed" q1) [e] [] q2) X.env)::lf [] X.env›)(uM:‹dX X e []›):PE X (.Call (.Name "list" p1) [.Call (.Name "reversed" q1) [e] [] q2] [] p2) (tLR K te):=by
 intro Z s σ H Q I h;subst hK;refine AL (gh I SQ SM boot_list ?_ ⋯ ⋯);refine Bd ?_ nJ rfl;refine A6 ?_;refine AL (gh I SO SK boot_reversed ?_ ⋯ ⋯);refine Bd ?_ uM rfl;rw[uM];refine A6 (aR (he Z s σ H _ I h) λu s1 ⟨x,H1,I1,r1,pa,ys,ex,hS,q⟩=>BK ?_);subst ex;cases r1;obtain⟨ao,rv,pl,hz⟩:=I1.list hS;have Â:=rv.length;have lp:=let ⟨_,e,_⟩:=pl.isList;Ai e;refine call_reversed_list pl.isList ?_;refine BK ?_;have kp:∀b o,s1.heap.get? b=al o->(s1.heap.push (revObj pa (ao.toArray.size-1))).get? b=al o:=λb o e=>Ad _ e;refine qE (I1.ok.hd hc) ⟨_,Al _ rfl,rfl,rfl⟩ (let ⟨o,e,p⟩:=pl.isList;⟨o,kp _ _ e,p⟩) (λz=>by rw[z]at lp;exact AM _ lp) (by rw[Ag];lia) ?_;intro h' tk acc c k e io;have ea:acc=ao.reverse.toArray:=by
  obtain⟨z1,z2⟩:=io;apply Array.ext
  .rw[z1,Ag,Ag,C2]
  .intro j h1 h2;have:=z2 j acc[j] (Array.getElem?_eq_getElem h1);rw[Ag]at this;have hj:j<ao.length:=by rw[z1,Ag]at h1;exact h1
   rw[List.getElem?_toArray]at this;have e3:ao.reverse[j]?=al acc[j]:=by rw[List.getElem?_reverse hj];exact this
   rw[DM];exact(Option.some.inj (((Af (by rw[C2];exact hj)).symm.trans e3))).symm
 subst ea;have uM:s1.heap.objs.size<=(s1.heap.push (revObj pa (ao.toArray.size-1))).objs.size:=by simp
 exact⟨.ref _,upd H1 _ (.lst ys.reverse),I1.laid (λb o eb=>k b o (λz=>by rw[z]at eb;exact AM _ (Ai eb)) (kp b o eb)) uM ⟨by rw[C2];exact hz,ao.reverse,c,rv.u7,e⟩,rfl,q.at _ (I1.aK.fresh uM)⟩
end
end L2
variable{y:BJ}
namespace My
def Wd(x:Str):Prop:=1<=x.length/\x.length<=8/\∀c∈x.cps.toList,97<=c/\c<123
def Part(x:Str)(n:Nat):Prop:=x.length<=n/\∀c∈x.cps.toList,97<=c/\c<123
theorem Part.append{x:Str}{m:Nat}(a:Part x m)(b:Part y n):Part (x++y) (m+n):=by
 refine⟨?_,λc hc=>?_⟩
 .rw[B5];have:=a.1;have:=b.1;lia
 .rw[Fy,D8]at hc;rcases C7.mp hc with h|h
  .exact a.2 c h
  .exact b.2 c h
theorem qq{d st:Int}(h:st=1\/st=3\/st=5\/st=7\/st=9\/st=11)(hn:n<=26):((AN n).map λk:Nat=>al (97+((d+st*(0+(k:Int))) % 26).toNat)).Nodup:=by
 unfold List.Nodup;rw[EH];refine List.Pairwise.imp_of_mem ?_ Dx;intro a b ha hb WW hz;have ý:=Bj.mp hb;have KO:=Option.some.inj hz;rcases h with rfl|rfl|rfl|rfl|rfl|rfl<;>lia
def sT{g:α->β}{l:List α}(h:(l.map g).Nodup):l.Nodup:=(EH.mp h).imp λh e=>h (congrArg g e)
def GK(x y:Str)(c:Nat):(x++⟨#[c]⟩++y).cps[x.length]?=al c:=by
 show((x.cps++#[c])++y.cps)[x.cps.size]?=al c;rw[Array.getElem?_append_left (by simp),Array.getElem?_append_right (Aj _)];simp
def xU:∀k:_root_.Fin 26,dY ("abcdefghijklmnopqrstuvwxyz":Str).cps.toList (k.val:Int)=al (97+k.val):=by decide +kernel
theorem Hn{n:Int}(h0:0<=n)(h1:n < 26):dY ("abcdefghijklmnopqrstuvwxyz":Str).cps.toList n=al (97+n.toNat):=by
 have e:=xU ⟨n.toNat,by lia⟩;have e2:n.toNat=n:=by lia
 rw[e2]at e;exact e
def J4{c:Nat}(h0:97<=c)(h1:c<123):Part ⟨#[c]⟩ 1:=by
 refine⟨Aj _,λd hd=>?_⟩;have:d=c:=by simpa using hd
 subst this;exact⟨h0,h1⟩
theorem MJ{x:Str}{c:Nat}(a:Part x 2)(b:Part y 5)(h0:97<=c)(h1:c<123):Wd (x++⟨#[c]⟩++y):=by
 have q:=(a.append (J4 h0 h1)).append b;refine⟨?_,q.1,q.2⟩;rw[B5,B5];show 1<=x.length+1+y.length;lia
inductive Tr where
 |leaf (x:Str)
 |node (l r:Tr)
def Tr.aF:Tr->O Str
 |.leaf x=>[x]
 |.node l r=>l.aF++r.aF
def Tr.size:Tr->Nat
 |.leaf _=>1
 |.node l r=>l.size+r.size+1
def Tr.depth:Tr->Nat
 |.leaf _=>0
 |.node l r=>max l.depth r.depth+1
def Tr.Ws(t:Tr):Prop:=∀x∈t.aF,Wd x
theorem Tr.jZ:∀t:Tr,1<=t.aF.length
 |.leaf _=>Aj _
 |.node l r=>by have:=l.jZ;show 1<=(l.aF++r.aF).length;rw[Ah];lia
theorem Tr.pL:∀t:Tr,t.depth<t.aF.length
 |.leaf _=>Ce 0
 |.node l r=>by
  have h1:=l.pL;have h2:=r.pL;have h4:=r.jZ;show max l.depth r.depth+1<(l.aF++r.aF).length;rw[Ah];lia
theorem Tr.size_eq:∀t:Tr,t.size+1=2*t.aF.length
 |.leaf _=>rfl
 |.node l r=>by
  have h1:=l.size_eq;have h2:=r.size_eq;show l.size+r.size+1+1=2*(l.aF++r.aF).length;rw[Ah];lia
def oZ:∀k:_root_.Fin 26,(!(Builtin.Str.occurrences ("abcdefghijklmnopqrstuvwxyz":Str) ⟨#[97+k.val]⟩ 0 ("abcdefghijklmnopqrstuvwxyz":Str).length 1).isEmpty)=true:=by decide +kernel
theorem yg{c:Nat}(h0:97<=c)(h1:c < 123):(!(Builtin.Str.occurrences ("abcdefghijklmnopqrstuvwxyz":Str) ⟨#[c]⟩ 0 ("abcdefghijklmnopqrstuvwxyz":Str).length 1).isEmpty)=true:=by
 have e:=oZ ⟨c-97,by lia⟩;have e2:97+(c-97)=c:=by lia
 simp only[e2]at e;exact e
def bP(ts:O Tr):Nat:=(ts.map Tr.size).sum
def bt(a b:O Tr):bP (a++b)=bP a+bP b:=by unfold bP;rw[BH,List.sum_append]
def du(t:Tr):bP [t]=t.size:=by simp[bP]
theorem Tr.size_pos:∀t:Tr,1<=t.size
 |.leaf _=>Aj _
 |.node l r=>by show 1<=l.size+r.size+1;lia
theorem lN:∀ts:O Tr,ts.length<=bP ts
 |[]=>Aj _
 |t::r=>by have:=lN r;have:=t.size_pos;show r.length+1<=t.size+bP r;lia
end My
variable{σ:L2.St}{i:Nat}
namespace L2
def fJ{t:db}{x:ce}(h:s.heap.IsTupleIter it t i)(ht:s.heap.IsTuple t items)(hx:items[i]?=al x)(q:∀h':lw,h'.IsTupleIter it t (i+1)->CC it s.heap h'->Q x {s with heap:=h'}):f8 (ii prog w) A (Builtin.SmallTypes.nextOf (.ref it)) Q E s:=by
 unfold Builtin.SmallTypes.nextOf;refine Ab (Bt h.typeIs Cg (Cd Cg h.typeIs Eb ?_ (DQ _)));obtain⟨o,ho,hc,hd⟩:=id h;obtain⟨ot,î,htc,n,ë⟩:=id ht;show f8 _ _ (field (.ref it) 0 >>= λseq=>_) _ _ s;refine Ab (AV ho hd rfl ?_);refine Ab (AV ho hd rfl ?_);refine Ab (BM î ë ?_);show f8 _ _ (match items[i]? with|some x=>(do Op (.ref it) 1 (re (i+1));ret x)|none=>_) _ _ s;rw[hx];refine Ab (Dp ho hd (show 1<2 by decide) ?_);refine Ae ⟨x,rfl,Ae (q _ ⟨_,Cj _ ho (by rw[Obj.isFreed_of_fields (Obj.data_mapFields hd _)]),by rw[Obj.cls_mapFields];exact hc,by rw[Obj.data_mapFields hd];rfl⟩ (CC.update ..))⟩
def MX{Q:α->gl->Prop}(hA:A.handled=bn)(q:∀(h':lw) (e:db),(∀b o,s.heap.get? b=al o->h'.get? b=al o)->(∃o,h'.get? e=al o/\o.cls=.type "StopIteration")->E (.ref e) {s with heap:=h'}):f8 (ii prog w) A (Builtin.SmallTypes.stopIteration (α:=α)) Q E s:=by
 refine Ab ?_;refine Ab (Dr ?_ ⋯);refine Ab (CP rfl ?_);refine BN ?_ (sizeOk_excFields ..);unfold raiseNew;refine Ab (wpAny_handled ?_);rw[hA];refine wpAny_throw (q _ _ (λb o e=>Ad _ (Ad _ e)) ⟨_,Al _ rfl,rfl⟩)
def gC{t:db}(hA:A.handled=bn)(h:s.heap.IsTupleIter it t i)(ht:s.heap.IsTuple t items)(hx:items[i]?=bn)(q:∀(h':lw) (e:db),Heap.ExtBut it s.heap h'->(∃o,h'.get? e=al o/\o.cls=.type "StopIteration")->E (.ref e) {s with heap:=h'}):f8 (ii prog w) A (Builtin.SmallTypes.nextOf (.ref it)) Q E s:=by
 unfold Builtin.SmallTypes.nextOf;refine Ab (Bt h.typeIs Cg (Cd Cg h.typeIs Eb ?_ (DQ _)));obtain⟨o,ho,hc,hd⟩:=id h;obtain⟨ot,î,htc,n,ë⟩:=id ht;show f8 _ _ (field (.ref it) 0 >>= λseq=>_) _ _ s;refine Ab (AV ho hd rfl ?_);refine Ab (AV ho hd rfl ?_);refine Ab (BM î ë ?_);show f8 _ _ (match items[i]? with|some x=>(do Op (.ref it) 1 (re (i+1));ret x)|none=>(do rule _;Op (.ref it) 0 .none;Builtin.SmallTypes.stopIteration)) _ _ s;rw[hx];refine Ab (Dc ?_);refine Ab (Dp ho hd (show 0<2 by decide) ?_);refine MX hA λh' e k ex=>q h' e (λb o n eb=>k b o ?_) ex;rw[(CC.update _ _ _).2 b n];exact eb
def Inv.nX{t':Nat}{o:HO}(I:Inv X Z σ H s)(hf:∀b∈ch,qJ X Z H b)(k:∀b u,b∉ch->s.heap.get? b=al u->h'.get? b=al u)(hp:s.heap.objs.size<=a)(new:bC X.prog X.w (upd H a o) h' a o):Inv X Z σ (upd H a o) {s with heap:=h',toks:=t'}:=by
 have hn:=I.aK.fresh hp;have P6:∀b u,H b=al u->b∉ch:=λb u e z=>by rw[(hf b z).1]at e;cases e
 refine I.step (λb hb=>⟨(hf b hb).2.2.2.1,(hf b hb).2.1,(hf b hb).2.2.2.2.1,(hf b hb).2.2.2.2.2⟩) (λb u _ _ hc e _=>k b u hc e) (λb u _ _ hc e _=>⟨u.slots,k b u hc e⟩)
  (λb u _ e n=>by rw[af (AB (Au (Ai e) hp))];exact n) (λb u hc e=>⟨u,k b u hc e⟩) (λb xs e=>by rw[af (a6 e hn)];exact e) (λb u xs e=>by rw[af (a6 e hn)];exact e)
  (λb ps e=>⟨#[],by rw[af (a6 e hn),e];simp⟩) (λm hm=>?_) (λb u e=>?_) I.bare
 .obtain⟨o',es,ep,ho,r⟩:=hm;exact⟨o',es,ep,k _ o' (λz=>(hf _ z).2.1 rfl) ho,r⟩
 .by_cases hb:b=a
  .subst hb;rw[aw]at e;cases e;exact new
  .rw[af hb]at e;refine(I.aK b u e).lB (λc v hc q=>k c v ?_ q) (λc q=>by rw[af (a6 q hn)];exact q) λc xs q=>by rw[af (a6 q hn)];exact q
   rcases hc with z|z
   .rw[z];exact P6 b u e
   .exact P6 c _ z
def Inv.rX{t':Nat}(I:Inv X Z σ H s)(hf:∀b∈ch,qJ X Z H b)(k:∀b u,b∉ch->s.heap.get? b=al u->h'.get? b=al u):Inv X Z σ H {s with heap:=h',toks:=t'}:=by
 have P6:∀b u,H b=al u->b∉ch:=λb u e z=>by rw[(hf b z).1]at e;cases e
 refine I.step (λb hb=>⟨(hf b hb).2.2.2.1,(hf b hb).2.1,(hf b hb).2.2.2.2.1,(hf b hb).2.2.2.2.2⟩) (λb u _ _ hc e _=>k b u hc e) (λb u _ _ hc e _=>⟨u.slots,k b u hc e⟩)
  (λ_ _ _ _ n=>n) (λb u hc e=>⟨u,k b u hc e⟩) (λ_ _ e=>e) (λ_ _ _ e=>e) (λb ps e=>⟨#[],by rw[e];simp⟩) (λm hm=>?_) (λb u e=>?_) I.bare
 .obtain⟨o',es,ep,ho,r⟩:=hm;exact⟨o',es,ep,k _ o' (λz=>(hf _ z).2.1 rfl) ho,r⟩
 .refine(I.aK b u e).lB (λc v hc q=>k c v ?_ q) (λ_ q=>q) λ_ _ q=>q;rcases hc with z|z
  .rw[z];exact P6 b u e
  .exact P6 c _ z
def kg(h:Vals xs us):∀{i:Nat}{x:V},xs[i]?=al x->∃u,us[i]?=al u/\RelV x u:=by
 induction h with
 |nil=>intro i x e;simp at e
 |cons r t ih=>
  intro i x e;cases i with
  |zero=>simp at e;subst e;exact⟨_,rfl,r⟩
  |succ i=>exact ih (by simpa using e)
end L2
variable{e:AW}{Ï:AZ}{Ò:O BL}{kk:Nat}
namespace L2
def m6{E:ce->gl->Prop}{t:db}{x:ce}(IC:e≠it)(Yw:t≠e)(Om:t≠it)(hz:IsEnum s.heap e it i Ï)(hi:s.heap.IsTupleIter it t i)(ht:s.heap.IsTuple t items)(hx:items[i]?=al x)(q:∀(h':lw) (tk:Nat),IsEnumOut h' e it (i+1:Nat) x s.heap.objs.size->h'.IsTupleIter it t (i+1)->IsPair h' s.heap.objs.size (.int i s.toks) x->(∀c o,c≠e->c≠it->s.heap.get? c=al o->h'.get? c=al o)->Q (.ref s.heap.objs.size) {s with heap:=h',toks:=tk}):f8 (ii prog w) A (GE.«enumerate.__next__» {pos:=[.ref e]}) (λfin s'=>∃v,fin=Gm (Gk v)/\Q v s') E s:=by
 show f8 _ _ (field (.ref e) 2 >>= λr=>_) _ _ s;refine Ab (AV hz rfl rfl ?_);refine Ab (fJ hi ht hx λh1 j1 b1=>?_);have z1:=(b1.2 _ IC).trans hz;refine Ab (AV z1 rfl rfl ?_);refine Ab (AV z1 rfl rfl ?_);refine Ab (wpAny_mkInt ?_);refine Ab (Bc z1 (show 3 < 6 by decide) λh2 z2 b2=>?_);refine Ab (Bc z2 (show 4 < 6 by decide) λh3 z3 b3=>?_);refine Ab (Dr ?_ (by show 2<=sizeLine;decide));have kp:∀b o,h3.get? b=al o->(h3.push {cls:=.type "tuple",data:=.seq [CH i s.toks,x].toArray}).get? b=al o:=λb o e=>Ad _ e;have R6:(h3.push {cls:=.type "tuple",data:=.seq [CH i s.toks,x].toArray}).get? h3.objs.size=al {cls:=.type "tuple",data:=.seq #[.int i s.toks,x]}:=Al _ rfl;generalize h3.push {cls:=.type "tuple",data:=.seq [CH i s.toks,x].toArray}=h4 at kp R6 ⊢;have z4:=kp _ _ z3;refine Ab ?_;refine Ab (AV z4 rfl rfl ?_);refine Ae ?_;refine Ab (Dc ?_);refine Ab (AV z4 rfl rfl ?_);refine Ab (Bc z4 (show 5 < 6 by decide) λh5 z5 b5=>?_);refine Ab ?_;refine Ab (Bc z5 (show 0 < 6 by decide) λh6 z6 b6=>?_);refine Bc z6 (show 1 < 6 by decide) λh7 z7 b7=>?_;refine Ab (Df ?_);have S0:∀b,b≠e->h7.get? b=h4.get? b:=λb n=>(b7.2 b n).trans ((b6.2 b n).trans (b5.2 b n));have ne:s.heap.objs.size≠e:=λz=>by have:=Ai hz;rw[<- z]at this;exact AM _ this
 refine Ae ⟨.ref h3.objs.size,rfl,?_⟩;rw[(b3.1.trans (b2.1.trans b1.1))]at z7 R6 ⊢;refine q h7 _ ?_ ?_ ?_ ?_
 .exact z7
 .obtain⟨o,eo,p⟩:=j1;refine⟨o,?_,p⟩;rw[S0 _ (BA IC)];exact kp _ _ ((b3.2 _ (BA IC)).trans ((b2.2 _ (BA IC)).trans eo))
 .rw[IsPair,S0 _ ne];exact R6
 .intro c o n1 n2 ec;rw[S0 _ n1];exact kp _ _ (((λb n1 n2=>(b3.2 b n1).trans ((b2.2 b n1).trans (b1.2 b n2))) _ n1 n2).trans ec)
def pH{t:db}{Q:PySem.Fin->gl->Prop}(hA:A.handled=bn)(hz:IsEnum s.heap e it i Ï)(hi:s.heap.IsTupleIter it t i)(ht:s.heap.IsTuple t items)(hx:items[i]?=bn)(q:∀(h':lw) (x:db),(∀c o,c≠it->s.heap.get? c=al o->h'.get? c=al o)->(∃o,h'.get? x=al o/\o.cls=.type "StopIteration")->E (.ref x) {s with heap:=h'}):f8 (ii prog w) A (GE.«enumerate.__next__» {pos:=[.ref e]}) Q E s:=by
 show f8 _ _ (field (.ref e) 2 >>= λr=>_) _ _ s;exact Ab (AV hz rfl rfl (Ab (gC hA hi ht hx λh' x k ex=>q h' x (λc o n e'=>k c o n e') ex)))
def ko{t:db}{x:ce}{Q:Option ce->gl->Prop}(IC:e≠it)(Yw:t≠e)(Om:t≠it)(hz:IsEnum s.heap e it i Ï)(hi:s.heap.IsTupleIter it t i)(ht:s.heap.IsTuple t items)(hx:items[i]?=al x)(q:∀(h':lw) (tk:Nat),IsEnumOut h' e it (i+1:Nat) x s.heap.objs.size->h'.IsTupleIter it t (i+1)->IsPair h' s.heap.objs.size (.int i s.toks) x->(∀c o,c≠e->c≠it->s.heap.get? c=al o->h'.get? c=al o)->Q (al (.ref s.heap.objs.size)) {s with heap:=h',toks:=tk}):f8 (ii prog w) A (pyNext (.ref e)) Q E s:=by
 have ty:s.TypeIs (.ref e) "enumerate":=⟨_,hz,rfl⟩;refine Ab (CJ (Bt ty CK (Cd CK ty E5 ?_ (EW _))));exact m6 IC Yw Om hz hi ht hx λh' tk a b c d=>Ae (q h' tk a b c d)
def lG{t:db}{Q:Option ce->gl->Prop}(hA:A.handled=bn)(hz:IsEnum s.heap e it i Ï)(hi:s.heap.IsTupleIter it t i)(ht:s.heap.IsTuple t items)(hx:items[i]?=bn)(q:∀h':lw,(∀c o,c≠it->s.heap.get? c=al o->h'.get? c=al o)->Q bn {s with heap:=h'}):f8 (ii prog w) A (pyNext (.ref e)) Q E s:=by
 have ty:s.TypeIs (.ref e) "enumerate":=⟨_,hz,rfl⟩;refine Ab (CJ (Bt ty CK (Cd CK ty E5 ?_ (EW _))));refine pH hA hz hi ht hx λh' x k ex=>?_;obtain⟨o,eo,hc⟩:=ex;exact Ab (EX ⟨o,eo,hc⟩ isSubtype_stop (Ae (q h' k)))
def mS(t:db)(items:Array ce):Meets (GE.«enumerate.__new__» {pos:=[.type "enumerate",.ref t]}) (λ_ R s=>s.heap.IsTuple t items/\
  ∀h':lw,IsEnum h' (s.heap.objs.size+1) s.heap.objs.size (0:Nat) .none->h'.IsTupleIter s.heap.objs.size t 0->(∀b o,s.heap.get? b=al o->h'.get? b=al o)->R (.ok (.ret (.ref (s.heap.objs.size+1)))) {s with heap:=h'}):=
 .of_wp λprog w A R s h=>by
  obtain⟨h1,q⟩:=h;refine Ab ?_;refine Ab (CP rfl ?_);refine Ab (CP sub_enumerate ?_);refine Ae ?_;refine Ab ?_;refine Ab (wpAny_stack_any λst=>Ae ?_);have fin:f8 (ii prog w) A.in1 (pyIter (.ref t) >>= λit=>(Builtin.SmallTypes.newRecord (.type "enumerate") (Builtin.SmallTypes.ownedTupleFields++[it,re 0,.none,.none]) >>= λr=>ret r)) (λfin s'=>∃v,fin=Gm (Gk v)/\R (Except.ok (Gk v)) s') (λe s'=>R (Except.error e) s') s:=by
   refine Ab (Es h1 ?_);have k1:∀b o,s.heap.get? b=al o->(s.heap.push {cls:=.type "tuple_iterator",data:=.fields #[.ref t,.int 0 0]}).get? b=al o:=λb o e=>Ad _ e;have g1:(s.heap.push {cls:=.type "tuple_iterator",data:=.fields #[.ref t,.int 0 0]}).get? s.heap.objs.size=al {cls:=.type "tuple_iterator",data:=.fields #[.ref t,.int 0 0]}:=Al _ rfl;have z1:(s.heap.push {cls:=.type "tuple_iterator",data:=.fields #[.ref t,.int 0 0]}).objs.size=s.heap.objs.size+1:=Bi ..;generalize s.heap.push {cls:=.type "tuple_iterator",data:=.fields #[.ref t,.int 0 0]}=uN at k1 g1 z1 ⊢;show f8 _ _ (newObj (.type "enumerate") (.fields #[.none,.bool false,.ref s.heap.objs.size,re 0,.none,.none]) >>= λr=>ret r) _ _ _;refine Ab (BN ?_ (by simp[sizeOk];decide));have g2:(uN.push {cls:=.type "enumerate",data:=.fields #[.none,.bool false,.ref s.heap.objs.size,re 0,.none,.none]}).get? uN.objs.size=al {cls:=.type "enumerate",data:=.fields #[.none,.bool false,.ref s.heap.objs.size,re 0,.none,.none]}:=Al _ rfl;refine Ae ⟨.ref uN.objs.size,rfl,?_⟩;rw[z1]at g2 ⊢;exact q _ g2 ⟨_,Ad _ g1,rfl,rfl⟩ λb o e=>Ad _ (k1 _ _ e)
  refine wpAny_ite_split (λ_=>?_) (λ_=>?_)
  .exact Ab (CP rfl fin)
  .exact Ab (CP rfl fin)
def yQ{t:db}(h1:s.heap.IsTuple t items)(q:∀h':lw,IsEnum h' (s.heap.objs.size+1) s.heap.objs.size (0:Nat) .none->h'.IsTupleIter s.heap.objs.size t 0->(∀b o,s.heap.get? b=al o->h'.get? b=al o)->Q (.ref (s.heap.objs.size+1)) {s with heap:=h'}):f8 (ii prog w) A (call (.type "enumerate") [.ref t]) Q E s:=
 callType_new F.called_enumerate ⋯ (F.typeCall_enumerate_1 _) (F.newCall_enumerate_1 _) (λo=>F.args_object_init_2 o _) F.entry_enumerate_new (mS t items) ⟨h1,λh' z i k=>⟨⟨_,z,rfl⟩,q h' z i k⟩⟩
def Ite(K:Aa)(a:db):It where
 go:=λi H=>∃xs x,dh K H a xs/\xs[i]?=al x
 Pg:=λi H v H'=>∃p x,v=.ref p/\H p=bn/\H'=upd H p (.tup [.int i,x])/\∀xs,dh K H a xs->xs[i]?=al x
 stop:=λi H=>∃xs,dh K H a xs/\xs.length<=i
theorem GP{K:Aa}{t:db}(IC:e≠it)(Yw:t≠e)(Om:t≠it):Turn P w K (.Tuple Ò kk pos) (Ite K t) [e,it] e (λi h=>(∃Ï,IsEnum h e it (i:Nat) Ï)/\h.IsTupleIter it t i) where
 mem:=by simp
 obj:=λi h st b hb=>by
  simp at hb;rcases hb with rfl|rfl
  .obtain⟨⟨_,e⟩,_⟩:=st;exact⟨_,e,λv z=>by cases z⟩
  .obtain⟨_,⟨o,e,_,d⟩⟩:=st;exact⟨o,e,λv z=>by rw[d]at z;cases z⟩
 keep:=λi h h' st k=>⟨let ⟨o,e'⟩:=st.1;⟨o,k e (by simp) _ e'⟩,let ⟨o,e',p⟩:=st.2;⟨o,k it (by simp) _ e',p⟩⟩
 item:=by
  intro X hP hw hK hc i Z s σ H E I hf st hg;subst hP hw hK;obtain⟨xs,x,hx,gx⟩:=hg;obtain⟨ao,rx,tx,_⟩:=I.tuple hx;obtain⟨u,gu,ru⟩:=kg rx gx;obtain⟨⟨Ï,hz⟩,hi⟩:=st;refine ko IC Yw Om hz hi tx (by simpa using gu) λh' tk zo j np k=>?_;refine⟨_,rfl,?_⟩;refine Et zo λh2 z2 b2=>?_;have le:=Ai hz;have li:=let ⟨_,e',_⟩:=hi;Ai e';have lt:∀b∈[e,it],b<s.heap.objs.size:=λb hb=>by
   simp at hb;rcases hb with rfl|rfl
   .exact le
   .exact li
  have Wi:∀b o,b∉[e,it]->s.heap.get? b=al o->h2.get? b=al o:=λb o hb e'=>by
   have KO:b≠e:=λq=>hb (by simp[q]);rw[b2.2 b KO];exact k b o KO (λq=>hb (by simp[q])) e'
  refine⟨.ref s.heap.objs.size,upd H s.heap.objs.size (.tup [.int i,x]),I.nX hf Wi (Aj _) ⟨by show 2<=sizeLine;decide,[.int i s.toks,u],.cons ⟨_,rfl⟩ (.cons ru .nil),⟨_,((b2.2 _ (λz=>AM _ (by have:=le;rw[<- z]at this;exact this))).trans np),rfl,_,rfl⟩,_,((b2.2 _ (λz=>AM _ (by have:=le;rw[<- z]at this;exact this))).trans np),rfl⟩,rfl,⟨_,x,rfl,(I.aK.fresh (Aj s.heap.objs.size)),rfl,λxs' h'=>by rw[I.i7 h' hx];exact gx⟩,⟨⟨_,z2⟩,let ⟨o,e',p⟩:=j;⟨o,(b2.2 _ (BA IC)).trans e',p⟩⟩,λb hb=>?_⟩;rw[af (AB (lt b hb))];exact(hf b hb).1
 done:=by
  intro X hP hw hK hc i Z s σ H E I hf st hg;subst hP hw hK;obtain⟨xs,hx,hl⟩:=hg;obtain⟨ao,rx,tx,_⟩:=I.tuple hx;have el:=rx.length;obtain⟨⟨Ï,hz⟩,hi⟩:=st;refine lG (I.ok.hd hc) hz hi tx (by simp;lia) λh' k=>⟨rfl,I.rX hf λb o hb e'=>k b o (λz=>hb (by simp[z])) e'⟩
 self:=λA i s Q E st h=>let ⟨_,e'⟩:=st.1;Dq e' h
end L2
namespace My
def Tr.post:Tr->O Tr
 |.leaf x=>[.leaf x]
 |.node l r=>l.post++r.post++[.node l r]
def Tr.iE:∀t:Tr,t.post.length=t.size
 |.leaf _=>rfl
 |.node l r=>by show(l.post++r.post++[_]).length=l.size+r.size+1;rw[Ah,Ah,l.iE,r.iE];rfl
def gz(ts:O Tr):O Tr:=(ts.map Tr.post).flatten
def gS(a b:O Tr):gz (a++b)=gz a++gz b:=by unfold gz;rw[BH,List.flatten_append]
def lI(t:Tr):gz [t]=t.post:=by simp[gz]
def G4(t u:Tr):gz [t,u]=t.post++u.post:=by simp[gz]
inductive Ent where
 |word (x:Str)
 |pair (a b:Nat)
def Tr.nd:Tr->Nat->O Ent
 |.leaf x,_=>[.word x]
 |.node l r,o=>l.nd o++r.nd (o+l.size)++[.pair (o+l.size-1) (o+l.size+r.size-1)]
def Tr.bb:∀(t:Tr) (o:Nat),(t.nd o).length=t.size
 |.leaf _,_=>rfl
 |.node l r,o=>by show(l.nd o++r.nd (o+l.size)++[_]).length=l.size+r.size+1;rw[Ah,Ah,l.bb,r.bb];rfl
def run:O Tr->O Ent->O Nat->Option (O Ent×O Nat)
 |[],À,ls=>al (À,ls)
 |.leaf x::k,À,ls=>run k (À++[.word x]) (À.length::ls)
 |.node _ _::k,À,b::a::ls=>run k (À++[.pair a b]) (À.length::ls)
 |.node _ _::_,_,_=>bn
theorem oi:∀(t:Tr) (k:O Tr) (À:O Ent) (ls:O Nat),run (t.post++k) À ls=run k (À++t.nd À.length) ((À.length+t.size-1)::ls)
 |.leaf x,k,À,ls=>rfl
 |.node l r,k,À,ls=>by
  have e1:(Tr.node l r).post++k=l.post++(r.post++(Tr.node l r::k)):=by show l.post++r.post++[_]++k=_;simp
  rw[e1,oi l,oi r];have e2:(À++l.nd À.length).length=À.length+l.size:=by rw[Ah,l.bb]
  rw[e2];show run k _ _=run k _ _;have e3:(À++l.nd À.length++r.nd (À.length+l.size)).length=À.length+(Tr.node l r).size-1:=by
   rw[Ah,Ah,l.bb,r.bb];show _=À.length+(l.size+r.size+1)-1;lia
  rw[e3];have e4:À++(Tr.node l r).nd À.length=À++l.nd À.length++r.nd (À.length+l.size)++[.pair (À.length+l.size-1) (À.length+l.size+r.size-1)]:=by
   show À++(l.nd À.length++r.nd (À.length+l.size)++[_])=_;simp
  rw[e4]
def G1(t:Tr):run t.post [] []=al (t.nd 0,[t.size-1]):=by
 have:=oi t [] [] [];rw[A3]at this;rw[this];show al ([]++t.nd 0,[0+t.size-1])=_;simp
end My
namespace L2
def XY(K:Aa)(a:db):It where
 go:=λi H=>∃xs x,cL K H a xs/\xs[i]?=al x
 Pg:=λi H v H'=>∃p x,v=.ref p/\H p=bn/\H'=upd H p (.tup [.int i,x])/\∀xs,cL K H a xs->xs[i]?=al x
 stop:=λi H=>∃xs,cL K H a xs/\xs.length<=i
theorem xf{K:Aa}{t:db}(IC:e≠it):Turn P w K (.Tuple Ò kk pos) (XY K t) [e,it] e (λi h=>(∃Ï,IsEnum h e it (i:Nat) Ï)/\h.IsListIter it t i) where
 mem:=by simp
 obj:=λi h st b hb=>by
  simp at hb;rcases hb with rfl|rfl
  .obtain⟨⟨_,e⟩,_⟩:=st;exact⟨_,e,λv z=>by cases z⟩
  .obtain⟨_,⟨o,e,_,d⟩⟩:=st;exact⟨o,e,λv z=>by rw[d]at z;cases z⟩
 keep:=λi h h' st k=>⟨let ⟨o,e'⟩:=st.1;⟨o,k e (by simp) _ e'⟩,let ⟨o,e',p⟩:=st.2;⟨o,k it (by simp) _ e',p⟩⟩
 item:=by
  intro X hP hw hK hc i Z s σ H E I hf st hg;subst hP hw hK;obtain⟨xs,x,hx,gx⟩:=hg;obtain⟨ao,rx,tx,_⟩:=I.list hx;obtain⟨u,gu,ru⟩:=kg rx gx;obtain⟨⟨Ï,hz⟩,hi⟩:=st;refine wpAny_pyNext_enum_item hz hi tx.isList (by simpa using gu) IC λh' zo j np _ k=>?_;refine⟨_,rfl,?_⟩;refine Et zo λh2 z2 b2=>?_;have le:=Ai hz;have li:=let ⟨_,e',_⟩:=hi;Ai e';have lt:∀b∈[e,it],b<s.heap.objs.size:=λb hb=>by
   simp only[Az,Cv,or_false]at hb;rcases hb with rfl|rfl
   .exact le
   .exact li
  have Wi:∀b o,b∉[e,it]->s.heap.get? b=al o->h2.get? b=al o:=λb o hb e'=>by
   have KO:b≠e:=λq=>hb (by simp[q]);rw[b2.2 b KO];exact k b o KO (λq=>hb (by simp[q])) e'
  refine⟨.ref s.heap.objs.size,upd H s.heap.objs.size (.tup [.int i,x]),I.nX hf Wi (Aj _) ⟨by show 2<=sizeLine;decide,[.int i s.toks,u],.cons ⟨_,rfl⟩ (.cons ru .nil),⟨_,((b2.2 _ (λz=>AM _ (by have:=le;rw[<- z]at this;exact this))).trans np),rfl,_,rfl⟩,_,((b2.2 _ (λz=>AM _ (by have:=le;rw[<- z]at this;exact this))).trans np),rfl⟩,rfl,⟨_,x,rfl,(I.aK.fresh (Aj s.heap.objs.size)),rfl,λxs' h'=>by rw[I.vw h' hx];exact gx⟩,⟨⟨_,z2⟩,let ⟨o,e',p⟩:=j;⟨o,(b2.2 _ (BA IC)).trans e',p⟩⟩,λb hb=>?_⟩;rw[af (AB (lt b hb))];exact(hf b hb).1
 done:=by
  intro X hP hw hK hc i Z s σ H E I hf st hg;subst hP hw hK;obtain⟨xs,hx,hl⟩:=hg;obtain⟨ao,rx,tx,_⟩:=I.list hx;have el:=rx.length;obtain⟨⟨Ï,hz⟩,hi⟩:=st;refine wpAny_pyNext_enum_end (I.ok.hd hc) hz hi tx.isList (by simp;lia) λh' k=>⟨rfl,I.rX hf λb o hb e'=>k b o (λz=>hb (by simp[z])) e'⟩
 self:=λA i s Q E st h=>let ⟨_,e'⟩:=st.1;Dq e' h
end L2
namespace My
def en:Tr->Nat->Nat->Ent
 |.leaf x,_,_=>.word x
 |.node l r,o,j=>if j<l.size then en l o j else if j<l.size+r.size then en r (o+l.size) (j-l.size) else .pair (o+l.size-1) (o+l.size+r.size-1)
def be:Tr->Nat->Nat->O Nat
 |.leaf _,o,_=>[o]
 |.node l r,o,j=>if j<l.size then be l o j else if j<l.size+r.size then be r (o+l.size) (j-l.size) else be l o (l.size-1)++be r (o+l.size) (r.size-1)
theorem oJ:∀(t:Tr) (o j:Nat),j<t.size->(t.nd o)[j]?=al (en t o j)
 |.leaf x,o,j,h=>by
  have:j=0:=by have:j<1:=h;lia
  subst this;rfl
 |.node l r,o,j,h=>by
  have es:(Tr.node l r).size=l.size+r.size+1:=rfl;have hn:(Tr.node l r).nd o=l.nd o++r.nd (o+l.size)++[.pair (o+l.size-1) (o+l.size+r.size-1)]:=rfl;have ln:=l.bb o;have rn:=r.bb (o+l.size);unfold en;by_cases c1:j<l.size
  .rw[if_pos c1,hn,CN,AU ∅];exact oJ l o j c1
  .rw[if_neg c1];by_cases c2:j<l.size+r.size
   .rw[if_pos c2,hn,CN,A1 ∅,AU ∅,ln];exact oJ r _ _ ∅
   .rw[if_neg c2,hn,A1 (by rw[Ah];lia),Ah,ln,rn];have:j-(l.size+r.size)=0:=by lia
    rw[this];rfl
theorem L0:∀(t:Tr) (o j:Nat),j<t.size->(∃x,en t o j=.word x/\be t o j=[o+j])\/∃a b,en t o j=.pair (o+a) (o+b)/\a<j/\b<j/\be t o j=be t o a++be t o b
 |.leaf x,o,j,h=>by
  have:j=0:=by have:j<1:=h;lia
  subst this;exact .inl ⟨x,rfl,rfl⟩
 |.node l r,o,j,h=>by
  have es:(Tr.node l r).size=l.size+r.size+1:=rfl;have lp:=l.size_pos;have rp:=r.size_pos;by_cases c1:j<l.size
  .have e1:en (.node l r) o j=en l o j:=by rw[en,if_pos c1]
   have e2:∀k,k<l.size->be (.node l r) o k=be l o k:=λk hk=>by rw[be,if_pos hk]
   rw[e1];rcases L0 l o j c1 with⟨x,q1,q2⟩|⟨a,b,q1,q2,q3,q4⟩
   .exact .inl ⟨x,q1,by rw[e2 j c1];exact q2⟩
   .exact .inr ⟨a,b,q1,q2,q3,by rw[e2 j c1,e2 a ∅,e2 b ∅];exact q4⟩
  .by_cases c2:j<l.size+r.size
   .have e1:en (.node l r) o j=en r (o+l.size) (j-l.size):=by rw[en,if_neg c1,if_pos c2]
    have e2:∀k,k<r.size->be (.node l r) o (l.size+k)=be r (o+l.size) k:=λk hk=>by
     rw[be,if_neg ∅,if_pos ∅];congr 1;lia
    have ej:j=l.size+(j-l.size):=by lia
    rw[e1];rcases L0 r (o+l.size) (j-l.size) ∅ with⟨x,q1,q2⟩|⟨a,b,q1,q2,q3,q4⟩
    .refine .inl ⟨x,q1,?_⟩;rw[ej,e2 _ ∅,q2];congr 1;lia
    .refine .inr ⟨l.size+a,l.size+b,?_,by lia,by lia,?_⟩
     .rw[q1,FT,FT]
     .rw[e2 a ∅,e2 b ∅,ej,e2 _ ∅,q4]
   .have ej:j=l.size+r.size:=by lia
    refine .inr ⟨l.size-1,l.size+r.size-1,?_,by lia,by lia,?_⟩
    .rw[en,if_neg c1,if_neg c2];congr 1<;>lia
    .rw[be,if_neg c1,if_neg c2,be,if_pos ∅,be,if_neg ∅,if_pos ∅];congr 2;lia
end My
variable{H1:L2.Hp}{ι:O AW}
namespace PL
section
variable{K:Aa}
def Me(K:Aa)(H:Hp)(a:db)(xs:O V):Prop:=(∃o,H a=al (.cE o (.lst xs)))\/
  ∃(o:Obj) (ao:Array ce) (n:Nat),K.lookup a=al o/\o.cls=.type "list"/\o.dict=bn/\o.data=.seq ao n/\ao.size<=sizeLine/\Vals xs ao.toList
def Me.sq(h:Me K H a xs):cL K H a xs:=h.elim (λh=>.inl (.inr h)) .inr
def abC(b:db)(h:lw):Prop:=∃(ns:O Int) (ao:O ce) (n:Nat),ns.length<=sizeLine/\Vals (ns.map V.int) ao/\h.get? b=al {cls:=.type "list",data:=.seq ao.toArray n}
def fw(H:Hp)(b:db):Prop:=H b=al (.ext (abC b))
def xk(h:∀p φ,H p=al (.ext φ)->H' p=al (.ext φ)):∀b,fw H b->fw H' b:=λ_ e=>h _ _ e
structure aW(K:Aa)(H H':Hp):Prop where
 t:∀p vs,H p=al (.tup vs)->H' p=al (.tup vs)
 z:∀p o u,H p=al (.cE o u)->H' p=al (.cE o u)
 x:∀b,fw H b->fw H' b
def aW.f{H H':Hp}(t:aW K H H')(p:db)(vs:O V)(h:Me K H p vs):Me K H' p vs:=h.elim (λ⟨o,h⟩=>.inl ⟨o,t.z _ _ _ h⟩) .inr
def aW.refl(H:Hp):aW K H H:=⟨λ_ _ h=>h,λ_ _ _ h=>h,λ_ h=>h⟩
def aW.trans(a:aW K H H1)(b:aW K H1 H2):aW K H H2:=⟨λp vs h=>b.t p vs (a.t p vs h),λp o w h=>b.z p o w (a.z p o w h),λp h=>b.x p (a.x p h)⟩
def _root_.L2.dW.dM(s:dW H H'):aW K H H':=⟨λp vs h=>s _ _ h,λp o u h=>s _ _ h,xk λp φ h=>s _ _ h⟩
inductive PV where
 |br|bl (b:Bool)|int (i:Int)|str (x:Str)|tup (l:List PV)|ref (n:Nat)|ty (n:String)|cl (l:List PV)|dv (ks vs:List PV)|ob (ns:List Str) (l:List PV)|hand
def kP:Key->PV
 |.inl i=>.int i
 |.inr x=>.str x
inductive PO where
 |lst (xs:List PV)|dk (ay:List (Key×PV))|dt (ay:List (List Key×PV))|opq (φ:List V->Prop)
abbrev PH:=O PO
abbrev uQ:=O (Option PV)
mutual
inductive VR(K:Aa)(ι:List db)(H:Hp):V->PV->Prop
 |br:VR K ι H .br .br
 |bl (b:Bool):VR K ι H (.bl b) (.bl b)
 |int (i:Int):VR K ι H (.int i) (.int i)
 |str (x:Str):VR K ι H (.str x) (.str x)
 |ty (n:String):VR K ι H (.ty n) (.ty n)
 |tup {p:db}{vs:List V}{l:List PV} (h:H p=al (.tup vs)) (r:aD K ι H vs l):VR K ι H (.ref p) (.tup l)
 |ref {n:Nat}{a:db} (h:ι[n]?=al a):VR K ι H (.ref a) (.ref n)
 |cl {a:db}{vs:List V}{l:List PV} (h:Me K H a vs) (r:aD K ι H vs l):VR K ι H (.ref a) (.cl l)
 |dk {a:db}{o:Obj}{ay:List (Key×V)}{ks l:List PV} (h:H a=al (.cE o (.dK ay))) (e:ks=ay.map λkv=>kP kv.1) (r:aD K ι H (ay.map (·.2)) l):VR K ι H (.ref a) (.dv ks l)
 |dt {a:db}{o:Obj}{ay:List (List Key×V)}{ks l:List PV} (h:H a=al (.cE o (.dT ay))) (e:ks=ay.map λkv=>.tup (kv.1.map kP)) (r:aD K ι H (ay.map (·.2)) l):VR K ι H (.ref a) (.dv ks l)
 |ob {a C dx:db}{o:Obj}{fs:List (Str×V)}{ns:List Str}{l:List PV} (h:H a=al (.cE o (.ins C dx fs))) (c:GJ K C) (na:∀f∈ns,ed K C f) (e:ns=fs.map (·.1)) (r:aD K ι H (fs.map (·.2)) l):VR K ι H (.ref a) (.ob ns l)
 |hand {a:db} (h:fw H a):VR K ι H (.ref a) .hand
inductive aD(K:Aa)(ι:List db)(H:Hp):List V->List PV->Prop
 |nil:aD K ι H [] []
 |cons {v:V}{p:PV}{vs:List V}{ps:List PV} (r:VR K ι H v p) (t:aD K ι H vs ps):aD K ι H (v::vs) (p::ps)
end
section
variable{ι':O db}
mutual
theorem VR.mono(ht:aW K H H')(hi:∀(n:Nat) (a:db),ι[n]?=al a->ι'[n]?=al a):∀{v:V}{p:PV},VR K ι H v p->VR K ι' H' v p
 |_,_,.br=>.br
 |_,_,.bl b=>.bl b
 |_,_,.int i=>.int i
 |_,_,.str x=>.str x
 |_,_,.ty n=>.ty n
 |_,_,.tup h r=>.tup (ht.t _ _ h) (aD.mono ht hi r)
 |_,_,.cl h r=>.cl (ht.f _ _ h) (aD.mono ht hi r)
 |_,_,.dk h e r=>.dk (ht.z _ _ _ h) e (aD.mono ht hi r)
 |_,_,.dt h e r=>.dt (ht.z _ _ _ h) e (aD.mono ht hi r)
 |_,_,.ob h c na e r=>.ob (ht.z _ _ _ h) c na e (aD.mono ht hi r)
 |_,_,.ref h=>.ref (hi _ _ h)
 |_,_,.hand h=>.hand (ht.x _ h)
theorem aD.mono(ht:aW K H H')(hi:∀(n:Nat) (a:db),ι[n]?=al a->ι'[n]?=al a):∀{vs:O V}{ps:O PV},aD K ι H vs ps->aD K ι' H' vs ps
 |_,_,.nil=>.nil
 |_,_,.cons r t=>.cons (VR.mono ht hi r) (aD.mono ht hi t)
end
theorem aD.length:∀{vs:O V}{ps:O PV},aD K ι H vs ps->vs.length=ps.length
 |_,_,.nil=>rfl
 |_,_,.cons _ t=>by rw[Ap,Ap,aD.length t]
theorem aD.get:∀{vs:O V}{ps:O PV}{i:Nat}{p:PV},aD K ι H vs ps->ps[i]?=al p->∃v,vs[i]?=al v/\VR K ι H v p
 |_,_,_,_,.nil,e=>by simp at e
 |_,_,0,_,.cons r _,e=>by simp at e;subst e;exact⟨_,rfl,r⟩
 |_,_,i+1,p,.cons _ t,e=>by
  obtain⟨v,h1,h2⟩:=aD.get t (by simpa using e);exact⟨v,by simpa using h1,h2⟩
theorem aD.set{p:PV}(r:VR K ι H v p):∀{vs:O V}{ps:O PV} (i:Nat),aD K ι H vs ps->aD K ι H (vs.set i v) (ps.set i p)
 |_,_,_,.nil=>.nil
 |_,_,0,.cons _ t=>.cons r t
 |_,_,i+1,.cons q t=>.cons q (aD.set r i t)
theorem aD.append:∀{xs ys:O V}{us ws:O PV},aD K ι H xs us->aD K ι H ys ws->aD K ι H (xs++ys) (us++ws)
 |_,_,_,_,.nil,s=>s
 |_,_,_,_,.cons r t,s=>.cons r (aD.append t s)
theorem aD.take:∀{xs:O V}{us:O PV} (n:Nat),aD K ι H xs us->aD K ι H (xs.take n) (us.take n)
 |_,_,0,_=>.nil
 |_,_,_+1,.nil=>.nil
 |_,_,n+1,.cons r t=>.cons r (aD.take n t)
theorem aD.drop:∀{xs:O V}{us:O PV} (n:Nat),aD K ι H xs us->aD K ι H (xs.drop n) (us.drop n)
 |_,_,0,r=>r
 |_,_,_+1,.nil=>.nil
 |_,_,n+1,.cons _ t=>aD.drop n t
theorem aD.reverse:∀{xs:O V}{us:O PV},aD K ι H xs us->aD K ι H xs.reverse us.reverse
 |_,_,.nil=>.nil
 |_,_,.cons r t=>by rw[Dw,Dw];exact(aD.reverse t).append (.cons r .nil)
def aD.one{p:PV}(r:VR K ι H v p):aD K ι H [v] [p]:=.cons r .nil
end
structure Go(ι ι':List db)(H H':Hp):Prop where
 ext:∃m,ι'=ι++m
 new:∀a,a∈ι'->a∉ι->H a=bn
 keep:∀a o,a∉ι->H a=al o->H' a=al o
def Go.refl(ι:O db)(H:Hp):Go ι ι H H:=⟨⟨[],by simp⟩,λa h n=>absurd h n,λ_ _ _ h=>h⟩
def OR(K:Aa)(ι:O db)(H:Hp)(a:db):PO->Prop
 |.lst xs=>∃vs,H a=al (.lst vs)/\aD K ι H vs xs
 |.dk ay=>∃vs:O (Key×V),H a=al (.dK vs)/\vs.map (·.1)=ay.map (·.1)/\aD K ι H (vs.map (·.2)) (ay.map (·.2))
 |.dt ay=>∃vs:O (O Key×V),H a=al (.dT vs)/\vs.map (·.1)=ay.map (·.1)/\aD K ι H (vs.map (·.2)) (ay.map (·.2))
 |.opq φ=>∃vs,H a=al (.lst vs)/\φ vs
structure HR(K:Aa)(ι:List db)(H:Hp)(h:PH):Prop where
 nd:ι.Nodup
 len:ι.length=h.length
 obj:∀(n:Nat) (a:db) (o:PO),ι[n]?=al a->h[n]?=al o->OR K ι H a o
end
end PL
variable{a e:BL}
namespace PL
section
variable{K:Aa}
abbrev QV:=PV->PH->Prop
structure ME where
 run:uQ->PH->QV->Prop
 mono:∀{ps h}{Q Q':QV},(∀v h',Q v h'->Q' v h')->run ps h Q->run ps h Q'
structure MT where
 run:uQ->PH->(Bool->PH->Prop)->Prop
 mono:∀{ps h}{Q Q':Bool->PH->Prop},(∀v h',Q v h'->Q' v h')->run ps h Q->run ps h Q'
structure MA where
 run:uQ->PH->(List PV->PH->Prop)->Prop
 mono:∀{ps h}{Q Q':List PV->PH->Prop},(∀v h',Q v h'->Q' v h')->run ps h Q->run ps h Q'
structure ML where
 run:uQ->PH->(List PV->PH->Prop)->Prop
 mono:∀{ps h}{Q Q':List PV->PH->Prop},(∀v h',Q v h'->Q' v h')->run ps h Q->run ps h Q'
structure Src where
 items:List PV
 ok:PH->Prop
 fz:Bool
structure MI where
 run:uQ->PH->(Src->PH->Prop)->Prop
 mono:∀{ps h}{Q Q':Src->PH->Prop},(∀v h',Q v h'->Q' v h')->run ps h Q->run ps h Q'
structure PD where
 nx:uQ->PH->Prop
 rt:QV
 bk:uQ->PH->Prop
 ct:uQ->PH->Prop
structure PD.Le(D D':PD):Prop where
 nx:∀ps h,D.nx ps h->D'.nx ps h
 rt:∀v h,D.rt v h->D'.rt v h
 bk:∀ps h,D.bk ps h->D'.bk ps h
 ct:∀ps h,D.ct ps h->D'.ct ps h
structure MS where
 run:PD->uQ->PH->Prop
 mono:∀{D D' ps h},PD.Le D D'->run D ps h->run D' ps h
structure MG where
 run:PV->uQ->PH->(uQ->PH->Prop)->Prop
 mono:∀{v ps h}{Q Q':uQ->PH->Prop},(∀ps h,Q ps h->Q' ps h)->run v ps h Q->run v ps h Q'
def pQ(K:Aa)(ι:O db)(H:Hp)(Q:VK):QV:=λp h'=>∀ι' v H',Go ι ι' H H'->HR K ι' H' h'->VR K ι' H' v p->Q v H'
def PE.imp{t t':TE}(h:PE X e t)(f:∀σ H Q,t' σ H Q->t σ H Q):PE X e t':=λZ s σ H Q I q=>h Z s σ H Q I (f _ _ _ q)
def PT.imp{t t':TT}(h:PT X e t)(f:∀σ H Q,t' σ H Q->t σ H Q):PT X e t':=λZ s σ H Q I q=>h Z s σ H Q I (f _ _ _ q)
def PW.imp{t t':TT}(h:PW X e t)(f:∀σ H Q,t' σ H Q->t σ H Q):PW X e t':=λw Z s σ H Q I q=>h w Z s σ H Q I (f _ _ _ q)
def PA.imp{e:O o0}{t t':TA}(h:PA X e t)(f:∀σ H Q,t' σ H Q->t σ H Q):PA X e t':=λpos Z s σ H Q I q=>h pos Z s σ H Q I (f _ _ _ q)
def PS.imp{e:sK}{t t':TS}(h:PS X e t)(f:∀D σ H,t' D σ H->t D σ H):PS X e t':=λZ s σ H D I q=>h Z s σ H D I (f _ _ _ q)
def mf.imp{e:O sK}{t t':TS}(h:mf X e t)(f:∀D σ H,t' D σ H->t D σ H):mf X e t':=λZ s σ H D I q=>h Z s σ H D I (f _ _ _ q)
def PG.imp{t t':TG}(h:PG X e t)(f:∀v σ H Q,t' v σ H Q->t v σ H Q):PG X e t':=λZ s σ H v u Q I r q=>h Z s σ H v u Q I r (f _ _ _ _ q)
def PI.imp{t t':TI}(h:PI X tg e t)(f:∀σ H Q,t' σ H Q->t σ H Q):PI X tg e t':=λZ s σ H R I q=>h Z s σ H R I (f _ _ _ q)
section
abbrev P2:=PV->PV->PH->QV->Prop
structure M2 where
 f:P2
 mono:∀{x y h}{Q Q':QV},(∀v h',Q v h'->Q' v h')->f x y h Q->f x y h Q'
def M2.Ok(K:Aa)(r:R2)(m:M2):Prop:=∀{ι H h u v x y Q},HR K ι H h->VR K ι H u x->VR K ι H v y->m.f x y h (pQ K ι H Q)->r u v H Q
end
end
section
variable{K:Aa}
section
def iQ:∀{vs:O V}{l:O PV},aD K ι H vs l->(!l.isEmpty)=!vs.isEmpty
 |_,_,.nil=>rfl
 |_,_,.cons _ _=>rfl
structure MQ where
 run:uQ->PH->(Src->PH->Prop)->Prop
 mono:∀{ps h}{Q Q':Src->PH->Prop},(∀v h',Q v h'->Q' v h')->run ps h Q->run ps h Q'
end
end
section
structure MGs where
 run:List PV->uQ->PH->(uQ->PH->Prop)->Prop
 mono:∀{v ps h}{Q Q':uQ->PH->Prop},(∀ps h,Q ps h->Q' ps h)->run v ps h Q->run v ps h Q'
end
section
variable{K:Aa}
section
structure uR where
 f:List PV->PH->QV->Prop
 mono:∀{l h}{Q Q':QV},(∀v h',Q v h'->Q' v h')->f l h Q->f l h Q'
def uR.Ok(K:Aa)(r:O V->Hp->VK->Prop)(m:uR):Prop:=∀{ι H h vs l Q},HR K ι H h->aD K ι H vs l->m.f l h (pQ K ι H Q)->r vs H Q
end
end
end PL
variable{g':Int->Int->L2.V}{g:Int->Int->PL.PV}
namespace PL
section
variable{K:Aa}
def aI(g:Int->Int->PV):M2:=⟨λx y h Q=>match x,y with|.int i,.int j=>Q (g i j) h|_,_=>False,λf q=>by
 revert q
 split
 .exact f _ _
 .exact λz=>z⟩
def TN(C:Int->Int->Prop)(g:Int->Int->PV):M2:=⟨λx y h Q=>match x,y with|.int i,.int j=>C i j/\Q (g i j) h|_,_=>False,λf q=>by
 revert q
 split
 .exact λq=>⟨q.1,f _ _ q.2⟩
 .exact λz=>z⟩
def wM(hg:∀ι H i j,VR K ι H (g' i j) (g i j)):M2.Ok K (Ni g') (aI g):=by
 intro ι H h u v x y Q hr hu hv q;unfold aI at q;dsimp only at q;revert q
 split
 .intro q;cases hu;cases hv;exact⟨_,_,rfl,rfl,q ι _ H (Go.refl _ _) hr (hg _ _ _ _)⟩
 .exact AO
def uq{C:Int->Int->Prop}(hg:∀ι H i j,VR K ι H (g' i j) (g i j)):M2.Ok K (rI C g') (TN C g):=by
 intro ι H h u v x y Q hr hu hv q;unfold TN at q;dsimp only at q;revert q
 split
 .intro q;cases hu;cases hv;exact⟨_,_,rfl,rfl,q.1,q.2 ι _ H (Go.refl _ _) hr (hg _ _ _ _)⟩
 .exact AO
def xJ:=aI λi j=>.int (i-j)
def iH:=TN Gc λi j=>.int (i*j)
def oDiv:=TN Ml λi j=>.int (i / j)
def oMod:=TN (λ_ j=>0<j) λi j=>.int (i % j)
def qi:=TN Mj λi j=>.int (i ^ j.toNat)
def oLt:=aI λi j=>.bl (decide (i<j))
def oLe:=aI λi j=>.bl (decide (i<=j))
def ZU:=aI λi j=>.bl (decide (j<i))
def Yj:=aI λi j=>.bl (decide (j<=i))
section
def aD.gU:∀{vs:O V}{l:O PV},aD K ι H vs l->(vs=[]↔l=[])
 |_,_,.nil=>by simp
 |_,_,.cons _ _=>by simp
end
mutual
def PV.dat:PV->Bool
 |.tup l=>qD l
 |.ref _=>false
 |.ty _=>false
 |.cl _=>false
 |.dv _ _=>false
 |.ob _ _=>false
 |.hand=>false
 |_=>true
def qD:O PV->Bool
 |[]=>true
 |x::l=>x.dat&&qD l
end
end
section
variable{K:Aa}
section
def PV.rq:PV->Bool
 |.br=>true
 |_=>false
def Kb:M2:=⟨λx y h Q=>match y with|.br=>Q (.bl x.rq) h|_=>False,λf q=>by
 revert q
 split
 .exact f _ _
 .exact λz=>z⟩
def Hx{x:PV}(h:VR K ι H v x):decide (v=.br)=x.rq:=by cases h<;>simp[PV.rq]
def NV:M2.Ok K (λx y H Q=>y=.br/\Q (.bl (decide (x=.br))) H) Kb:=by
 intro ι H h u v x y Q hr hu hv q;cases hv with
 |br=>exact⟨rfl,q ι _ H (Go.refl _ _) hr (by rw[Hx hu];exact .bl _)⟩
 |_=>exact q.elim
end
end
end PL
variable{l:O PL.PV}
namespace PL
section
variable{K:Aa}
section
def Js{v':V}{w:ce}(h:RelV v w)(h':RelV v' w):v=v':=Option.some.inj (h.abs.symm.trans h'.abs)
end
section
variable{c:o0}
def mIx(a:MQ)(b:ME):ME:=⟨λps h Q=>a.run ps h λS h1=>b.run ps h1 λy h2=>match y with
 |.int k=>S.ok h2/\match dY S.items k with|some v=>Q v h2|none=>False
 |_=>False,λf q=>a.mono (λ_ _ q=>b.mono (λ_ _ q=>by
  revert q
  split
  .rintro⟨q0,q⟩;refine⟨q0,?_⟩;revert q
   split
   .exact f _ _
   .exact λz=>z
  .exact λz=>z) q) q⟩
def aD.dY(r:aD K ι H vs l){k:Int}{p:PV}(e:L2.dY l k=al p):∃v,L2.dY vs k=al v/\VR K ι H v p:=by
 unfold L2.dY at e ⊢;rw[r.length];cases z:vH l.length k with
 |none=>rw[z]at e;cases e
 |some j=>
  rw[z]at e;exact r.get e
def Ka:M2:=⟨λx y h Q=>match x,y with
 |.str z,.int k=>z.length<=sizeLine/\match L2.dY z.cps.toList k with|some c=>Q (.str ⟨#[c]⟩) h|none=>False
 |_,_=>False,λf q=>by
  revert q
  split
  .rintro⟨q0,q⟩;refine⟨q0,?_⟩;revert q
   split
   .exact f _ _
   .exact λz=>z
  .exact λz=>z⟩
def NU:M2.Ok K Rt Ka:=by
 intro ι H h u v x y Q hr hu hv q;unfold Ka at q;dsimp only at q;revert q
 split
 .rename_i z k;rintro⟨q0,q⟩;cases hu;cases hv;cases e:L2.dY z.cps.toList k with
  |none=>rw[e]at q;exact q.elim
  |some c=>rw[e]at q;exact⟨z,k,c,rfl,rfl,q0,e,q ι _ H (Go.refl _ _) hr (.str _)⟩
 .exact AO
def fu:uR:=⟨λl h Q=>match l with
 |[.str y]=>y.length<=sizeLine/\Q (.int y.length) h
 |[.tup l]=>Q (.int l.length) h
 |[.cl l]=>Q (.int l.length) h
 |[.ref n]=>match h[n]? with
  |some (.lst xs)=>Q (.int xs.length) h
  |_=>False
 |_=>False,λf q=>by
  revert q
  split
  .exact λq=>⟨q.1,f _ _ q.2⟩
  .exact f _ _
  .exact f _ _
  .split
   .exact f _ _
   .exact λz=>z
  .exact λz=>z⟩
def OY(K:Aa):uR.Ok K (Rp K) fu:=by
 intro ι H h vs l Q hr hv q;unfold fu at q;dsimp only at q;revert q
 split
 .intro q;cases hv with
  |cons x t=>cases t;cases x;exact⟨_,_,rfl,⟨q.1,rfl⟩,q.2 ι _ H (Go.refl _ _) hr (.int _)⟩
 .intro q;cases hv with
  |cons x t=>
   cases t;cases x with
   |tup e r=>exact⟨_,_,rfl,.inr ⟨_,dh.of e,r.length.symm⟩,q ι _ H (Go.refl _ _) hr (.int _)⟩
 .intro q;cases hv with
  |cons x t=>
   cases t;cases x with
   |cl e r=>exact⟨_,_,rfl,.inl ⟨_,e.sq,r.length.symm⟩,q ι _ H (Go.refl _ _) hr (.int _)⟩
 .rename_i n;cases hv with
  |cons x t=>
   cases t;cases x with
   | @ref _ a e=>
   split
   .rename_i xs hn;intro q;obtain⟨ws,e1,e2⟩:=hr.obj n a _ e hn;exact⟨_,_,rfl,.inl ⟨ws,cL.of e1,e2.length.symm⟩,q ι _ H (Go.refl _ _) hr (.int _)⟩
   .exact AO
 .exact AO
inductive Kd where
 |str|tup|int|bool
def Kd.name:Kd->String
 |.str=>"str" | .tup=>"tuple" | .int=>"int" | .bool=>"bool"
def Kd.is:Kd->PV->Bool
 |.str,.str _=>true
 |.tup,.tup _=>true
 |.int,.int _=>true
 |.int,.bl _=>true
 |.bool,.bl _=>true
 |_,_=>false
def VA(K:Aa):O V->Hp->VK->Prop:=λxs H Q=>∃x c t b,xs=[x,.ty c]/\(i6 K H x t\/(t=.type "tuple"/\∃a vs,x=.ref a/\dh K H a vs))/\AG K t (.type c)=al b/\Q (.bl b) H
def Ie(K:Aa)(hK:X.K=K):bz X (.builtin "isinstance") (VA K):=by
 subst hK;intro Z s σ H xs us Q I r h;obtain⟨x,c,t,b,rfl,ty|⟨rfl,a,vs,rfl,hT⟩,e,q⟩:=h
 .exact fY Z s σ H _ us Q I r ⟨x,c,t,b,rfl,ty,e,q⟩
 .obtain⟨u,w,rfl,r1,r2⟩:=vals2 r;cases r1;cases r2;obtain⟨ao,_,⟨o,h1,h2,_⟩,_⟩:=I.tuple hT;exact A5 FW I.ek ⟨o,h1,h2⟩ e (λz=>nomatch z) λtk=>⟨.bl b,H,I.tok _,rfl,q⟩
def fM(K:Aa):(∀k:Kd,AG K (.type "NoneType") (.type k.name)=al false)/\(∀k:Kd,AG K (.type "list") (.type k.name)=al false)/\(∀k:Kd,AG K (.type "dict") (.type k.name)=al false):=
 ⟨λk=>by cases k<;>kernel_rfl,λk=>by cases k<;>kernel_rfl,λk=>by cases k<;>kernel_rfl⟩
def Kv(K:Aa)(b:Bool)(k:Kd):AG K (.type "bool") (.type k.name)=al (k.is (.bl b)):=by cases k <;> kernel_rfl
def nF(K:Aa)(b:Int)(k:Kd):AG K (.type "int") (.type k.name)=al (k.is (.int b)):=by cases k <;> kernel_rfl
def zR(K:Aa)(b:Str)(k:Kd):AG K (.type "str") (.type k.name)=al (k.is (.str b)):=by cases k <;> kernel_rfl
def zQ(K:Aa)(b:O PV)(k:Kd):AG K (.type "tuple") (.type k.name)=al (k.is (.tup b)):=by cases k <;> kernel_rfl
def wJ:uR:=⟨λl h Q=>match l with|[.int i]=>Q (.int (if i<0 then -i else i)) h|_=>False,λf q=>by
 revert q
 split
 .exact f _ _
 .exact λz=>z⟩
def O0:uR.Ok K (λxs H Q=>∃i,xs=[.int i]/\Q (.int (if i<0 then -i else i)) H) wJ:=by
 intro ι H h vs l Q hr hv q;unfold wJ at q;dsimp only at q;revert q
 split
 .intro q;cases hv with
  |cons x t=>cases t;cases x;exact⟨_,rfl,q ι _ H (Go.refl _ _) hr (.int _)⟩
 .exact AO
def wI:uR:=⟨λl h Q=>match l with|[.int i]=>Q (.int i) h|[.bl k]=>Q (.int (if k then 1 else 0)) h|_=>False,λf q=>by
 revert q
 split
 .exact f _ _
 .exact f _ _
 .exact λz=>z⟩
def OZ:uR.Ok K (λxs H Q=>(∃i,xs=[.int i]/\Q (.int i) H)\/∃k,xs=[.bl k]/\Q (.int (if k then 1 else 0)) H) wI:=by
 intro ι H h vs l Q hr hv q;unfold wI at q;dsimp only at q;revert q
 split
 .intro q;cases hv with
  |cons x t=>cases t;cases x;exact .inl ⟨_,rfl,q ι _ H (Go.refl _ _) hr (.int _)⟩
 .intro q;cases hv with
  |cons x t=>cases t;cases x;exact .inr ⟨_,rfl,q ι _ H (Go.refl _ _) hr (.int _)⟩
 .exact AO
def L1:uR:=⟨λl h Q=>match l with|[.int i,.int j]=>Q (.int (if j > i then j else i)) h|_=>False,λf q=>by
 revert q
 split
 .exact f _ _
 .exact λz=>z⟩
def OX:uR.Ok K (λxs H Q=>∃i j,xs=[.int i,.int j]/\Q (.int (if j > i then j else i)) H) L1:=by
 intro ι H h vs l Q hr hv q;unfold L1 at q;dsimp only at q;revert q
 split
 .intro q;cases hv with
  |cons x t=>cases t with
   |cons y t=>cases t;cases x;cases y;exact⟨_,_,rfl,q ι _ H (Go.refl _ _) hr (.int _)⟩
 .exact AO
end
end
section
variable{K:Aa}
section
def Ju(K:Aa):O V->Hp->VK->Prop:=λxs H Q=>∃p ys,xs=[.ref p]/\((cL K H p ys/\jV H (.tup ys) Q)\/(dh K H p ys/\Q (.ref p) H))
def H9(K:Aa)(hK:X.K=K):bz X (.type "tuple") (Ju K):=by
 subst hK;exact jK.mono λxs H Q ⟨p,ys,e,h⟩=>⟨p,ys,e,h.imp (λ⟨h1,h2⟩=>⟨h1,λl hl=>h2.at l hl⟩) λz=>z⟩
theorem rG:∀{bs:O Bool}{vs:O V},aD K ι H vs (bs.map PV.bl)->vs=bs.map V.bl
 |[],_,h=>by cases h;rfl
 |b::bs,_,h=>by
  cases h with
  |cons x t=>cases x;rw[rG t];rfl
structure MQL where
 run:uQ->PH->(Src->PH->Prop)->Prop
 mono:∀{ps h}{Q Q':Src->PH->Prop},(∀v h',Q v h'->Q' v h')->run ps h Q->run ps h Q'
structure MO where
 run:uQ->PH->(Option Int->PH->Prop)->Prop
 mono:∀{ps h}{Q Q':Option Int->PH->Prop},(∀v h',Q v h'->Q' v h')->run ps h Q->run ps h Q'
def PO.imp{e:Option o0}{t t':TO}(h:L2.PO X e t)(f:∀σ H Q,t' σ H Q->t σ H Q):L2.PO X e t':=λZ s σ H Q I q=>h Z s σ H Q I (f _ _ _ q)
def yK(xs:O PV)(lo hi:Option Int):O PV:=(xs.drop (HT.qR xs.length 0 lo)).take (HT.qR xs.length xs.length hi-HT.qR xs.length 0 lo)
def aD.cut(r:aD K ι H vs l)(lo hi:Option Int):aD K ι H (HY vs lo hi) (yK l lo hi):=by
 unfold HY yK;rw[r.length];exact(r.drop _).take _
end
end
end PL
variable{e1:BL}{t1:L2.TE}{tp:Cc}
namespace PL
section
variable{K:Aa}
section
variable{c:o0}
def iR(lo:Int)(n:Nat):O PV:=(AN n).map λ(i:Nat)=>.int (lo+(i:Int))
def jk(lo:Int)(n:Nat):(iR lo n).length=n:=by unfold iR;simp
def lT{lo:Int}{p:PV}(h:(iR lo n)[i]?=al p):i<n/\p=.int (lo+i):=by
 unfold iR at h;rw[An]at h;cases z:(AN n)[i]? with
 |none=>rw[z]at h;cases h
 |some k=>
  rw[z]at h;obtain⟨h1,h2⟩:=Ak.mp z;simp at h1 h2;subst h2;exact⟨h1,(Option.some.inj h).symm⟩
def M3(i:Int):Prop:=-(2 ^ 62)<=i/\i<2 ^ 62
def Yn(m:MA):MI:=⟨λps h Q=>m.run ps h λl h1=>match l with|[.int j]=>M3 j/\Q ⟨iR 0 j.toNat,λ_=>True,false⟩ h1|_=>False,λf q=>m.mono (λl h1 q=>by
 revert q
 split
 .exact λq=>⟨q.1,f _ _ q.2⟩
 .exact λz=>z) q⟩
def fV(k:Nat):O PV->O PV
 |[]=>[]
 |x::l=>.tup [.int (k:Int),x]::fV (k+1) l
theorem eL:∀(k:Nat) (l:O PV),(fV k l).length=l.length
 |_,[]=>rfl
 |k,x::l=>by rw[fV,Ap,Ap,eL]
theorem jr:∀{k:Nat}{l:O PV}{i:Nat}{p:PV},(fV k l)[i]?=al p->∃x,l[i]?=al x/\p=.tup [.int ((k+i:Nat):Int),x]
 |_,[],_,_,h=>by simp[fV]at h
 |k,x::l,0,p,h=>by simp[fV]at h;subst h;exact⟨x,rfl,by simp⟩
 |k,x::l,i+1,p,h=>by
  obtain⟨y,h1,h2⟩:=jr (by simpa[fV]using h);exact⟨y,by simpa using h1,by rw[h2,show k+1+i=k+(i+1) by lia]⟩
def SE(K:Aa)(t1:TE):TI:=λσ H R=>t1 σ H λx H1=>∃a,x=.ref a/\(((∃xs,cL K H1 a xs)/\R (XY K a) H1)\/((∃xs,dh K H1 a xs)/\R (Ite K a) H1))
def JP{X:Cx}(K:Aa)(hK:X.K=K)(hg:Gl X "enumerate")(hm:X.mg "enumerate"=bn)(h1:PE X e1 t1)(nJ:‹dX X e1 []›):PI X (.Tuple Ò kk tp) (.Call (.Name "enumerate" p1) [e1] [] p2) (SE K t1):=by
 subst hK;intro Z s σ H R I h;refine AL (gh I hg hm boot_enumerate ?_ ⋯ ⋯);refine Bd ?_ nJ rfl;rw[nJ];refine A6 (aR (h1 Z s σ H _ I h) λu1 s1 ⟨x,H1,I1,r1,a,ex,hh⟩=>BK ?_);subst ex;cases r1;have d1:s1.heap.objs.size+1≠s1.heap.objs.size:=Nat.succ_ne_self _;rcases hh with⟨⟨xs,hx⟩,q⟩|⟨⟨xs,hx⟩,q⟩
 .obtain⟨ao,rx,tx,_⟩:=I1.list hx;refine call_enumerate_list tx.isList λh' ze hi _ k=>?_;refine Dq ze ?_;refine⟨_,_,_,_,H1,rfl,I1.kept k,xf d1,⟨⟨_,ze⟩,hi⟩,λc hc=>?_,q⟩;have Ó:s1.heap.objs.size<=c:=by
   simp at hc;rcases hc with rfl|rfl
   .exact Br _ _
   .exact Aj _
  exact I1.yx Ó (I1.aK.fresh Ó)
 .obtain⟨ao,rx,tx,_⟩:=I1.tuple hx;have l1:=let ⟨_,e,_⟩:=tx;Ai e;refine yQ tx λh' ze hi k=>?_;refine Dq ze ?_;refine⟨_,_,_,_,H1,rfl,I1.kept k,GP d1 (AB (Au l1 (Br _ 1))) (AB l1),⟨⟨_,ze⟩,hi⟩,λc hc=>?_,q⟩;have Ó:s1.heap.objs.size<=c:=by
   simp at hc;rcases hc with rfl|rfl
   .exact Br _ _
   .exact Aj _
  exact I1.yx Ó (I1.aK.fresh Ó)
def jy:O PV->O PV->O PV
 |x::l,y::m=>.tup [x,y]::jy l m
 |_,_=>[]
theorem ke:∀{l m:O PV}{i:Nat}{p:PV},(jy l m)[i]?=al p->∃x y,l[i]?=al x/\m[i]?=al y/\p=.tup [x,y]
 |[],m,i,p,h=>by simp[jy]at h
 |x::l,[],i,p,h=>by simp[jy]at h
 |x::l,y::m,0,p,h=>by simp[jy]at h;subst h;exact⟨x,y,rfl,rfl,rfl⟩
 |x::l,y::m,i+1,p,h=>by
  obtain⟨u,w,h1,h2,h3⟩:=ke (by simpa[jy]using h);exact⟨u,w,by simpa using h1,by simpa using h2,h3⟩
end
end
end PL
variable{p3 p4:Cc}
namespace PL
section
variable{K:Aa}
section
structure JC(X:Cx)(K:Aa)(op:CmpOp)(b:o0)(m:M2):Prop where
 p:∃r,fy X (r6 op) r/\M2.Ok K r m
 k:wf op b=false
def KA:JC X K .Lt b oLt:=⟨⟨_,zI,wM λ_ _ _ _=>.bl _⟩,eV _⟩
def vG:JC X K .LtE b oLe:=⟨⟨_,VX,wM λ_ _ _ _=>.bl _⟩,eV _⟩
def Wo:JC X K .Gt b ZU:=⟨⟨_,VY,wM λ_ _ _ _=>.bl _⟩,eV _⟩
def Wq:JC X K .GtE b Yj:=⟨⟨_,VZ,wM λ_ _ _ _=>.bl _⟩,eV _⟩
def KC:JC X K .Is b Kb:=⟨⟨_,J2,NV⟩,eV _⟩
def ad9:M2:=⟨λx y h Q=>match x,y with|.str i,.str j=>Q (.bl (decide (i.cps.toList<j.cps.toList))) h|_,_=>False,λf q=>by
 revert q
 split
 .exact f _ _
 .exact λz=>z⟩
def NX:M2:=⟨λx y h Q=>match x,y with|.str i,.str j=>Q (.bl (!(Builtin.Str.occurrences j i 0 j.length 1).isEmpty)) h|_,_=>False,λf q=>by
 revert q
 split
 .exact f _ _
 .exact λz=>z⟩
def Su(hk:wf .In b=false):JC X K .In b NX:=⟨⟨_,qX,by
 intro ι H h u v x y Q hr hu hv q;unfold NX at q;dsimp only at q;revert q
 split
 .intro q;cases hu;cases hv;exact⟨_,_,rfl,rfl,q ι _ H (Go.refl _ _) hr (.bl _)⟩
 .exact AO⟩,hk⟩
end
end
theorem wB:∀{l:O PV},qD l=true↔∀x∈l,x.dat=true
 |[]=>by simp[qD]
 |x::l=>by rw[qD,AA,wB];simp
section
variable{K:Aa}
section
variable{c:o0}
def Lu(h:aD K ι H vs l):vs.isEmpty=l.isEmpty:=by cases h<;>rfl
def aD.rep(h:aD K ι H vs l):∀k:Nat,aD K ι H (Ar k vs).flatten (Ar k l).flatten
 |0=>.nil
 |k+1=>by
  exact h.append (h.rep k)
def Jv:V->O V->Hp->VK->Prop:=λx vs H Q=>∃(l:db) (ns:O Int) (k:Int),x=.ref l/\vs=[.int k]/\H l=al (.lst (ns.map V.int))/\k∈ns/\uV H l (.lst ((ns.erase k).map V.int)) (Q .br)
theorem ints_get:∀{us:O ce}{ns:O Int},SC us ns->∀(i:Nat) (hi:i<us.length),∃n t,ns[i]?=al n/\us[i]=.int n t
 |_,_,.nil,i,hi=>by simp at hi
 |_,_,.cons _ _ r,i,hi=>by
  cases i with
  |zero=>exact⟨_,_,rfl,rfl⟩
  |succ i=>exact ints_get r i (by simpa using hi)
theorem KN{k:Int}:∀{ns:O Int}{m:Nat},ns[m]?=al k->ns.idxOf k<=m
 |[],m,h=>by simp at h
 |a::ns,0,h=>by
  have:a=k:=by simpa using h
  subst this;simp
 |a::ns,m+1,h=>by
  have:=KN (by simpa using h);rw[List.idxOf_cons];by_cases c:a=k
  .have:(a==k)=true:=by simpa using c
   rw[this];exact Bn _
  .have c2:(a==k)=false:=by simpa using c
   rw[c2];exact Nat.succ_le_succ this
theorem rD(f:α->β):∀(l:List α) (j:Nat),(l.eraseIdx j).map f=(l.map f).eraseIdx j
 |[],_=>rfl
 |a::l,0=>rfl
 |a::l,j+1=>by
  show f a::(l.eraseIdx j).map f=f a::(l.map f).eraseIdx j;rw[rD f l j]
def isK(k:Int):ce->Bool
 |.int a _=>a==k
 |_=>false
def qe(r:Vals vs us):∀j,Vals (vs.eraseIdx j) (us.eraseIdx j):=by
 induction r with
 |nil=>intro j;exact .nil
 |cons h r ih=>
  intro j;cases j with
  |zero=>exact r
  |succ j=>exact .cons h (ih j)
theorem xM:GD X "list.remove" Jv:=by
 intro Z s σ H x vs v us Q I rx rv h;obtain⟨l,ns,k,rfl,rfl,hH,hk,q⟩:=h;cases rx;obtain⟨u,rfl,ru⟩:=rv.one;obtain⟨t,rfl⟩:=ru;obtain⟨z,ao,n,r,hl,e⟩:=I.jX hH;have hi:=intsAre_of r;have Â:ns.length=ao.length:=by rw[Am]at hl;lia
 have hj:=List.idxOf_lt_length_of_mem hk;have hej:ns.erase k=ns.eraseIdx (ns.idxOf k):=by rw[List.erase_eq_eraseIdx_of_idxOf rfl]
 refine FB F.slot_list_remove ⟨_,e,rfl⟩ F.entry_list_remove (F.args_list_remove_2 _ _) (MeetsSeq.list_remove l ao.toArray n (.int k t) (isK k) (λy hy=>?_) (ns.idxOf k) (by rw[Ag];lia) ?_ (λm hm lV=>?_) (by rw[Ag];lia)) ⟨e,?_⟩
 .obtain⟨i,KY⟩:=DN (by simpa using hy);obtain⟨h1,h2⟩:=Ak.mp KY;obtain⟨n',t',g1,g2⟩:=ints_get hi i h1;rw[<- h2,g2];exact MeetsSeq.EqGives.int _ _ _ _
 .have h1:ns.idxOf k<ao.length:=by lia
  obtain⟨n',t',g1,g2⟩:=ints_get hi (ns.idxOf k) h1;have g3:ns[ns.idxOf k]?=al k:=by rw[Af hj,List.getElem_idxOf hj]
  rw[g3]at g1;cases g1;rw[DM,g2];simp[isK]
 .have h1:m<ao.length:=by rw[Ag]at hm;exact hm
  obtain⟨n',t',g1,g2⟩:=ints_get hi m h1;rw[DM,g2];have:n'≠k:=λz=>by
   subst z;have:=KN g1;lia
  simp[isK,this]
 .refine⟨.br,_,I.xT (its':=ao.eraseIdx (ns.idxOf k)) hH e (by simp) ?_ ?_,rfl,q.at⟩
  .rw[hej,rD];exact qe r _
  .rw[hej,Am,List.length_eraseIdx]
   split<;>lia
theorem jg:∀{ns:O Int}{vs:O V},aD K ι H vs (ns.map PV.int)->vs=ns.map V.int
 |[],_,h=>by cases h;rfl
 |b::bs,_,h=>by
  cases h with
  |cons x t=>cases x;rw[jg t];rfl
theorem nH(ι:O db)(H:Hp):∀ns:O Int,aD K ι H (ns.map V.int) (ns.map PV.int)
 |[]=>.nil
 |n::ns=>.cons (.int n) (nH ι H ns)
end
end
end PL
variable{u:L2.HO}{a:AW}{o:FI}
namespace L2
section
variable{σ:St}
def Inv.freeze(I:Inv X Z σ H s)(e:H a=al (.dT ay)):∃o,Inv X Z σ (upd H a (.cE o (.dT ay))) s:=by
 obtain⟨z,hs,xs,r,o,es,ep,h1,h2,h3,h4,h5⟩:=(show bC X.prog X.w H s.heap a (.dT ay) from I.aK a _ e);refine⟨o,?_⟩;have q:=I.write (x:=a) (e:=a) (o:=.cE o (.dT ay)) (h':=s.heap) (t':=s.toks) (by rw[e];exact BR) (.inl rfl) (λb u _ z=>z) ⟨o,h1⟩
  ⟨h1,z,hs,xs,KT.keeps r λb ys eb=>by rw[af (vj eb e (λz=>nomatch z))];exact eb,o,es,ep,h1,h2,h3,h4,h5⟩
 exact q
def Inv.QW(I:Inv X Z σ H s)(e:H a=al (.cE o u))(h0:∀o u,X.H₀ a≠al (.cE o u))(hu:bC X.prog X.w (upd H a u) s.heap a u)(aK:gJ X.prog X.w (upd H a u) s.heap):Inv X Z σ (upd H a u) s:=by
 have ne:∀b v,H b=v->v≠al (.cE o u)->b≠a:=λb v q n z=>by subst z;exact n (q.symm.trans e)
 refine⟨I.ok,I.os,I.bare,⟨I.base.keep,I.base.slot,λb ob q n hx=>?_,I.base.there,λb xs q=>?_,λb ob xs q=>?_,λb ps q=>?_⟩,I.loc,I.cell,?_,λx c q=>?_,λp hp=>?_,aK,I.len⟩
 .have:=I.base.free b ob q n hx;rw[af (ne b _ this (by simp))];exact this
 .have:=I.base.bN b xs q;rw[af (ne b _ this (by simp))];exact this
 .have:=I.base.kS b ob xs q;have hb:b≠a:=λz=>by subst z;exact h0 _ _ q
  rw[af hb];exact this
 .obtain⟨m,this⟩:=I.base.lA b ps q;exact⟨m,by rw[af (ne b _ this (by simp))];exact this⟩
 .rw[af (ne _ _ I.free (by simp))];exact I.free
 .rw[af (ne _ _ (I.eu x c q) (by simp))];exact I.eu x c q
 .obtain⟨p1,p2,p3⟩:=I.pin p hp;exact⟨p1,by rw[af (ne _ _ p2 (by simp))];exact p2,p3⟩
def KQ(ok:gJ P w H h)(e:H a=al (.cE o u)):gJ P w (upd H a u) h:=λb u' q=>by
 have ne:∀c v,H c=al v->v≠.cE o u->upd H a u c=al v:=λc v z n=>by
  rw[af (λy=>by subst y;rw[e]at z;cases z;exact n rfl)];exact z
 by_cases hb:b=a
 .subst hb;rw[aw]at q;cases q;exact bC.lB (ok b _ e).2 (λ_ _ _ z=>z) (λc z=>ne c _ z (by simp)) λc xs z=>ne c _ z (by simp)
 .rw[af hb]at q;exact bC.lB (ok b _ q) (λ_ _ _ z=>z) (λc z=>ne c _ z (by simp)) λc xs z=>ne c _ z (by simp)
end
end L2
variable{o:L2.HO}{v:PL.PV}{ws:O (BJ×L2.V)}{fz:O (AW×FI)}{ψ:Nat->O L2.V->Prop}{φ:Er->Prop}
noncomputable section
namespace FL
section
variable{K:Aa}
structure W(α:Type) where
 run:(α->Prop)->Prop
 mono:∀{Q Q':α->Prop},(∀a,Q a->Q' a)->run Q->run Q'
namespace W
variable{α β γ:Type}
def ext'{a b:W α}(h:∀Q,a.run Q↔b.run Q):a=b:=by
 cases a;cases b;congr;funext Q;exact propext (h Q)
noncomputable def ret(a:α):W α:=⟨λQ=>Q a,λh q=>h _ q⟩
noncomputable def bind(w:W α)(k:α->W β):W β:=⟨λQ=>w.run λa=>(k a).run Q,λh q=>w.mono (λa q=>(k a).mono h q) q⟩
def fail:W α:=⟨λ_=>False,λ_ q=>q⟩
def d9(p:Prop)(w:W α):W α:=⟨λQ=>p/\w.run Q,λh q=>⟨q.1,w.mono h q.2⟩⟩
def any(p:α->Prop):W α:=⟨λQ=>∀a,p a->Q a,λh q a pa=>h a (q a pa)⟩
def Ue:Option α->W α
 |some a=>ret a
 |none=>fail
@[simp] theorem ag(a:α)(k:α->W β):bind (ret a) k=k a:=(rfl)
@[simp] theorem bind_assoc(w:W α)(f:α->W β)(g:β->W γ):bind (bind w f) g=bind w λa=>bind (f a) g:=(rfl)
@[simp] theorem XI(w:W α):bind w ret=w:=(rfl)
@[simp] theorem Uz(k:α->W β):bind fail k=fail:=(rfl)
@[simp] theorem aj(a:α)(Q:α->Prop):(ret a).run Q=Q a:=(rfl)
@[simp] theorem run_bind(w:W α)(k:α->W β)(Q:β->Prop):(bind w k).run Q=w.run λa=>(k a).run Q:=(rfl)
@[simp] theorem Vr(Q:α->Prop):(fail:W α).run Q=False:=(rfl)
@[simp] theorem Ya(p Q:α->Prop):(any p).run Q=∀a,p a->Q a:=(rfl)
@[simp] theorem Nf(p:Prop)(w:W α)(Q:α->Prop):(d9 p w).run Q=(p/\w.run Q):=(rfl)
@[simp] theorem LO(p:Prop)(w:W α)(k:α->W β):bind (d9 p w) k=d9 p (bind w k):=(rfl)
def aq{p:Prop}{w:W α}(h:p):d9 p w=w:=ext' λQ=>⟨λq=>q.2,λq=>⟨h,q⟩⟩
@[simp] theorem Xz{w:W α}:d9 True w=w:=aq trivial
@[simp] theorem bp(a:α):Ue (al a)=ret a:=(rfl)
@[simp] theorem V4:Ue (bn:Option α)=fail:=(rfl)
end W
inductive FD where
 |v (p:PV)|o (b:db) (l:List PV)
def S5:O (Str×FD)->O db
 |[]=>[]
 |(_,.v _)::l=>S5 l
 |(_,.o b _)::l=>b::S5 l
inductive Mf(K:Aa)(H:Hp):List (Str×V)->List (Str×FD)->Prop
 |nil:Mf K H [] []
 |v {n:Str}{u:V}{p:PV}{ws:List (Str×V)}{fd:List (Str×FD)} (r:VR K [] H u p) (t:Mf K H ws fd):Mf K H ((n,u)::ws) ((n,.v p)::fd)
 |o {n:Str}{b:db}{vs:List V}{l:List PV}{ws:List (Str×V)}{fd:List (Str×FD)} (e:H b=al (.lst vs)) (r:aD K [] H vs l) (t:Mf K H ws fd):Mf K H ((n,.ref b)::ws) ((n,.o b l)::fd)
inductive SL where
 |val (v:PV)|adr (b:db) (us:List V) (ps:List PV) (fz:List (db×Obj))|ol (q:Option db) (l:List PV)|Yi (bs:List db) (ls:List (List PV))|od (ay:List (Key×PV))|ot (ay:List (List Key×PV))|cR (ψ:Nat->List V->Prop) (n m:Nat)|ob (q C:db) (fd:List (Str×FD))
abbrev aM:=O (Option SL)
def mN(H:Hp)(fz:O (db×Obj)):Prop:=∀p∈fz,∃u,H p.1=al (.cE p.2 u)
def mN.tk(h:mN H fz)(t:aW K H H'):mN H' fz:=λp hp=>let ⟨u,e⟩:=h p hp;⟨u,t.z _ _ _ e⟩
def mN.nil:mN H []:=λ_ h=>nomatch h
def _root_.L2.HO.nt:HO->Bool
 |.mP _=>false
 |_=>true
def _root_.L2.HO.ow:HO->Bool
 |.lst _=>true
 |.dK _=>true
 |.dT _=>true
 |.ins _ _ _=>true
 |_=>false
def P1(h:o.ow=true):o.nt=true:=by cases o<;>first|rfl|cases h
def VT{ob:Obj}(k:bC P w H h a o)(e:h.get? a=al ob)(ho:o.ow=true)(vs:Array ce):ob.data≠.fields vs:=by
 cases o with
 |lst xs=>obtain⟨_,_,_,_,q⟩:=k;rw[e]at q;cases q;nofun
 |dK xs=>obtain⟨_,_,_,_,o,_,_,q,_,q2,_⟩:=k;rw[e]at q;cases q;rw[q2];nofun
 |dT xs=>obtain⟨_,_,_,_,o,_,_,q,_,q2,_⟩:=k;rw[e]at q;cases q;rw[q2];nofun
 |ins C dx fs=>obtain⟨_,_,_,q,_⟩:=k;rw[e]at q;cases q;nofun
 |_=>cases ho
class bj where
 ts:List (db×Str)
def FzC(H:Hp)(c:ce)(q:Str):Prop:=∃a o u vs t,c=.ref a/\H a=al (.cE o u)/\o.data=.fields vs/\vs[1]?=al (.str q t)
variable[bj]
def TB(H:Hp):Prop:=∀p∈bj.ts,∃ps,H p.1=al (.mP ps)/\TriplesOk ps.toList/\∀pos c,Sc pos ps.toList=al c->FzC H c p.2
def TB.mono(h:TB H)(h1:∀a ps,H a=al (.mP ps)->H' a=al (.mP ps))(h2:∀a o u vs,H a=al (.cE o u)->o.data=.fields vs->∃u,H' a=al (.cE o u)):TB H':=λp hp=>by
 obtain⟨ps,e,q,k⟩:=h p hp;refine⟨ps,h1 _ _ e,q,λpos c z=>?_⟩;obtain⟨a,o,u,vs,t,e1,e2,e3,e4⟩:=k pos c z;obtain⟨u',e5⟩:=h2 a o u vs e2 e3;exact⟨a,o,u',vs,t,e1,e5,e3,e4⟩
def TB.same(h:TB H)(s:dW H H'):TB H':=h.mono (λa _ z=>s a _ z) λa _ _ _ z _=>⟨_,s a _ z⟩
def TB.QW{ob:Obj}(t:TB H)(k:gJ P w H h)(e:H a=al (.cE ob o))(ho:o.ow=true):TB (upd H a o):=
 t.mono (λb _ z=>by rw[af (λy=>by subst y;rw[e]at z;cases z)];exact z) λb o' u vs z d=>⟨u,by
  rw[af (λy=>by subst y;rw[e]at z;cases z;exact VT (k b _ e).2 (k b _ e).1 ho vs d)];exact z⟩
def TB.Jl{ob:HO}(h:TB H)(s:jM a H H')(e:H a=al ob)(n1:ob.nt=true)(n2:∀o u,ob≠.cE o u):TB H':=
 h.mono (λb _ z=>s b _ (λy=>by subst y;rw[e]at z;cases z;cases n1) z) λb _ _ _ z _=>⟨_,s b _ (λy=>by subst y;rw[e]at z;cases z;exact n2 _ _ rfl) z⟩
def SL.own:SL->Bool
 |.val _=>false
 |.adr _ _ _ _=>false
 |_=>true
def SL.KJ:SL->O db
 |.Yi bs _=>bs
 |.ob _ _ fd=>S5 fd
 |_=>[]
def SL.has(s:SL)(x a:db):Prop:=a=x\/a∈s.KJ
def sF:Nat:=2 ^ 250
def wR(H:Hp)(a:db)(ψ:Nat->O V->Prop)(n:Nat):Prop:=∃j vs,j<=n/\H a=al (.lst vs)/\ψ j vs/\∀b,V.ref b∈vs->fw H b
def f6(K:Aa)(H:Hp)(a:db):SL->Prop
 |.val _=>False
 |.adr b us ps fz=>a=b/\aD K [] H us ps/\mN H fz
 |.Yi bs ls=>H a=al (.lst (bs.map V.ref))/\a∉bs/\bs.Nodup/\bs.length=ls.length/\∀(j:Nat) (b:db) (l:O PV),bs[j]?=al b->ls[j]?=al l->∃ws,H b=al (.lst ws)/\aD K [] H ws l
 |.ol q l=>(∀b,q=al b->a=b)/\∃vs,H a=al (.lst vs)/\aD K [] H vs l
 |.od ay=>∃vs:O (Key×V),H a=al (.dK vs)/\vs.map (·.1)=ay.map (·.1)/\aD K [] H (vs.map (·.2)) (ay.map (·.2))
 |.ot ay=>∃vs:O (O Key×V),H a=al (.dT vs)/\vs.map (·.1)=ay.map (·.1)/\aD K [] H (vs.map (·.2)) (ay.map (·.2))
 |.cR ψ n m=>wR H a ψ n/\n<=m/\m<=sF
 |.ob q C fd=>a=q/\GJ K C/\(∀p∈fd,ed K C p.1)/\a∉S5 fd/\(S5 fd).Nodup/\∃dx ws,H a=al (.ins C dx ws)/\Mf K H ws fd
def mM(K:Aa)(H:Hp)(u:V)(s:SL):Prop:=(∃v,s=.val v/\VR K [] H u v)\/∃a,u=.ref a/\f6 K H a s
def bL(σ:L2.St)(fs:aM)(a:db):Prop:=∃(i:Nat) (s:SL) (x:db),fs[i]?=al (al s)/\s.own=true/\σ[i]?=al (al (.ref x))/\s.has x a
def fv(σ:L2.St)(fs:aM)(ψ:Nat->O V->Prop)(m:Nat)(a:db):Prop:=∃i n:Nat,fs[i]?=al (al (.cR ψ n m))/\σ[i]?=al (al (.ref a))
structure Ev(fs aE:aM):Prop where
 len:fs.length=aE.length
 at':∀i:Nat,fs[i]?=aE[i]?\/∃ψ n n' m,fs[i]?=al (al (.cR ψ n m))/\aE[i]?=al (al (.cR ψ n' m))
structure aH(K:Aa)(H:Hp)(σ:L2.St)(fs:aM):Prop where
 len:σ.length=fs.length
 at':∀(i:Nat) (s:SL),fs[i]?=al (al s)->∃u,σ[i]?=al (al u)/\mM K H u s
 nd:∀(i j:Nat) (s t:SL) (x y a:db),fs[i]?=al (al s)->fs[j]?=al (al t)->s.own=true->t.own=true->σ[i]?=al (al (.ref x))->σ[j]?=al (al (.ref y))->s.has x a->t.has y a->i=j
 tb:TB H
structure bT(σ:L2.St)(fs:aM)(H:Hp)(σ':L2.St)(aE:aM)(H':Hp):Prop where
 keep:∀a o,H a=al o->¬bL σ fs a->(o.nt=true->H' a=al o)/\¬bL σ' aE a
 there:∀a,H' a=bn->H a=bn
 pk:∀a ψ m,fv σ fs ψ m a->fv σ' aE ψ m a\/(¬bL σ' aE a/\wR H' a ψ m)
 x:∀b,fw H b->fw H' b
structure cf(σ:L2.St)(fs:aM)(H H':Hp)(aE:aM:=fs):Prop where
 keep:∀a o,H a=al o->(∀ψ m,¬fv σ fs ψ m a)->(nt:‹o.nt=true›)->H' a=al o
 there:∀a,H' a=bn->H a=bn
 ev:Ev fs aE
 x:∀b,fw H b->fw H' b
section
variable{σ σ' σ1 σ2:L2.St}{fs aE ax fs2:aM}{H H' H1 H2:Hp}
def fv.eE{m:Nat}(p:fv σ fs ψ m a):bL σ fs a:=let ⟨i,n,e1,e2⟩:=p;⟨i,_,_,e1,rfl,e2,.inl rfl⟩
def Ev.refl(fs:aM):Ev fs fs:=⟨rfl,λ_=>.inl rfl⟩
def Ev.symm(e:Ev fs aE):Ev aE fs:=⟨e.len.symm,λi=>(e.at' i).imp Eq.symm λ⟨ψ,n,n',m,a,b⟩=>⟨ψ,n',n,m,b,a⟩⟩
def Ev.trans(e:Ev fs ax)(k:Ev ax fs2):Ev fs fs2:=⟨e.len.trans k.len,λi=>by
 rcases e.at' i with h|⟨ψ,n,n',m,h1,h2⟩
 .rw[h];exact k.at' i
 .rcases k.at' i with h|⟨ψ',j,j',m',h3,h4⟩
  .exact .inr ⟨ψ,n,n',m,h1,h▸h2⟩
  .rw[h2]at h3;cases h3;exact .inr ⟨ψ,n,j',m,h1,h4⟩⟩
def Ev.get(e:Ev fs aE){t:SL}(h:aE[i]?=al (al t)):(fs[i]?=al (al t))\/∃ψ n n' m,t=.cR ψ n' m/\fs[i]?=al (al (.cR ψ n m)):=by
 rcases e.at' i with h2|⟨ψ,n,n',m,h1,h2⟩
 .exact .inl (h2.trans h)
 .rw[h]at h2;cases h2;exact .inr ⟨ψ,n,n',m,rfl,h1⟩
def Ev.same(e:Ev fs aE){t:SL}(h:fs[i]?=al (al t))(n:∀ψ j m,t≠.cR ψ j m):aE[i]?=al (al t):=(e.symm.get h).resolve_right λ⟨_,_,_,_,z,_⟩=>n _ _ _ z
def Ev.cR(e:Ev fs aE){m:Nat}(p:fv σ aE ψ m a):fv σ fs ψ m a:=by
 obtain⟨i,n,h1,h2⟩:=p;rcases e.get h1 with h|⟨_,j,_,_,h,k⟩
 .exact⟨i,n,h,h2⟩
 .cases h;exact⟨i,j,k,h2⟩
def Ev.eE(e:Ev fs aE)(p:bL σ aE a):bL σ fs a:=by
 obtain⟨i,t,x,h1,h2,h3,h4⟩:=p;rcases e.get h1 with h|⟨_,j,_,_,rfl,k⟩
 .exact⟨i,t,x,h,h2,h3,h4⟩
 .exact⟨i,_,x,k,rfl,h3,h4⟩
def cf.refl:cf σ fs H H:=⟨λ_ _ h _ _=>h,λ_ h=>h,.refl _,λ_ h=>h⟩
def cf.trans(a:cf σ fs H H1 ax)(b:cf σ ax H1 H2 fs2):cf σ fs H H2 fs2:=⟨λx o h n t=>b.keep x o (a.keep x o h n t) (λψ m p=>n ψ m (a.ev.cR p)) t,λx h=>a.there x (b.there x h),a.ev.trans b.ev,λx h=>b.x x (a.x x h)⟩
def cf.f(g:cf σ fs H H' aE):bT σ fs H σ aE H':=⟨λa o h n=>⟨λt=>g.keep a o h (λ_ _ p=>n p.eE) t,λz=>n (g.ev.eE z)⟩,g.there,λa ψ m p=>.inl (g.ev.symm.cR p),g.x⟩
def cf.kK(g:cf σ fs H H' aE)(h:H a=al o)(n:¬bL σ fs a)(t:‹o.nt=true›):H' a=al o:=g.keep a o h (λ_ _ p=>n p.eE) t
def cf.same(h:dW H H'):cf σ fs H H':=⟨λa o e _ _=>h a o e,λa e=>(by
 cases z:H a with
 |none=>rfl
 |some o=>rw[h a o z]at e;cases e),.refl _,λ_ z=>h _ _ z⟩
def Mf.ex{fd:O (Str×FD)}(h:Mf K H ws fd){c:db}(hc:c∈S5 fd):∃vs,H c=al (.lst vs):=by
 induction h with
 |nil=>cases hc
 |v r t ih=>exact ih hc
 | @o n b vs l ws fd e r t ih=>
  rcases Az.mp (hc) with rfl|hc
  .exact⟨vs,e⟩
  .exact ih hc
def f6.ex{c:db}{s:SL}(h:f6 K H a s)(ho:s.own=true)(hc:s.has a c):∃o,H c=al o/\(∀vs,o≠.tup vs)/\(∀ob u,o≠.cE ob u)/\o.ow=true:=by
 cases s with
 |val _=>exact h.elim
 |adr _ _ _ _=>cases ho
 |ol q l=>obtain⟨_,vs,e,_⟩:=h;rcases hc with rfl|hc;exact⟨_,e,by simp,by simp,rfl⟩;cases hc
 |Yi bs ls=>
  obtain⟨e,_,_,hl,hb⟩:=h;rcases hc with rfl|hc
  .exact⟨_,e,by simp,by simp,rfl⟩
  .obtain⟨j,hj⟩:=DN (hc);obtain⟨ws,e,_⟩:=hb j c _ hj (Af (by rw[<- hl];exact((Ak.mp hj).1)));exact⟨_,e,by simp,by simp,rfl⟩
 |od l=>obtain⟨vs,e,_⟩:=h;rcases hc with rfl|hc;exact⟨_,e,by simp,by simp,rfl⟩;cases hc
 |ot l=>obtain⟨vs,e,_⟩:=h;rcases hc with rfl|hc;exact⟨_,e,by simp,by simp,rfl⟩;cases hc
 |cR ψ n m=>obtain⟨⟨_,vs,_,e,_⟩,_⟩:=h;rcases hc with rfl|hc;exact⟨_,e,by simp,by simp,rfl⟩;cases hc
 |ob q C fd=>
  obtain⟨_,_,_,_,_,dx,ws,e,r⟩:=h;rcases hc with rfl|hc
  .exact⟨_,e,by simp,by simp,rfl⟩
  .obtain⟨vs,e⟩:=r.ex hc;exact⟨_,e,by simp,by simp,rfl⟩
def aH.ownAt(s:aH K H σ fs){t:SL}(h1:fs[i]?=al (al t))(h2:t.own=true)(h3:σ[i]?=al (al (.ref a))):f6 K H a t:=by
 obtain⟨u,e,r⟩:=s.at' i t h1;rw[h3]at e;cases e;rcases r with⟨v,rfl,_⟩|⟨b,e,r⟩
 .cases h2
 .cases e;exact r
def aH.eE(s:aH K H σ fs)(h:bL σ fs a):∃o,H a=al o/\(∀vs,o≠.tup vs)/\(∀ob u,o≠.cE ob u)/\o.ow=true:=by
 obtain⟨i,t,x,h1,h2,h3,h4⟩:=h;exact(s.ownAt h1 h2 h3).ex h2 h4
def aH.noOwn(s:aH K H σ fs)(h:H a=bn):¬bL σ fs a:=λz=>by
 obtain⟨o,e,_⟩:=s.eE z;rw[h]at e;cases e
def aH.R4(s:aH K H σ fs)(h:H a=al (.tup vs)):¬bL σ fs a:=λz=>by
 obtain⟨o,e,n,_⟩:=s.eE z;rw[h]at e;cases e;exact n vs rfl
def aH.R5(s:aH K H σ fs){ob:Obj}(h:H a=al (.cE ob u)):¬bL σ fs a:=λz=>by
 obtain⟨o,e,_,n,_⟩:=s.eE z;rw[h]at e;cases e;exact n ob u rfl
def aH.R3(s:aH K H σ fs)(h:H a=al (.ext φ)):¬bL σ fs a:=λz=>by
 obtain⟨o,e,_,_,n⟩:=s.eE z;rw[h]at e;cases e;cases n
def bT.refl:bT σ fs H σ fs H:=⟨λ_ _ h n=>⟨λ_=>h,n⟩,λ_ h=>h,λ_ _ _ h=>.inl h,λ_ h=>h⟩
def bT.N0(a:bT σ fs H σ1 ax H1)(b:bT σ1 ax H1 σ2 fs2 H2){x:db}(h:H x=al o)(n:¬bL σ fs x):¬bL σ2 fs2 x:=by
 cases z:H1 x with
 |none=>rw[a.there x z]at h;cases h
 |some o1=>exact(b.keep x o1 z ((a.keep x o h n).2)).2
def bT.trans(a:bT σ fs H σ1 ax H1)(b:bT σ1 ax H1 σ2 fs2 H2):bT σ fs H σ2 fs2 H2:=
 ⟨λx o h n=>⟨λt=>let ⟨h1,n1⟩:=a.keep x o h n;(b.keep x o (h1 t) n1).1 t,a.N0 b h n⟩,λx h=>a.there x (b.there x h),λx ψ m h=>(a.pk x ψ m h).elim (b.pk x ψ m) λ⟨n,j,vs,hj,e,p,q⟩=>.inr (let ⟨h1,n1⟩:=b.keep x _ e n;⟨n1,j,vs,hj,h1 rfl,p,λc hc=>b.x c (q c hc)⟩),λc h=>b.x c (a.x c h)⟩
def bT.bN(g:bT σ fs H σ' aE H')(s:aH K H σ fs):aW K H H':=
 ⟨λa vs h=>(g.keep a _ h (s.R4 h)).1 rfl,λa o u h=>(g.keep a _ h (s.R5 h)).1 rfl,g.x⟩
def VR.tk{u:V}(t:aW K H H')(r:VR K [] H u v):VR K [] H' u v:=r.mono t λ_ _ e=>e
def aD.tk{u:O V}{v:O PV}(t:aW K H H')(r:aD K [] H u v):aD K [] H' u v:=r.mono t λ_ _ e=>e
def bT.vr(g:bT σ fs H σ' aE H')(s:aH K H σ fs){u:V}(r:VR K [] H u v):VR K [] H' u v:=VR.tk (g.bN s) r
def cf.bN(g:cf σ fs H H' aE)(s:aH K H σ fs):aW K H H':=g.f.bN s
def cf.vr(g:cf σ fs H H' aE)(s:aH K H σ fs){u:V}(r:VR K [] H u v):VR K [] H' u v:=VR.tk (g.bN s) r
def cf.za(g:cf σ fs H H' aE)(s:aH K H σ fs){u:O V}{v:O PV}(r:aD K [] H u v):aD K [] H' u v:=aD.tk (g.bN s) r
def Mf.mono{fd:O (Str×FD)}(t:aW K H H')(h:Mf K H ws fd)(e:∀c vs,c∈S5 fd->H c=al (.lst vs)->H' c=al (.lst vs)):Mf K H' ws fd:=by
 induction h with
 |nil=>exact .nil
 |v r _ ih=>exact .v (VR.tk t r) (ih e)
 | @o n b vs l ws fd q r _ ih=>exact .o (e b vs (.head _) q) (aD.tk t r) (ih λc vs hc=>e c vs (.tail _ hc))
def f6.mono{s:SL}(t:aW K H H')(e:∀c o,s.own=true->s.has a c->H c=al o->o.nt=true->H' c=al o)(h:f6 K H a s):f6 K H' a s:=by
 cases s with
 |val _=>exact h
 |adr _ _ _ _=>exact⟨h.1,aD.tk t h.2.1,h.2.2.tk t⟩
 |ol _ l=>obtain⟨z,vs,q,r⟩:=h;exact⟨z,vs,e _ _ rfl (.inl rfl) q rfl,aD.tk t r⟩
 |Yi bs ls=>
  obtain⟨z,h1,h2,h3,h4⟩:=h;refine⟨e _ _ rfl (.inl rfl) z rfl,h1,h2,h3,λj b l hb hl=>?_⟩;obtain⟨ws,q,r⟩:=h4 j b l hb hl;exact⟨ws,e _ _ rfl (.inr (A9 hb)) q rfl,aD.tk t r⟩
 |od l=>obtain⟨vs,q,k,r⟩:=h;exact⟨vs,e _ _ rfl (.inl rfl) q rfl,k,aD.tk t r⟩
 |ot l=>obtain⟨vs,q,k,r⟩:=h;exact⟨vs,e _ _ rfl (.inl rfl) q rfl,k,aD.tk t r⟩
 |cR ψ n m=>obtain⟨⟨j,vs,hj,q,k,z⟩,r⟩:=h;exact⟨⟨j,vs,hj,e _ _ rfl (.inl rfl) q rfl,k,λb hb=>t.x b (z b hb)⟩,r⟩
 |ob q C fd=>obtain⟨h0,h1,h2,h3,h4,dx,ws,q,r⟩:=h;exact⟨h0,h1,h2,h3,h4,dx,ws,e _ _ rfl (.inl rfl) q rfl,r.mono t λc vs hc q=>e c _ rfl (.inr hc) q rfl⟩
def mM.mono{u:V}{s:SL}(t:aW K H H')(e:∀x a o,u=.ref x->s.own=true->s.has x a->H a=al o->o.nt=true->H' a=al o)(h:mM K H u s):mM K H' u s:=by
 rcases h with⟨v,q,r⟩|⟨a,q,r⟩
 .exact .inl ⟨v,q,VR.tk t r⟩
 .exact .inr ⟨a,q,r.mono t (λc o z y w nt=>e a c o q z y w nt)⟩
def aH.same(s:aH K H σ fs)(h:dW H H'):aH K H' σ fs:=⟨s.len,λi t e=>let ⟨u,h1,h2⟩:=s.at' i t e;⟨u,h1,h2.mono h.dM (λ_ a o _ _ _ z _=>h a o z)⟩,s.nd,s.tb.same h⟩
def bT.same(h:dW H H')(s:aH K H σ fs):bT σ fs H σ fs H':=⟨λa o e n=>⟨λ_=>h a o e,n⟩,λa e=>(by
 cases z:H a with
 |none=>rfl
 |some o=>rw[h a o z]at e;cases e),λa ψ m p=>.inl p,λ_ z=>h _ _ z⟩
inductive cQ:aM->aM->Prop
 |nil:cQ [] []
 |drop {s:Option SL}{a b:aM} (h:cQ a b):cQ (s::a) (bn::b)
 |keep {s:Option SL}{a b:aM} (h:cQ a b):cQ (s::a) (s::b)
 |bump {ψ:Nat->List V->Prop}{n n' m:Nat}{a b:aM} (h:cQ a b) (k:n<=n'/\n'<=m):cQ (al (.cR ψ n m)::a) (al (.cR ψ n' m)::b)
def TX(s t:SL):Prop:=s=t\/∃ψ n n' m,s=.cR ψ n m/\t=.cR ψ n' m/\n<=n'/\n'<=m
theorem cQ.at{a b:aM}(h:cQ a b):∀(i:Nat) (s:SL),b[i]?=al (al s)->∃t,a[i]?=al (al t)/\TX t s:=by
 induction h with
 |nil=>intro i s e;simp at e
 |drop h ih=>intro i s e;cases i with|zero=>simp at e|succ i=>simp at e ⊢;exact ih i s e
 |keep h ih=>intro i s e;cases i with|zero=>exact⟨s,by simpa using e,.inl rfl⟩|succ i=>simp at e ⊢;exact ih i s e
 | @bump ψ n n' m a b h k ih=>intro i s e;cases i with|zero=>(simp at e;subst e;exact⟨_,rfl,.inr ⟨ψ,n,n',m,rfl,rfl,k⟩⟩)|succ i=>simp at e ⊢;exact ih i s e
theorem cQ.length{a b:aM}(h:cQ a b):a.length=b.length:=by induction h<;>simp_all
theorem cQ.refl:∀a:aM,cQ a a
 |[]=>.nil
 |_::a=>.keep (cQ.refl a)
def TX.own{s t:SL}(h:TX s t):s.own=t.own:=by rcases h with rfl|⟨_,_,_,_,rfl,rfl,_⟩<;>rfl
def TX.has{s t:SL}(h:TX s t){x:db}(k:t.has x a):s.has x a:=by
 rcases h with rfl|⟨_,_,_,_,rfl,rfl,_⟩
 .exact k
 .exact k
def TX.slot{s t:SL}(h:TX s t){u:V}(k:mM K H u s):mM K H u t:=by
 rcases h with rfl|⟨ψ,n,n',m,rfl,rfl,h1,h2⟩
 .exact k
 .rcases k with⟨v,e,_⟩|⟨a,e,⟨j,vs,hj,q⟩,_,hm⟩
  .cases e
  .exact .inr ⟨a,e,⟨j,vs,AE hj h1,q⟩,h2,hm⟩
def aH.le(s:aH K H σ fs)(h:cQ fs aE):aH K H σ aE:=⟨s.len.trans h.length,λi t e=>let ⟨_,e2,l⟩:=h.at i t e;let ⟨u,h1,h2⟩:=s.at' i _ e2;⟨u,h1,l.slot h2⟩,λi j t u x y a e1 e2 o1 o2 q1 q2 z1 z2=>let ⟨_,f1,l1⟩:=h.at i t e1;let ⟨_,f2,l2⟩:=h.at j u e2;s.nd i j _ _ x y a f1 f2 (l1.own▸o1) (l2.own▸o2) q1 q2 (l1.has z1) (l2.has z2),s.tb⟩
def bL.le(h:cQ fs aE)(o:bL σ aE a):bL σ fs a:=let ⟨i,t,x,e1,e2,e3,e4⟩:=o;let ⟨t',f1,l⟩:=h.at i t e1;⟨i,t',x,f1,l.own▸e2,e3,l.has e4⟩
def aH.free(s:aH K H σ fs){m:Nat}(p:fv σ fs ψ m a):wR H a ψ m:=by
 obtain⟨i,n,e1,e2⟩:=p;obtain⟨⟨j,vs,hj,q⟩,h1,_⟩:=s.ownAt e1 rfl e2;exact⟨j,vs,AE hj h1,q⟩
def bT.le(s:aH K H σ fs)(h:cQ fs aE):bT σ fs H σ aE H:=⟨λa o e n=>⟨λ_=>e,λz=>n (z.le h)⟩,λ_ e=>e,λa ψ m p=>by
 have fr:=s.free p;obtain⟨i,n,e1,e2⟩:=p;by_cases c:bL σ aE a
 .obtain⟨j,t,x,c1,c2,c3,c4⟩:=c;obtain⟨t',f1,l⟩:=h.at j t c1;have ij:=s.nd i j _ t' a x a e1 f1 rfl (l.own▸c2) e2 c3 (.inl rfl) (l.has c4);subst ij;rw[e1]at f1;cases f1;rcases l with rfl|⟨_,_,n',_,l1,rfl,_⟩
  .exact .inl ⟨i,n,c1,e2⟩
  .cases l1;exact .inl ⟨i,n',c1,e2⟩
 .exact .inr ⟨c,fr⟩,λ_ h=>h⟩
def bV{l:O (Option α)}{x y:α}(h:(l.set i (al x))[j]?=al (al y)):(j=i/\y=x)\/(j≠i/\l[j]?=al (al y)):=by
 by_cases c:j=i
 .subst c;rw[EK]at h;simp at h;exact .inl ⟨rfl,h.2.symm⟩
 .rw[B1 (λz=>c z.symm)]at h;exact .inr ⟨c,h⟩
def a9{l:List α}{x:α}(h:i<l.length):(l.set i x)[i]?=al x:=by rw[EK];simp[h]
def aB{l:List α}{x:α}(h:j≠i):(l.set i x)[j]?=l[j]?:=B1 (λz=>h z.symm)
def aH.put(s:aH K H σ fs){u:V}{t:SL}(hr:mM K H u t)(hf:∀x a,u=.ref x->t.own=true->t.has x a->∀(j:Nat) (w:SL) (y:db),j≠i->fs[j]?=al (al w)->w.own=true->σ[j]?=al (al (.ref y))->¬w.has y a):aH K H (σ.set i (al u)) (fs.set i (al t)):=by
 refine⟨by simp[s.len],λj w e=>?_,λj k w x b1 b2 a e1 e2 o1 o2 q1 q2 z1 z2=>?_,s.tb⟩
 .rcases bV e with⟨rfl,rfl⟩|⟨n,e⟩
  .have hl:j < σ.length:=by
    have:=(Ak.mp e).1;rw[Cm]at this;rw[s.len];exact this
   exact⟨u,a9 hl,hr⟩
  .obtain⟨v,h1,h2⟩:=s.at' j w e;exact⟨v,by rw[aB n];exact h1,h2⟩
 .rcases bV e1 with⟨y1,y2⟩|⟨n1,f1⟩<;>rcases bV e2 with⟨y3,y4⟩|⟨n2,f2⟩
  .exact y1.trans y3.symm
  .subst y1;subst y2;rw[aB n2]at q2;have hl:j < σ.length:=by have:=(Ak.mp q1).1;simpa using this
   rw[a9 hl]at q1;cases q1;exact absurd z2 (hf _ a rfl o1 z1 k x b2 n2 f2 o2 q2)
  .subst y3;subst y4;rw[aB n1]at q1;have hl:k < σ.length:=by have:=(Ak.mp q2).1;simpa using this
   rw[a9 hl]at q2;cases q2;exact absurd z1 (hf _ a rfl o2 z2 j w b1 n1 f1 o1 q1)
  .rw[aB n1]at q1;rw[aB n2]at q2;exact s.nd j k w x b1 b2 a f1 f2 o1 o2 q1 q2 z1 z2
def aH.fB(s:aH K H σ fs){u:V}(hr:VR K [] H u v)(i:Nat):aH K H (σ.set i (al u)) (fs.set i (al (.val v))):=s.put (.inl ⟨v,rfl,hr⟩) λ_ _ _ z=>by cases z
def vd{u:V}{t:SL}(o:bL (σ.set i (al u)) (fs.set i (al t)) a)(hl:σ.length=fs.length):bL σ fs a\/∃x,u=.ref x/\t.own=true/\t.has x a:=by
 obtain⟨j,w,x,e1,e2,e3,e4⟩:=o;rcases bV e1 with⟨rfl,rfl⟩|⟨n,e1⟩
 .have h2:j < σ.length:=by have:=(Ak.mp e3).1;simpa using this
  rw[a9 h2]at e3;cases e3;exact .inr ⟨x,rfl,e2,e4⟩
 .rw[aB n]at e3;exact .inl ⟨j,w,x,e1,e2,e3,e4⟩
def zC(s:aH K H σ fs){u:V}{t:SL}{m:Nat}(p:fv σ fs ψ m a)(hu:∀x,u=.ref x->t.own=true->t.has x a->∃n,t=.cR ψ n m):fv (σ.set i (al u)) (fs.set i (al t)) ψ m a\/¬bL (σ.set i (al u)) (fs.set i (al t)) a:=by
 obtain⟨j,n,e1,e2⟩:=p;by_cases c:j=i
 .subst c;by_cases c2:∃x,u=.ref x/\t.own=true/\t.has x a
  .obtain⟨x,c3,c4,c5⟩:=c2;obtain⟨n',rfl⟩:=hu x c3 c4 c5;rcases c5 with rfl|c5
   .exact .inl ⟨j,n',by rw[a9 ((Ak.mp e1).1)],by rw[a9 ((Ak.mp e2).1),c3]⟩
   .cases c5
  .refine .inr λo=>?_;obtain⟨k,w,y,q1,q2,q3,q4⟩:=o;rcases bV q1 with⟨rfl,rfl⟩|⟨n,q1⟩
   .rw[a9 ((Ak.mp e2).1)]at q3;cases q3;exact c2 ⟨y,rfl,q2,q4⟩
   .rw[aB n]at q3;exact n (s.nd k j w _ y a a q1 e1 q2 rfl q3 e2 q4 (.inl rfl))
 .exact .inl ⟨j,n,by rw[aB c];exact e1,by rw[aB c];exact e2⟩
def bT.fB(s:aH K H σ fs)(u:V)(v:PV)(i:Nat):bT σ fs H (σ.set i (al u)) (fs.set i (al (.val v))) H:=
 ⟨λa o e n=>⟨λ_=>e,λz=>(vd z s.len).elim n λ⟨_,_,z,_⟩=>by cases z⟩,λ_ e=>e,λa ψ m p=>(zC s p (λ_ _ z=>by cases z)).imp id λn=>⟨n,s.free p⟩,λ_ h=>h⟩
def aH.JE(s:aH K H σ fs){t:SL}(hr:f6 K H a t)(hn:∀c,t.has a c->¬bL σ fs c)(i:Nat):aH K H (σ.set i (al (.ref a))) (fs.set i (al t)):=s.put (.inr ⟨a,rfl,hr⟩) λx c e _ hc j w y n e1 e2 e3 z=>by
 cases e;exact hn c hc ⟨j,w,y,e1,e2,e3,z⟩
def tH{t:SL}(hi:t.KJ=[]){c:db}(h:t.has a c):c=a:=by
 rcases h with h|h
 .exact h
 .rw[hi]at h;cases h
def aH.ou(s:aH K H σ fs){t:SL}(hr:f6 K H a t)(hn:¬bL σ fs a)(i:Nat)(hi:‹t.KJ=[]›):aH K H (σ.set i (al (.ref a))) (fs.set i (al t)):=s.JE hr (λc hc=>by rw[tH hi hc];exact hn) i
def bT.JE(s:aH K H1 σ ax)(g:cf σ fs H H1 ax){t:SL}(hn:∀c,t.has a c->¬bL σ ax c)(h0:∀c,t.has a c->H c=bn)(i:Nat):bT σ fs H (σ.set i (al (.ref a))) (ax.set i (al t)) H1:=by
 refine⟨λb o e n=>⟨(g.f.keep b o e n).1,λz=>(vd z s.len).elim (g.f.keep b o e n).2 λ⟨x,z,_,y⟩=>?_⟩,g.there,λb ψ m p=>?_,g.x⟩
 .cases z;rw[h0 b y]at e;cases e
 .have p:=g.ev.symm.cR p;refine(zC s p (λx z o y=>?_)).imp id λn=>⟨n,s.free p⟩;cases z;exact absurd p.eE (hn b y)
def bT.ou(s:aH K H1 σ ax)(g:cf σ fs H H1 ax){t:SL}(hn:¬bL σ ax a)(h0:H a=bn)(i:Nat)(hi:‹t.KJ=[]›):bT σ fs H (σ.set i (al (.ref a))) (ax.set i (al t)) H1:=bT.JE s g (λc hc=>by rw[tH hi hc];exact hn) (λc hc=>by rw[tH hi hc];exact h0) i
inductive uD:aM->aM->Prop
 |refl (a:aM):uD a a
 |keep {s:Option SL}{a b:aM} (h:uD a b):uD (s::a) (s::b)
 |bump {ψ:Nat->List V->Prop}{n n' m:Nat}{a b:aM} (k:n<=n'/\n'<=m) (h:uD a b):uD (al (.cR ψ n m)::a) (al (.cR ψ n' m)::b)
def uD.f{a b:aM}(h:uD a b):cQ a b:=by
 induction h with
 |refl a=>exact .refl a
 |keep _ ih=>exact .keep ih
 |bump k _ ih=>exact .bump ih k
def Ev.cons{a b:aM}(e:Ev a b){s t:Option SL}(h:s=t\/∃ψ n n' m,s=al (.cR ψ n m)/\t=al (.cR ψ n' m)):Ev (s::a) (t::b):=⟨by simp[e.len],λi=>by
 cases i with
 |zero=>exact h.imp (λz=>by rw[z];rfl) λ⟨ψ,n,n',m,z,y⟩=>⟨ψ,n,n',m,by rw[z];rfl,by rw[y];rfl⟩
 |succ i=>simpa using e.at' i⟩
def uD.ev{a b:aM}(h:uD a b):Ev a b:=by
 induction h with
 |refl a=>exact .refl a
 |keep _ ih=>exact ih.cons (.inl rfl)
 | @bump ψ n n' m _ _ _ _ ih=>exact ih.cons (.inr ⟨ψ,n,n',m,rfl,rfl⟩)
def Ev.nd(ev:Ev fs aE)(s:aH K H σ fs)(i j:Nat)(t u:SL)(x y a:db)(e1:aE[i]?=al (al t))(e2:aE[j]?=al (al u))(o1:t.own=true)(o2:u.own=true)(q1:σ[i]?=al (al (.ref x)))(q2:σ[j]?=al (al (.ref y)))(z1:t.has x a)(z2:u.has y a):i=j:=by
 have f:∀{j:Nat}{t:SL}{x:db},aE[j]?=al (al t)->t.own=true->t.has x a->∃t',fs[j]?=al (al t')/\t'.own=true/\t'.has x a:=λ{j t x} e o z=>by
  rcases ev.get e with k|⟨_,_,_,_,rfl,k⟩
  .exact⟨t,k,o,z⟩
  .exact⟨_,k,rfl,z⟩
 obtain⟨t',a1,a2,a3⟩:=f e1 o1 z1;obtain⟨u',b1,b2,b3⟩:=f e2 o2 z2;exact s.nd i j t' u' x y a a1 b1 a2 b2 q1 q2 a3 b3
def cf.le{a b:aM}(g:cf σ fs H H' a)(h:uD a b):cf σ fs H H' b:=⟨λc o e n t=>g.keep c o e n t,g.there,g.ev.trans h.ev,g.x⟩
def vf(s:aH K H σ fs){t t':SL}{c:db}(e1:fs[i]?=al (al t))(o:t.own=true)(np:∀ψ n m,t≠.cR ψ n m)(e2:σ[i]?=al (al (.ref a)))(hc:t.has a c)(uO:t'.has a c)(nK:∀b,t'.has a b->t.has a b)(o':t'.own=true)(sx:jM c H H')(ht:aW K H H'->f6 K H' a t'):aH K H' σ (fs.set i (al t'))/\bT σ fs H σ (fs.set i (al t')) H':=by
 have oa:=s.ownAt e1 o e2;obtain⟨ob,q,n1,n2,n3⟩:=oa.ex o hc;have tk:aW K H H':=⟨λb vs z=>sx b _ (λy=>by subst y;rw[q]at z;cases z;exact n1 _ rfl) z,λb o u z=>sx b _ (λy=>by subst y;rw[q]at z;cases z;exact n2 _ _ rfl) z,xk λb φ z=>sx b _ (λy=>by subst y;rw[q]at z;cases z;cases n3) z⟩;have oa':=ht tk;have hi:i<fs.length:=(Ak.mp e1).1;have NC:∀b,bL σ (fs.set i (al t')) b->bL σ fs b:=λb z=>by
  obtain⟨j,w,x,z1,z2,z3,z4⟩:=z;rcases bV z1 with⟨rfl,rfl⟩|⟨n,z1⟩
  .rw[e2]at z3;cases z3;exact⟨j,t,a,e1,o,e2,nK b z4⟩
  .exact⟨j,w,x,z1,z2,z3,z4⟩
 refine⟨⟨by simp[s.len],λj w e=>?_,λj k w x b1 b2 b z1 z2 o1 o2 q1 q2 y1 y2=>?_,s.tb.Jl sx q (P1 n3) n2⟩,⟨λb ob e n=>⟨λ_=>sx b ob (λz=>by subst z;exact n ⟨i,t,a,e1,o,e2,hc⟩) e,λz=>n (NC b z)⟩,λb e=>?_,λb ψ m p=>?_,tk.x⟩⟩
 .rcases bV e with⟨rfl,rfl⟩|⟨n,e⟩
  .exact⟨_,e2,.inr ⟨a,rfl,oa'⟩⟩
  .obtain⟨u,h1,h2⟩:=s.at' j w e;refine⟨u,h1,h2.mono tk (λx b ob eb ow hb z _=>sx b ob (λy=>?_) z)⟩;subst y;subst eb;exact n (s.nd j i w t x a b e e1 ow o h1 e2 hb hc)
 .have f:∀{j:Nat}{w:SL}{y:db},(fs.set i (al t'))[j]?=al (al w)->w.own=true->σ[j]?=al (al (.ref y))->w.has y b->∃w',fs[j]?=al (al w')/\w'.own=true/\w'.has y b:=λ{j w y} z ow qy hy=>by
   rcases bV z with⟨rfl,rfl⟩|⟨n,z⟩
   .rw[e2]at qy;cases qy;exact⟨t,e1,o,nK b hy⟩
   .exact⟨w,z,ow,hy⟩
  obtain⟨w',a1,a2,a3⟩:=f z1 o1 q1 y1;obtain⟨x',c1,c2,c3⟩:=f z2 o2 q2 y2;exact s.nd j k w' x' b1 b2 b a1 c1 a2 c2 q1 q2 a3 c3
 .cases z:H b with
  |none=>rfl
  |some ob=>
   by_cases cc:b=c
   .subst cc;obtain⟨o2,y,_⟩:=oa'.ex o' uO;rw[e]at y;cases y
   .rw[sx b ob cc z]at e;cases e
 .obtain⟨j,k,p1,p2⟩:=p;have ji:j≠i:=λz=>by subst z;rw[e1]at p1;cases p1;exact np ψ k m rfl
  exact .inl ⟨j,k,by rw[aB ji];exact p1,p2⟩
def jU(s:aH K H σ fs){t t':SL}(e1:fs[i]?=al (al t))(o:t.own=true)(np:∀ψ n m,t≠.cR ψ n m)(e2:σ[i]?=al (al (.ref a)))(sx:jM a H H')(ht:aW K H H'->f6 K H' a t')(hi:‹t'.KJ=t.KJ›)(o':‹t'.own=true›):aH K H' σ (fs.set i (al t'))/\bT σ fs H σ (fs.set i (al t')) H':=
 vf s e1 o np e2 (.inl rfl) (.inl rfl) (λb h=>by unfold SL.has at h ⊢;rw[hi]at h;exact h) o' sx ht
end
end
end FL
open FL.W renaming bind→am,ret→ap,run_bind→lm,ag→r9,aj→ut,aq→wn,ext'→Ps
local macro_rules | `($a\$b)=>`(am (ap $a) $b)
variable{u:L2.V}{fs aE ax fs2 fs3:FL.aM}{σ':L2.St}{wa wb wc:FL.W PL.PV}{wl:FL.W (O PL.PV)}
namespace FL
section
variable[bj]
variable{K:Aa}
def fE(K:Aa)(fs:aM)(w:W PV)(aE:aM:=fs):TE:=λσ H Q=>aH K H σ fs/\w.run λv=>∀u H',cf σ fs H H' aE->aH K H' σ aE->VR K [] H' u v->Q u H'
def fT(K:Aa)(fs:aM)(w:W Bool)(aE:aM:=fs):TT:=λσ H Q=>aH K H σ fs/\w.run λb=>∀H',cf σ fs H H' aE->aH K H' σ aE->Q b H'
def fO(K:Aa)(fs:aM)(w:W (Option Int))(aE:aM:=fs):TO:=λσ H Q=>aH K H σ fs/\w.run λb=>∀H',cf σ fs H H' aE->aH K H' σ aE->Q b H'
def fL(K:Aa)(fs:aM)(w:W (O PV))(aE:aM:=fs):TE:=λσ H Q=>aH K H σ fs/\w.run λl=>∀a vs H',cf σ fs H H' aE->aH K H' σ aE->H a=bn->H' a=al (.lst vs)->aD K [] H' vs l->Q (.ref a) H'
def TU(K:Aa)(H:Hp)(u:V)(l:O PV):Prop:=∃a vs,u=.ref a/\(Me K H a vs\/H a=al (.tup vs))/\aD K [] H vs l
def O5(K:Aa)(σ:L2.St)(fs:aM)(H:Hp)(u:V)(l:O PV):Prop:=TU K H u l\/∃a,u=.ref a/\((¬bL σ fs a/\∃vs,H a=al (.lst vs)/\aD K [] H vs l)\/∃(i:Nat) (q:Option db),fs[i]?=al (al (.ol q l))/\σ[i]?=al (al (.ref a)))
def fQ(K:Aa)(fs:aM)(w:W (O PV))(aE:aM:=fs):TE:=λσ H Q=>aH K H σ fs/\w.run λl=>∀u H',cf σ fs H H' aE->aH K H' σ aE->O5 K σ aE H' u l->Q u H'
def fI(K:Aa)(fs:aM)(w:W (O PV))(aE:aM:=fs):TE:=λσ H Q=>aH K H σ fs/\w.run λl=>∀u H',cf σ fs H H' aE->aH K H' σ aE->TU K H' u l->Q u H'
inductive AK where
 |v|p (ψ:Nat->List V->Prop) (d:Nat)|f (a:db) (us:List V) (ps:List PV) (fz:List (db×Obj))
inductive dq(K:Aa)(H:Hp):List V->List AK->List PV->Prop
 |nil:dq K H [] [] []
 |v {u:V}{x:PV}{vs:List V}{ks:List AK}{l:List PV} (r:VR K [] H u x) (t:dq K H vs ks l):dq K H (u::vs) (.v::ks) (x::l)
 |f {a:db}{us vs:List V}{ps:List PV}{fz:List (db×Obj)}{ks:List AK}{l:List PV} (r:aD K [] H us ps) (z:mN H fz) (t:dq K H vs ks l):dq K H (.ref a::vs) (.f a us ps fz::ks) l
def fA(K:Aa)(fs:aM)(ks:O AK)(w:W (O PV))(aE:aM:=fs):TA:=λσ H Q=>aH K H σ fs/\w.run λl=>∀vs H',cf σ fs H H' aE->aH K H' σ aE->dq K H' vs ks l->Q vs H'
structure EF(X:Cx)(K:Aa)(fs:aM)(e:o0)(w:W PV)(aE:aM:=fs):Prop where p:PE X e (fE K fs w aE)
structure LF(X:Cx)(K:Aa)(fs:aM)(e:o0)(w:W (List PV))(aE:aM:=fs):Prop where p:PE X e (fL K fs w aE)
structure QF(X:Cx)(K:Aa)(fs:aM)(e:o0)(w:W (List PV))(aE:aM:=fs):Prop where p:PE X e (fQ K fs w aE)
structure IF(X:Cx)(K:Aa)(fs:aM)(e:o0)(w:W (List PV))(aE:aM:=fs):Prop where p:PE X e (fI K fs w aE)
structure TF(X:Cx)(K:Aa)(fs:aM)(e:o0)(w:W Bool)(aE:aM:=fs):Prop where p:PT X e (fT K fs w aE)
structure uz(X:Cx)(K:Aa)(fs:aM)(e:o0)(w:W Bool)(aE:aM:=fs):Prop where p:PW X e (fT K fs w aE)
structure OF(X:Cx)(K:Aa)(fs:aM)(e:Option o0)(w:W (Option Int))(aE:aM:=fs):Prop where p:L2.PO X e (fO K fs w aE)
structure AF(X:Cx)(K:Aa)(fs:aM)(es:List o0)(ks:List AK){R:Type}(B:(List PV->W R)->W R)(aE:aM:=fs):Prop where
 p:∃w:W (List PV),PA X es (fA K fs ks w aE)/\∀k,B k=am w k
section
def TU.tk(t:aW K H H')(h:TU K H u l):TU K H' u l:=by
 obtain⟨a,vs,e,q,r⟩:=h;exact⟨a,vs,e,q.imp (t.f _ _) (t.t _ _),aD.tk t r⟩
def O5.go(h:O5 K σ fs H u l)(s:aH K H σ fs)(g:cf σ fs H H' aE):O5 K σ aE H' u l:=by
 rcases h with h|⟨a,e,⟨n,vs,q,r⟩|q⟩
 .exact .inl (h.tk (g.bN s))
 .exact .inr ⟨a,e,.inl ⟨λz=>n (g.ev.eE z),vs,(g.kK q n),g.za s r⟩⟩
 .obtain⟨i,q0,h1,h2⟩:=q;exact .inr ⟨a,e,.inr ⟨i,q0,g.ev.same h1 (by simp),h2⟩⟩
def O5.sq(h:O5 K σ fs H u l)(s:aH K H σ fs):∃a vs,u=.ref a/\(cL K H a vs\/dh K H a vs)/\aD K [] H vs l:=by
 rcases h with⟨a,vs,e,q,r⟩|⟨a,e,⟨n,vs,q,r⟩|⟨i,_,q1,q2⟩⟩
 .exact⟨a,vs,e,q.elim (λq=>.inl q.sq) λq=>.inr (dh.of q),r⟩
 .exact⟨a,vs,e,.inl (cL.of q),r⟩
 .obtain⟨_,vs,q,r⟩:=s.ownAt q1 rfl q2;exact⟨a,vs,e,.inl (cL.of q),r⟩
end
section
variable{a c o:o0}{rest:O o0}{w:W PV}
def ae(i:Nat){x:Str}(hs:‹fs[i]?=al (al (.val v))›)(hN:‹X.N[i]?=al x›)(hv:qF X.env.scope x:=by first|exact Bs rfl|exact Bw (Bs rfl)|exact Bw (Bw rfl))(hd: ~~~(dn x))(cS: ~~~(qI x)):EF X K fs (.Name x pos) (.ret v):=
 ⟨PE.imp (cy hN hv hd cS) λσ H Q ⟨sr,q⟩=>by
  obtain⟨u,e1,r⟩:=sr.at' i _ hs;rcases r with⟨w,e,r⟩|⟨a,_,r⟩
  .cases e;exact⟨u,e1,q u H .refl sr r⟩
  .exact r.elim⟩
def UA{v:V}{p:PV}(hv:∀H,VR K [] H v p)(h:PE X e (tC v)):EF X K fs e (.ret p):=⟨PE.imp h λσ H Q ⟨sr,q⟩=>q v H .refl sr (hv _)⟩
def au{i j}:EF X K fs (.Constant (.int i) j pos) (.ret (.int i)):=UA (λ_=>.int i) iG
def iw{b j}:EF X K fs (.Constant (.bool b) j pos) (.ret (.bl b)):=UA (λ_=>.bl b) VP
def Ly{j}:EF X K fs (.Constant .none j pos) (.ret .br):=UA (λ_=>.br) sL
def fW{x j}:EF X K fs (.Constant (.str x) j pos) (.ret (.str x)):=UA (λ_=>.str x) xA
def LB{x:Str}{i:Int}{t:Tok}(hm:X.mg x=al (.int i t))(hg:Gl X x)(hd: ~~~(dn x)):EF X K fs (.Name x pos) (.ret (.int i)):=UA (λ_=>.int i) (dD hg hm ⟨_,rfl⟩ hd)
def LA{x:Str}{i:Str}{t:Tok}(hm:X.mg x=al (.str i t))(hg:Gl X x)(hd: ~~~(dn x)):EF X K fs (.Name x pos) (.ret (.str i)):=UA (λ_=>.str i) (dD hg hm ⟨_,rfl⟩ hd)
def of2(m:M2)(x y:PV):W PV:=⟨λQ=>m.f x y [] λz h=>h=[]/\Q z,λf q=>m.mono (λ_ _ q=>⟨q.1,f _ q.2⟩) q⟩
def WH(H:Hp):HR K [] H []:=⟨List.nodup_nil,rfl,λn a o e _=>by simp at e⟩
def pq0{Q:VK}{z:PV}{h:PH}(sr:aH K H σ fs)(q:h=[]/\∀u H',cf σ fs H H'->aH K H' σ fs->VR K [] H' u z->Q u H'):pQ K [] H Q z h:=λι' v H' g r x=>by
 obtain⟨e,q⟩:=q;subst e;have:ι'=[]:=B2 r.len;subst this;have sm:dW H H':=λa o z=>g.keep a o (by simp) z;exact q v H' (cf.same sm) (sr.same sm) x
def xH{r:R2}{m:M2}(hm:M2.Ok K r m){Q:VK}{v:V}{x y:PV}(sr:aH K H σ fs)(hu:VR K [] H u x)(hv:VR K [] H v y)(q:(of2 m x y).run λz=>∀u H',cf σ fs H H'->aH K H' σ fs->VR K [] H' u z->Q u H'):r u v H Q:=
 hm (WH H) hu hv (m.mono (λz h q=>pq0 sr q) q)
def zY{r:R2}{m:M2}(hm:M2.Ok K r m):∀σ H Q,fE K fs (.bind wa λx=>.bind wb λy=>of2 m x y) fs2 σ H Q->Q1 r (fE K fs wa ax) (fE K ax wb fs2) σ H Q:=λσ H Q ⟨sr,q⟩=>
 ⟨sr,wa.mono (λx q1 u1 H1 g1 s1 v1=>⟨s1,wb.mono (λy q2 u2 H2 g2 s2 v2=>xH hm s2 (g2.vr s1 v1) v2 ((of2 m x y).mono (λz q u3 H3 g3 s3 v3=>q u3 H3 ((g1.trans g2).trans g3) s3 v3) q2)) q1⟩) q⟩
def Lx{op:Operator}{r:R2}{m:M2}(ho:fy X (ww op) r)(hm:M2.Ok K r m)(ha:EF X K fs a wa ax)(hb:EF X K ax b wb fs2):EF X K fs (.BinOp a op b pos) (.bind wa λx=>.bind wb λy=>of2 m x y) fs2:=⟨PE.imp (oz ho ha.p hb.p) (zY hm)⟩
def vY(ha:EF X K fs a wa ax)(hb:EF X K ax b wb fs2):EF X K fs (.BinOp a .Sub b pos) (.bind wa λx=>.bind wb λy=>of2 xJ x y) fs2:=Lx J1 (wM λ_ _ _ _=>.int _) ha hb
def kY(ha:EF X K fs a wa ax)(hb:EF X K ax b wb fs2):EF X K fs (.BinOp a .Mult b pos) (.bind wa λx=>.bind wb λy=>of2 iH x y) fs2:=Lx NF (uq λ_ _ _ _=>.int _) ha hb
def LC(ha:EF X K fs a wa ax)(hb:EF X K ax b wb fs2):EF X K fs (.BinOp a .FloorDiv b pos) (.bind wa λx=>.bind wb λy=>of2 oDiv x y) fs2:=Lx NG (uq λ_ _ _ _=>.int _) ha hb
def jI(ha:EF X K fs a wa ax)(hb:EF X K ax b wb fs2):EF X K fs (.BinOp a .Mod b pos) (.bind wa λx=>.bind wb λy=>of2 oMod x y) fs2:=Lx RK (uq λ_ _ _ _=>.int _) ha hb
def Gr(ha:EF X K fs a wa ax)(hb:EF X K ax b wb fs2):EF X K fs (.BinOp a .Pow b pos) (.bind wa λx=>.bind wb λy=>of2 qi x y) fs2:=Lx RI (uq λ_ _ _ _=>.int _) ha hb
def UD:PV->W Bool
 |.bl b=>.ret b
 |_=>.fail
def iX{m:M2}(hc:JC X K op b m)(ha:EF X K fs a wa ax)(hb:EF X K ax b wb fs2):EF X K fs (.Compare a [op] [b] pos) (.bind wa λx=>.bind wb λy=>of2 m x y) fs2:=let ⟨_,h1,h2⟩:=hc.p;⟨PE.imp (ny h1 ha.p hb.p hc.k) (zY h2)⟩
def S7{w:W PV}:∀σ H Q,fT K fs (.bind w UD) ax σ H Q->(fE K fs w ax) σ H λx H'=>∃k,x=.bl k/\Q k H':=λσ H Q ⟨sr,q⟩=>⟨sr,w.mono (λx q1 u1 H1 g1 s1 v1=>by
 cases v1 with
 |bl b=>exact⟨b,rfl,q1 H1 g1 s1⟩
 |_=>exact q1.elim) q⟩
def jE{m:M2}(hc:JC X K op b m)(ha:EF X K fs a wa ax)(hb:EF X K ax b wb fs2):TF X K fs (.Compare a [op] [b] pos) (.bind wa λx=>.bind wb λy=>.bind (of2 m x y) UD) fs2:=let ⟨_,h1,h2⟩:=hc.p
 ⟨PT.imp (ja h1 ha.p hb.p hc.k) λσ H Q q=>zY h2 σ H _ (S7 σ H Q q)⟩
def i5(z:PV)(w:W PV):W PV:=match z with
 |.bl true=>w
 |.bl false=>.ret (.bl false)
 |_=>.fail
def vT{r:R2}{m m':M2}(hm:M2.Ok K r m)(hm':M2.Ok K r' m'):∀σ H Q,fE K fs (.bind wa λx=>.bind wb λy=>.bind (of2 m x y) λz=>i5 z (.bind wc λw=>of2 m' y w)) fs σ H Q->xj r r' (fE K fs wa) (fE K fs wb) (fE K fs wc) σ H Q:=λσ H Q ⟨sr,q⟩=>
 ⟨sr,wa.mono (λx q1 u1 H1 g1 s1 v1=>⟨s1,wb.mono (λy q2 u2 H2 g2 s2 v2=>xH hm s2 (g2.vr s1 v1) v2 ((of2 m x y).mono (λz q3 u3 H3 g3 s3 v3=>by
  have gg:=(g1.trans g2).trans g3;cases v3 with
  |bl k=>
   cases k with
   |true=>exact⟨true,rfl,by rw[if_pos rfl];exact⟨s3,wc.mono (λw q4 u4 H4 g4 s4 v4=>xH hm' s4 ((g3.trans g4).vr s2 v2) v4 ((of2 m' y w).mono (λz q u5 H5 g5 s5 v5=>q u5 H5 ((gg.trans g4).trans g5) s5 v5) q4)) q3⟩⟩
   |false=>exact⟨false,rfl,by rw[if_neg Bq];exact q3 _ H3 gg s3 (.bl _)⟩
  |_=>exact q3.elim) q2)) q1⟩) q⟩
def Gu{m m':M2}(hc:JC X K op b m)(uO:JC X K Iw c m')(ha:EF X K fs a wa)(hb:EF X K fs b wb)(hd:EF X K fs c wc)(hk:lastMarks [op,Iw] [b,c]=false:=by with_unfolding_all rfl):EF X K fs (.Compare a [op,Iw] [b,c] pos) (.bind wa λx=>.bind wb λy=>.bind (of2 m x y) λz=>i5 z (.bind wc λw=>of2 m' y w)):=
 let ⟨_,h1,h2⟩:=hc.p;let ⟨_,h3,h4⟩:=uO.p;⟨PE.imp (JX h1 h3 ha.p hb.p hd.p hk) (vT h2 h4)⟩
def MR{m m':M2}(hc:JC X K op b m)(uO:JC X K Iw c m')(ha:EF X K fs a wa)(hb:EF X K fs b wb)(hd:EF X K fs c wc)(hk:lastMarks [op,Iw] [b,c]=false:=by with_unfolding_all rfl):TF X K fs (.Compare a [op,Iw] [b,c] pos) (.bind wa λx=>.bind wb λy=>.bind (of2 m x y) λz=>.bind (i5 z (.bind wc λw=>of2 m' y w)) UD):=
 let ⟨_,h1,h2⟩:=hc.p;let ⟨_,h3,h4⟩:=uO.p;⟨PT.imp (JH h1 h3 ha.p hb.p hd.p hk) λσ H Q q=>vT h2 h4 σ H _ (S7 σ H Q q)⟩
def L9(x:PV)(w:W PV):W PV:=match x with
 |.bl true=>w
 |.bl false=>.ret (.bl false)
 |_=>.fail
def R0:PV->W PV
 |.bl b=>.ret (.bl (!b))
 |_=>.fail
def wd(ha:EF X K fs a wa ax)(hb:EF X K ax (.BoolOp .And (b::rest) pos) wb fs2)(hl:uD ax fs2:=by exact .refl _):EF X K fs (.BoolOp .And (a::b::rest) pos) (.bind wa λx=>L9 x wb) fs2:=⟨PE.imp (JZ ha.p hb.p) λσ H Q ⟨sr,q⟩=>⟨sr,wa.mono (λx q1 u1 H1 g1 s1 v1=>by
 cases v1 with
 |bl k=>
  cases k with
  |true=>exact⟨true,rfl,by rw[if_pos rfl];exact⟨s1,wb.mono (λ_ q u H' g s v=>q u H' (g1.trans g) s v) q1⟩⟩
  |false=>exact⟨false,rfl,by rw[if_neg Bq];exact q1 _ H1 (g1.le hl) (s1.le hl.f) (.bl _)⟩
 |_=>exact q1.elim) q⟩⟩
def vZ{op}(h:EF X K fs a wa ax):EF X K fs (.BoolOp op [a] pos) wa ax:=⟨xB h.p⟩
def Xm(ha:EF X K fs a wa ax):EF X K fs (.UnaryOp .Not a pos) (.bind wa R0) ax:=⟨PE.imp (JT ha.p) λσ H Q ⟨sr,q⟩=>⟨sr,wa.mono (λx q1 u1 H1 g1 s1 v1=>by
 cases v1 with
 |bl k=>exact⟨_,rfl,q1 _ H1 g1 s1 (.bl _)⟩
 |_=>exact q1.elim) q⟩⟩
variable{ta tb tc:W Bool}
def nk(h:TF X K fs a ta ax):uz X K fs (.BoolOp .And [a] pos) ta ax:=⟨zB h.p⟩
def jP(h:TF X K fs a ta ax):uz X K fs (.BoolOp .Or [a] pos) ta ax:=⟨xu h.p⟩
def rV(ha:TF X K fs a ta ax)(hb:uz X K ax (.BoolOp .And (b::rest) pos) tb fs2)(hl:uD ax fs2:=by exact .refl _):uz X K fs (.BoolOp .And (a::b::rest) pos) (.bind ta λk=>if k=true then tb else .ret false) fs2:=⟨PW.imp (JD ha.p hb.p) λσ H Q ⟨sr,q⟩=>⟨sr,ta.mono (λk q1 H1 g1 s1=>by
 cases k with
 |true=>exact iO ⟨s1,tb.mono (λ_ q H' g s=>q H' (g1.trans g) s) q1⟩
 |false=>exact fe (q1 H1 (g1.le hl) (s1.le hl.f))) q⟩⟩
def nW(ha:TF X K fs a ta ax)(hb:uz X K ax (.BoolOp .Or (b::rest) pos) tb fs2)(hl:uD ax fs2:=by exact .refl _):uz X K fs (.BoolOp .Or (a::b::rest) pos) (.bind ta λk=>if k=true then .ret true else tb) fs2:=⟨PW.imp (JB ha.p hb.p) λσ H Q ⟨sr,q⟩=>⟨sr,ta.mono (λk q1 H1 g1 s1=>by
 cases k with
 |true=>exact iO (q1 H1 (g1.le hl) (s1.le hl.f))
 |false=>exact fe ⟨s1,tb.mono (λ_ q H' g s=>q H' (g1.trans g) s) q1⟩) q⟩⟩
def uz.t(h:uz X K fs a ta ax):TF X K fs a ta ax:=⟨PW.pt h.p⟩
def eS(ha:TF X K fs a ta ax):TF X K fs (.UnaryOp .Not a pos) (.bind ta λk=>.ret (!k)) ax:=⟨PT.imp (lH ha.p) λσ H Q ⟨sr,q⟩=>⟨sr,q⟩⟩
def Ti(hc:TF X K fs c tc ax)(ha:EF X K ax a wa fs2)(hb:EF X K ax b wb fs2):EF X K fs (.IfExp c a b pos) (.bind tc λk=>if k=true then wa else wb) fs2:=⟨PE.imp (JU hc.p ha.p hb.p) λσ H Q ⟨sr,q⟩=>⟨sr,tc.mono (λk q1 H1 g1 s1=>by
 cases k with
 |true=>exact iO ⟨s1,wa.mono (λ_ q u H' g s v=>q u H' (g1.trans g) s v) q1⟩
 |false=>exact fe ⟨s1,wb.mono (λ_ q u H' g s v=>q u H' (g1.trans g) s v) q1⟩) q⟩⟩
def cG:PV->W Bool
 |.br=>.ret false
 |.bl b=>.ret b
 |.int i=>.ret (i != 0)
 |.str y=>.d9 (y.length<=sizeLine) (.ret ((y.length:Int) != 0))
 |.tup l=>.ret (!l.isEmpty)
 |.cl l=>.ret (!l.isEmpty)
 |_=>.fail
def bO(hK:X.K=K)(ha:EF X K fs a wa ax)(he:∀Ä,isTrue a X.env Ä=(do let v <- Ä;KF a.pos;u8 [v] (truthy v))):TF X K fs a (.bind wa cG) ax:=⟨PT.imp (qU K hK ha.p he) λσ H Q ⟨sr,q⟩=>⟨sr,wa.mono (λx q1 u1 H1 g1 s1 v1=>by
 cases v1 with
 |br=>exact⟨false,rfl,q1 H1 g1 s1⟩
 |bl b=>exact⟨b,rfl,q1 H1 g1 s1⟩
 |int i=>exact⟨_,rfl,q1 H1 g1 s1⟩
 |str y=>exact⟨_,⟨q1.1,rfl⟩,q1.2 H1 g1 s1⟩
 |ty _=>exact q1.elim
 |dk _ _ _=>exact q1.elim
 |dt _ _ _=>exact q1.elim
 |ob _ _ _ _ _=>exact q1.elim
 |hand _=>exact q1.elim
 |ref _=>exact q1.elim
 | @tup p vs l e rs=>
  refine⟨!vs.isEmpty,.inr (.inl ⟨_,dh.of e,rfl⟩),?_⟩;rw[<- iQ rs];exact q1 H1 g1 s1
 | @cl p vs l e rs=>
  refine⟨!vs.isEmpty,.inl ⟨_,e.sq,rfl⟩,?_⟩;rw[<- iQ rs];exact q1 H1 g1 s1) q⟩⟩
def Pp(hK:X.K=K)(ha:QF X K fs a wl ax)(he:∀Ä,isTrue a X.env Ä=(do let v <- Ä;KF a.pos;u8 [v] (truthy v))):TF X K fs a (.bind wl λl=>.ret (!l.isEmpty)) ax:=⟨PT.imp (qU K hK ha.p he) λσ H Q ⟨sr,q⟩=>⟨sr,wl.mono (λl q1 u1 H1 g1 s1 v1=>by
 obtain⟨b,vs,rfl,h,rs⟩:=v1.sq s1;refine⟨!vs.isEmpty,?_,?_⟩
 .exact h.elim (λh=>.inl ⟨_,h,rfl⟩) λh=>.inr (.inl ⟨_,h,rfl⟩)
 .rw[<- iQ rs];exact q1 H1 g1 s1) q⟩⟩
variable{R:Type}{ks:O AK}{B:(O PV->W R)->W R}
def az:AF X K fs [] [] (R:=R) (λk=>k []):=⟨.ret [],PA.imp aA λσ H Q ⟨sr,q⟩=>q [] H .refl sr .nil,λk=>rfl⟩
def ak(ha:EF X K fs e w ax)(hr:AF X K ax es ks B fs2)(hs:‹dX X e es›):AF X K fs (e::es) (.v::ks) (λk=>.bind w λx=>B λl=>k (x::l)) fs2:=by
 obtain⟨wr,hp,hB⟩:=hr.p;refine⟨.bind w λx=>.bind wr λl=>.ret (x::l),PA.imp (ah ha.p hp hs) λσ H Q ⟨sr,q⟩=>?_,λk=>?_⟩
 .exact⟨sr,w.mono (λx q1 u1 H1 g1 s1 v1=>⟨s1,wr.mono (λl q2 vs H2 g2 s2 v2=>q2 _ H2 (g1.trans g2) s2 (.v (g2.vr s1 v1) v2)) q1⟩) q⟩
 .have:(λx=>B λl=>k (x::l))=λx=>am wr λl=>k (x::l):=funext λx=>hB _;rw[this];rfl
theorem dq.za:∀{vs:O V}{n:Nat}{l:O PV},dq K H vs (Ar n .v) l->aD K [] H vs l/\l.length=n
 |_,0,_,.nil=>⟨.nil,rfl⟩
 |_,n+1,_,.v r t=>⟨.cons r (dq.za t).1,by rw[Ap,(dq.za t).2]⟩
def Xl{x1}{B:(O PV->W PV)->W PV}(h:AF X K fs es (Ar n .v) B ax)(hn: ~~~(n<=1000)):EF X K fs (.Tuple es x1 pos) (B λl=>.ret (.tup l)) ax:=by
 obtain⟨w,hp,hB⟩:=h.p;rw[hB];refine⟨PE.imp (zE hp) λσ H Q ⟨sr,q⟩=>⟨sr,w.mono (λl q1 vs H1 g1 s1 v1=>?_) q⟩⟩;obtain⟨v2,hl⟩:=v1.za;exact⟨by rw[v2.length,hl];exact bA hn,λp H2 s2 e2 n2=>q1 _ H2 (g1.trans (cf.same s2)) (s1.same s2) (.tup e2 (aD.tk s2.dM v2))⟩
def Qg{B:(O PV->W (O PV))->W (O PV)}(h:AF X K fs es (Ar n .v) B ax)(hn: ~~~(n<=1000)):LF X K fs (.List es pos) (B λl=>.ret l) ax:=by
 obtain⟨w,hp,hB⟩:=h.p;rw[hB];refine⟨PE.imp (zF hp) λσ H Q ⟨sr,q⟩=>⟨sr,w.mono (λl q1 vs H1 g1 s1 v1=>?_) q⟩⟩;obtain⟨v2,hl⟩:=v1.za;exact⟨by rw[v2.length,hl];exact bA hn,λp H2 s2 e2 n2=>q1 _ _ H2 (g1.trans (cf.same s2)) (s1.same s2) (g1.there p n2) e2 (aD.tk s2.dM v2)⟩
end
end
end FL
namespace L2
def Inv.zU{σ:St}(I:Inv X Z σ H s)(e:H a=al (.lst vs)):∃o,Inv X Z σ (upd H a (.cE o (.lst vs))) s:=by
 obtain⟨z,ao,n,r,h1⟩:=(I.aK a _ e);exact⟨_,I.write (by rw[e];exact BR) (.inl rfl) (λb u _ z=>z) ⟨_,h1⟩ ⟨h1,z,ao,n,r,h1⟩⟩
def Inv.OB{σ:St}{ay:O (Key×V)}(I:Inv X Z σ H s)(e:H a=al (.dK ay)):∃o,Inv X Z σ (upd H a (.cE o (.dK ay))) s:=by
 obtain⟨z,hs,vs,r,o,es,ep,h1,h2⟩:=(I.aK a _ e);exact⟨o,I.write (by rw[e];exact BR) (.inl rfl) (λb u _ z=>z) ⟨o,h1⟩ ⟨h1,z,hs,vs,r,o,es,ep,h1,h2⟩⟩
end L2
variable{t:FL.SL}{ks:O FL.AK}{B:(O PL.PV->FL.W PL.PV)->FL.W PL.PV}{wm:FL.W (O PL.PV)}{q0:Option AW}
namespace FL
section
variable[bj]
variable{K:Aa}
section
def nr(o':HO)(e:H a=al (.lst vs)):aW K H (upd H a o'):=⟨λb ws q=>by rw[af (vj q e (by intro z;cases z))];exact q,λb o u q=>by rw[af (vj q e (by intro z;cases z))];exact q,xk λb φ q=>by rw[af (vj q e (by intro z;cases z))];exact q⟩
def dvK(ay:O (Key×PV)):PV:=.dv (ay.map λkv=>kP kv.1) (ay.map (·.2))
def dvT(ay:O (O Key×PV)):PV:=.dv (ay.map λkv=>.tup (kv.1.map kP)) (ay.map (·.2))
def VS(h:o.ow=true):∀φ,o≠.ext φ:=λφ e=>by subst e;cases h
def ki{oh:HO}(o':HO)(e:H a=al oh)(n1:∀vs,oh≠.tup vs)(n2:∀o u,oh≠.cE o u)(n3:∀φ,oh≠.ext φ:=by first|(intro φ z;cases z;done)|exact VS (by assumption)):aW K H (upd H a o'):=⟨λb ws q=>by rw[af (λz=>by subst z;rw[e]at q;cases q;exact n1 _ rfl)];exact q,λb o u q=>by rw[af (λz=>by subst z;rw[e]at q;cases q;exact n2 _ _ rfl)];exact q,xk λb φ q=>by rw[af (λz=>by subst z;rw[e]at q;cases q;exact n3 _ rfl)];exact q⟩
def Wk{vs:O (O Key×V)}{ay:O (O Key×PV)}(h:vs.map (·.1)=ay.map (·.1)):(ay.map λkv=>PV.tup (kv.1.map kP))=vs.map λkv=>PV.tup (kv.1.map kP):=by
 have:=congrArg (List.map λk:O Key=>PV.tup (k.map kP)) h;rw[BC,BC]at this;exact this.symm
def Wl{vs:O (Key×V)}{ay:O (Key×PV)}(h:vs.map (·.1)=ay.map (·.1)):(ay.map λkv=>kP kv.1)=vs.map λkv=>kP kv.1:=by
 have:=congrArg (List.map kP) h;rw[BC,BC]at this;exact this.symm
def SL.bw:SL->Bool
 |.ol _ _=>true
 |.od _=>true
 |.ot _=>true
 |_=>false
def SL.bv:SL->PV
 |.ol _ l=>.cl l
 |.od ay=>dvK ay
 |.ot ay=>dvT ay
 |_=>.br
def SL.LV(h:t.bw=true):t.own=true:=by cases t<;>first|rfl|cases h
def W6(I:Inv X Z σ' H s)(oa:f6 K H a t)(hb:t.bw=true):∃ob o,H a=al o/\(∀vs,o≠.tup vs)/\(∀ob u,o≠.cE ob u)/\Inv X Z σ' (upd H a (.cE ob o)) s/\VR K [] (upd H a (.cE ob o)) (.ref a) t.bv:=by
 cases t with
 |ol q l=>
  obtain⟨_,vs,e,r⟩:=oa;obtain⟨ob,I2⟩:=I.zU e;exact⟨ob,_,e,by simp,by simp,I2,.cl (.inl ⟨ob,aw⟩) (aD.tk (ki _ e (by simp) (by simp)) r)⟩
 |od l=>
  obtain⟨vs,e,k,r⟩:=oa;obtain⟨ob,I2⟩:=I.OB e;exact⟨ob,_,e,by simp,by simp,I2,.dk aw (Wl k) (aD.tk (ki _ e (by simp) (by simp)) r)⟩
 |ot l=>
  obtain⟨vs,e,k,r⟩:=oa;obtain⟨ob,I2⟩:=I.freeze e;exact⟨ob,_,e,by simp,by simp,I2,.dt aw (Wk k) (aD.tk (ki _ e (by simp) (by simp)) r)⟩
 |_=>cases hb
def aH.W5{u:HO}(sr:aH K H σ fs)(hs:fs[i]?=al (al t))(ho:t.own=true)(e1:σ[i]?=al (al (.ref a)))(h1:H a=al o)(n1:∀vs,o≠.tup vs)(n2:∀ob u,o≠.cE ob u)(vr:VR K [] (upd H a u) (.ref a) v):aH K (upd H a u) σ (fs.set i (al (.val v))):=by
 have ow:o.ow=true:=by
  obtain⟨o',z1,_,_,z2⟩:=(sr.ownAt hs ho e1).ex ho (.inl rfl);rw[h1]at z1;cases z1;exact z2
 have nt:o.nt=true:=P1 ow;refine⟨by simp[sr.len],λj t' z=>?_,λj k t' u b1 b2 b z1 z2 o1 o2=>?_,sr.tb.Jl (λb o n z=>by rw[af n];exact z) h1 nt n2⟩
 .rcases bV z with⟨rfl,rfl⟩|⟨n,z⟩
  .exact⟨_,e1,.inl ⟨_,rfl,vr⟩⟩
  .obtain⟨u,k1,k2⟩:=sr.at' j t' z;exact⟨u,k1,k2.mono (ki _ h1 n1 n2) (λx b o eb ow hb zz _=>by
    subst eb;rw[af (λy=>by subst y;exact n (sr.nd j i t' _ x b b z hs ow ho k1 e1 hb (.inl rfl)))];exact zz)⟩
 .rcases bV z1 with⟨rfl,rfl⟩|⟨n1,z1⟩
  .cases o1
  .rcases bV z2 with⟨rfl,rfl⟩|⟨n2,z2⟩
   .cases o2
   .exact sr.nd j k t' u b1 b2 b z1 z2 o1 o2
def aH.side(s:aH K H σ fs)(n:¬bL σ fs a)(e:H a=al (.lst vs))(o':HO):aH K (upd H a o') σ fs:=⟨s.len,λi t q=>by
 obtain⟨u,h1,h2⟩:=s.at' i t q;exact⟨u,h1,h2.mono (nr o' e) (λx b o eb ow hb z _=>by subst eb;rw[af (λy:b=a=>n ⟨i,t,x,q,ow,h1,y▸hb⟩)];exact z)⟩,s.nd,s.tb.Jl (λb o n z=>by rw[af n];exact z) e rfl (by simp)⟩
def cf.side(g:cf σ fs H H1 aE)(h0:H a=bn)(e0:∀φ,H1 a≠al (.ext φ))(o':HO):cf σ fs H (upd H1 a o') aE:=⟨λb o e n t=>by rw[af (a6 e h0)];exact g.keep b o e n t,λb e=>by
 by_cases c:b=a
 .subst c;exact h0
 .rw[af c]at e;exact g.there b e,g.ev,λb z=>by
 have z:=g.x b z;unfold fw at z ⊢;rw[af (λy=>by subst y;exact e0 _ z)];exact z⟩
end
section
variable{a:o0}{w:W PV}
def v9(h:LF X K fs e wl ax):EF X K fs e (.bind wl λl=>.ret (.cl l)) ax:=⟨λZ s σ H Q I ⟨sr,q⟩=>by
 refine aR (h.p Z s σ H (λu H1=>∃a vs l,u=.ref a/\cf σ fs H H1 ax/\aH K H1 σ ax/\H a=bn/\H1 a=al (.lst vs)/\aD K [] H1 vs l/\∀u H',cf σ fs H H' ax->aH K H' σ ax->VR K [] H' u (.cl l)->Q u H') I ⟨sr,wl.mono (λl q1 a vs H1 g1 s1 n e v=>⟨a,vs,l,rfl,g1,s1,n,e,v,q1⟩) q⟩) λu s1 ⟨v,H1,I1,r1,a,vs,l,e,g1,Uc,n,ea,vr,q1⟩=>?_;subst e;obtain⟨ob,I2⟩:=I1.zU ea;exact⟨.ref a,_,I2,r1,q1 _ _ (g1.side n (λφ=>by rw[ea];simp) _) (Uc.side (λz=>sr.noOwn n (g1.ev.eE z)) ea _) (.cl (.inl ⟨ob,aw⟩) (aD.tk (nr _ ea) vr))⟩⟩
def bB:PV->W (O PV)
 |.tup l=>.ret l
 |.cl l=>.ret l
 |_=>.fail
def dj(h:EF X K fs e w ax):IF X K fs e (.bind w bB) ax:=⟨PE.imp h.p λσ H Q ⟨sr,q⟩=>⟨sr,w.mono (λx q1 u1 H1 g1 s1 v1=>by
 cases v1 with
 |tup e r=>exact q1 _ H1 g1 s1 ⟨_,_,rfl,.inr e,r⟩
 |cl e r=>exact q1 _ H1 g1 s1 ⟨_,_,rfl,.inl e,r⟩
 |_=>exact q1.elim) q⟩⟩
def Wv(h:LF X K fs e wl ax):IF X K fs e wl ax:=dj (v9 h)
theorem IF.q(h:IF X K fs e wl ax):QF X K fs e wl ax:=⟨PE.imp h.p λσ H Q ⟨sr,q⟩=>⟨sr,wl.mono (λl q1 u1 H1 g1 s1 v1=>q1 u1 H1 g1 s1 (.inl v1)) q⟩⟩
def bQ(h:EF X K fs e w ax):QF X K fs e (.bind w bB) ax:=(dj h).q
def oq(h:LF X K fs e wl ax):QF X K fs e wl ax:=⟨PE.imp h.p λσ H Q ⟨sr,q⟩=>⟨sr,wl.mono (λl q1 a vs H1 g1 s1 n e v=>q1 _ H1 g1 s1 (.inr ⟨a,rfl,.inl ⟨λz=>sr.noOwn n (g1.ev.eE z),vs,e,v⟩⟩)) q⟩⟩
def fH(i:Nat){x:Str}(hs:‹fs[i]?=al (al (.ol q0 l))›)(hN:‹X.N[i]?=al x›)(hv:qF X.env.scope x:=by first|exact Bs rfl|exact Bw (Bs rfl)|exact Bw (Bw rfl))(hd: ~~~(dn x))(cS: ~~~(qI x)):QF X K fs (.Name x pos) (.ret l):=
 ⟨PE.imp (cy hN hv hd cS) λσ H Q ⟨sr,q⟩=>by
  obtain⟨u,e1,r⟩:=sr.at' i _ hs;rcases r with⟨w,e,r⟩|⟨a,e,r⟩
  .cases e
  .subst e;exact⟨_,e1,q _ H .refl sr (.inr ⟨a,rfl,.inr ⟨i,q0,hs,e1⟩⟩)⟩⟩
def Yp(l:O PV):PV->W PV
 |.int i=>.Ue (dY l i)
 |_=>.fail
def cx(hK:X.K=K)(ha:QF X K fs a wl ax)(hb:EF X K ax b wb fs2)(hs:uB b:=by exact λ_ _=>rfl):EF X K fs (.Subscript a b pos) (.bind wl λl=>.bind wb λy=>Yp l y) fs2:=⟨PE.imp (zG (tu K hK) ha.p hb.p hs) λσ H Q ⟨sr,q⟩=>⟨sr,wl.mono (λl q1 u1 H1 g1 s1 v1=>⟨s1,wb.mono (λy q2 u2 H2 g2 s2 v2=>by
 cases v2 with
 |int i=>
  have q2:(W.Ue (dY l i)).run _:=q2;cases z:dY l i with
  |none=>rw[z]at q2;exact q2.elim
  |some x=>
   rw[z]at q2;obtain⟨ad,vs,rfl,h,rs⟩:=(v1.go s1 g2).sq s2;obtain⟨v,e1,e2⟩:=aD.dY rs z;have q3:=q2 v H2 (g1.trans g2) s2 e2;exact h.elim (λh=>.inl ⟨ad,vs,i,v,rfl,rfl,h,e1,q3⟩) λh=>.inr (.inl ⟨ad,vs,i,v,rfl,rfl,h,e1,q3⟩)
 |_=>exact q2.elim) q1⟩) q⟩⟩
def Xp(ha:EF X K fs a wa ax)(hb:EF X K ax b wb fs2)(hs:uB b):EF X K fs (.Subscript a b pos) (.bind wa λx=>.bind wb λy=>of2 Ka x y) fs2:=⟨PE.imp (zG KD ha.p hb.p hs) (zY NU)⟩
def uJ(m:uR)(l:O PV):W PV:=⟨λQ=>m.f l [] λz h=>h=[]/\Q z,λf q=>m.mono (λ_ _ q=>⟨q.1,f _ q.2⟩) q⟩
section
variable{x:Str}{id:String}{r:O V->Hp->VK->Prop}
def J8{m:uR}(hm:uR.Ok K r m){Q:VK}{us:O V}(sr:aH K H σ fs)(hu:aD K [] H us l)(q:(uJ m l).run λz=>∀u H',cf σ fs H H'->aH K H' σ fs->VR K [] H' u z->Q u H'):r us H Q:=hm (WH H) hu (m.mono (λz h q=>pq0 sr q) q)
def tW{m:uR}(hc:bz X (.builtin id) r)(hB:uR.Ok K r m)(hg:Gl X x)(hm:X.mg x=bn)(hv:tz x=al (.builtin id))(ha:AF X K fs (e::es) (Ar n .v) B ax)(hn: ~~~(x≠"__name__"))(dQ: ~~~(dn x))(he:‹dX X e es›)(bH:‹fD X pos es›):EF X K fs (.Call (.Name x p) (e::es) [] pos) (B (uJ m)) ax:=by
 obtain⟨w,hp,Ā⟩:=ha.p;rw[Ā];exact⟨PE.imp (bo hc hg hm hv hp hn dQ he bH) λσ H Q ⟨sr,q⟩=>⟨sr,w.mono (λl q1 vs H1 g1 s1 v1=>J8 hB s1 v1.za.1 ((uJ m l).mono (λz q u H' g s v=>q u H' (g1.trans g) s v) q1)) q⟩⟩
def LD{m:uR}(hc:bz X (.type id) r)(hB:uR.Ok K r m)(hg:Gl X x)(hm:X.mg x=bn)(hv:tz x=al (.type id))(ha:AF X K fs (e::es) (Ar n .v) B ax)(hn: ~~~(x≠"__name__"))(dQ: ~~~(dn x))(he:‹dX X e es›)(bH:‹fD X pos es›):EF X K fs (.Call (.Name x p) (e::es) [] pos) (B (uJ m)) ax:=by
 obtain⟨w,hp,Ā⟩:=ha.p;rw[Ā];exact⟨PE.imp (eK hc hg hm hv hp hn dQ he bH) λσ H Q ⟨sr,q⟩=>⟨sr,w.mono (λl q1 vs H1 g1 s1 v1=>J8 hB s1 v1.za.1 ((uJ m l).mono (λz q u H' g s v=>q u H' (g1.trans g) s v) q1)) q⟩⟩
def CQ(K:Aa)(r:O V->Hp->VK->Prop)(m:O PV->W PV):Prop:=∀{fs:aM}{σ:L2.St}{H:Hp}{Q:VK}{u:V}{l:O PV},aH K H σ fs->O5 K σ fs H u l->((m l).run λz=>∀u H',cf σ fs H H'->aH K H' σ fs->VR K [] H' u z->Q u H')->r [u] H Q
def CL(K:Aa)(r:O V->Hp->VK->Prop)(m:O PV->W (O PV)):Prop:=∀{fs:aM}{σ:L2.St}{H:Hp}{Q:VK}{u:V}{l:O PV},aH K H σ fs->O5 K σ fs H u l->((m l).run λz=>∀a vs H',cf σ fs H H'->aH K H' σ fs->H a=bn->H' a=al (.lst vs)->aD K [] H' vs z->Q (.ref a) H')->r [u] H Q
def LG{m:O PV->W PV}(hc:bz X (.builtin id) r)(hB:CQ K r m)(hg:Gl X x)(hm:X.mg x=bn)(hv:tz x=al (.builtin id))(ha:QF X K fs e wl ax)(hn: ~~~(x≠"__name__"))(dQ: ~~~(dn x))(he:‹dX X e []›)(bH:‹fD X pos []›):EF X K fs (.Call (.Name x p) [e] [] pos) (.bind wl m) ax:=⟨PE.imp (bo hc hg hm hv (ah ha.p aA he) hn dQ he bH) λσ H Q ⟨sr,q⟩=>⟨sr,wl.mono (λl q1 u H1 g1 s1 v1=>hB s1 v1 ((m l).mono (λz q u H' g s v=>q u H' (g1.trans g) s v) q1)) q⟩⟩
def HV{m:O PV->W PV}(hc:bz X (.type id) r)(hB:CQ K r m)(hg:Gl X x)(hm:X.mg x=bn)(hv:tz x=al (.type id))(ha:QF X K fs e wl ax)(hn: ~~~(x≠"__name__"))(dQ: ~~~(dn x))(he:‹dX X e []›)(bH:‹fD X pos []›):EF X K fs (.Call (.Name x p) [e] [] pos) (.bind wl m) ax:=⟨PE.imp (eK hc hg hm hv (ah ha.p aA he) hn dQ he bH) λσ H Q ⟨sr,q⟩=>⟨sr,wl.mono (λl q1 u H1 g1 s1 v1=>hB s1 v1 ((m l).mono (λz q u H' g s v=>q u H' (g1.trans g) s v) q1)) q⟩⟩
def Yo{m:O PV->W (O PV)}(hc:bz X (.builtin id) r)(hB:CL K r m)(hg:Gl X x)(hm:X.mg x=bn)(hv:tz x=al (.builtin id))(ha:QF X K fs e wl ax)(hn: ~~~(x≠"__name__"))(dQ: ~~~(dn x))(he:‹dX X e []›)(bH:‹fD X pos []›):LF X K fs (.Call (.Name x p) [e] [] pos) (.bind wl m) ax:=⟨PE.imp (bo hc hg hm hv (ah ha.p aA he) hn dQ he bH) λσ H Q ⟨sr,q⟩=>⟨sr,wl.mono (λl q1 u H1 g1 s1 v1=>hB s1 v1 ((m l).mono (λz q a vs H' g s n e v=>q a vs H' (g1.trans g) s (g1.there a n) e v) q1)) q⟩⟩
def Ku{m:O PV->W (O PV)}(hc:bz X (.type id) r)(hB:CL K r m)(hg:Gl X x)(hm:X.mg x=bn)(hv:tz x=al (.type id))(ha:QF X K fs e wl ax)(hn: ~~~(x≠"__name__"))(dQ: ~~~(dn x))(he:‹dX X e []›)(bH:‹fD X pos []›):LF X K fs (.Call (.Name x p) [e] [] pos) (.bind wl m) ax:=⟨PE.imp (eK hc hg hm hv (ah ha.p aA he) hn dQ he bH) λσ H Q ⟨sr,q⟩=>⟨sr,wl.mono (λl q1 u H1 g1 s1 v1=>hB s1 v1 ((m l).mono (λz q a vs H' g s n e v=>q a vs H' (g1.trans g) s (g1.there a n) e v) q1)) q⟩⟩
end
def Ho(l:O PV):W PV:=.ret (.int l.length)
def N7(K:Aa):CQ K (Rp K) Ho:=λ{fs σ H Q u l} s v q=>by
 obtain⟨a,vs,rfl,h,rs⟩:=v.sq s;refine⟨_,vs.length,rfl,?_,?_⟩
 .exact h.elim (λh=>.inl ⟨_,h,rfl⟩) λh=>.inr ⟨_,h,rfl⟩
 .rw[rs.length];exact q _ H .refl s (.int _)
def IZ(l:O PV):W PV:=.ret (.tup l)
def MN(K:Aa):CQ K (Ju K) IZ:=λ{fs σ H Q u l} s v q=>by
 have fresh:∀{a:db}{vs:O V},cL K H a vs->aD K [] H vs l->Ju K [.ref a] H Q:=λ{a vs} h rs=>⟨a,vs,rfl,.inl ⟨h,λp H2 s2 e2 n2=>q _ H2 (cf.same s2) (s.same s2) (.tup e2 (aD.tk s2.dM rs))⟩⟩;rcases v with⟨a,vs,rfl,h|h,rs⟩|⟨a,rfl,⟨n,vs,h,rs⟩|⟨i,_,q1,q2⟩⟩
 .exact fresh h.sq rs
 .exact⟨a,vs,rfl,.inr ⟨dh.of h,q _ H .refl s (.tup h rs)⟩⟩
 .exact fresh (cL.of h) rs
 .obtain⟨_,vs,h,rs⟩:=s.ownAt q1 rfl q2;exact fresh (cL.of h) rs
end
end
end FL
variable{R:Type}{d:Nat}
namespace FL
section
variable[bj]
variable{K:Aa}
def uA(vs:O V)(ks:O AK)(ψ:Nat->O V->Prop)(d:Nat)(a:db):Prop:=∃i:Nat,ks[i]?=al (.p ψ d)/\vs[i]?=al (.ref a)
structure Mv(n:Nat)(vs:List V)(ks:List AK)(H H':Hp):Prop where
 keep:∀a o,H a=al o->(∀ψ d,¬uA vs ks ψ d a)->(nt:‹o.nt=true›)->H' a=al o
 tb:TB H'
 there:∀a,H' a=bn->H a=bn
 RA:∀a ψ d,uA vs ks ψ d a->wR H' a ψ (n+d)
 x:∀b,fw H b->fw H' b
inductive gr(K:Aa)(H:Hp)(n:Nat):List V->List AK->List PV->Prop
 |nil:gr K H n [] [] []
 |v {u:V}{x:PV}{vs:List V}{ks:List AK}{l:List PV} (r:VR K [] H u x) (t:gr K H n vs ks l):gr K H n (u::vs) (.v::ks) (x::l)
 |p {a:db}{ψ:Nat->List V->Prop}{d:Nat}{vs:List V}{ks:List AK}{l:List PV} (e:wR H a ψ n) (r:n+d<=sF) (t:gr K H n vs ks l):gr K H n (.ref a::vs) (.p ψ d::ks) l
 |f {a:db}{us vs:List V}{ps:List PV}{fz:List (db×Obj)}{ks:List AK}{l:List PV} (r:aD K [] H us ps) (z:mN H fz) (t:gr K H n vs ks l):gr K H n (.ref a::vs) (.f a us ps fz::ks) l
def mn(K:Aa)(ks:O AK)(m:O PV->W PV):Sp:=λvs H Q _=>TB H/\∃n l,gr K H n vs ks l/\(m l).run λv=>∀u H',Mv n vs ks H H'->VR K [] H' u v->Q u H'
def mQ(K:Aa)(ks:O AK)(m:O PV->W (O PV)):Sp:=λvs H Q _=>TB H/\∃n l,gr K H n vs ks l/\(m l).run λz=>∀a ws H',Mv n vs ks H H'->H a=bn->H' a=al (.lst ws)->aD K [] H' ws z->Q (.ref a) H'
def rP(R:Type):Nat->Type
 |0=>W R
 |n+1=>PV->rP R n
def gN:(n:Nat)->rP R n->O PV->W R
 |0,m,[]=>m
 |n+1,m,x::l=>gN n (m x) l
 |0,_,_::_=>.fail
 |_+1,_,[]=>.fail
section
def dq.ZW(h:dq K H vs ks l):¬uA vs ks ψ d a:=by
 rintro⟨i,e1,e2⟩
 induction h generalizing i with
 |nil=>simp at e1
 |v r t ih=>cases i with|zero=>simp at e1|succ i=>exact ih i (by simpa using e1) (by simpa using e2)
 |f r z t ih=>cases i with|zero=>simp at e1|succ i=>exact ih i (by simpa using e1) (by simpa using e2)
def dq.c(h:dq K H vs ks l):gr K H n vs ks l:=by
 induction h with
 |nil=>exact .nil
 |v r t ih=>exact .v r ih
 |f r z t ih=>exact .f r z ih
def Mv.caller(g:Mv n vs ks H H')(h:dq K H vs ks l)(s:aH K H σ fs):aH K H' σ fs/\cf σ fs H H':=by
 have gf:cf σ fs H H':=⟨λa o e _ t=>g.keep a o e (λ_ _=>h.ZW) t,g.there,.refl _,g.x⟩;refine⟨⟨s.len,λi t e=>?_,s.nd,g.tb⟩,gf⟩;obtain⟨u,h1,h2⟩:=s.at' i t e;exact⟨u,h1,h2.mono (gf.bN s) λx a o _ _ _ z nt=>g.keep a o z (λ_ _=>h.ZW) nt⟩
def Mv.Gz{m:Nat}(g:Mv n (.ref a::vs) (.p ψ d::ks) H H')(h:dq K H vs ks l)(s:aH K H σ fs)(e1:fs[i]?=al (al (.cR ψ n m)))(e2:σ[i]?=al (al (.ref a)))(hd:n+d<=m):aH K H' σ (fs.set i (al (.cR ψ (n+d) m)))/\cf σ fs H H' (fs.set i (al (.cR ψ (n+d) m))):=by
 have pa:∀{b ψ' d'},uA (.ref a::vs) (.p ψ d::ks) ψ' d' b->b=a:=λ{b ψ' d'} ⟨j,z1,z2⟩=>by
  cases j with
  |zero=>simp at z2;exact z2.symm
  |succ j=>exact(h.ZW ⟨j,by simpa using z1,by simpa using z2⟩).elim
 have hi:i<fs.length:=(Ak.mp e1).1;have ev:Ev fs (fs.set i (al (.cR ψ (n+d) m))):=⟨by simp,λj=>by
  by_cases c:j=i
  .subst c;exact .inr ⟨ψ,n,n+d,m,e1,a9 hi⟩
  .exact .inl (aB c).symm⟩
 have gf:cf σ fs H H' (fs.set i (al (.cR ψ (n+d) m))):=⟨λb o e q t=>g.keep b o e (λψ' d' p=>q ψ m ⟨i,n,e1,by rw[pa p];exact e2⟩) t,g.there,ev,g.x⟩;have tk:=gf.bN s;obtain⟨_,_,hm⟩:=s.ownAt e1 rfl e2;refine⟨⟨by simp[s.len],λj t e=>?_,ev.nd s,g.tb⟩,gf⟩
 .rcases bV e with⟨rfl,rfl⟩|⟨c,e⟩
  .exact⟨_,e2,.inr ⟨a,rfl,g.RA a ψ d ⟨0,rfl,rfl⟩,hd,hm⟩⟩
  .obtain⟨u,h1,h2⟩:=s.at' j t e;refine⟨u,h1,h2.mono tk λx b o eb ow hb z nt=>g.keep b o z (λψ' d' p=>?_) nt⟩;subst eb;exact c (s.nd j i t _ x a b e e1 ow rfl h1 e2 hb (.inl (pa p)))
end
section
variable{x:Str}{n0 mx:Nat}
def Tj{m:O PV->W PV}(G:Iu X.prog X.w X.K X.mg X.base x k ps (mn K ks m))(hr:bf k' X.A)(hk:k<=k')(hg:Gl X x)(ha:AF X K fs (e::es) ks B ax)(dQ: ~~~(dn x))(he:‹dX X e es›)(bH:‹fD X pos es›):EF X K fs (.Call (.Name x p) (e::es) [] pos) (B m) ax:=by
 obtain⟨w,hp,hB⟩:=ha.p;rw[hB];exact⟨PE.imp (sM G hr hk hg hp dQ he bH) λσ H Q ⟨sr,q⟩=>⟨sr,w.mono (λl q1 vs H1 g1 s1 v1=>⟨s1.tb,0,l,v1.c,(m l).mono (λz q2 u H2 g2 r2=>let ⟨s2,g3⟩:=g2.caller v1 s1;q2 u H2 (g1.trans g3) s2 r2) q1⟩) q⟩⟩
def Sn{m:O PV->W (O PV)}{B:(O PV->W (O PV))->W (O PV)}(G:Iu X.prog X.w X.K X.mg X.base x k ps (mQ K ks m))(hr:bf k' X.A)(hk:k<=k')(hg:Gl X x)(ha:AF X K fs (e::es) ks B ax)(dQ: ~~~(dn x))(he:‹dX X e es›)(bH:‹fD X pos es›):LF X K fs (.Call (.Name x p) (e::es) [] pos) (B m) ax:=by
 obtain⟨w,hp,hB⟩:=ha.p;rw[hB];exact⟨PE.imp (sM G hr hk hg hp dQ he bH) λσ H Q ⟨sr,q⟩=>⟨sr,w.mono (λl q1 vs H1 g1 s1 v1=>⟨s1.tb,0,l,v1.c,(m l).mono (λz q2 a ws H2 g2 n2 e2 r2=>let ⟨s2,g3⟩:=g2.caller v1 s1;q2 a ws H2 (g1.trans g3) s2 (g1.there a n2) e2 r2) q1⟩) q⟩⟩
def Lg{m:Nat}(s:aH K H σ fs)(e:Ev fs ax)(h:ax[i]?=al (al (.cR ψ n m))):∃a,σ[i]?=al (al (.ref a))/\ax[i]?=al (al (.cR ψ n m)):=by
 rcases e.get h with z|⟨_,j,_,_,z,y⟩
 .obtain⟨u,e1,r⟩:=s.at' i _ z;rcases r with⟨v,e,_⟩|⟨a,rfl,_⟩
  .cases e
  .exact⟨a,e1,h⟩
 .cases z;obtain⟨u,e1,r⟩:=s.at' i _ y;rcases r with⟨v,e,_⟩|⟨a,rfl,_⟩
  .cases e
  .exact⟨a,e1,h⟩
def OS(i:Nat){m:O PV->W PV}(G:Iu X.prog X.w X.K X.mg X.base x k ps (mn K (.p ψ d::ks) m))(hr:bf k' X.A)(hk:k<=k')(hg:Gl X x)(hs:fs[i]?=al (al (.cR ψ n0 mx)))(ha:AF X K fs es ks B ax)(nJ:ax[i]?=al (al (.cR ψ n mx)))(hd:n+d<=mx)(dQ: ~~~(dn x))(hN:‹X.N[i]?=al y›)(hv:qF X.env.scope y:=by first|exact Bs rfl|exact Bw (Bs rfl)|exact Bw (Bw rfl))(SG: ~~~(dn y))(cS: ~~~(qI y))(he:‹lf (.Name y py::es) X.env=(false,pc (.Name y py) X.env)::lf es X.env›)(bH:‹fD X pos es›):EF X K fs (.Call (.Name x p) (.Name y py::es) [] pos) (B m) (ax.set i (al (.cR ψ (n+d) mx))):=by
 obtain⟨w,hp,hB⟩:=ha.p;rw[hB];refine⟨PE.imp (sM G hr hk hg (ah (cy hN hv SG cS) hp he) dQ he bH) λσ H Q ⟨sr,q⟩=>?_⟩;obtain⟨a,e1,_⟩:=Lg sr (.refl _) hs;refine⟨_,e1,sr,w.mono (λl q1 vs H1 g1 s1 v1=>?_) q⟩;obtain⟨pt,h1,h2⟩:=s1.ownAt nJ rfl e1;exact⟨s1.tb,n,l,.p pt (AE hd h2) v1.c,(m l).mono (λz q2 u H2 g2 r2=>let ⟨s2,g3⟩:=g2.Gz v1 s1 nJ e1 hd;q2 u H2 (g1.trans g3) s2 r2) q1⟩
def Oc(i:Nat){m:O PV->W (O PV)}{B:(O PV->W (O PV))->W (O PV)}(G:Iu X.prog X.w X.K X.mg X.base x k ps (mQ K (.p ψ d::ks) m))(hr:bf k' X.A)(hk:k<=k')(hg:Gl X x)(hs:fs[i]?=al (al (.cR ψ n0 mx)))(ha:AF X K fs es ks B ax)(nJ:ax[i]?=al (al (.cR ψ n mx)))(hd:n+d<=mx)(dQ: ~~~(dn x))(hN:‹X.N[i]?=al y›)(hv:qF X.env.scope y:=by first|exact Bs rfl|exact Bw (Bs rfl)|exact Bw (Bw rfl))(SG: ~~~(dn y))(cS: ~~~(qI y))(he:‹lf (.Name y py::es) X.env=(false,pc (.Name y py) X.env)::lf es X.env›)(bH:‹fD X pos es›):LF X K fs (.Call (.Name x p) (.Name y py::es) [] pos) (B m) (ax.set i (al (.cR ψ (n+d) mx))):=by
 obtain⟨w,hp,hB⟩:=ha.p;rw[hB];refine⟨PE.imp (sM G hr hk hg (ah (cy hN hv SG cS) hp he) dQ he bH) λσ H Q ⟨sr,q⟩=>?_⟩;obtain⟨a,e1,_⟩:=Lg sr (.refl _) hs;refine⟨_,e1,sr,w.mono (λl q1 vs H1 g1 s1 v1=>?_) q⟩;obtain⟨pt,h1,h2⟩:=s1.ownAt nJ rfl e1;exact⟨s1.tb,n,l,.p pt (AE hd h2) v1.c,(m l).mono (λz q2 b ws H2 g2 n2 e2 r2=>let ⟨s2,g3⟩:=g2.Gz v1 s1 nJ e1 hd;q2 b ws H2 (g1.trans g3) s2 (g1.there b n2) e2 r2) q1⟩
end
end
end FL
variable{T:Type}{p':Cc}
namespace FL
section
variable[bj]
variable{K:Aa}
inductive End where
 |nx (fs:aM)|nc (fs:aM)|ct (fs:aM)|rt (v:PV)|rl (l:List PV)|bk (fs:aM)|ro (v:PV) (a:db) (l:List PV)
def uG(σ:L2.St)(fs:aM)(H:Hp)(a:db):Prop:=H a=bn\/∃(i:Nat) (s:SL) (x:db),fs[i]?=al (al s)/\s.own=true/\(∀ψ n m,s≠.cR ψ n m)/\σ[i]?=al (al (.ref x))/\s.has x a
def bq(K:Aa)(x:Bool)(σ:L2.St)(fs:aM)(H:Hp)(D:Ends):End->Prop
 |.nx aE=>x=false->∀σ' H',bT σ fs H σ' aE H'->aH K H' σ' aE->D.nx σ' H'
 |.nc aE=>∀σ' H',bT σ fs H σ' aE H'->aH K H' σ' aE->(x=false->D.nx σ' H')/\D.ct σ' H'
 |.ct aE=>∀σ' H',bT σ fs H σ' aE H'->aH K H' σ' aE->D.ct σ' H'
 |.bk aE=>∀σ' H',bT σ fs H σ' aE H'->aH K H' σ' aE->D.bk σ' H'
 |.rt v=>∀u σ' aE H',bT σ fs H σ' aE H'->aH K H' σ' aE->VR K [] H' u v->D.rt u H'
 |.ro v a l=>∀u σ' aE H',bT σ fs H σ' aE H'->aH K H' σ' aE->(∃i:Nat,aE[i]?=al (al (.ol (al a) l)))->VR K [] H' u v->D.rt u H'
 |.rl l=>∀a ws σ' aE H',bT σ fs H σ' aE H'->aH K H' σ' aE->uG σ fs H a->H' a=al (.lst ws)->aD K [] H' ws l->D.rt (.ref a) H'
def fS(K:Aa)(x:Bool)(fs:aM)(w:W T)(out:T->End):TS:=λD σ H=>aH K H σ fs/\w.run λt=>bq K x σ fs H D (out t)
structure SF(X:Cx)(K:Aa)(x:Bool)(fs:aM)(Q7:List sK){T:Type}(w:W T)(out:T->End):Prop where p:mf X Q7 (fS K x fs w out)
section
variable{σ1:L2.St}{x:Bool}
def uG.go(g:bT σ fs H σ1 ax H1)(s:aH K H σ fs)(s1:aH K H1 σ1 ax)(h:uG σ1 ax H1 a):uG σ fs H a:=by
 rcases h with h|⟨i,t,x,e1,e2,np,e3,e4⟩
 .exact .inl (g.there a h)
 .cases z:H a with
  |none=>exact .inl z
  |some o=>
   by_cases c:bL σ fs a
   .obtain⟨j,t',y,c1,c2,c3,c4⟩:=c;by_cases d:∃ψ n m,t'=.cR ψ n m
    .obtain⟨ψ,n,m,rfl⟩:=d;rcases c4 with rfl|c4
     .rcases g.pk a ψ m ⟨j,n,c1,c3⟩ with⟨k,_,k1,k2⟩|⟨n,_⟩
      .have:=s1.nd i k t _ x a a e1 k1 e2 rfl e3 k2 e4 (.inl rfl);subst this;rw[e1]at k1;cases k1;exact absurd rfl (np _ _ _)
      .exact absurd ⟨i,t,x,e1,e2,e3,e4⟩ n
     .cases c4
    .exact .inr ⟨j,t',y,c1,c2,λψ n m e=>d ⟨ψ,n,m,e⟩,c3,c4⟩
   .exact absurd ⟨i,t,x,e1,e2,e3,e4⟩ (g.keep a o z c).2
def bq.go(g:bT σ fs H σ1 ax H1)(s:aH K H σ fs)(s1:aH K H1 σ1 ax){E:End}(h:bq K x σ fs H D E):bq K x σ1 ax H1 D E:=by
 cases E with
 |nx aE=>exact λhx σ' H' g' s'=>h hx σ' H' (g.trans g') s'
 |nc aE=>exact λσ' H' g' s'=>h σ' H' (g.trans g') s'
 |bk aE=>exact λσ' H' g' s'=>h σ' H' (g.trans g') s'
 |ct aE=>exact λσ' H' g' s'=>h σ' H' (g.trans g') s'
 |rt v=>exact λu σ' aE H' g' s' r=>h u σ' aE H' (g.trans g') s' r
 |ro v a l=>exact λu σ' aE H' g' s' o r=>h u σ' aE H' (g.trans g') s' o r
 |rl l=>exact λa ws σ' aE H' g' s' f e r=>h a ws σ' aE H' (g.trans g') s' (f.go g s s1) e r
def bq.exit{D':Ends}(h1:D'.rt=D.rt)(h2:D'.ct=D.ct)(h3:D'.bk=D.bk){E:End}(h:bq K x σ fs H D E):bq K true σ fs H D' E:=by
 cases E with
 |nx aE=>exact λhx=>nomatch hx
 |nc aE=>exact λσ' H' g' s'=>⟨λhx=>(nomatch hx),h2▸(h σ' H' g' s').2⟩
 |bk aE=>exact λσ' H' g' s'=>h3▸h σ' H' g' s'
 |ct aE=>exact λσ' H' g' s'=>h2▸h σ' H' g' s'
 |rt v=>exact λu σ' aE H' g' s' r=>h1▸h u σ' aE H' g' s' r
 |ro v a l=>exact λu σ' aE H' g' s' o r=>h1▸h u σ' aE H' g' s' o r
 |rl l=>exact λa ws σ' aE H' g' s' f e r=>h1▸h a ws σ' aE H' g' s' f e r
end
section
variable{X:Cx}{a b c e o:o0}{pos p:Pos}{fs aE ax:aM}{st:sK}{Q7 rest sa sb:O sK}{T T1:Type}{w wk:W T}{out:T->End}{we:W PV}{wl:W (O PV)}{x:Bool}
def End.oX:End->Prop
 |.rt _=>True
 |.rl _=>True
 |.ro _ _ _=>True
 |_=>False
def bq.VU{D':Ends}{y:Bool}{E:End}(ho:E.oX)(e:D'.rt=D.rt)(h:bq K x σ fs H D E):bq K y σ fs H D' E:=by
 cases E with
 |rt v=>exact λu σ' aE H' g s r=>e▸h u σ' aE H' g s r
 |rl v=>exact λa ws σ' aE H' g s f ea r=>e▸h a ws σ' aE H' g s f ea r
 |ro v a l=>exact λu σ' aE H' g s o r=>e▸h u σ' aE H' g s o r
 |_=>exact ho.elim
def uW(X:Cx)(K:Aa)(x:Bool)(rest:O sK){T:Type}(out:T->End):TS:=λD σ H=>∃aE w',SF X K x aE rest w' out/\fS K x aE w' out D σ H
def Ng:mf X rest (uW X K x rest out):=λZ s σ H D I ⟨aE,w',h,q⟩=>h.p Z s σ H D I q
def Kf:mf X rest Q2:=λ_ _ _ _ _ _ h=>h.elim
def SF.step{t:TS}(h:PS X st t)(hq:∀D σ H,fS K x fs w out D σ H->t {D with nx:=uW X K x rest out D} σ H):SF X K x fs (st::rest) w out:=⟨mf.imp (aJ h Ng) λD σ H q=>hq D σ H q⟩
def SF.last{t:TS}(h:PS X st t)(hq:∀D σ H,fS K x fs w out D σ H->t {D with nx:=λ_ _=>False} σ H):SF X K x fs (st::rest) w out:=⟨mf.imp (aJ h Kf) λD σ H q=>hq D σ H q⟩
def SF.nil{t:T}(h:out t=.nx aE)(hl:cQ fs aE):SF X K false fs [] (.ret t) out:=⟨mf.imp cU λD σ H ⟨sr,q⟩=>by
 have q:bq K false σ fs H D (out t):=q;rw[h]at q;exact q rfl σ H (bT.le sr hl) (sr.le hl)⟩
def SF.oH{t:T}(h:out t=.nc aE)(hl:cQ fs aE):SF X K false fs [] (.ret t) out:=⟨mf.imp cU λD σ H ⟨sr,q⟩=>by
 have q:bq K false σ fs H D (out t):=q;rw[h]at q;exact(q σ H (bT.le sr hl) (sr.le hl)).1 rfl⟩
def SF.cont{t:T}(h:out t=.nc aE\/out t=.ct aE)(hl:cQ fs aE):SF X K x fs (.Continue pos::rest) (.ret t) out:=SF.last va λD σ H ⟨sr,q⟩=>by
 have q:bq K x σ fs H D (out t):=q;rcases h with h|h
 .rw[h]at q;exact(q σ H (bT.le sr hl) (sr.le hl)).2
 .rw[h]at q;exact q σ H (bT.le sr hl) (sr.le hl)
def SF.ret{k:PV->T}(he:EF X K fs e we ax)(h:∀v,out (k v)=.rt v):SF X K x fs (.Return (al e) pos::rest) (.bind we λv=>.ret (k v)) out:=SF.last (cK he.p) λD σ H ⟨sr,q⟩=>⟨sr,we.mono (λv q1 u H1 g1 s1 v1=>by
 have q1:bq K x σ fs H D (out (k v)):=q1;rw[h]at q1;exact q1 u σ ax H1 g1.f s1 v1) q⟩
def SF.df{out:PV->End}(he:EF X K fs e we ax)(h:∀v,out v=.rt v):SF X K x fs (.Return (al e) pos::rest) we out:=SF.ret (k:=λv=>v) he h
def SF.ZL{k:O PV->T}(he:LF X K fs e wl ax)(h:∀l,out (k l)=.rl l):SF X K x fs (.Return (al e) pos::rest) (.bind wl λl=>.ret (k l)) out:=SF.last (cK he.p) λD σ H ⟨sr,q⟩=>⟨sr,wl.mono (λl q1 a ws H1 g1 s1 n e v1=>by
 have q1:bq K x σ fs H D (out (k l)):=q1;rw[h]at q1;exact q1 a ws σ ax H1 g1.f s1 (.inl n) e v1) q⟩
def SF.oo{out:O PV->End}(he:LF X K fs e wl ax)(h:∀v,out v=.rl v):SF X K x fs (.Return (al e) pos::rest) wl out:=SF.ZL he h
def SF.ZK(i:Nat){t:T}(hs:fs[i]?=al (al (.ol q0 l)))(h:out t=.rl l)(hN:‹X.N[i]?=al y›)(hv:qF X.env.scope y:=by first|exact Bs rfl|exact Bw (Bs rfl)|exact Bw (Bw rfl))(hd: ~~~(dn y))(cS: ~~~(qI y)):SF X K x fs (.Return (al (.Name y p)) pos::rest) (.ret t) out:=SF.last (cK (cy hN hv hd cS)) λD σ H ⟨sr,q⟩=>by
 have q:bq K x σ fs H D (out t):=q;rw[h]at q;obtain⟨u,e1,r⟩:=sr.at' i _ hs;rcases r with⟨v,e,_⟩|⟨a,e,r⟩
 .cases e
 .subst e;obtain⟨_,ws,q1,q2⟩:=r;exact⟨_,e1,q a ws σ fs H .refl sr (.inr ⟨i,_,_,hs,rfl,by simp,e1,.inl rfl⟩) q1 q2⟩
def SF.Vs(i:Nat){ad:db}{k:PV->T}(hs:fs[i]?=al (al (.ol (al ad) l)))(he:EF X K fs e we ax)(h:∀v,out (k v)=.ro v ad l):SF X K x fs (.Return (al e) pos::rest) (.bind we λv=>.ret (k v)) out:=SF.last (cK he.p) λD σ H ⟨sr,q⟩=>⟨sr,we.mono (λv q1 u H1 g1 s1 v1=>by
 have q1:bq K x σ fs H D (out (k v)):=q1;rw[h]at q1;exact q1 u σ ax H1 g1.f s1 ⟨i,g1.ev.same hs (by simp)⟩ v1) q⟩
def SF.expr{k:PV->W T}(he:EF X K fs e we ax)(hr:∀v,SF X K x ax rest (k v) out)(hs:‹pr e bn pos.line X.env=pure false›):SF X K x fs (.Expr e pos::rest) (.bind we k) out:=SF.step (gR he.p hs) λD σ H ⟨sr,q⟩=>
 ⟨sr,we.mono (λv q1 u H1 g1 s1 v1=>⟨ax,k v,hr v,s1,(k v).mono (λt q2=>q2.go g1.f sr s1) q1⟩) q⟩
def SF.set{k:PV->W T}(hN:X.N.Nodup)(hi:X.N[i]?=al y)(hx:Loc X.env.scope y)(he:EF X K fs e we ax)(hr:∀v,SF X K x (ax.set i (al (.val v))) rest (k v) out)(hs:‹pr e (al (.Name y p')) pos.line X.env=pure false›)(hf:Md X y:=by first|exact .inl rfl|exact .inr rfl|assumption):SF X K x fs (.Assign [.Name y p'] e pos::rest) (.bind we k) out:=SF.step (cV hN hi hx he.p hs hf) λD σ H ⟨sr,q⟩=>
 ⟨sr,we.mono (λv q1 u H1 g1 s1 v1=>⟨_,k v,hr v,s1.fB v1 i,(k v).mono (λt q2=>q2.go (g1.f.trans (bT.fB s1 u v i)) sr (s1.fB v1 i)) q1⟩) q⟩
def SF.ZG{k:O PV->W T}(hN:X.N.Nodup)(hi:X.N[i]?=al y)(hx:Loc X.env.scope y)(he:LF X K fs e wl ax)(hr:∀l,SF X K x (ax.set i (al (.ol bn l))) rest (k l) out)(hs:‹pr e (al (.Name y p')) pos.line X.env=pure false›)(hf:Md X y:=by first|exact .inl rfl|exact .inr rfl|assumption):SF X K x fs (.Assign [.Name y p'] e pos::rest) (.bind wl k) out:=SF.step (cV hN hi hx he.p hs hf) λD σ H ⟨sr,q⟩=>by
 refine⟨sr,wl.mono (λl q1 a ws H1 g1 s1 n e v1=>?_) q⟩;have no:¬bL σ ax a:=λz=>sr.noOwn n (g1.ev.eE z);have s2:=s1.ou (t:=.ol bn l) ⟨by simp,ws,e,v1⟩ no i;exact⟨_,k l,hr l,s2,(k l).mono (λt q2=>q2.go (bT.ou s1 g1 no n i) sr s2) q1⟩
def SF.cE(i:Nat){t:SL}(hs:fs[i]?=al (al t))(hr:SF X K x (fs.set i (al (.val t.bv))) Q7 w out)(hb:‹t.bw=true›):SF X K x fs Q7 w out:=⟨λZ s σ H D I ⟨sr,q⟩=>by
 obtain⟨u,e1,r⟩:=sr.at' i _ hs;have ho:=SL.LV hb;rcases r with⟨v,e,_⟩|⟨a,e,oa⟩
 .subst e;cases hb
 .subst e;obtain⟨ob,o,h1,n1,n2,I2,vr⟩:=W6 I oa hb;have ow:∀b,bL σ (fs.set i (al (.val t.bv))) b->bL σ fs b:=λb z=>by
   obtain⟨j,t,x,z1,z2,z3,z4⟩:=z;rcases bV z1 with⟨rfl,rfl⟩|⟨n,z1⟩
   .cases z2
   .exact⟨j,t,x,z1,z2,z3,z4⟩
  have s2:=sr.W5 hs ho e1 h1 n1 n2 vr;have g2:bT σ fs H σ (fs.set i (al (.val t.bv))) (upd H a (.cE ob o)):=by
   refine⟨λb o z n=>⟨?_,λy=>n (ow b y)⟩,λb z=>?_,λb ψ m z=>?_,λb z=>?_⟩
   .intro _;rw[af (λy=>by subst y;exact n ⟨i,_,_,hs,ho,e1,.inl rfl⟩)];exact z
   .by_cases c:b=a
    .subst c;rw[aw]at z;cases z
    .rw[af c]at z;exact z
   .obtain⟨j,k,z1,z2⟩:=z;have:j≠i:=λy=>by subst y;rw[hs]at z1;cases z1;cases hb
    exact .inl ⟨j,k,by rw[aB this];exact z1,z2⟩
   .have z':H b=_:=z;show upd H a _ b=_;rw[af (λy=>by subst y;exact sr.R3 z' ⟨i,_,_,hs,ho,e1,.inl rfl⟩)];exact z'
  exact hr.p Z s σ _ D I2 ⟨s2,w.mono (λt q3=>q3.go g2 sr s2) q⟩⟩
variable{tc:W Bool}
def SF.Wu(hc:TF X K fs c tc ax)(ha:SF X K x ax sa w out)(hb:SF X K x ax sb wk out):SF X K x fs [.If c sa sb pos] (.bind tc λb=>if b=true then w else wk) out:=⟨mf.imp (aZ (iD hc.p ha.p hb.p)) λD σ H ⟨sr,q⟩=>⟨sr,tc.mono (λk q1 H1 g1 s1=>by
 cases k with
 |true=>exact iO ⟨s1,w.mono (λt q2=>q2.go g1.f sr s1) q1⟩
 |false=>exact fe ⟨s1,wk.mono (λt q2=>q2.go g1.f sr s1) q1⟩) q⟩⟩
def SF.uK(hc:TF X K fs c tc ax)(ha:SF X K true ax sa w out)(hb:SF X K x ax rest wk out):SF X K x fs (.If c sa [] pos::rest) (.bind tc λb=>if b=true then w else wk) out:=SF.step (iD hc.p ha.p cU) λD σ H ⟨sr,q⟩=>⟨sr,tc.mono (λk q1 H1 g1 s1=>by
 cases k with
 |true=>exact iO ⟨s1,w.mono (λt q2=>bq.exit (D:=D) (D':={D with nx:=uW X K x rest out D}) rfl rfl rfl (q2.go g1.f sr s1)) q1⟩
 |false=>exact fe ⟨ax,wk,hb,s1,wk.mono (λt q2=>q2.go g1.f sr s1) q1⟩) q⟩
def T4(X:Cx)(K:Aa)(x:Bool)(rest:O sK){T:Type}(w:W T)(out:T->End):End->Prop
 |.nx aE=>SF X K x aE rest w out
 |.nc aE=>False
 |.bk aE=>∃t,w=.ret t/\out t=.bk aE
 |.ct aE=>∃t,w=.ret t/\(out t=.ct aE\/out t=.nc aE)
 |.rt v=>∃t,w=.ret t/\out t=.rt v
 |.rl l=>∃t,w=.ret t/\out t=.rl l
 |.ro v a l=>∃t,w=.ret t/\out t=.ro v a l
def T4.r{E:End}(sr:aH K H σ fs)(h:T4 X K x rest w out E)(q:w.run λt=>bq K x σ fs H D (out t)):bq K false σ fs H {D with nx:=uW X K x rest out D} E:=by
 cases E with
 |nx aE=>exact λ_ σ' H' g' s'=>⟨aE,w,h,s',w.mono (λt q2=>q2.go g' sr s') q⟩
 |nc aE=>exact h.elim
 |bk aE=>
  obtain⟨t,rfl,h⟩:=h;have q:bq K x σ fs H D (out t):=q;rw[h]at q;exact q
 |ct aE=>
  obtain⟨t,rfl,h⟩:=h;have q:bq K x σ fs H D (out t):=q;rcases h with h|h
  .rw[h]at q;exact q
  .rw[h]at q;exact λσ' H' g s=>(q σ' H' g s).2
 |rt v=>
  obtain⟨t,rfl,h⟩:=h;have q:bq K x σ fs H D (out t):=q;rw[h]at q;exact q
 |rl v=>
  obtain⟨t,rfl,h⟩:=h;have q:bq K x σ fs H D (out t):=q;rw[h]at q;exact q
 |ro v a l=>
  obtain⟨t,rfl,h⟩:=h;have q:bq K x σ fs H D (out t):=q;rw[h]at q;exact q
variable{w1 w2:W T1}{out1:T1->End}{k:T1->W T}
def SF.ifS(hc:TF X K fs c tc ax)(ha:SF X K false ax sa w1 out1)(hb:SF X K false ax sb w2 out1)(hr:∀t,T4 X K x rest (k t) out (out1 t)):SF X K x fs (.If c sa sb pos::rest) (.bind tc λb=>.bind (if b=true then w1 else w2) k) out:=SF.step (iD hc.p ha.p hb.p) λD σ H ⟨sr,q⟩=>⟨sr,tc.mono (λb q1 H1 g1 s1=>by
 have fin:∀t,(k t).run (λt=>bq K x σ fs H D (out t))->bq K false σ fs H {D with nx:=uW X K x rest out D} (out1 t):=λt q=>(hr t).r sr q;cases b with
 |true=>exact iO ⟨s1,w1.mono (λt q2=>(fin t q2).go g1.f sr s1) q1⟩
 |false=>exact fe ⟨s1,w2.mono (λt q2=>(fin t q2).go g1.f sr s1) q1⟩) q⟩
end
end
section
variable[bj]
variable{K:Aa}
def JF(K:Aa)(H:Hp)(J:It)(l:O PV):Prop:=l.length<=sizeLine/\∀H',aW K H H'->(∀(i:Nat) (p:PV),l[i]?=al p->J.go i H'/\∀x H2,J.Pg i H' x H2->dW H' H2/\VR K [] H2 x p)/\J.stop l.length H'
def JF.tk{J:It}(t:aW K H H')(h:JF K H J l):JF K H' J l:=⟨h.1,λH2 t2=>h.2 H2 (aW.trans t t2)⟩
def fIt(K:Aa)(fs:aM)(w:W (O PV))(aE:aM:=fs):TI:=λσ H R=>aH K H σ fs/\w.run λl=>∀J H',cf σ fs H H' aE->aH K H' σ aE->JF K H' J l->R J H'
structure nh(X:Cx)(K:Aa)(fs:aM)(tg e:o0)(w:W (List PV))(aE:aM:=fs):Prop where p:PI X tg e (fIt K fs w aE)
section
variable{a c:o0}{w:W PV}
def O6{ad:db}(h:Me K H ad vs)(r:aD K [] H vs l)(hz:l.length<=sizeLine):JF K H (Itl K ad) l:=⟨hz,λH' t=>by
 have e1:=(t.f _ _ h).sq;have e2:=aD.tk t r;refine⟨λi p hp=>?_,vs,e1,by rw[e2.length];exact Aj _⟩;obtain⟨v,h3,h4⟩:=e2.get hp;refine⟨⟨vs,v,e1,h3⟩,λx H3 y=>?_⟩;obtain⟨rfl,y⟩:=y;have:=y vs e1;rw[h3]at this;cases this;exact⟨dW.refl _,h4⟩⟩
def TY{ad:db}(h:H ad=al (.tup vs))(r:aD K [] H vs l)(hz:l.length<=sizeLine):JF K H (Itt K ad) l:=⟨hz,λH' t=>by
 have e1:=dh.of (K:=K) (t.t _ _ h);have e2:=aD.tk t r;refine⟨λi p hp=>?_,vs,e1,by rw[e2.length];exact Aj _⟩;obtain⟨v,h3,h4⟩:=e2.get hp;refine⟨⟨vs,v,e1,h3⟩,λx H3 y=>?_⟩;obtain⟨rfl,y⟩:=y;have:=y vs e1;rw[h3]at this;cases this;exact⟨dW.refl _,h4⟩⟩
def iP(hK:X.K=K)(h:IF X K fs e wl ax):nh X K fs tg e wl ax:=⟨by
 subst hK;intro Z s σ H R I ⟨sr,q⟩;refine aR (h.p Z s σ H (λu H1=>∃l,TU X.K H1 u l/\∀J,JF X.K H1 J l->R J H1) I ⟨sr,wl.mono (λl q1 u H1 g1 s1 v1=>⟨l,v1,λJ j=>q1 J H1 g1 s1 j⟩) q⟩) λv s1 ⟨x,H1,I1,r1,l,⟨ad,vs,e,hh,rs⟩,q1⟩=>?_;subst e;cases r1;rcases hh with hh|hh
 .obtain⟨ao,rv,pl,hz⟩:=I1.list hh.sq;refine EE pl.isList ?_;refine⟨s1.heap.objs.size,[s1.heap.objs.size],_,_,H1,rfl,I1.kept λb o e=>Ad _ e,GO ad _,⟨_,Al _ rfl,rfl,rfl⟩,λb hb=>?_,q1 _ (O6 hh rs (by rw[<- rs.length];exact hz))⟩;have e:b=s1.heap.objs.size:=by simpa using hb
  subst e;exact I1.yx (Aj _) (I1.aK.fresh (Aj _))
 .obtain⟨ao,rv,pl,hz⟩:=I1.tuple (dh.of hh);refine Es (pl) ?_;refine⟨s1.heap.objs.size,[s1.heap.objs.size],_,_,H1,rfl,I1.kept (t':=s1.toks) λb o e=>Ad _ e,xa ad _,⟨_,Al _ rfl,rfl,rfl⟩,λb hb=>?_,q1 _ (TY hh rs (by rw[<- rs.length];exact hz))⟩;have e:b=s1.heap.objs.size:=by simpa using hb
  subst e;exact I1.yx (Aj _) (I1.aK.fresh (Aj _))⟩
def okN(i j:Int):Prop:=-(2 ^ 62)<=i/\i<2 ^ 62/\-(2 ^ 62)<=j/\j<2 ^ 62/\(j-i).toNat<=sizeLine
def om:PV->W (O PV)
 |.int j=>.d9 (okN 0 j) (.ret (iR 0 j.toNat))
 |_=>.fail
def TZ(lo:Int)(n:Nat)(hz:n<=sizeLine):JF K H (Y5 lo n) (iR lo n):=⟨by rw[jk];exact hz,λH' t=>⟨λi p hp=>by
  obtain⟨h1,rfl⟩:=lT hp;refine⟨h1,λx H2 y=>?_⟩;obtain⟨rfl,rfl⟩:=y;exact⟨dW.refl _,.int _⟩,by rw[jk];exact Aj _⟩⟩
theorem kM(hg:Gl X "range")(hm:X.mg "range"=bn)(ha:EF X K fs a wa ax)(hs:‹lf [a] X.env=[(false,pc a X.env)]›):nh X K fs tg (.Call (.Name "range" p) [a] [] pos) (.bind wa om) ax:=
 ⟨PI.imp (G7 hg hm (ah ha.p aA hs) hs) λσ H R ⟨sr,q⟩=>⟨sr,wa.mono (λx q1 u1 H1 g1 s1 v1=>by
  cases v1 with
  |int j=>exact⟨_,rfl,q1.1.2.2.1,q1.1.2.2.2.1,q1.2 _ H1 g1 s1 (TZ _ _ (by have:=q1.1.2.2.2.2;lia))⟩
  |_=>exact q1.elim) q⟩⟩
def xn:PV->W (O PV)
 |.str z=>.d9 (z.cps.size<=sizeLine) (.ret (z.cps.toList.map λc=>.str ⟨#[c]⟩))
 |_=>.fail
def Sy(h:EF X K fs e w ax):nh X K fs tg e (.bind w xn) ax:=⟨PI.imp (RC h.p) λσ H R ⟨sr,q⟩=>⟨sr,w.mono (λx q1 u1 H1 g1 s1 v1=>by
 cases v1 with
 |str z=>
  refine⟨z,rfl,q1.2 _ H1 g1 s1 ⟨by simpa using q1.1,λH' t=>⟨λi p hp=>?_,?_⟩⟩⟩
  .rw[An]at hp;cases e:z.cps.toList[i]? with
   |none=>rw[e]at hp;cases hp
   |some c=>
    rw[e]at hp;have ep:=(Option.some.inj hp).symm;subst ep;have hi:=(Ak.mp e).1;have tF:i<z.cps.size:=by simpa using hi
    refine⟨tF,λx H2 y=>?_⟩;obtain⟨rfl,d,hd,rfl⟩:=y;have:z.cps[i]?=al c:=by simpa using e
    rw[this]at hd;cases hd;exact⟨dW.refl _,.str _⟩
  .show z.cps.size<=_;simp
 |_=>exact q1.elim) q⟩⟩
def Oi(hK:X.K=K)(hg:Gl X "enumerate")(hm:X.mg "enumerate"=bn)(h:IF X K fs e wl ax)(nJ:‹dX X e []›):nh X K fs (.Tuple Ò kk tp) (.Call (.Name "enumerate" p1) [e] [] p2) (.bind wl λl=>.d9 (l.length<=sizeLine) (.ret (fV 0 l))) ax:=
 ⟨PI.imp (JP K hK hg hm h.p nJ) λσ H R ⟨sr,q⟩=>⟨sr,wl.mono (λl q1 u1 H1 g1 s1 v1=>by
  obtain⟨ad,vs,rfl,hh,rs⟩:=v1;have yl:∀{H':Hp}{i:Nat}{x v:V}{y:PV}{pp:db},H' pp=bn->VR K [] H' v y->dW H' (upd H' pp (.tup [.int i,v]))/\VR K [] (upd H' pp (.tup [.int (i:Int),v])) (.ref pp) (.tup [.int ((0+i:Nat)),y]):=λ{H' i x v y pp} hn h4=>
   have sm:=gw hn (.tup [.int (i:Int),v])
   ⟨sm,.tup aw (.cons (by rw[F6];exact .int _) (.cons (VR.tk sm.dM h4) .nil))⟩
  refine⟨ad,rfl,?_⟩;rcases hh with hh|hh
  .refine .inl ⟨⟨vs,hh.sq⟩,q1.2 _ H1 g1 s1 ⟨by rw[eL];exact q1.1,λH' t=>⟨λi p hp=>?_,vs,(t.f _ _ hh).sq,by rw[rs.length,eL];exact Aj _⟩⟩⟩;obtain⟨y,hy,rfl⟩:=jr hp;obtain⟨v,h3,h4⟩:=(aD.tk t rs).get hy;refine⟨⟨vs,v,(t.f _ _ hh).sq,h3⟩,λx H3 z=>?_⟩;obtain⟨pp,x0,rfl,hn,rfl,hz⟩:=z;have:=hz vs (t.f _ _ hh).sq;rw[h3]at this;cases this;exact yl (x:=.br) hn h4
  .refine .inr ⟨⟨vs,dh.of hh⟩,q1.2 _ H1 g1 s1 ⟨by rw[eL];exact q1.1,λH' t=>⟨λi p hp=>?_,vs,dh.of (t.t _ _ hh),by rw[rs.length,eL];exact Aj _⟩⟩⟩;obtain⟨y,hy,rfl⟩:=jr hp;obtain⟨v,h3,h4⟩:=(aD.tk t rs).get hy;refine⟨⟨vs,v,dh.of (t.t _ _ hh),h3⟩,λx H3 z=>?_⟩;obtain⟨pp,x0,rfl,hn,rfl,hz⟩:=z;have:=hz vs (dh.of (t.t _ _ hh));rw[h3]at this;cases this;exact yl (x:=.br) hn h4) q⟩⟩
end
def sk:O Nat->O V->L2.St->L2.St
 |i::is,u::us,σ=>sk is us (σ.set i (al u))
 |_,_,σ=>σ
def fG(K:Aa)(fs:aM)(is:O Nat)(wt:PV->W T)(fs2:T->aM):TG:=λv σ H Q=>∃p,aH K H σ fs/\VR K [] H v p/\(wt p).run λt=>∀us,bT σ fs H (sk is us σ) (fs2 t) H->aH K H (sk is us σ) (fs2 t)->Q (sk is us σ) H
structure GF(X:Cx)(K:Aa)(fs:aM)(tg:o0)(is:List Nat){T:Type}(wt:PV->W T)(fs2:T->aM):Prop where p:PG X tg (fG K fs is wt fs2)
def Pm:PV->W (PV×PV)
 |.tup [a,b]=>.ret (a,b)
 |_=>.fail
section
def W2(h:PG X tg (gG i)):GF X K fs tg [i] .ret (λp=>fs.set i (al (.val p))):=⟨PG.imp h λv σ H Q ⟨p,sr,r,q⟩=>q [v] (bT.fB sr v p i) (sr.fB r i)⟩
def W0(hK:X.K=K)(h:PG X tg (W3 X.K 2 (K6 (gG i) (K6 (gG j) W4)))):GF X K fs tg [i,j] Pm (λt=>(fs.set i (al (.val t.1))).set j (al (.val t.2))):=⟨PG.imp h λv σ H Q ⟨p,sr,r,q⟩=>by
 unfold Pm at q
 split at q
 .cases r with
  |tup e rs=>
   cases rs with
   |cons ra t=>
   cases t with
   |cons rb t=>
   cases t;have s1:=sr.fB ra i;exact⟨_,_,rfl,dh.of e,rfl,_,_,rfl,_,_,rfl,rfl,q [_,_] ((bT.fB sr _ _ i).trans (bT.fB s1 _ _ j)) (s1.fB rb j)⟩
 .exact q.elim⟩
end
section
variable{S T:Type}
def iW:O PV->S->(PV->S->W S)->W S
 |[],s,_=>.ret s
 |x::r,s,f=>.bind (f x s) λs'=>iW r s' f
inductive Lp(S T:Type) where
 |go (s:S)|out (t:T)
def ir:O PV->S->(PV->S->W (Lp S T))->W (Lp S T)
 |[],s,_=>.ret (.go s)
 |x::r,s,f=>.bind (f x s) λo=>match o with
  |.go s'=>ir r s' f
  |.out t=>.ret (.out t)
def tI(k:S->W T)(inj:R->T):Lp S R->W T
 |.go s=>k s
 |.out r=>.ret (inj r)
@[simp] theorem yo(k:S->W T)(inj:R->T)(s:S):tI k inj (.go s)=k s:=(rfl)
@[simp] theorem YE(k:S->W T)(inj:R->T)(r:R):tI k inj (.out r)=.ret (inj r):=(rfl)
def Qa(hd:S->aM)(out:R->End):Lp S R->End
 |.go s=>.nc (hd s)
 |.out r=>out r
def gL(c:S->W Bool)(b:S->W S):Nat->S->W S
 |0,_=>.fail
 |n+1,s=>.bind (c s) λk=>if k=true then .bind (b s) (gL c b n) else .ret s
def rS(c:S->W Bool)(b:S->W S)(s:S):W S:=⟨λQ=>∃n,(gL c b n s).run Q,λh ⟨n,q⟩=>⟨n,(gL c b n s).mono h q⟩⟩
def eB(c:S->W Bool)(b:S->W (Lp S T)):Nat->S->W (Lp S T)
 |0,_=>.fail
 |n+1,s=>.bind (c s) λk=>if k=true then .bind (b s) (λo=>match o with
  |.go s'=>eB c b n s'
  |.out t=>.ret (.out t)) else .ret (.go s)
def nS(c:S->W Bool)(b:S->W (Lp S T))(s:S):W (Lp S T):=⟨λQ=>∃n,(eB c b n s).run Q,λh ⟨n,q⟩=>⟨n,(eB c b n s).mono h q⟩⟩
end
section
variable{c:o0}{rest:O sK}{S T T2:Type}{hd:S->aM}{s0:S}{wt:PV->W T2}{is:O Nat}{fs2:S->T2->aM}{k:S->W T}{out:T->End}{x:Bool}{R:Type}{inj:R->T}
theorem SF.aa0{hd:Nat->S->aM}{hE:S->aM}{fs2:Nat->S->T2->aM}{f:PV->S->W S}{wb:T2->S->W S}(hp:wT (ii X.prog X.w) X.A X.env X.xe)(hc:X.calm=true)(hi:nh X K fs tg iter wl ax)(hl:cQ ax (hd 0 s0))(hg:∀i s,GF X K (hd i s) tg is wt (fs2 i s))(hf:∀p s,f p s=.bind (wt p) λt=>wb t s)(hb:∀i s t,i<sizeLine->SF X K false (fs2 i s t) body (wb t s) λs'=>.nc (hd (i+1) s'))(hx:∀i s,i<=sizeLine->cQ (hd i s) (hE s))(hr:∀s,SF X K x (hE s) rest (k s) out)(hs:pV X iter:=by intro _;rfl):SF X K x fs (.For tg iter body [] pos::rest) (.bind wl λl=>.bind (iW l s0 f) k) out:=by
 refine SF.step (JK (g:=λv σ H Q=>∃i s,fG K (hd i s) is wt (fs2 i s) v σ H Q) (tb:=λD σ H=>∃i s t,i<sizeLine/\fS K false (fs2 i s t) (wb t s) (λs'=>.nc (hd (i+1) s')) D σ H) hp hc hi.p (λZ s σ H v u Q I r ⟨i1,s1,q⟩=>(hg i1 s1).p Z s σ H v u Q I r q) (λZ s σ H D I ⟨i1,s1,t1,h1,q⟩=>(hb i1 s1 t1 h1).p Z s σ H D I q) hs) λD σ H ⟨sr,q⟩=>?_;refine⟨sr,wl.mono (λl q1 J H1 g1 s1 jf=>?_) q⟩;have hz:=jf.1;refine⟨λi m σ' H'=>∃s,aH K H' σ' (hd i s)/\bT σ fs H σ' (hd i s) H'/\JF K H' J l/\m=l.length-i/\i<=l.length/\(iW (l.drop i) s f).run λs'=>(k s').run λt=>bq K x σ fs H D (out t),⟨l.length,s0,s1.le hl,g1.f.trans (bT.le s1 hl),jf,by simp,Bn _,by simpa using q1⟩,?_⟩;rintro i m σ2 H2 ⟨s,s2,g2,Oe,rfl,hi,q2⟩;obtain⟨j1,j2⟩:=Oe.2 H2 (aW.refl H2);by_cases lV:i<l.length
 .obtain⟨go,yl⟩:=j1 i _ (Af lV);rw[(Bo lV)]at q2;refine .inr ⟨go,λσ3 H3=>∃s',aH K H3 σ3 (hd (i+1) s')/\bT σ fs H σ3 (hd (i+1) s') H3/\JF K H3 J l/\(iW (l.drop (i+1)) s' f).run λs'=>(k s').run λt=>bq K x σ fs H D (out t),λσ3 H3 ⟨s',a1,a2,a3,a4⟩=>⟨l.length-(i+1),by lia,s',a1,a2,a3,rfl,lV,a4⟩,λv H3 y=>?_⟩;obtain⟨sm,vx⟩:=yl v H3 y;have q2:(f l[i] s).run λs'=>(iW (l.drop (i+1)) s' f).run λs'=>(k s').run λt=>bq K x σ fs H D (out t):=q2;rw[hf]at q2;have s3:=s2.same sm;refine⟨i,s,_,s3,vx,(wt l[i]).mono (λt q4 us g4 s4=>?_) q2⟩;refine⟨i,s,t,by lia,s4,(wb t s).mono (λs' q5 σ5 H5 g5 s5=>?_) q4⟩;have fin:∃s',aH K H5 σ5 (hd (i+1) s')/\bT σ fs H σ5 (hd (i+1) s') H5/\JF K H5 J l/\(iW (l.drop (i+1)) s' f).run λs'=>(k s').run λt=>bq K x σ fs H D (out t):=⟨s',s5,((g2.trans (bT.same sm s2)).trans g4).trans g5,Oe.tk (aW.trans sm.dM (aW.trans (g4.bN s3) (g5.bN s4))),q5⟩;exact⟨λ_=>fin,fin⟩
 .have e:i=l.length:=by lia
  subst e;rw[E1]at q2;have le:=hx l.length s hz;exact .inl ⟨j2,hE s,k s,hr s,s2.le le,(k s).mono (λt q3=>q3.go (g2.trans (bT.le s2 le)) sr (s2.le le)) q2⟩
def SF.for{f:PV->S->W S}{wb:T2->S->W S}(hp:wT (ii X.prog X.w) X.A X.env X.xe)(hc:X.calm=true)(hi:nh X K fs tg iter wl ax)(hl:cQ ax (hd s0))(hg:∀s,GF X K (hd s) tg is wt (fs2 s))(hf:∀p s,f p s=.bind (wt p) λt=>wb t s)(hb:∀s t,SF X K false (fs2 s t) body (wb t s) λs'=>.nc (hd s'))(hr:∀s,SF X K x (hd s) rest (k s) out)(hs:pV X iter:=by intro _;rfl):SF X K x fs (.For tg iter body [] pos::rest) (.bind wl λl=>.bind (iW l s0 f) k) out:=SF.aa0 (hd:=λ_=>hd) (fs2:=λ_=>fs2) hp hc hi hl (λ_=>hg) hf (λ_ s t _=>hb s t) (λ_ s _=>.refl _) hr hs
theorem SF.Xa{hd:Nat->S->aM}{hE:S->aM}{fs2:Nat->S->T2->aM}{f:PV->S->W (Lp S R)}{wb:T2->S->W (Lp S R)}(hp:wT (ii X.prog X.w) X.A X.env X.xe)(hc:X.calm=true)(hi:nh X K fs tg iter wl ax)(hl:cQ ax (hd 0 s0))(hg:∀i s,GF X K (hd i s) tg is wt (fs2 i s))(hf:∀p s,f p s=.bind (wt p) λt=>wb t s)(ho:∀t,(out (inj t)).oX)(hb:∀i s t,i<sizeLine->SF X K false (fs2 i s t) body (wb t s) (Qa (hd (i+1)) λr=>out (inj r)))(hx:∀i s,i<=sizeLine->cQ (hd i s) (hE s))(hr:∀s,SF X K x (hE s) rest (k s) out)(hs:pV X iter:=by intro _;rfl):SF X K x fs (.For tg iter body [] pos::rest) (.bind wl λl=>.bind (FL.ir l s0 f) (tI k inj)) out:=by
 refine SF.step (JK (g:=λv σ H Q=>∃i s,fG K (hd i s) is wt (fs2 i s) v σ H Q) (tb:=λD σ H=>∃i s t,i<sizeLine/\fS K false (fs2 i s t) (wb t s) (Qa (hd (i+1)) λr=>out (inj r)) D σ H) hp hc hi.p (λZ s σ H v u Q I r ⟨i1,s1,q⟩=>(hg i1 s1).p Z s σ H v u Q I r q) (λZ s σ H D I ⟨i1,s1,t1,h1,q⟩=>(hb i1 s1 t1 h1).p Z s σ H D I q) hs) λD σ H ⟨sr,q⟩=>?_;refine⟨sr,wl.mono (λl q1 J H1 g1 s1 jf=>?_) q⟩;have hz:=jf.1;have lo:∀D' y t,D'.rt=D.rt->bq K x σ fs H D (out (inj t))->bq K y σ fs H D' (out (inj t)):=λD' y t e h=>bq.VU (ho t) e h;refine⟨λi m σ' H'=>∃s,aH K H' σ' (hd i s)/\bT σ fs H σ' (hd i s) H'/\JF K H' J l/\m=l.length-i/\i<=l.length/\(FL.ir (l.drop i) s f).run λo=>(tI k inj o).run λt=>bq K x σ fs H D (out t),⟨l.length,s0,s1.le hl,g1.f.trans (bT.le s1 hl),jf,by simp,Bn _,by simpa using q1⟩,?_⟩;rintro i m σ2 H2 ⟨s,s2,g2,Oe,rfl,hi,q2⟩;obtain⟨j1,j2⟩:=Oe.2 H2 (aW.refl H2);by_cases lV:i<l.length
 .obtain⟨go,yl⟩:=j1 i _ (Af lV);rw[(Bo lV)]at q2;refine .inr ⟨go,λσ3 H3=>∃s',aH K H3 σ3 (hd (i+1) s')/\bT σ fs H σ3 (hd (i+1) s') H3/\JF K H3 J l/\(FL.ir (l.drop (i+1)) s' f).run λo=>(tI k inj o).run λt=>bq K x σ fs H D (out t),λσ3 H3 ⟨s',a1,a2,a3,a4⟩=>⟨l.length-(i+1),by lia,s',a1,a2,a3,rfl,lV,a4⟩,λv H3 y=>?_⟩;obtain⟨sm,vx⟩:=yl v H3 y;have q2:(f l[i] s).run λo=>(match o with|.go s'=>FL.ir (l.drop (i+1)) s' f|.out t=>ap (.out t)).run λo=>(tI k inj o).run λt=>bq K x σ fs H D (out t):=q2;rw[hf]at q2;have s3:=s2.same sm;have g3:=g2.trans (bT.same sm s2);refine⟨i,s,_,s3,vx,(wt l[i]).mono (λt q4 us g4 s4=>?_) q2⟩;refine⟨i,s,t,by lia,s4,(wb t s).mono (λo q5=>?_) q4⟩;cases o with
  |out t5=>
   refine bq.go (g3.trans g4) sr s4 (lo _ false t5 ?_ q5);rfl
  |go s'=>
   intro σ5 H5 g5 s5;have fin:∃s',aH K H5 σ5 (hd (i+1) s')/\bT σ fs H σ5 (hd (i+1) s') H5/\JF K H5 J l/\(FL.ir (l.drop (i+1)) s' f).run λo=>(tI k inj o).run λt=>bq K x σ fs H D (out t):=⟨s',s5,(g3.trans g4).trans g5,Oe.tk (aW.trans sm.dM (aW.trans (g4.bN s3) (g5.bN s4))),q5⟩;exact⟨λ_=>fin,fin⟩
 .have e:i=l.length:=by lia
  subst e;rw[E1]at q2;have le:=hx l.length s hz;exact .inl ⟨j2,hE s,k s,hr s,s2.le le,(k s).mono (λt q3=>q3.go (g2.trans (bT.le s2 le)) sr (s2.le le)) q2⟩
def SF.ir{f:PV->S->W (Lp S R)}{wb:T2->S->W (Lp S R)}(hp:wT (ii X.prog X.w) X.A X.env X.xe)(hc:X.calm=true)(hi:nh X K fs tg iter wl ax)(hl:cQ ax (hd s0))(hg:∀s,GF X K (hd s) tg is wt (fs2 s))(hf:∀p s,f p s=.bind (wt p) λt=>wb t s)(ho:∀t,(out (inj t)).oX)(hb:∀s t,SF X K false (fs2 s t) body (wb t s) (Qa hd λr=>out (inj r)))(hr:∀s,SF X K x (hd s) rest (k s) out)(hs:pV X iter:=by intro _;rfl):SF X K x fs (.For tg iter body [] pos::rest) (.bind wl λl=>.bind (FL.ir l s0 f) (tI k inj)) out:=SF.Xa (hd:=λ_=>hd) (fs2:=λ_=>fs2) hp hc hi hl (λ_=>hg) hf ho (λ_ s t _=>hb s t) (λ_ s _=>.refl _) hr hs
def w9(N:Nat)(c:S->W Bool)(b:S->W S)(s:S):W S:=⟨λQ=>∃n,n<=N/\(gL c b n s).run Q,λh ⟨n,l,q⟩=>⟨n,l,(gL c b n s).mono h q⟩⟩
def rT(N:Nat)(c:S->W Bool)(b:S->W (Lp S T))(s:S):W (Lp S T):=⟨λQ=>∃n,n<=N/\(eB c b n s).run Q,λh ⟨n,l,q⟩=>⟨n,l,(eB c b n s).mono h q⟩⟩
theorem SF.w9{N:Nat}{hd:Nat->S->aM}{hE:S->aM}{cw:S->W Bool}{b:S->W S}(hp:wT (ii X.prog X.w) X.A X.env X.xe)(hl:cQ fs (hd 0 s0))(hc:∀i s,TF X K (hd i s) c (cw s))(hb:∀i s,i<N->SF X K false (hd i s) body (b s) λs'=>.nc (hd (i+1) s'))(hx:∀i s,i<=N->cQ (hd i s) (hE s))(hr:∀s,SF X K x (hE s) rest (k s) out):SF X K x fs (.While c body [] pos::rest) (.bind (FL.w9 N cw b s0) k) out:=by
 refine SF.step (kq (tc:=λσ H Q=>∃i s,fT K (hd i s) (cw s) (hd i s) σ H Q) (tb:=λD σ H=>∃i s,i<N/\fS K false (hd i s) (b s) (λs'=>.nc (hd (i+1) s')) D σ H) hp (λZ s σ H Q I ⟨i1,s1,q⟩=>(hc i1 s1).p Z s σ H Q I q) (λZ s σ H D I ⟨i1,s1,h1,q⟩=>(hb i1 s1 h1).p Z s σ H D I q)) λD σ H ⟨sr,n,hn,q⟩=>?_;refine⟨λm σ' H'=>∃i s,i+m<=N/\aH K H' σ' (hd i s)/\bT σ fs H σ' (hd i s) H'/\(gL cw b m s).run λs'=>(k s').run λt=>bq K x σ fs H D (out t),⟨n,0,s0,by lia,sr.le hl,bT.le sr hl,q⟩,?_⟩;rintro m σ1 H1 ⟨i,s,him,s1,g1,q1⟩;cases m with
 |zero=>exact q1.elim
 |succ m=>
  refine⟨i,s,s1,(cw s).mono (λkk q2 H2 g2 s2=>?_) q1⟩;cases kk with
  |false=>
   have le:=hx i s ∅;exact fe ⟨hE s,k s,hr s,s2.le le,(k s).mono (λt q3=>q3.go ((g1.trans g2.f).trans (bT.le s2 le)) sr (s2.le le)) q2⟩
  |true=>
   refine iO ?_;refine⟨λσ3 H3=>∃s,aH K H3 σ3 (hd (i+1) s)/\bT σ fs H σ3 (hd (i+1) s) H3/\(gL cw b m s).run λs'=>(k s').run λt=>bq K x σ fs H D (out t),λσ3 H3 ⟨s,a⟩=>⟨m,Ce m,i+1,s,by lia,a⟩,i,s,by lia,s2,(b s).mono (λs' q5 σ5 H5 g5 s5=>?_) q2⟩;have fin:∃s,aH K H5 σ5 (hd (i+1) s)/\bT σ fs H σ5 (hd (i+1) s) H5/\(gL cw b m s).run λs'=>(k s').run λt=>bq K x σ fs H D (out t):=⟨s',s5,(g1.trans g2.f).trans g5,q5⟩;exact⟨λ_=>fin,fin⟩
def SF.Pj{cw:S->W Bool}{b:S->W S}(hp:wT (ii X.prog X.w) X.A X.env X.xe)(hl:cQ fs (hd s0))(hc:∀s,TF X K (hd s) c (cw s))(hb:∀s,SF X K false (hd s) body (b s) λs'=>.nc (hd s'))(hr:∀s,SF X K x (hd s) rest (k s) out):SF X K x fs (.While c body [] pos::rest) (.bind (rS cw b s0) k) out:=⟨λZ s σ H D I ⟨sr,n,q⟩=>(SF.w9 (N:=n) (hd:=λ_=>hd) hp hl (λ_=>hc) (λ_ s _=>hb s) (λ_ s _=>.refl _) hr).p Z s σ H D I ⟨sr,n,Aj n,q⟩⟩
theorem SF.rT{N:Nat}{hd:Nat->S->aM}{hE:S->aM}{cw:S->W Bool}{b:S->W (Lp S R)}(hp:wT (ii X.prog X.w) X.A X.env X.xe)(hl:cQ fs (hd 0 s0))(hc:∀i s,TF X K (hd i s) c (cw s))(ho:∀t,(out (inj t)).oX)(hb:∀i s,i<N->SF X K false (hd i s) body (b s) (Qa (hd (i+1)) λr=>out (inj r)))(hx:∀i s,i<=N->cQ (hd i s) (hE s))(hr:∀s,SF X K x (hE s) rest (k s) out):SF X K x fs (.While c body [] pos::rest) (.bind (FL.rT N cw b s0) (tI k inj)) out:=by
 refine SF.step (kq (tc:=λσ H Q=>∃i s,fT K (hd i s) (cw s) (hd i s) σ H Q) (tb:=λD σ H=>∃i s,i<N/\fS K false (hd i s) (b s) (Qa (hd (i+1)) λr=>out (inj r)) D σ H) hp (λZ s σ H Q I ⟨i1,s1,q⟩=>(hc i1 s1).p Z s σ H Q I q) (λZ s σ H D I ⟨i1,s1,h1,q⟩=>(hb i1 s1 h1).p Z s σ H D I q)) λD σ H ⟨sr,n,hn,q⟩=>?_;have lo:∀D' y t,D'.rt=D.rt->bq K x σ fs H D (out (inj t))->bq K y σ fs H D' (out (inj t)):=λD' y t e h=>bq.VU (ho t) e h;refine⟨λm σ' H'=>∃i s,i+m<=N/\aH K H' σ' (hd i s)/\bT σ fs H σ' (hd i s) H'/\(eB cw b m s).run λo=>(tI k inj o).run λt=>bq K x σ fs H D (out t),⟨n,0,s0,by lia,sr.le hl,bT.le sr hl,q⟩,?_⟩;rintro m σ1 H1 ⟨i,s,him,s1,g1,q1⟩;cases m with
 |zero=>exact q1.elim
 |succ m=>
  refine⟨i,s,s1,(cw s).mono (λkk q2 H2 g2 s2=>?_) q1⟩;cases kk with
  |false=>
   have le:=hx i s ∅;exact fe ⟨hE s,k s,hr s,s2.le le,(k s).mono (λt q3=>q3.go ((g1.trans g2.f).trans (bT.le s2 le)) sr (s2.le le)) q2⟩
  |true=>
   refine iO ?_;refine⟨λσ3 H3=>∃s,aH K H3 σ3 (hd (i+1) s)/\bT σ fs H σ3 (hd (i+1) s) H3/\(eB cw b m s).run λo=>(tI k inj o).run λt=>bq K x σ fs H D (out t),λσ3 H3 ⟨s,a⟩=>⟨m,Ce m,i+1,s,by lia,a⟩,i,s,by lia,s2,(b s).mono (λo q5=>?_) q2⟩;cases o with
   |out t5=>
    refine bq.go (g1.trans g2.f) sr s2 (lo _ false t5 ?_ q5);rfl
   |go s'=>
    intro σ5 H5 g5 s5;have fin:∃s,aH K H5 σ5 (hd (i+1) s)/\bT σ fs H σ5 (hd (i+1) s) H5/\(eB cw b m s).run λo=>(tI k inj o).run λt=>bq K x σ fs H D (out t):=⟨s',s5,(g1.trans g2.f).trans g5,q5⟩;exact⟨λ_=>fin,fin⟩
def SF.nS{cw:S->W Bool}{b:S->W (Lp S R)}(hp:wT (ii X.prog X.w) X.A X.env X.xe)(hl:cQ fs (hd s0))(hc:∀s,TF X K (hd s) c (cw s))(ho:∀t,(out (inj t)).oX)(hb:∀s,SF X K false (hd s) body (b s) (Qa hd λr=>out (inj r)))(hr:∀s,SF X K x (hd s) rest (k s) out):SF X K x fs (.While c body [] pos::rest) (.bind (FL.nS cw b s0) (tI k inj)) out:=⟨λZ s σ H D I ⟨sr,n,q⟩=>(SF.rT (N:=n) (hd:=λ_=>hd) hp hl (λ_=>hc) ho (λ_ s _=>hb s) (λ_ s _=>.refl _) hr).p Z s σ H D I ⟨sr,n,Aj n,q⟩⟩
end
end
end FL
variable{f:PL.PV->FL.W (Option PL.PV)}{mH Mq:FL.aM}{hd:Nat->FL.aM}
namespace FL
section
variable[bj]
variable{K:Aa}
def lO:O PV->(PV->W (Option PV))->W (O PV)
 |[],_=>.ret []
 |x::r,f=>.bind (f x) λo=>.bind (lO r f) λl=>.ret (o.toList++l)
def cY:O PV->(PV->W PV)->W (O PV)
 |[],_=>.ret []
 |x::r,f=>.bind (f x) λy=>.bind (cY r f) λl=>.ret (y::l)
theorem sV(f:PV->W PV):∀l,cY l f=lO l λp=>.bind (f p) λv=>.ret (al v)
 |[]=>rfl
 |x::r=>by
  show am (f x) (λy=>am (cY r f) λl=>ap (y::l))=am (f x) λy=>am (lO r _) λl=>ap (y::l);rw[sV f r]
def a8(ix:O (Option Nat))(fs:aM):aM:=ix.map λo=>match o with|some j=>(fs[j]?).getD bn|none=>bn
section
def k8{s:SL}(h:(a8 ix fs)[i]?=al (al s)):∃j,ix[i]?=al (al j)/\fs[j]?=al (al s):=by
 unfold a8 at h;rw[An]at h;cases q:ix[i]? with
 |none=>rw[q]at h;cases h
 |some o=>
  rw[q]at h;cases o with
  |none=>cases h
  |some j=>
   refine⟨j,rfl,?_⟩;have h:(fs[j]?).getD bn=al s:=Option.some.inj h;cases z:fs[j]? with
   |none=>rw[z]at h;cases h
   |some y=>rw[z]at h;exact congrArg al h
def jx(h:ix[i]?=al (al j))(e:σ[j]?=al (al u)):(k7 ix σ)[i]?=al (al u):=by
 unfold k7;rw[An,h];show al ((σ[j]?).getD bn)=_;rw[e];rfl
def aH.dm(s:aH K H σ fs)(inj:∀i i' j:Nat,ix[i]?=al (al j)->ix[i']?=al (al j)->i=i'):aH K H (k7 ix σ) (a8 ix fs):=by
 refine⟨by unfold k7 a8;simp,λi t e=>?_,λi i' t u x y a e1 e2 o1 o2 q1 q2 z1 z2=>?_,s.tb⟩
 .obtain⟨j,h1,h2⟩:=k8 e;obtain⟨u,h3,h4⟩:=s.at' j t h2;exact⟨u,jx h1 h3,h4⟩
 .obtain⟨j,h1,h2⟩:=k8 e1;obtain⟨j',fP,uP⟩:=k8 e2;obtain⟨u1,h3,_⟩:=s.at' j t h2;obtain⟨u2,Ow,_⟩:=s.at' j' u uP;rw[jx h1 h3]at q1;rw[jx fP Ow]at q2;cases q1;cases q2;have:=s.nd j j' t u x y a h2 uP o1 o2 h3 Ow z1 z2;subst this;exact inj i i' j h1 fP
structure QI(ix:List (Option Nat))(σ:L2.St)(fs:aM)(σ':L2.St)(aE:aM):Prop where
 own:∀(i:Nat) (t:SL),aE[i]?=al (al t)->t.own=true->∃j,ix[i]?=al (al j)/\fs[j]?=al (al t)/\σ'[i]?=σ[j]?
def X0(ix:O (Option Nat))(σ σ':L2.St):Prop:=∀(i j:Nat) (u:V),ix[i]?=al (al j)->σ[j]?=al (al u)->σ'[i]?=al (al u)
def X0.KJ(c:X0 ix σ σ')(s:aH K H σ fs):QI ix σ fs σ' (a8 ix fs):=⟨λi t e _=>by
 obtain⟨j,h1,h2⟩:=k8 e;obtain⟨u,h3,_⟩:=s.at' j t h2;exact⟨j,h1,h2,by rw[c i j u h1 h3,h3]⟩⟩
def QI.eE(h:QI ix σ fs σ' aE)(o:bL σ' aE a):bL σ fs a:=by
 obtain⟨i,t,x,e1,e2,e3,e4⟩:=o;obtain⟨j,h1,h2,h3⟩:=h.own i t e1 e2;exact⟨j,t,x,h2,e2,h3▸e3,e4⟩
def QI.cR(h:QI ix σ fs σ' aE){m:Nat}(o:fv σ' aE ψ m a):fv σ fs ψ m a:=by
 obtain⟨i,n,e1,e3⟩:=o;obtain⟨j,h1,h2,h3⟩:=h.own i _ e1 rfl;exact⟨j,n,h2,h3▸e3⟩
def QI.out{OA fsC:aM}(h:QI ix σ fs σ' aE)(cp:X0 ix σ σ')(s:aH K H1 σ fs)(g:cf σ' aE H1 H2 fsC)(s2:aH K H2 σ' (a8 ix OA))(ev:Ev fs OA)(hc:∀j:Nat,fs[j]?=OA[j]?\/∃i':Nat,ix[i']?=al (al j)):aH K H2 σ OA/\cf σ fs H1 H2 OA:=by
 have gf:cf σ fs H1 H2 OA:=⟨λa o e n t=>g.keep a o e (λψ m z=>n ψ m (h.cR z)) t,g.there,ev,g.x⟩;have dm:∀{i j:Nat}{t:SL},ix[i]?=al (al j)->OA[j]?=al (al t)->(a8 ix OA)[i]?=al (al t):=λ{i j t} e1 e2=>by
  unfold a8;rw[An,e1];show al ((OA[j]?).getD bn)=_;rw[e2];rfl
 have tk:=gf.bN s;refine⟨⟨s.len.trans ev.len,λj t e=>?_,ev.nd s,s2.tb⟩,gf⟩
 .rcases hc j with e0|⟨i,hi⟩
  .rw[<- e0]at e;obtain⟨u,h1,h2⟩:=s.at' j t e;refine⟨u,h1,?_⟩;rcases h2 with⟨v,q,r⟩|⟨a,q,r⟩
   .exact .inl ⟨v,q,VR.tk tk r⟩
   .subst q;refine .inr ⟨a,rfl,?_⟩;by_cases c:∃b,t.own=true/\t.has a b/\bL σ' aE b
    .obtain⟨b,ow,hb,i,t',x,c1,c2,c3,c4⟩:=c;obtain⟨j',k1,k2,k3⟩:=h.own i t' c1 c2;have jj:=s.nd j j' t t' a x b e k2 ow c2 h1 (k3▸c3) hb c4;subst jj;rw[e]at k2;cases k2;exact s2.ownAt (dm k1 (e0▸e)) c2 (k3.trans h1)
    .exact r.mono tk (λb o ow hb z nt=>g.kK z (λy=>c ⟨b,ow,hb,y⟩) nt)
  .obtain⟨u',h3,h4⟩:=s2.at' i t (dm hi e);have he:∃t',fs[j]?=al (al t'):=by
    rcases ev.get e with z|⟨_,_,_,_,_,z⟩
    .exact⟨_,z⟩
    .exact⟨_,z⟩
   obtain⟨t',he⟩:=he;obtain⟨u,h1,_⟩:=s.at' j t' he;have:=cp i j u hi h1;rw[h3]at this;cases this;exact⟨_,h1,h4⟩
theorem jS:∀{is:O Nat}{us:O V}{σ:L2.St}{i:Nat},i∉is->(sk is us σ)[i]?=σ[i]?
 |[],us,σ,i,_=>by cases us<;>rfl
 |j::is,[],σ,i,_=>rfl
 |j::is,u::us,σ,i,h=>by
  rw[sk,jS (λz=>h (AD _ z))];exact aB (λz=>h (by rw[z];exact Bp))
end
section
variable{T2:Type}{wt:PV->W T2}{is:O Nat}{fs2:T2->aM}{tf:T2->W Bool}{te:T2->W PV}
structure FF(X:Cx)(K:Aa)(fs:aM)(É:List o0)(w:W Bool):Prop where p:UG X É (fT K fs w)
def K9:FF X K fs [] (.ret true):=⟨λZ s σ H Q I ⟨sr,q⟩=>Nw Z s σ H Q I (q H .refl sr)⟩
def yy{c:o0}{w:W Bool}(h:TF X K fs c w):FF X K fs [c] w:=⟨Nv h.p⟩
def mi(is:O Nat)(mH:aM)(fs2:T2->aM):Prop:=∀t,(fs2 t).length=mH.length/\∀(i:Nat) (s:SL),(fs2 t)[i]?=al (al s)->(i∈is/\s.own=false)\/(i∉is/\mH[i]?=al (al s))
theorem Qv{fs2 fs3:Nat->T2->aM}(S:ba X.env.scope X.N sc N' ix)(h0:uD ax (hd 0))(hx:∀i,i<=sizeLine->uD (hd i) Mq)(hv:∀i,i<sizeLine->Ev (hd i) (hd (i+1)))(Ur:∀i j:Nat,(hd i)[j]?=(hd (i+1))[j]?\/∃i':Nat,ix[i']?=al (al j))(hf:∀p,f p=.bind (wt p) λt=>.bind (tf t) λk=>if k=true then .bind (te t) λv=>.ret (al v) else .ret bn)(hl:∀i,mi is (a8 ix (hd i)) (fs2 i))(Ql:∀i t,i<sizeLine->cQ (fs2 i t) (a8 ix (hd (i+1))))(WG:∀i t,i<sizeLine->cQ (fs3 i t) (a8 ix (hd (i+1))))(nK:∀j∈is,ix[j]?=al bn):∀σ H Q,fL K fs (.bind wl λl=>lO l f) Mq σ H Q->Zr ix (fIt K fs wl ax) (λv σ H Q=>∃i,fG K (a8 ix (hd i)) is wt (fs2 i) v σ H Q) (λσ H Q=>∃i t,fT K (fs2 i t) (tf t) (fs2 i t) σ H Q) (λσ H Q=>∃i t,i<sizeLine/\fE K (fs2 i t) (te t) (fs3 i t) σ H Q) σ H Q:=by
 rintro σ H Q ⟨sr,q⟩;refine⟨sr,wl.mono (λl q1 J H1 g1 s1 jf D hD=>?_) q⟩;have hz:=jf.1;have inj:∀i i' j:Nat,ix[i]?=al (al j)->ix[i']?=al (al j)->i=i':=λi i' j h1 h2=>by
  have hi:i<N'.length:=by rw[<- S.len];exact(Ak.mp h1).1
  have tF:i'<N'.length:=by rw[<- S.len];exact(Ak.mp h2).1
  have e2:=(S.at h2 (Af tF)).1;rw[((S.at h1 (Af hi)).1)]at e2;exact(List.getElem_inj S.nd).mp (Option.some.inj e2)
 have g1:=g1.le h0;have s1:=s1.le h0.f;have nD:∀i,Ev (hd 0) (hd i)->¬bL σ (hd i) D:=λi e z=>s1.noOwn hD (e.eE z);refine⟨λi m σ' ys H'=>∃acc,Ev (hd 0) (hd i)/\aH K H' σ (hd i)/\cf σ fs H H' (hd i)/\aH K H' σ' (a8 ix (hd i))/\X0 ix σ σ'/\JF K H' J l/\H' D=al (.lst ys)/\aD K [] H' ys acc/\acc.length<=i/\m=l.length-i/\i<=l.length/\
  (lO (l.drop i) f).run λr=>∀a vs H',cf σ fs H H' Mq->aH K H' σ Mq->H a=bn->H' a=al (.lst vs)->aD K [] H' vs (acc++r)->Q (.ref a) H',⟨l.length,[],?_⟩,?_⟩
 .have sm:=gw hD (.lst []);exact⟨.refl _,s1.same sm,g1.trans (cf.same sm),(s1.same sm).dm inj,λi j u h1 h3=>jx h1 h3,jf.tk sm.dM,aw,.nil,Bn _,by simp,Bn _,by simpa using q1⟩
 rintro i m σ2 ys H2 ⟨acc,ev0,sO,gO,s2,cp,Oe,hy,vy,WV,rfl,hi,q2⟩;refine⟨hy,?_⟩;obtain⟨j1,j2⟩:=Oe.2 H2 (aW.refl H2);have KJ:=cp.KJ sO;by_cases lV:i<l.length
 .have Up:i<sizeLine:=by lia
  have Ć:=ev0.trans (hv i Up);obtain⟨go,yl⟩:=j1 i _ (Af lV);rw[(Bo lV)]at q2;refine .inr ⟨go,λv H3 y=>?_⟩;obtain⟨sm,vx⟩:=yl v H3 y;have q2:(f l[i]).run λo=>(lO (l.drop (i+1)) f).run λr=>∀a vs H',cf σ fs H H' Mq->aH K H' σ Mq->H a=bn->H' a=al (.lst vs)->aD K [] H' vs (acc++(o.toList++r))->Q (.ref a) H':=q2;rw[hf]at q2;refine⟨_,_,(s2.same sm),vx,(wt l[i]).mono (λt q4 us g4 s4=>?_) q2⟩;have Xv:X0 ix σ (sk is us σ2):=λi' j u h1 h3=>by
   rw[jS λz=>by have:=nK i' z;rw[h1]at this;cases this];exact cp i' j u h1 h3
  have Sz:QI ix σ (hd i) (sk is us σ2) (fs2 i t):=⟨λj u e o=>by
   rcases (hl i t).2 j u e with⟨_,z⟩|⟨n,z⟩
   .rw[z]at o;cases o
   .obtain⟨j',k1,k2,k3⟩:=KJ.own j u z o;exact⟨j',k1,k2,by rw[jS n];exact k3⟩⟩
  refine⟨i,t,s4,(tf t).mono (λkk q5 H5 g5 s5=>?_) q4⟩;have nD4:¬bL (sk is us σ2) (fs2 i t) D:=λz=>nD i ev0 (Sz.eE z);have hy5:=g5.kK (sm _ _ hy) nD4;have vy5:=aD.tk (g5.bN s4) (aD.tk sm.dM vy);have jf5:=(Oe.tk sm.dM).tk (g5.bN s4);have x5:∀φ,H2 D≠al (.ext φ):=λφ=>by rw[hy];simp
  cases kk with
  |false=>
   have s5':=s5.le (Ql i t Up);obtain⟨sO5,gO5⟩:=Sz.out Xv (sO.same sm) g5 s5' (hv i Up) (Ur i);exact fe ⟨l.length-(i+1),by lia,acc,Ć,sO5,(gO.trans (cf.same sm)).trans gO5,s5',Xv,jf5,hy5,vy5,by lia,rfl,lV,q5⟩
  |true=>
   refine iO ⟨i,t,Up,s5,(te t).mono (λv6 q6 u6 H6 g6 s6 v6'=>?_) q5⟩;have s6':=s6.le (WG i t Up);obtain⟨sO6,aaX⟩:=Sz.out Xv (sO.same sm) (g5.trans g6) s6' (hv i Up) (Ur i);have gO6:=(gO.trans (cf.same sm)).trans aaX;have Uo:=g6.kK hy5 nD4;have vy6:=aD.tk (g6.bN s5) vy5;have x6:∀φ,H6 D≠al (.ext φ):=λφ=>by rw[Uo];simp
   have nDi:=nD (i+1) Ć;refine⟨Uo,by rw[vy6.length];have:=Oe.1;lia,l.length-(i+1),by lia,acc++[v6],Ć,sO6.side nDi Uo _,gO6.side (g1.there D hD) x6 _,s6'.side (λz=>nDi ((Xv.KJ sO6).eE z)) Uo _,Xv,(jf5.tk (g6.bN s5)).tk (nr _ Uo),aw,aD.tk (nr (.lst (ys++[u6])) Uo) (vy6.append (.cons v6' .nil)),by rw[Ah];simp;lia,rfl,lV,?_⟩;refine(lO (l.drop (i+1)) f).mono (λr q7 a vs H7 g7 s7 n e v7=>q7 a vs H7 g7 s7 n e ?_) q6;simpa using v7
 .have e:i=l.length:=by lia
  subst e;rw[E1]at q2;have le:=hx l.length hz;exact .inl ⟨j2,q2 D ys H2 (gO.le le) (sO.le le.f) (g1.there D hD) hy (by simpa using vy)⟩
end
end
end FL
namespace L2
def mW(l:db)(items:Array ce)(n:Nat)(b:db)(gY:Array ce)(n2:Nat)(sl:Array (Option ce))(WT:¬(!items.isEmpty&&Builtin.List.listTooLong (items.size+gY.size))=true)(ü:items.size<=sizeLine)(uM:items.size+gY.size<=sizeLine+1):Meets (GE.«list.extend» ⟨[.ref l,.ref b],[]⟩) (λ_ R s=>s.heap.get? l=al {cls:=.type "list",dict:=bn,data:=.seq items n,slots:=#[]}/\s.heap.get? b=al {cls:=.type "list",dict:=bn,data:=.seq gY n2,slots:=sl}/\R (.ok (.ret AJ)) {s with heap:=s.heap.update l (CB λx=>x++gY),toks:=s.toks}):=
 .of_wp λprog w A R s h=>by
  obtain⟨hp,g,d,tk,os⟩:=s;obtain⟨hl,hb,h⟩:=h;have f5:=DK;
  wp_walk using (DR hl rfl),BU hl,BU hb;exact⟨_,rfl,h⟩
def VB(K:Aa):V->O V->Hp->VK->Prop:=λx vs H Q=>∃l b xs zs,x=.ref l/\vs=[.ref b]/\H l=al (.lst xs)/\(cL K H b zs\/dh K H b zs)/\xs.length+zs.length<=sizeLine/\uV H l (.lst (xs++zs)) (Q .br)
theorem N2(K:Aa)(hK:X.K=K):GD X "list.extend" (VB K):=by
 subst hK;intro Z s σ H x vs v us Q I rx rv h;obtain⟨l,b,xs,zs,rfl,rfl,hH,hB|hB,hz,q⟩:=h
 .cases rx;obtain⟨u,rfl,ru⟩:=rv.one;cases ru;obtain⟨z,ao,n,r,hl,e⟩:=I.jX hH;obtain⟨bX,r2,⟨⟨cls,dd,data,sl⟩,n2,e2,hc,hd,SS⟩,z2⟩:=I.list hB;subst hc hd SS;have Oq:=r2.length;have hsz:ao.toArray.size+bX.toArray.size<=sizeLine:=by rw[Ag,Ag];lia
  have o6:¬(!ao.toArray.isEmpty&&Builtin.List.listTooLong (ao.toArray.size+bX.toArray.size))=true:=by
   rw[gB hsz,Ew];exact Bq
  refine FB En ⟨_,e,rfl⟩ DV (DJ _ _)
   (mW l ao.toArray n b bX.toArray n2 sl o6 (by rw[Ag];lia) ∅) ⟨e,e2,?_⟩
  refine⟨.br,_,I.xT hH e (by simp) (r.append r2) ?_,rfl,q.at⟩;rw[Ah];lia
 .exact vm Z s σ H _ _ v us Q I rx rv ⟨l,b,xs,zs,rfl,rfl,hH,hB,hz,q⟩
end L2
variable{wi we:FL.W PL.PV}{z:BJ}
namespace FL
section
variable[bj]
variable{K:Aa}
section
variable{T2:Type}{wt:PV->W T2}{is:O Nat}{fs2:T2->aM}{tf:T2->W Bool}{te:T2->W PV}
def We{fs2 fs3:Nat->T2->aM}(hc:X.calm=true)(S:ba X.env.scope X.N sc N' ix)(hi:nh X K fs tg iter wl ax)(hg:∀cl C s2 H2 fp i,GF (dm X sc N' cl C s2 H2 fp) K (a8 ix (hd i)) tg is wt (fs2 i))(Ot:∀cl C s2 H2 fp i t,FF (dm X sc N' cl C s2 H2 fp) K (fs2 i t) É (tf t))(he:∀cl C s2 H2 fp i t,i<sizeLine->EF (dm X sc N' cl C s2 H2 fp) K (fs2 i t) Å (te t) (fs3 i t))(hf:∀p,f p=.bind (wt p) λt=>.bind (tf t) λk=>if k=true then .bind (te t) λv=>.ret (al v) else .ret bn)(hl:∀i,mi is (a8 ix (hd i)) (fs2 i))(nK:∀j∈is,ix[j]?=al bn)(h0:uD ax (hd 0))(hx:∀i,i<=sizeLine->uD (hd i) Mq)(hv:∀i,i<sizeLine->Ev (hd i) (hd (i+1)))(Ur:∀i j:Nat,(hd i)[j]?=(hd (i+1))[j]?\/∃i':Nat,ix[i']?=al (al j))(Ql:∀i t,i<sizeLine->cQ (fs2 i t) (a8 ix (hd (i+1))))(WG:∀i t,i<sizeLine->cQ (fs3 i t) (a8 ix (hd (i+1))))(hs:pV X iter:=by intro _;rfl):LF X K fs (.ListComp Å [⟨tg,iter,É,0⟩] sc pos) (.bind wl λl=>lO l f) Mq:=
 ⟨PE.imp (VM hc S hi.p (λcl C s2 H2 fp Z s σ H v u Q I r ⟨i,q⟩=>(hg cl C s2 H2 fp i).p Z s σ H v u Q I r q) (λcl C s2 H2 fp Z s σ H Q I ⟨i,t,q⟩=>(Ot cl C s2 H2 fp i t).p Z s σ H Q I q) (λcl C s2 H2 fp Z s σ H Q I ⟨i,t,h,q⟩=>(he cl C s2 H2 fp i t h).p Z s σ H Q I q) hs) (Qv S h0 hx hv Ur hf hl Ql WG nK)⟩
def Wf(hc:X.calm=true)(S:ba X.env.scope X.N sc N' ix)(hi:nh X K fs tg iter wl ax)(hg:∀cl C s2 H2 fp,GF (dm X sc N' cl C s2 H2 fp) K (a8 ix ax) tg is wt fs2)(Ot:∀cl C s2 H2 fp t,FF (dm X sc N' cl C s2 H2 fp) K (fs2 t) É (tf t))(he:∀cl C s2 H2 fp t,EF (dm X sc N' cl C s2 H2 fp) K (fs2 t) Å (te t))(hf:∀p,f p=.bind (wt p) λt=>.bind (tf t) λk=>if k=true then .bind (te t) λv=>.ret (al v) else .ret bn)(hl:mi is (a8 ix ax) fs2/\∀t,cQ (fs2 t) (a8 ix ax))(nK:∀j∈is,ix[j]?=al bn)(hs:pV X iter:=by intro _;rfl):LF X K fs (.ListComp Å [⟨tg,iter,É,0⟩] sc pos) (.bind wl λl=>lO l f) ax:=We (hd:=λ_=>ax) (fs2:=λ_=>fs2) (fs3:=λ_=>fs2) hc S hi (λcl C s2 H2 fp _=>hg cl C s2 H2 fp) (λcl C s2 H2 fp _=>Ot cl C s2 H2 fp) (λcl C s2 H2 fp _ t _=>he cl C s2 H2 fp t) hf (λ_=>hl.1) nK (.refl _) (λ_ _=>.refl _) (λ_ _=>.refl _) (λ_ _=>.inl rfl) (λ_ t _=>hl.2 t) (λ_ t _=>hl.2 t) hs
def N3{f:PV->W PV}(hf:∀p,f p=.bind (wt p) te):(λl=>cY l f)=λl=>lO l λp=>.bind (wt p) λt=>.bind (.ret true) λk=>if k=true then .bind (te t) λv=>.ret (al v) else .ret bn:=funext λl=>by
 rw[sV];congr 1;funext p;rw[hf];rfl
def Qe{f:PV->W PV}(hc:X.calm=true)(S:ba X.env.scope X.N sc N' ix)(hi:nh X K fs tg iter wl ax)(hg:∀cl C s2 H2 fp,GF (dm X sc N' cl C s2 H2 fp) K (a8 ix ax) tg is wt fs2)(he:∀cl C s2 H2 fp t,EF (dm X sc N' cl C s2 H2 fp) K (fs2 t) Å (te t))(hf:∀p,f p=.bind (wt p) te)(hl:mi is (a8 ix ax) fs2/\∀t,cQ (fs2 t) (a8 ix ax))(nK:∀j∈is,ix[j]?=al bn)(hs:pV X iter:=by intro _;rfl):LF X K fs (.ListComp Å [⟨tg,iter,[],0⟩] sc pos) (.bind wl λl=>cY l f) ax:=by
 rw[N3 hf];exact Wf hc S hi hg (λ_ _ _ _ _ _=>K9) he (λp=>rfl) hl nK hs
def fAs(K:Aa)(fs:aM)(i:Nat)(w:W (O PV))(aE:aM:=fs):TS:=λD σ H=>aH K H σ fs/\w.run λl=>∀a vs H',cf σ fs H H' aE->aH K H' σ aE->H a=bn->H' a=al (.lst vs)->aD K [] H' vs l->D.nx (σ.set i (al (.ref a))) H'
structure AS(X:Cx)(K:Aa)(fs:aM)(st:sK)(i:Nat)(w:W (List PV))(aE:aM:=fs):Prop where p:PS X st (fAs K fs i w aE)
variable{rest:O sK}{T:Type}{out:T->End}{x:Bool}{k:O PV->W T}
def SF.as{st:sK}(h:AS X K fs st i wl ax)(hr:∀l,SF X K x (ax.set i (al (.ol bn l))) rest (k l) out):SF X K x fs (st::rest) (.bind wl k) out:=SF.step h.p λD σ H ⟨sr,q⟩=>⟨sr,wl.mono (λl q1 a ws H1 g1 s1 n e v1=>by
 have no:¬bL σ ax a:=λz=>sr.noOwn n (g1.ev.eE z);have s2:=s1.ou (t:=.ol bn l) ⟨by simp,ws,e,v1⟩ no i;exact⟨_,k l,hr l,s2,(k l).mono (λt q2=>q2.go (bT.ou s1 g1 no n i) sr s2) q1⟩) q⟩
def TH{fs2 fs3:Nat->T2->aM}(hc:X.calm=true)(hN:X.N.Nodup)(tF:X.N[i]?=al y)(qu:X.env.scope.names.lookup y=al .local)(S:ba X.env.scope X.N sc N' ix)(hi:nh X K fs tg iter wl ax)(hg:∀cl C s2 H2 fp i,GF (dm X sc N' cl C s2 H2 fp) K (a8 ix (hd i)) tg is wt (fs2 i))(Ot:∀cl C s2 H2 fp i t,FF (dm X sc N' cl C s2 H2 fp) K (fs2 i t) É (tf t))(he:∀cl C s2 H2 fp i t,i<sizeLine->EF (dm X sc N' cl C s2 H2 fp) K (fs2 i t) Å (te t) (fs3 i t))(hf:∀p,f p=.bind (wt p) λt=>.bind (tf t) λk=>if k=true then .bind (te t) λv=>.ret (al v) else .ret bn)(hl:∀i,mi is (a8 ix (hd i)) (fs2 i))(nK:∀j∈is,ix[j]?=al bn)(h0:uD ax (hd 0))(hx:∀i,i<=sizeLine->uD (hd i) Mq)(hv:∀i,i<sizeLine->Ev (hd i) (hd (i+1)))(Ur:∀i j:Nat,(hd i)[j]?=(hd (i+1))[j]?\/∃i':Nat,ix[i']?=al (al j))(Ql:∀i t,i<sizeLine->cQ (fs2 i t) (a8 ix (hd (i+1))))(WG:∀i t,i<sizeLine->cQ (fs3 i t) (a8 ix (hd (i+1))))(mY:‹pr (.ListComp Å [⟨tg,iter,É,0⟩] sc pos) (al (.Name y px)) jA.line X.env=pure true›)(hs:pV X iter:=by intro _;rfl):AS X K fs (.Assign [.Name y px] (.ListComp Å [⟨tg,iter,É,0⟩] sc pos) jA) i (.bind wl λl=>lO l f) Mq:=
 ⟨PS.imp (JI hc hN tF qu S hi.p (λcl C s2 H2 fp Z s σ H v u Q I r ⟨i,q⟩=>(hg cl C s2 H2 fp i).p Z s σ H v u Q I r q) (λcl C s2 H2 fp Z s σ H Q I ⟨i,t,q⟩=>(Ot cl C s2 H2 fp i t).p Z s σ H Q I q) (λcl C s2 H2 fp Z s σ H Q I ⟨i,t,h,q⟩=>(he cl C s2 H2 fp i t h).p Z s σ H Q I q) mY hs) λD σ H ⟨sr,q⟩=>Qv (K:=K) S h0 hx hv Ur hf hl Ql WG nK σ H _ ⟨sr,q⟩⟩
def QG(hc:X.calm=true)(hN:X.N.Nodup)(tF:X.N[i]?=al y)(hx:X.env.scope.names.lookup y=al .local)(S:ba X.env.scope X.N sc N' ix)(hi:nh X K fs tg iter wl ax)(hg:∀cl C s2 H2 fp,GF (dm X sc N' cl C s2 H2 fp) K (a8 ix ax) tg is wt fs2)(Ot:∀cl C s2 H2 fp t,FF (dm X sc N' cl C s2 H2 fp) K (fs2 t) É (tf t))(he:∀cl C s2 H2 fp t,EF (dm X sc N' cl C s2 H2 fp) K (fs2 t) Å (te t))(hf:∀p,f p=.bind (wt p) λt=>.bind (tf t) λk=>if k=true then .bind (te t) λv=>.ret (al v) else .ret bn)(hl:mi is (a8 ix ax) fs2/\∀t,cQ (fs2 t) (a8 ix ax))(nK:∀j∈is,ix[j]?=al bn)(mY:‹pr (.ListComp Å [⟨tg,iter,É,0⟩] sc pos) (al (.Name y px)) jA.line X.env=pure true›)(hs:pV X iter:=by intro _;rfl):AS X K fs (.Assign [.Name y px] (.ListComp Å [⟨tg,iter,É,0⟩] sc pos) jA) i (.bind wl λl=>lO l f) ax:=
 TH (hd:=λ_=>ax) (fs2:=λ_=>fs2) (fs3:=λ_=>fs2) hc hN tF hx S hi (λcl C s2 H2 fp _=>hg cl C s2 H2 fp) (λcl C s2 H2 fp _=>Ot cl C s2 H2 fp) (λcl C s2 H2 fp _ t _=>he cl C s2 H2 fp t) hf (λ_=>hl.1) nK (.refl _) (λ_ _=>.refl _) (λ_ _=>.refl _) (λ_ _=>.inl rfl) (λ_ t _=>hl.2 t) (λ_ t _=>hl.2 t) mY hs
def SF.PK(hc:X.calm=true)(hN:X.N.Nodup)(tF:X.N[i]?=al y)(hx:X.env.scope.names.lookup y=al .local)(S:ba X.env.scope X.N sc N' ix)(hi:nh X K fs tg iter wl ax)(hg:∀cl C s2 H2 fp,GF (dm X sc N' cl C s2 H2 fp) K (a8 ix ax) tg is wt fs2)(Ot:∀cl C s2 H2 fp t,FF (dm X sc N' cl C s2 H2 fp) K (fs2 t) É (tf t))(he:∀cl C s2 H2 fp t,EF (dm X sc N' cl C s2 H2 fp) K (fs2 t) Å (te t))(hf:∀p,f p=.bind (wt p) λt=>.bind (tf t) λk=>if k=true then .bind (te t) λv=>.ret (al v) else .ret bn)(hl:mi is (a8 ix ax) fs2/\∀t,cQ (fs2 t) (a8 ix ax))(nK:∀j∈is,ix[j]?=al bn)(hr:∀l,SF X K x (ax.set i (al (.ol bn l))) rest (k l) out)(mY:‹pr (.ListComp Å [⟨tg,iter,É,0⟩] sc pos) (al (.Name y px)) jA.line X.env=pure true›)(hs:pV X iter:=by intro _;rfl):SF X K x fs (.Assign [.Name y px] (.ListComp Å [⟨tg,iter,É,0⟩] sc pos) jA::rest) (.bind (.bind wl λl=>lO l f) k) out:=SF.as (QG hc hN tF hx S hi hg Ot he hf hl nK mY hs) hr
end
section
theorem sY:∀{l:aM}{i:Nat} (s:Option SL),l[i]?=al bn->cQ (l.set i s) l
 |[],_,_,h=>by simp at h
 |x::l,0,s,h=>by
  simp at h;subst h;exact .drop (cQ.refl l)
 |x::l,i+1,s,h=>by
  exact .keep (sY s (by simpa using h))
def cQ.trans{a b c:aM}(h1:cQ a b)(h2:cQ b c):cQ a c:=by
 induction h1 generalizing c with
 |nil=>exact h2
 |drop h ih=>cases h2 with|drop h2=>exact .drop (ih h2)|keep h2=>exact .drop (ih h2)
 |keep h ih=>cases h2 with|drop h2=>exact .drop (ih h2)|keep h2=>exact .keep (ih h2)|bump h2 k=>exact .bump (ih h2) k
 |bump h k ih=>cases h2 with|drop h2=>exact .drop (ih h2)|keep h2=>exact .bump (ih h2) k|bump h2 k2=>exact .bump (ih h2) ⟨AE k.1 k2.1,k2.2⟩
def oT{l:aM}{is:O Nat}(hl:l.length=mH.length/\∀(j:Nat) (s:SL),l[j]?=al (al s)->(j∈is/\s.own=false)\/(j∉is/\mH[j]?=al (al s)))(hi:mH[i]?=al bn):(l.set i (al (.val v))).length=mH.length/\∀(j:Nat) (s:SL),(l.set i (al (.val v)))[j]?=al (al s)->(j∈is++[i]/\s.own=false)\/(j∉is++[i]/\mH[j]?=al (al s)):=by
 refine⟨by rw[Cm];exact hl.1,λj s e=>?_⟩;rcases bV e with⟨rfl,rfl⟩|⟨n,e⟩
 .exact .inl ⟨by simp,rfl⟩
 .rcases hl.2 j s e with⟨h1,h2⟩|⟨h1,h2⟩
  .exact .inl ⟨by simp[h1],h2⟩
  .exact .inr ⟨by simp[h1,n],h2⟩
def Qc(mH:aM):mH.length=mH.length/\∀(j:Nat) (s:SL),mH[j]?=al (al s)->(j∈([]:O Nat)/\s.own=false)\/(j∉([]:O Nat)/\mH[j]?=al (al s)):=⟨rfl,λj s e=>.inr ⟨by simp,e⟩⟩
def Sk(hi:mH[i]?=al bn):mi [i] mH (λp=>mH.set i (al (.val p)))/\∀t,cQ (mH.set i (al (.val t))) mH:=⟨λt=>oT (Qc mH) hi,λt=>sY _ hi⟩
def Jk{l:aM}{s:Option SL}(h:l[j]?=al bn)(n:j≠i):(l.set i s)[j]?=al bn:=by rw[aB n];exact h
def N9(hi:mH[i]?=al bn)(hj:mH[j]?=al bn)(n:j≠i):mi [i,j] mH (λt:PV×PV=>(mH.set i (al (.val t.1))).set j (al (.val t.2)))/\∀t:PV×PV,cQ ((mH.set i (al (.val t.1))).set j (al (.val t.2))) mH:=
 ⟨λt=>oT (oT (Qc mH) hi) hj,λt=>(sY _ (Jk hj n)).trans (sY _ hi)⟩
end
section
variable{rest:O sK}{T:Type}{out:T->End}{x:Bool}
def cX(sr:aH K H σ fs)(hs:fs[i]?=al (al (.ol q0 l))):∃a ws,σ[i]?=al (al (.ref a))/\H a=al (.lst ws)/\aD K [] H ws l:=by
 obtain⟨u,e1,r⟩:=sr.at' i _ hs;rcases r with⟨v,e,_⟩|⟨a,e,z,ws,q1,q2⟩
 .cases e
 .subst e;exact⟨a,ws,e1,q1,q2⟩
def jb{uI:O V}{l':O PV}(sr:aH K H σ fs)(hs:fs[i]?=al (al (.ol q0 l)))(e1:σ[i]?=al (al (.ref a)))(sx:jM a H H')(h':H' a=al (.lst uI))(r:aD K [] H uI l'):aH K H' σ (fs.set i (al (.ol q0 l')))/\bT σ fs H σ (fs.set i (al (.ol q0 l'))) H':=
 jU sr hs rfl (by simp) e1 sx λtk=>⟨(sr.ownAt hs rfl e1).1,uI,h',aD.tk tk r⟩
def um(l:O PV)(v:PV):W (O PV):=.d9 (l.length<sizeLine) (.ret (l++[v]))
theorem SF.append(i:Nat){k:O PV->W T}(hs:fs[i]?=al (al (.ol q0 l)))(hK:X.K=K)(hN:X.N[i]?=al y)(hv:qF X.env.scope y)(he:EF X K fs e we ax)(hr:∀l',SF X K x (ax.set i (al (.ol q0 l'))) rest (k l') out)(hd: ~~~(dn y))(cS: ~~~(qI y))(cD:‹sB (.Name y p) "append" X.env (pc (.Name y p) X.env)=pc (.Name y p) X.env›)(o7:‹UH X bD [e]›)(dP:‹Pc Á bD›)(ly:‹dX X e []›)(fg:‹fD X bD []›)(mY:‹pr (.Call (.Attribute (.Name y p) "append" Á) [e] [] bD) bn pos.line X.env=pure false›):SF X K x fs (.Expr (.Call (.Attribute (.Name y p) "append" Á) [e] [] bD) pos::rest) (.bind we λv=>.bind (um l v) k) out:=
 SF.step (gR (oA K hK B6 EO EN oK (cy hN hv hd cS) (ah he.p aA ly) cD o7 dP ly fg) mY) λD σ H ⟨sr,q⟩=>by
  obtain⟨a,ws,e1,h1,r1⟩:=cX sr hs;refine⟨_,e1,.inl ⟨rfl,_,cL.of h1⟩,sr,we.mono (λv q1 u H1 g1 s1 v1=>?_) q⟩;obtain⟨a',uI,t6,fP,wX⟩:=cX s1 (g1.ev.same hs (by simp));rw[e1]at t6;cases t6;refine⟨a,uI,u,rfl,rfl,fP,by rw[wX.length];exact q1.1,λH2 sx h2=>?_⟩;obtain⟨s2,g2⟩:=jb s1 (g1.ev.same hs (by simp)) e1 sx h2 (wX.append (.one v1));exact⟨_,k _,hr _,s2,(k _).mono (λt q2=>q2.go (g1.f.trans g2) sr s2) q1.2⟩
def Lb(l m:O PV):W (O PV):=.d9 (l.length+m.length<=sizeLine) (.ret (l++m))
theorem SF.extend(i:Nat){k:O PV->W T}(hs:fs[i]?=al (al (.ol q0 l)))(hK:X.K=K)(hN:X.N[i]?=al y)(hv:qF X.env.scope y)(he:QF X K fs e wl ax)(hr:∀l',SF X K x (ax.set i (al (.ol q0 l'))) rest (k l') out)(hd: ~~~(dn y))(cS: ~~~(qI y))(cD:‹sB (.Name y p) "extend" X.env (pc (.Name y p) X.env)=pc (.Name y p) X.env›)(o7:‹UH X bD [e]›)(dP:‹Pc Á bD›)(ly:‹dX X e []›)(fg:‹fD X bD []›)(mY:‹pr (.Call (.Attribute (.Name y p) "extend" Á) [e] [] bD) bn pos.line X.env=pure false›):SF X K x fs (.Expr (.Call (.Attribute (.Name y p) "extend" Á) [e] [] bD) pos::rest) (.bind wl λm=>.bind (Lb l m) k) out:=
 SF.step (gR (oA K hK B6 PySem.F.slot_list_extend PySem.F.type_list_extend (N2 K hK) (cy hN hv hd cS) (ah he.p aA ly) cD o7 dP ly fg) mY) λD σ H ⟨sr,q⟩=>by
  obtain⟨a,ws,e1,h1,r1⟩:=cX sr hs;refine⟨_,e1,.inl ⟨rfl,_,cL.of h1⟩,sr,wl.mono (λm q1 u H1 g1 s1 v1=>?_) q⟩;obtain⟨a',uI,t6,fP,wX⟩:=cX s1 (g1.ev.same hs (by simp));rw[e1]at t6;cases t6;obtain⟨b,zs,rfl,hb,rb⟩:=v1.sq s1;refine⟨a,b,uI,zs,rfl,rfl,fP,hb,by rw[wX.length,rb.length];exact q1.1,λH2 sx h2=>?_⟩;obtain⟨s2,g2⟩:=jb s1 (g1.ev.same hs (by simp)) e1 sx h2 (wX.append rb);exact⟨_,k _,hr _,s2,(k _).mono (λt q2=>q2.go (g1.f.trans g2) sr s2) q1.2⟩
def sG(l:O PV):W (O PV×PV):=match l.getLast? with
 |some v=>.ret (l.dropLast,v)
 |none=>.fail
def Jg{l:O PV}(h:l.getLast?=al v):l=l.dropLast++[v]:=by
 rw[List.getLast?_eq_some_iff]at h;obtain⟨ys,rfl⟩:=h;simp
theorem aD.snoc:∀{ws:O V}{l:O PV}{v:PV},aD K [] H ws (l++[v])->∃T7 u,ws=T7++[u]/\aD K [] H T7 l/\VR K [] H u v
 |_,[],_,.cons r .nil=>⟨[],_,rfl,.nil,r⟩
 |_,x::l,v,.cons r t=>by
  obtain⟨T7,u,rfl,h1,h2⟩:=aD.snoc t;exact⟨_::T7,u,rfl,.cons r h1,h2⟩
def SF.sH(i j:Nat){k:O PV×PV->W T}(hs:fs[i]?=al (al (.ol q0 l)))(Mp:j≠i)(hK:X.K=K)(hN:X.N[i]?=al y)(hv:qF X.env.scope y)(hNd:X.N.Nodup)(hj:X.N[j]?=al z)(hx:Loc X.env.scope z)(hr:∀t:O PV×PV,SF X K x ((fs.set i (al (.ol q0 t.1))).set j (al (.val t.2))) rest (k t) out)(hd: ~~~(dn y))(cS: ~~~(qI y))(cD:‹sB (.Name y p) "pop" X.env (pc (.Name y p) X.env)=pc (.Name y p) X.env›)(dP:‹Pc Á bD›)(mY:‹pr (.Call (.Attribute (.Name y p) "pop" Á) [] [] bD) (al (.Name z p')) pos.line X.env=pure false›)(hf:Md X z:=by first | exact .inl rfl | exact .inr rfl | assumption):SF X K x fs (.Assign [.Name z p'] (.Call (.Attribute (.Name y p) "pop" Á) [] [] bD) pos::rest) (.bind (sG l) k) out:=
 SF.step (cV hNd hj hx (Nz K hK B6 PySem.F.slot_list_pop PySem.F.type_list_pop N1 (cy hN hv hd cS) cD dP) mY hf) λD σ H ⟨sr,q⟩=>by
  obtain⟨a,ws,e1,h1,r1⟩:=cX sr hs;have q:(sG l).run λt=>(k t).run λt=>bq K x σ fs H D (out t):=q;unfold sG at q;cases hl:l.getLast? with
  |none=>rw[hl]at q;exact q.elim
  |some v=>
   rw[hl]at q;have el:=Jg hl;rw[el]at r1;obtain⟨T7,u,rfl,r0,ru⟩:=aD.snoc r1;refine⟨_,e1,.inl ⟨rfl,_,cL.of h1⟩,a,T7,u,rfl,rfl,h1,λH2 sx h2=>?_⟩;obtain⟨s2,g2⟩:=jb sr hs e1 sx h2 r0;have ru2:VR K [] H2 u v:=g2.vr sr ru;have s3:=s2.fB ru2 j;exact⟨_,k _,hr (l.dropLast,v),s3,(k _).mono (λt q2=>q2.go (g2.trans (bT.fB s2 _ _ j)) sr s3) q⟩
def uZ(l:O PV)(i v:PV):W (O PV):=match i with
 |.int k=>match vH l.length k with
  |some j=>.ret (l.set j v)
  |none=>.fail
 |_=>.fail
def SF.Rg(i:Nat){ei:o0}{k:O PV->W T}(hs:fs[i]?=al (al (.ol q0 l)))(hN:X.N[i]?=al y)(hv:qF X.env.scope y)(he:EF X K fs e we ax)(hi:EF X K ax ei wi fs2)(hr:∀l',SF X K x (fs2.set i (al (.ol q0 l'))) rest (k l') out)(ha:∀v,Pv (.Subscript (.Name y p) ei jz) X.env v=(do
   let ov <- u8 [v] (pc (.Name y p) X.env)
   let iv <- u8 [v,ov] (pc ei X.env)
   KF jz
   u8 [v,ov,iv] (SB ov iv v)
   release [v,ov,iv] []):=by intro _;rfl)(hd: ~~~(dn y))(cS: ~~~(qI y))(ì:‹Da [.Subscript (.Name y p) ei jz] e pos.line X.env=pure false›)(hw:‹Db [.Subscript (.Name y p) ei jz] e X.env=pure bn›)(h1:‹(KB [.Subscript (.Name y p) ei jz] X.env).map (·.2)=[Pv (.Subscript (.Name y p) ei jz) X.env]›):SF X K x fs (.Assign [.Subscript (.Name y p) ei jz] e pos::rest) (.bind we λv=>.bind wi λn=>.bind (uZ l n v) k) out:=
 SF.step (JL he.p (RE (cy hN hv hd cS) hi.p GV ha) ì hw h1) λD σ H ⟨sr,q⟩=>by
  refine⟨sr,we.mono (λv q1 u H1 g1 s1 v1=>?_) q⟩;obtain⟨a,ws,e1,h1,r1⟩:=cX s1 (g1.ev.same hs (by simp));refine⟨_,e1,s1,wi.mono (λn q2 u2 H2 g2 s2 v2=>?_) q1⟩;obtain⟨a',uI,t6,fP,wX⟩:=cX s2 ((g1.trans g2).ev.same hs (by simp));rw[e1]at t6;cases t6;cases v2 with
  |int kk=>
   have q2:(match vH l.length kk with|some j=>ap (l.set j v)|none=>W.fail).run _:=q2;cases hj:vH l.length kk with
   |none=>rw[hj]at q2;exact q2.elim
   |some j=>
    rw[hj]at q2;refine⟨a,uI,kk,j,rfl,rfl,fP,by rw[wX.length];exact hj,λH3 sx h3=>?_⟩;obtain⟨s3,g3⟩:=jb s2 ((g1.trans g2).ev.same hs (by simp)) e1 sx h3 (wX.set (g2.vr s1 v1) j);exact⟨_,k _,hr _,s3,(k _).mono (λt q3=>q3.go ((g1.trans g2).f.trans g3) sr s3) q2⟩
  |_=>exact q2.elim
end
end
end FL
variable{f fa:AW}{qs:O PL.PV}
namespace FL
section
variable[bj]
variable{K:Aa}
def fC(n:Nat):O AK->O PV->aM
 |[],_=>[]
 |.v::ks,x::l=>al (.val x)::fC n ks l
 |.v::_,[]=>[]
 |.p ψ d::ks,l=>al (.cR ψ n (n+d))::fC n ks l
 |.f a us ps fz::ks,l=>al (.adr a us ps fz)::fC n ks l
def m8(n:Nat)(ks:O AK)(l:O PV)(N:Nat):aM:=fC n ks l++Ar (N-ks.length) bn
def pT(ks:O AK):Prop:=∀i j:Nat,(∃ψ d,ks[i]?=al (.p ψ d))->(∃ψ d,ks[j]?=al (.p ψ d))->i=j
theorem fF:∀{n:Nat}{m:rP R n}{l:O PV}{Q:R->Prop},(gN n m l).run Q->l.length=n
 |0,_,[],_,_=>rfl
 |0,_,_::_,_,h=>h.elim
 |n+1,_,[],_,h=>h.elim
 |n+1,m,x::l,Q,h=>by rw[Ap,fF (n:=n) h]
section
theorem gr.len(h:gr K H n vs ks l):vs.length=ks.length:=by induction h<;>simp_all
def gr.slot(h:gr K H n vs ks l):(fC n ks l).length=vs.length/\∀(i:Nat) (s:SL),(fC n ks l)[i]?=al (al s)->∃u,vs[i]?=al u/\mM K H u s/\(s.own=true->∃ψ d,s=.cR ψ n (n+d)/\ks[i]?=al (.p ψ d)):=by
 induction h with
 |nil=>exact⟨rfl,λi s e=>by simp[fC]at e⟩
 | @v u x vs ks l r t ih=>
  refine⟨by simp[fC,ih.1],λi s e=>?_⟩;cases i with
  |zero=>simp[fC]at e;subst e;exact⟨u,rfl,.inl ⟨x,rfl,r⟩,λz=>by cases z⟩
  |succ i=>simp[fC]at e;obtain⟨w,h1,h2,h3⟩:=ih.2 i s e;exact⟨w,by simpa using h1,h2,by simpa using h3⟩
 | @p a ψ d vs ks l e0 r t ih=>
  refine⟨by simp[fC,ih.1],λi s e=>?_⟩;cases i with
  |zero=>simp[fC]at e;subst e;exact⟨_,rfl,.inr ⟨a,rfl,e0,Br _ _,r⟩,λ_=>⟨ψ,d,rfl,rfl⟩⟩
  |succ i=>simp[fC]at e;obtain⟨w,h1,h2,h3⟩:=ih.2 i s e;exact⟨w,by simpa using h1,h2,by simpa using h3⟩
 | @f a us vs ps fz ks l r z t ih=>
  refine⟨by simp[fC,ih.1],λi s e=>?_⟩;cases i with
  |zero=>simp[fC]at e;subst e;exact⟨_,rfl,.inr ⟨a,rfl,rfl,r,z⟩,λz=>by cases z⟩
  |succ i=>simp[fC]at e;obtain⟨w,h1,h2,h3⟩:=ih.2 i s e;exact⟨w,by simpa using h1,h2,by simpa using h3⟩
def gr.RA(h:gr K H n vs ks l)(e:ks[i]?=al (.p ψ d)):(fC n ks l)[i]?=al (al (.cR ψ n (n+d))):=by
 induction h generalizing i with
 |nil=>simp at e
 |v r t ih=>cases i with|zero=>simp at e|succ i=>simp[fC];exact ih (by simpa using e)
 |p e0 r t ih=>cases i with|zero=>simp at e;obtain⟨rfl,rfl⟩:=e;rfl|succ i=>simp[fC];exact ih (by simpa using e)
 |f r z t ih=>cases i with|zero=>simp at e|succ i=>simp[fC];exact ih (by simpa using e)
theorem lg{N:Nat}{s:SL}(h:(m8 n ks l N)[i]?=al (al s)):(fC n ks l)[i]?=al (al s):=by
 unfold m8 at h;by_cases c:i<(fC n ks l).length
 .rw[AU c]at h;exact h
 .rw[A1 ∅,Bu]at h
  split at h<;>cases h
def i8{N:O Str}(h:vs[i]?=al u):(L2.start N vs)[i]?=al (al u):=by
 unfold L2.start;rw[AU (by rw[Am];exact(Ak.mp h).1),An,h];rfl
def qP{N:O Str}(h:(L2.start N vs)[i]?=al (al u)):vs[i]?=al u:=by
 unfold L2.start at h;by_cases c:i<vs.length
 .rw[AU (by simpa using c),An]at h;cases z:vs[i]? with
  |none=>rw[z]at h;cases h
  |some q=>rw[z]at h;cases h;rfl
 .rw[A1 (by simpa using c),Bu]at h
  split at h<;>cases h
def gr.beg(h:gr K H n vs ks l)(tb:TB H)(one:pT ks)(N:O Str):aH K H (L2.start N vs) (m8 n ks l N.length):=by
 obtain⟨hl,hs⟩:=h.slot;refine⟨?_,λi s e=>?_,λi j s t x y a e1 e2 o1 o2 q1 q2 z1 z2=>?_,tb⟩
 .unfold L2.start m8;rw[Ah,Ah,Am,hl,BQ,BQ,h.len]
 .obtain⟨u,h1,h2,_⟩:=hs i s (lg e);exact⟨u,i8 h1,h2⟩
 .obtain⟨_,_,_,h3⟩:=hs i s (lg e1);obtain⟨_,_,_,h4⟩:=hs j t (lg e2);obtain⟨φ,d,_,k1⟩:=h3 o1;obtain⟨ψ,d',_,k2⟩:=h4 o2;exact one i j ⟨φ,d,k1⟩ ⟨ψ,d',k2⟩
def gr.go(h:gr K H n vs ks l){N:O Str}(g:bT (L2.start N vs) (m8 n ks l N.length) H σ' aE H')(s':aH K H' σ' aE):Mv n vs ks H H':=by
 obtain⟨hl,hs⟩:=h.slot;refine⟨λa o e q=>(g.keep a o e λz=>?_).1,s'.tb,g.there,λa ψ d p=>?_,g.x⟩
 .obtain⟨i,s,x,e1,e2,e3,e4⟩:=z;obtain⟨u,h1,h2,h3⟩:=hs i s (lg e1);obtain⟨ψ,d,rfl,k⟩:=h3 e2;rcases e4 with rfl|e4
  .exact q ψ d ⟨i,k,qP e3⟩
  .cases e4
 .obtain⟨i,e1,e2⟩:=p;have e3:=h.RA e1;have e4:(m8 n ks l N.length)[i]?=al (al (.cR ψ n (n+d))):=by unfold m8;rw[AU ((Ak.mp e3).1)];exact e3
  rcases g.pk a ψ (n+d) ⟨i,n,e4,i8 e2⟩ with p|⟨_,k⟩
  .exact s'.free p
  .exact k
end
section
variable{x:Str}{st:sK}{N:O Str}
def fnV{m:rP PV n}(Fn:kb K x qual st f fd)(S:bu N ps (ai st))(HD:ks.length=ps.length)(one:pT ks)(Æ:∀(j:Nat) (l:O PV),l.length=n->∀(bE:ce) (A:wP) (outer:O Env) (s:gl) (H:Hp) (E:XK),bf k (A.deeper (xL qual (ai st) s.heap.objs.size f bE))->SF (jB ip P w K mg base N qual (ai st) f bE A outer s H E).Hd K false (m8 j ks l N.length) (aN st) (gN n m l) .rt):aY P w K mg base ip (k+1) f fd ps (mn K ks (gN n m)):=by
 refine Fn.ok S (λvs H Q E h=>?_) (λbE A outer s H vs Q E hr h=>?_)
 .obtain⟨_,_,l,h,_⟩:=h;rw[h.len];exact HD
 obtain⟨tb,j,l,h,q⟩:=h;refine⟨_,(Æ j l (fF q) bE A outer s H E hr).p,h.beg tb one N,(gN n m l).mono (λv q1 u σ' aE H' g s' r=>q1 u H' (h.go g s') r) q⟩
def fnL{m:rP (O PV) n}(Fn:kb K x qual st f fd)(S:bu N ps (ai st))(HD:ks.length=ps.length)(one:pT ks)(Æ:∀(j:Nat) (l:O PV),l.length=n->∀(bE:ce) (A:wP) (outer:O Env) (s:gl) (H:Hp) (E:XK),bf k (A.deeper (xL qual (ai st) s.heap.objs.size f bE))->SF (jB ip P w K mg base N qual (ai st) f bE A outer s H E).Hd K false (m8 j ks l N.length) (aN st) (gN n m l) .rl):aY P w K mg base ip (k+1) f fd ps (mQ K ks (gN n m)):=by
 refine Fn.ok S (λvs H Q E h=>?_) (λbE A outer s H vs Q E hr h=>?_)
 .obtain⟨_,_,l,h,_⟩:=h;rw[h.len];exact HD
 obtain⟨tb,j,l,h,q⟩:=h;refine⟨_,(Æ j l (fF q) bE A outer s H E hr).p,(h.beg tb one N),(gN n m l).mono (λz q1 a ws σ' aE H' g s' fr e r=>q1 a ws H' (h.go g s') ?_ e r) q⟩;rcases fr with fr|⟨i,t,x,e1,e2,np,e3,e4⟩
 .exact fr
 .obtain⟨_,_,_,h3⟩:=h.slot.2 i t (lg e1);obtain⟨ψ,d,e,_⟩:=h3 e2;exact absurd e (np _ _ _)
end
def nA:pT []:=λi j ⟨_,_,h⟩=>by simp at h
def P4{k:AK}(h:pT ks)(hk:∀ψ d,k≠.p ψ d):pT (k::ks):=λi j ⟨φ,d,a⟩ ⟨ψ,d',b⟩=>by
 cases i with
 |zero=>simp at a;exact absurd a (hk _ _)
 |succ i=>
  cases j with
  |zero=>simp at b;exact absurd b (hk _ _)
  |succ j=>rw[h i j ⟨φ,d,by simpa using a⟩ ⟨ψ,d',by simpa using b⟩]
def vg(h:pT ks):pT (.v::ks):=P4 h (by simp)
def V1{us:O V}(h:pT ks):pT (.f fa us qs fz::ks):=P4 h (by simp)
end
end FL
namespace L2
def VD(K:Aa):R2:=λx y H Q=>∃a b xs zs,x=.ref a/\y=.ref b/\cL K H a xs/\cL K H b zs/\xs.length+zs.length<=sizeLine/\jV H (.lst (xs++zs)) Q
theorem NI(K:Aa)(hK:X.K=K):fy X (ww .Add) (VD K):=by
 subst hK;intro Z s σ H x y v u Q I rx ry h;obtain⟨l,b,xs,zs,rfl,rfl,hH,hB,hz,q⟩:=h;cases rx;cases ry;obtain⟨ao,r,⟨⟨cls,dd,data,sl⟩,n,ho,hc,hd,SS⟩,_⟩:=I.list hH;obtain⟨bX,r2,⟨⟨Xy,Xu,data2,Ua⟩,n2,Mn,Us,ß,WR⟩,_⟩:=I.list hB;subst hc hd SS Us ß WR;have e:ao.toArray++bX.toArray=(ao++bX).toArray:=by simp
 have hl:=r.length;have Oq:=r2.length;refine concat_meets ⟨_,ho,rfl⟩ ⟨_,Mn,rfl⟩ noFill_list_add seq_list_add PySem.F.slot_list_add PySem.F.entry_list_add (PySem.F.args_list_add_2 _ _) (list_addW l b ao.toArray bX.toArray n n2 bn bn sl Ua (by simp;lia)) ⟨ho,Mn,?_⟩;rw[e];exact⟨.ref _,_,I.Sf (r.append r2) (by rw[Ah];lia),rfl,q.at _ I.fresh⟩
end L2
variable{o:BL}{neg:Bool}
namespace FL
section
variable[bj]
variable{K:Aa}
section
variable{a c:o0}{w:W PV}
def LQ(l m:O PV):W (O PV):=.d9 (l.length+m.length<=sizeLine) (.ret (l++m))
def fQL(K:Aa)(fs:aM)(w:W (O PV))(aE:aM:=fs):TE:=λσ H Q=>aH K H σ fs/\w.run λl=>∀u H',cf σ fs H H' aE->aH K H' σ aE->O5 K σ aE H' u l->(∀f2 Y6,cf σ aE H' Y6 f2->aH K Y6 σ f2->∃a vs,u=.ref a/\cL K Y6 a vs/\aD K [] Y6 vs l)->Q u H'
structure Im(X:Cx)(K:Aa)(fs:aM)(e:o0)(w:W (List PV))(aE:aM:=fs):Prop where p:PE X e (fQL K fs w aE)
def f7(h:LF X K fs e wl ax):Im X K fs e wl ax:=⟨PE.imp h.p λσ H Q ⟨sr,q⟩=>⟨sr,wl.mono (λl q1 a vs H1 g1 s1 n e v=>q1 _ H1 g1 s1 (.inr ⟨a,rfl,.inl ⟨λz=>sr.noOwn n (g1.ev.eE z),vs,e,v⟩⟩) λ_ H2 g2 s2=>⟨a,vs,rfl,cL.of (g2.kK e λz=>sr.noOwn n (g1.ev.eE z)),g2.za s1 v⟩) q⟩⟩
def JA(i:Nat){x:Str}(hs:‹fs[i]?=al (al (.ol q0 l))›)(hN:‹X.N[i]?=al x›)(hv:qF X.env.scope x:=by first|exact Bs rfl|exact Bw (Bs rfl)|exact Bw (Bw rfl))(hd: ~~~(dn x))(cS: ~~~(qI x)):Im X K fs (.Name x pos) (.ret l):=
 ⟨PE.imp (cy hN hv hd cS) λσ H Q ⟨sr,q⟩=>by
  obtain⟨a,ws,e1,h1,r1⟩:=cX sr hs;refine⟨_,e1,q _ H .refl sr (.inr ⟨a,rfl,.inr ⟨i,q0,hs,e1⟩⟩) λ_ H2 g2 s2=>?_⟩;obtain⟨a',uI,t6,fP,wX⟩:=cX s2 (g2.ev.same hs (by simp));rw[e1]at t6;cases t6;exact⟨a,uI,rfl,cL.of fP,wX⟩⟩
def vt:PV->W (O PV)
 |.cl l=>.ret l
 |_=>.fail
def lE(h:EF X K fs e w ax):Im X K fs e (.bind w vt) ax:=⟨PE.imp h.p λσ H Q ⟨sr,q⟩=>⟨sr,w.mono (λx q1 u1 H1 g1 s1 v1=>by
 cases v1 with
 |cl e r=>exact q1 _ H1 g1 s1 (.inl ⟨_,_,rfl,.inl e,r⟩) λ_ H2 g2 s2=>⟨_,_,rfl,((g2.bN s1).f _ _ e).sq,g2.za s1 r⟩
 |_=>exact q1.elim) q⟩⟩
def Kt(hK:X.K=K)(ha:Im X K fs a wl ax)(hb:Im X K ax b wm fs2):LF X K fs (.BinOp a .Add b pos) (.bind wl λl=>.bind wm λm=>LQ l m) fs2:=⟨PE.imp (oz (NI K hK) ha.p hb.p) λσ H Q ⟨sr,q⟩=>⟨sr,wl.mono (λl q1 u1 H1 g1 s1 _ v1=>⟨s1,wm.mono (λm q2 u2 H2 g2 s2 _ v2=>by
 obtain⟨a,vs,rfl,h1,r1⟩:=v1 _ H2 g2 s2;obtain⟨b,ws,rfl,h2,r2⟩:=v2 _ H2 .refl s2;refine⟨a,b,vs,ws,rfl,rfl,h1,h2,by rw[r1.length,r2.length];exact q2.1,λp H3 s3 h3 n3=>?_⟩;have gg:=g1.trans g2;exact q2.2 p _ H3 (gg.trans (cf.same s3)) (s2.same s3) (gg.there p n3) h3 (aD.tk s3.dM (r1.append r2))) q1⟩) q⟩⟩
def Ke{Q:VK}(g1:cf σ fs H H1 ax)(s1:aH K H1 σ ax)(r:aD K [] H1 vs l)(q:∀a vs H',cf σ fs H H' ax->aH K H' σ ax->H a=bn->H' a=al (.lst vs)->aD K [] H' vs l->Q (.ref a) H'):jV H1 (.lst vs) Q:=λp H2 s2 h2 n2=>q p vs H2 (g1.trans (cf.same s2)) (s1.same s2) (g1.there p n2) h2 (aD.tk s2.dM r)
def Ko(K:Aa):CL K (Jw K) .ret:=λ{fs σ H Q u l} s v q=>by
 obtain⟨a,vs,rfl,h,rs⟩:=v.sq s;exact⟨a,vs,rfl,h,Ke .refl s rs q⟩
def Sm(hK:X.K=K)(hg:Gl X "list")(hm:X.mg "list"=bn)(ha:QF X K fs e wl ax)(he:‹dX X e []›)(bH:‹fD X pos []›):LF X K fs (.Call (.Name "list" p) [e] [] pos) wl ax:=Ku (yO K hK) (Ko K) hg hm boot_list ha ⋯ ⋯ he bH
def Gp(hK:X.K=K)(hg:Gl X "tuple")(hm:X.mg "tuple"=bn)(ha:QF X K fs e wl ax)(he:‹dX X e []›)(bH:‹fD X pos []›):EF X K fs (.Call (.Name "tuple" p) [e] [] pos) (.bind wl IZ) ax:=HV (H9 K hK) (MN K) hg hm Ix ha ⋯ ⋯ he bH
def yE(hK:X.K=K)(hg:Gl X "len")(hm:X.mg "len"=bn)(ha:QF X K fs e wl ax)(he:‹dX X e []›)(bH:‹fD X pos []›):EF X K fs (.Call (.Name "len" p) [e] [] pos) (.bind wl Ho) ax:=LG (eN K hK) (N7 K) hg hm boot_len ha ⋯ ⋯ he bH
def Mb(ha:EF X K fs e w ax)(he:lf [e] X.env=(false,pc e X.env)::lf [] X.env):AF X K fs [e] (Ar 1 .v) (R:=R) (λk=>.bind w λx=>k [x]) ax:=ak ha az he
def dS(hK:X.K=K)(hg:Gl X "len")(hm:X.mg "len"=bn)(ha:EF X K fs e w ax)(he:‹dX X e []›)(bH:‹fD X pos []›):EF X K fs (.Call (.Name "len" p) [e] [] pos) (.bind w λx=>uJ fu [x]) ax:=tW (eN K hK) (OY K) hg hm boot_len (Mb ha he) ⋯ ⋯ he bH
def Qy(hg:Gl X "abs")(hm:X.mg "abs"=bn)(ha:EF X K fs e w ax)(he:‹dX X e []›)(bH:‹fD X pos []›):EF X K fs (.Call (.Name "abs" p) [e] [] pos) (.bind w λx=>uJ wJ [x]) ax:=tW LU O0 hg hm boot_abs (Mb ha he) ⋯ ⋯ he bH
def Gq(hg:Gl X "int")(hm:X.mg "int"=bn)(ha:EF X K fs e w ax)(he:‹dX X e []›)(bH:‹fD X pos []›):EF X K fs (.Call (.Name "int" p) [e] [] pos) (.bind w λx=>uJ wI [x]) ax:=LD Ii OZ hg hm boot_int (Mb ha he) ⋯ ⋯ he bH
def Xn(hc:X.calm=true)(hg:Gl X "max")(hm:X.mg "max"=bn)(ha:EF X K fs a wa ax)(hb:EF X K ax b wb fs2)(he:‹lf [a,b] X.env=(false,pc a X.env)::lf [b] X.env›)(Ou:‹dX X b []›)(bH:‹(IR pos (lf [b] X.env)).any (·.1)=false›):EF X K fs (.Call (.Name "max" p) [a,b] [] pos) (.bind wa λx=>.bind wb λy=>uJ L1 [x,y]) fs2:=tW (n:=2) (Ib hc) OX hg hm boot_max (ak ha (ak hb az Ou) he) ⋯ ⋯ he bH
def Wb(hK:X.K=K)(hc:X.calm=true)(SQ:Gl X "list")(SM:X.mg "list"=bn)(SO:Gl X "reversed")(SK:X.mg "reversed"=bn)(he:Im X K fs e wl ax)(nJ:‹lf [.Call (.Name "reversed" p3) [e] [] p4] X.env=(false,pc (.Call (.Name "reversed" p3) [e] [] p4) X.env)::lf [] X.env›)(uM:‹dX X e []›):LF X K fs (.Call (.Name "list" p1) [.Call (.Name "reversed" p3) [e] [] p4] [] p2) (.bind wl λl=>.ret l.reverse) ax:=⟨PE.imp (xC K hK hc SQ SM SO SK he.p nJ uM) λσ H Q ⟨sr,q⟩=>⟨sr,wl.mono (λl q1 u1 H1 g1 s1 _ v1=>by
 obtain⟨a,vs,rfl,h1,r1⟩:=v1 _ H1 .refl s1;exact⟨a,vs,rfl,h1,Ke g1 s1 r1.reverse q1⟩) q⟩⟩
def XG:O PV->W (O Bool)
 |[]=>.ret []
 |.bl b::r=>.bind (XG r) λl=>.ret (b::l)
 |_=>.fail
theorem GA:∀{l:O PV}{Q:O Bool->Prop},(XG l).run Q->∃bs:O Bool,l=bs.map PV.bl/\Q bs
 |[],Q,h=>⟨[],rfl,h⟩
 |.bl b::r,Q,h=>by
  obtain⟨bs,e,q⟩:=GA (l:=r) h;exact⟨b::bs,by rw[e];rfl,q⟩
 |.br::r,Q,h=>h.elim
 |.int _::r,Q,h=>h.elim
 |.str _::r,Q,h=>h.elim
 |.tup _::r,Q,h=>h.elim
 |.ref _::r,Q,h=>h.elim
 |.ty _::r,Q,h=>h.elim
 |.cl _::r,Q,h=>h.elim
@[simp] theorem GB:∀bs:O Bool,XG (bs.map PV.bl)=.ret bs
 |[]=>rfl
 |b::bs=>by
  show am (XG (bs.map PV.bl)) _=_;rw[GB bs];rfl
def pP(l:O PV):W PV:=.bind (XG l) λbs=>.ret (.bl (bs.all id))
def wg(hK:X.K=K)(hc:X.calm=true)(hg:Gl X "all")(hm:X.mg "all"=bn)(ha:Im X K fs e wl ax)(he:‹dX X e []›)(bH:‹fD X pos []›):EF X K fs (.Call (.Name "all" p) [e] [] pos) (.bind wl pP) ax:=⟨PE.imp (bo (Ij K hK hc) hg hm boot_all (ah ha.p aA he) ⋯ ⋯ he bH) λσ H Q ⟨sr,q⟩=>⟨sr,wl.mono (λl q1 u1 H1 g1 s1 _ v1=>by
 obtain⟨bs,e,q2⟩:=GA q1;obtain⟨a,vs,rfl,h1,r1⟩:=v1 _ H1 .refl s1;rw[e]at r1;have:=rG r1;subst this;exact⟨a,bs,rfl,h1,q2 _ H1 g1 s1 (.bl _)⟩) q⟩⟩
def da(k:Kd)(x:PV):W PV:=match x with
 |.ref _=>.fail
 |.ty _=>.fail
 |.ob _ _=>.fail
 |.hand=>.fail
 |x=>.ret (.bl (k.is x))
def zA(K:Aa):O V->Hp->VK->Prop:=λxs H Q=>∃x c t b,xs=[x,.ty c]/\(i6 K H x t\/(t=.type "tuple"/\∃a vs,x=.ref a/\dh K H a vs)\/(t=.type "list"/\∃a vs,x=.ref a/\cL K H a vs)\/(t=.type "dict"/\∃a,x=.ref a/\IsD H a))/\AG K t (.type c)=al b/\Q (.bl b) H
def rF(hK:X.K=K):bz X (.builtin "isinstance") (zA K):=by
 subst hK;intro Z s σ H xs us Q I r h;obtain⟨x,c,t,b,rfl,ty|ty|⟨rfl,a,vs,rfl,hL⟩|⟨rfl,a,rfl,hD⟩,e,q⟩:=h
 .exact fY Z s σ H _ us Q I r ⟨x,c,t,b,rfl,ty,e,q⟩
 .exact Ie X.K rfl Z s σ H _ us Q I r ⟨x,c,t,b,rfl,.inr ty,e,q⟩
 .obtain⟨u,w,rfl,r1,r2⟩:=vals2 r;cases r1;cases r2;obtain⟨ao,_,⟨o,n,h1,h2,_⟩,_⟩:=I.list hL;exact A5 EA I.ek ⟨o,h1,h2⟩ e (λz=>nomatch z) λtk=>⟨.bl b,H,I.tok _,rfl,q⟩
 .obtain⟨u,w,rfl,r1,r2⟩:=vals2 r;cases r1;cases r2;have:∃o,s.heap.get? a=al o/\o.cls=.type "dict":=by
   rcases hD with⟨ay,e⟩|⟨ay,e⟩
   .obtain⟨_,_,vs,_,o,_,_,h1,h2,_⟩:=wz I.aK e;exact⟨o,h1,h2.1⟩
   .obtain⟨_,_,xs,_,o,_,_,h1,h2,_⟩:=wy I.aK e;exact⟨o,h1,h2.1⟩
  obtain⟨o,h1,h2⟩:=this;exact A5 EB I.ek ⟨o,h1,h2⟩ e (λz=>nomatch z) λtk=>⟨.bl b,H,I.tok _,rfl,q⟩
def cF(hK:X.K=K)(k:Kd){x:Str}(hg:Gl X "isinstance")(hm:X.mg "isinstance"=bn)(ha:EF X K fs a wa ax)(hgx:Gl X x)(hmx:X.mg x=bn)(hv:tz x=al (.type k.name))(hn: ~~~(x≠"__name__"))(hd: ~~~(dn x))(he:‹lf [a,.Name x p2] X.env=(false,pc a X.env)::lf [.Name x p2] X.env›)(Ou:‹lf [Expr.Name x p2] X.env=(false,pc (.Name x p2) X.env)::lf [] X.env›)(bH:‹(IR pos (lf [Expr.Name x p2] X.env)).any (·.1)=false›):EF X K fs (.Call (.Name "isinstance" p) [a,.Name x p2] [] pos) (.bind wa (da k)) ax:=
 ⟨PE.imp (bo (rF hK) hg hm Ch (ah ha.p (ah (kB (v:=.ty k.name) hgx hmx hv rfl hn hd) aA Ou) he) ⋯ ⋯ he bH) λσ H Q ⟨sr,q⟩=>⟨sr,wa.mono (λx q1 u1 H1 g1 s1 v1=>by
  have fin:∀{t:ce}{y:PV},i6 K H1 u1 t->AG K t (.type k.name)=al (k.is y)->Q (.bl (k.is y)) H1->zA K [u1,.ty k.name] H1 Q:=λty e q=>⟨_,_,_,_,rfl,.inl ty,e,q⟩;cases v1 with
  |br=>exact fin .br (by rw[(fM K).1 k];cases k<;>rfl) (q1 _ H1 g1 s1 (.bl _))
  |bl b=>exact fin (.bl b) (Kv K b k) (q1 _ H1 g1 s1 (.bl _))
  |int b=>exact fin (.int b) (nF K b k) (q1 _ H1 g1 s1 (.bl _))
  |str b=>exact fin (.str b) (zR K b k) (q1 _ H1 g1 s1 (.bl _))
  |ty n=>exact q1.elim
  |ref n=>exact q1.elim
  |ob _ _ _ _ _=>exact q1.elim
  |hand _=>exact q1.elim
  | @dk a o ay ks l e k1 r=>exact⟨_,_,_,_,rfl,.inr (.inr (.inr ⟨rfl,_,rfl,.inl ⟨_,.inr ⟨_,e⟩⟩⟩)),(show _=al (k.is (.dv ks l)) by rw[(fM K).2.2 k];cases k<;>rfl),q1 _ H1 g1 s1 (.bl _)⟩
  | @dt a o ay ks l e k1 r=>exact⟨_,_,_,_,rfl,.inr (.inr (.inr ⟨rfl,_,rfl,.inr ⟨_,.inr ⟨_,e⟩⟩⟩)),(show _=al (k.is (.dv ks l)) by rw[(fM K).2.2 k];cases k<;>rfl),q1 _ H1 g1 s1 (.bl _)⟩
  | @cl p vs l e r=>exact⟨_,_,_,_,rfl,.inr (.inr (.inl ⟨rfl,_,_,rfl,e.sq⟩)),(show _=al (k.is (.cl l)) by rw[(fM K).2.1 k];cases k<;>rfl),q1 _ H1 g1 s1 (.bl _)⟩
  | @tup p vs l e r=>exact⟨_,_,_,_,rfl,.inr (.inl ⟨rfl,_,_,rfl,dh.of e⟩),zQ K _ k,q1 _ H1 g1 s1 (.bl _)⟩) q⟩⟩
def Nh(l:O PV):PV->W (O PV)
 |.int k=>.d9 (-(2 ^ 63)<=k/\k<2 ^ 63/\l.length*k.toNat<=sizeLine) (.ret (Ar k.toNat l).flatten)
 |_=>.fail
def Wc(ha:LF X K fs a wl ax)(hb:EF X K ax b wb fs2):LF X K fs (.BinOp a .Mult b pos) (.bind wl λl=>.bind wb λy=>Nh l y) fs2:=⟨PE.imp (oz RH ha.p hb.p) λσ H Q ⟨sr,q⟩=>⟨sr,wl.mono (λl q1 a vs H1 g1 s1 n e v=>⟨s1,wb.mono (λy q2 u2 H2 g2 s2 v2=>by
 cases v2 with
 |int k=>
  have r2:=g2.za s1 v;refine⟨a,k,vs,rfl,rfl,((g2.kK e (λz=>sr.noOwn n (g1.ev.eE z)))),q2.1.1,q2.1.2.1,by rw[r2.length];exact q2.1.2.2,λp hp=>?_⟩;have sm:=gw hp (.lst (Ar k.toNat vs).flatten);have gg:=g1.trans g2;exact q2.2 p _ _ (gg.trans (cf.same sm)) (s2.same sm) (gg.there p hp) aw (aD.tk sm.dM (r2.rep k.toNat))
 |_=>exact q2.elim) q1⟩) q⟩⟩
def part:PV->W (Option Int)
 |.int i=>.ret (al i)
 |_=>.fail
def RX:OF X K fs bn (.ret bn):=⟨PO.imp Nr λσ H Q ⟨sr,q⟩=>q H .refl sr⟩
def RV(h:EF X K fs e w ax):OF X K fs (al e) (.bind w part) ax:=⟨PO.imp (Nq h.p) λσ H Q ⟨sr,q⟩=>⟨sr,w.mono (λx q1 u1 H1 g1 s1 v1=>by
 cases v1 with
 |int i=>exact⟨_,rfl,q1 H1 g1 s1⟩
 |_=>exact q1.elim) q⟩⟩
variable{el eh:Option o0}{lo hi:W (Option Int)}
def Z8(hK:X.K=K)(he:Im X K fs e wl ax)(hl:OF X K ax el lo fs2)(hh:OF X K fs2 eh hi fs3):LF X K fs (.Subscript e (.Slice el eh bn p2) pos) (.bind wl λl=>.bind lo λi=>.bind hi λj=>.ret (yK l i j)) fs3:=⟨PE.imp (JS (Jh K hK) he.p hl.p hh.p) λσ H Q ⟨sr,q⟩=>⟨sr,wl.mono (λl q1 u1 H1 g1 s1 _ v1=>⟨s1,lo.mono (λi q2 H2 g2 s2=>⟨s2,hi.mono (λj q3 H3 g3 s3=>by
 obtain⟨a,vs,rfl,h1,r1⟩:=v1 _ H3 (g2.trans g3) s3;exact⟨a,vs,rfl,h1,Ke ((g1.trans g2).trans g3) s3 (r1.cut i j) q3⟩) q2⟩) q1⟩) q⟩⟩
def mI(h:Im X K fs e wl ax):∀σ H Q,fE K fs (.bind wl λl=>.ret (.bl (if neg then !l.isEmpty else l.isEmpty))) ax σ H Q->Q1 (λx y H Q=>∃p q xs,x=.ref p/\y=.ref q/\cL K H p xs/\cL K H q []/\Q (.bl (if neg then !xs.isEmpty else xs.isEmpty)) H) (fQL K fs wl ax) (fL K ax (.ret [])) σ H Q:=λσ H Q ⟨sr,q⟩=>
 ⟨sr,wl.mono (λl q1 u1 H1 g1 s1 _ v1=>⟨s1,λa2 vs2 H2 g2 s2 n2 e2 r2=>by
  cases r2;obtain⟨a,vs,rfl,h1,r1⟩:=v1 _ H2 g2 s2;refine⟨a,a2,vs,rfl,rfl,h1,cL.of e2,?_⟩;rw[Lu r1];exact q1 _ H2 (g1.trans g2) s2 (.bl _)⟩) q⟩
def Qd:LF X K fs (.List [] pos) (.ret []):=Qg (n:=0) az
theorem acS(hK:X.K=K)(hu:X.A.units+200<FM)(h:Im X K fs e wl ax)(hk:‹wf .Eq (.List [] p2)=false›):EF X K fs (.Compare e [.Eq] [.List [] p2] pos) (.bind wl λl=>.ret (.bl l.isEmpty)) ax:=⟨PE.imp (ny (xE K hK ∅) h.p Qd.p hk) (mI (neg:=false) h)⟩
theorem Pq(hK:X.K=K)(hu:X.A.units+200<FM)(h:Im X K fs e wl ax)(hk:‹wf .NotEq (.List [] p2)=false›):TF X K fs (.Compare e [.NotEq] [.List [] p2] pos) (.bind wl λl=>.ret (!l.isEmpty)) ax:=⟨PT.imp (ja (xD K hK ∅) h.p Qd.p hk) λσ H Q q=>mI (neg:=true) h σ H _ (S7 σ H Q q)⟩
def mF:O PV->W (O Int)
 |[]=>.ret []
 |.int i::r=>.bind (mF r) λl=>.ret (i::l)
 |_=>.fail
theorem jh:∀{l:O PV}{Q:O Int->Prop},(mF l).run Q->∃ns:O Int,l=ns.map PV.int/\Q ns
 |[],Q,h=>⟨[],rfl,h⟩
 |.int b::r,Q,h=>by
  obtain⟨bs,e,q⟩:=jh (l:=r) h;exact⟨b::bs,by rw[e];rfl,q⟩
 |.br::r,Q,h=>h.elim
 |.bl _::r,Q,h=>h.elim
 |.str _::r,Q,h=>h.elim
 |.tup _::r,Q,h=>h.elim
 |.ref _::r,Q,h=>h.elim
 |.ty _::r,Q,h=>h.elim
 |.cl _::r,Q,h=>h.elim
@[simp] theorem gF:∀bs:O Int,mF (bs.map PV.int)=.ret bs
 |[]=>rfl
 |b::bs=>by
  show am (mF (bs.map PV.int)) _=_;rw[gF bs];rfl
end
end
end FL
variable{f1 f2:FL.aM}{u9:Cc}{kt k2:Nat}
namespace FL
section
variable[bj]
variable{K:Aa}
abbrev b2(m:M2)(wa wb:W PV):W PV:=.bind wa λx=>.bind wb λy=>of2 m x y
abbrev t2(m:M2)(wa wb:W PV):W Bool:=.bind wa λx=>.bind wb λy=>.bind (of2 m x y) UD
abbrev c1(m:uR)(w:W PV):W PV:=.bind w λx=>uJ m [x]
abbrev iy(wl:W (O PV))(wb:W PV):W PV:=.bind wl λl=>.bind wb λy=>Yp l y
abbrev MP(a b:W Bool):W Bool:=.bind a λk=>if k=true then b else .ret false
abbrev QU(a b:W Bool):W Bool:=.bind a λk=>if k=true then .ret true else b
abbrev jQ(a:W Bool):W Bool:=.bind a λk=>.ret (!k)
abbrev c9{α:Type}(t:W Bool)(a b:W α):W α:=.bind t λk=>if k=true then a else b
section
variable{a c:o0}{rest:O sK}{S T T2:Type}{hd:S->aM}{s0:S}{w:W PV}{wt:PV->W T2}{is:O Nat}{fs2:S->T2->aM}{k:S->W T}{out:T->End}{x:Bool}
def SF.S2{f:PV->S->W S}(hp:wT (ii X.prog X.w) X.A X.env X.xe)(hc:X.calm=true)(hi:nh X K fs tg iter wl f1)(hl:cQ f1 (hd s0))(hg:PG X tg (gG i))(hb:∀s p,SF X K false ((hd s).set i (al (.val p))) body (f p s) λs'=>.nc (hd s'))(hr:∀s,SF X K x (hd s) rest (k s) out)(hs:pV X iter:=by intro _;rfl):SF X K x fs (.For tg iter body [] pos::rest) (.bind wl λl=>.bind (iW l s0 f) k) out:=SF.for hp hc hi hl (λs=>W2 hg) (λ_ _=>rfl) hb hr hs
def SF.Qs{inj:R->T}{f:PV->S->W (Lp S R)}(hp:wT (ii X.prog X.w) X.A X.env X.xe)(hc:X.calm=true)(hi:nh X K fs tg iter wl f1)(hl:cQ f1 (hd s0))(hg:PG X tg (gG i))(ho:∀t,(out (inj t)).oX)(hb:∀s p,SF X K false ((hd s).set i (al (.val p))) body (f p s) (Qa hd λr=>out (inj r)))(hr:∀s,SF X K x (hd s) rest (k s) out)(hs:pV X iter:=by intro _;rfl):SF X K x fs (.For tg iter body [] pos::rest) (.bind wl λl=>.bind (FL.ir l s0 f) (tI k inj)) out:=SF.ir hp hc hi hl (λs=>W2 hg) (λ_ _=>rfl) ho hb hr hs
def SF.W9{inj:R->T}{wb:T2->S->W (Lp S R)}(hp:wT (ii X.prog X.w) X.A X.env X.xe)(hc:X.calm=true)(hi:nh X K fs tg iter wl f1)(hl:cQ f1 (hd s0))(hg:∀s,GF X K (hd s) tg is wt (fs2 s))(ho:∀t,(out (inj t)).oX)(hb:∀s t,SF X K false (fs2 s t) body (wb t s) (Qa hd λr=>out (inj r)))(hr:∀s,SF X K x (hd s) rest (k s) out)(hs:pV X iter:=by intro _;rfl):SF X K x fs (.For tg iter body [] pos::rest) (.bind wl λl=>.bind (FL.ir l s0 λp s=>.bind (wt p) λt=>wb t s) (tI k inj)) out:=SF.ir hp hc hi hl hg (λ_ _=>rfl) ho hb hr hs
def SF.par{k:PV->PV->W T}(hc:X.calm=true)(hN:X.N.Nodup)(hi:X.N[i]?=al y)(hj:X.N[j]?=al z)(Mp:i≠j)(hx:X.env.scope.names.lookup y=al .local)(hy:X.env.scope.names.lookup z=al .local)(ha:EF X K fs a wa f1)(hb:EF X K f1 b wb f2)(hr:∀u v,SF X K x ((f2.set i (al (.val u))).set j (al (.val v))) rest (k u v) out)(hw:‹Db [.Tuple [.Name y px,.Name z py] kt pt] (.Tuple [a,b] k2 u9) X.env=pure (al [y,z])›)(hs:‹Da [.Tuple [.Name y px,.Name z py] kt pt] (.Tuple [a,b] k2 u9) pos.line X.env=pure false›)(he:‹lf [a,b] X.env=(false,pc a X.env)::lf [b] X.env›)(Ou:‹dX X b []›):SF X K x fs (.Assign [.Tuple [.Name y px,.Name z py] kt pt] (.Tuple [a,b] k2 u9) pos::rest) (.bind wa λu=>.bind wb λv=>k u v) out:=
 SF.step (JJ hc hN hi hj Mp hx hy (ah ha.p (ah hb.p aA Ou) he) hw hs) λD σ H ⟨sr,q⟩=>⟨sr,wa.mono (λu q1 u1 H1 g1 s1 v1=>⟨s1,wb.mono (λv q2 u2 H2 g2 s2 v2=>by
  have s3:=s2.fB (g2.vr s1 v1) i;have s4:=s3.fB v2 j;exact⟨_,_,rfl,_,k u v,hr u v,s4,(k u v).mono (λt q3=>q3.go (((g1.trans g2).f.trans (bT.fB s2 _ _ i)).trans (bT.fB s3 _ _ j)) sr s4) q2⟩) q1⟩) q⟩
def Ja(l:O PV):W (O PV):=.d9 (qD l=true) (.ret l)
mutual
theorem VR.kZ{ι:O db}{H H':Hp}(t:∀p vs,H p=al (.tup vs)->H' p=al (.tup vs)):∀{v:V}{q:PV},VR K ι H v q->q.dat=true->VR K [] H' v q
 |_,_,.br,_=>.br
 |_,_,.bl b,_=>.bl b
 |_,_,.int i,_=>.int i
 |_,_,.str x,_=>.str x
 |_,_,.ty n,h=>by rw[PV.dat]at h;cases h
 |_,_,.tup e r,h=>.tup (t _ _ e) (aD.kZ t r (by rw[PV.dat]at h;exact h))
 |_,_,.cl e r,h=>by rw[PV.dat]at h;cases h
 |_,_,.dk _ _ _,h=>by rw[PV.dat]at h;cases h
 |_,_,.dt _ _ _,h=>by rw[PV.dat]at h;cases h
 |_,_,.ob _ _ _ _ _,h=>by rw[PV.dat]at h;cases h
 |_,_,.hand _,h=>by rw[PV.dat]at h;cases h
 |_,_,.ref e,h=>by rw[PV.dat]at h;cases h
theorem aD.kZ{ι:O db}{H H':Hp}(t:∀p vs,H p=al (.tup vs)->H' p=al (.tup vs)):∀{v:O V}{q:O PV},aD K ι H v q->qD q=true->aD K [] H' v q
 |_,_,.nil,_=>.nil
 |_,_,.cons r s,h=>by
  rw[qD,AA]at h;exact .cons (VR.kZ t r h.1) (aD.kZ t s h.2)
end
def bor(I:Inv X Z σ H s)(sr:aH K H σ fs)(hs:fs[i]?=al (al t))(hb:t.bw=true):∃a o ob,Inv X Z σ (upd H a (.cE ob o)) s/\aH K (upd H a (.cE ob o)) σ (fs.set i (al (.val t.bv)))/\ ∀σ' s' H1 f1,Inv X Z σ' H1 s'->cf σ (fs.set i (al (.val t.bv))) (upd H a (.cE ob o)) H1 f1->aH K H1 σ f1->Inv X Z σ' (upd H1 a o) s'/\cf σ fs H (upd H1 a o) (f1.set i (al t))/\aH K (upd H1 a o) σ (f1.set i (al t))/\(∀p vs,H1 p=al (.tup vs)->upd H1 a o p=al (.tup vs))/\∀p vs,p≠a->H1 p=al (.lst vs)->upd H1 a o p=al (.lst vs):=by
 have ho:=SL.LV hb;obtain⟨u,e1,⟨v,e,_⟩|⟨a,e,oa⟩⟩:=sr.at' i _ hs
 .subst e;cases hb
 subst e;obtain⟨ob,o,h1,n1,n2,I2,vr⟩:=W6 I oa hb;have h0:∀o u,X.H₀ a≠al (.cE o u):=λo u z=>by
  have:=I.base.kS a o u z;rw[h1]at this;exact n2 _ _ (Option.some.inj this)
 refine⟨a,o,ob,I2,sr.W5 hs ho e1 h1 n1 n2 vr,λσ' s' H1 f1 J g s1=>?_⟩;have pf:∀ψ m b,fv σ (fs.set i (al (.val t.bv))) ψ m b->fv σ fs ψ m b:=λψ m b ⟨j,k,z1,z3⟩=>by
  rcases bV z1 with⟨_,z⟩|⟨n,z1⟩
  .cases z
  .exact⟨j,k,z1,z3⟩
 have npa:∀ψ m,¬fv σ fs ψ m a:=λψ m ⟨j,k,z1,z3⟩=>by
  have:=sr.nd j i _ _ a a a z1 hs rfl ho z3 e1 (.inl rfl) (.inl rfl);subst this;rw[hs]at z1;cases z1;cases hb
 have e2:=g.keep a _ aw λψ m p=>npa ψ m (pf ψ m a p);have hk:=KQ J.aK e2;have ow:o.ow=true:=by
  obtain⟨o',z1,_,_,z2⟩:=oa.ex ho (.inl rfl);rw[h1]at z1;cases z1;exact z2
 have hi:i<fs.length:=(Ak.mp hs).1;have HF:i<f1.length:=by rw[<- g.ev.len,Cm];exact hi
 have ev:Ev fs (f1.set i (al t)):=⟨by rw[Cm,<- g.ev.len,Cm],λj=>by
  by_cases c:j=i
  .subst c;exact .inl (by rw[hs,a9 HF])
  .have:=g.ev.at' j;rw[aB c]at this;rw[aB c];exact this⟩
 have xx:∀b,fw H1 b->fw (upd H1 a o) b:=λb z=>by
  have z':H1 b=_:=z;show upd H1 a o b=_;rw[af (λy=>by subst y;rw[e2]at z';cases z')];exact z'
 have ge:cf σ fs H (upd H1 a o) (f1.set i (al t)):=by
  refine⟨λb o z n nt=>?_,λb z=>?_,ev,λb z=>xx b (g.x b ?_)⟩
  .by_cases c:b=a
   .subst c;rw[h1]at z;cases z;exact aw
   .rw[af c];exact g.keep b o (by rw[af c];exact z) (λψ m p=>n ψ m (pf ψ m b p)) nt
  .by_cases c:b=a
   .subst c;rw[aw]at z;cases z
   .rw[af c]at z;have:=g.there b z;rw[af c]at this;exact this
  .have z':H b=_:=z;show upd H a _ b=_;rw[af (λy=>by subst y;rw[h1]at z';cases z';cases ow)];exact z'
 refine⟨J.QW e2 h0 (hk a _ aw) hk,ge,⟨sr.len.trans ev.len,λj t' z=>?_,ev.nd sr,s1.tb.QW J.aK e2 ow⟩,λp vs z=>?_,λp vs n z=>by rw[af n];exact z⟩
 .by_cases c:∃ψ k m,t'=.cR ψ k m
  .obtain⟨ψ,k,m,rfl⟩:=c;have ji:j≠i:=λy=>by subst y;rw[a9 HF]at z;cases z;cases hb
   rw[aB ji]at z;obtain⟨u,k1,⟨v,y,_⟩|⟨b,y,⟨j',vs,y1,y2,y3,y4⟩,y5⟩⟩:=s1.at' j _ z
   .cases y
   .exact⟨u,k1,.inr ⟨b,y,⟨j',vs,y1,by rw[af (λw=>by subst w;rw[e2]at y2;cases y2)];exact y2,y3,λb hb=>xx b (y4 b hb)⟩,y5⟩⟩
  .have z0:=ev.symm.same z λψ k m y=>c ⟨ψ,k,m,y⟩;obtain⟨u,k1,k2⟩:=sr.at' j t' z0;refine⟨u,k1,k2.mono (ge.bN sr) (λx b o eb ow hb zz nt=>ge.keep b o zz (λψ m ⟨j',k,p1,p3⟩=>?_) nt)⟩;subst eb;have:=sr.nd j j' t' _ x b b z0 p1 ow rfl k1 p3 hb (.inl rfl);subst this;rw[z0]at p1;cases p1;exact c ⟨ψ,k,m,rfl⟩
 .rw[af (λy=>by subst y;rw[e2]at z;cases z)];exact z
end
end
end FL
variable{G:Nat->O Int->Prop}
namespace FL
section
variable[bj]
variable{K:Aa}
def Vl(K:Aa)(m:O PV->O PV->W (PV×O PV)):Sp:=λvs H Q _=>TB H/\∃a GL ws lo l,vs=.ref a::GL/\H a=al (.lst ws)/\aD K [] H ws lo/\aD K [] H GL l/\(m lo l).run λt=>∀u uI H',(∀c o,c≠a->H c=al o->o.nt=true->H' c=al o)->TB H'->(∀b,H' b=bn->H b=bn)->H' a=al (.lst uI)->aD K [] H' uI t.2->VR K [] H' u t.1->Q u H'
section
variable{x:Str}{st:sK}{N:O Str}
def LZ(a:db)(lo l:O PV)(n:Nat):aM:=al (.ol (al a) lo)::(l.map λv=>al (SL.val v))++Ar (n-1-l.length) bn
def aD.slot(r:aD K [] H vs l){s:SL}(h:(l.map λv=>al (SL.val v))[i]?=al (al s)):∃u v,vs[i]?=al u/\s=.val v/\VR K [] H u v:=by
 rw[An]at h;cases e:l[i]? with
 |none=>rw[e]at h;cases h
 |some v=>
  rw[e]at h;obtain⟨u,h1,h2⟩:=r.get e;cases h;exact⟨u,v,h1,rfl,h2⟩
theorem fnO{m:O PV->rP (PV×O PV) n}(Fn:kb K x qual st f fd)(S:bu N ps (ai st))(hn:n+1=ps.length)(Æ:∀(a:db) (lo l:O PV),l.length=n->∀(bE:ce) (A:wP) (outer:O Env) (s:gl) (H:Hp) (E:XK),bf k (A.deeper (xL qual (ai st) s.heap.objs.size f bE))->SF (jB ip P w K mg base N qual (ai st) f bE A outer s H E).Hd K false (LZ a lo l N.length) (aN st) (gN n (m lo) l) λt=>.ro t.1 a t.2):aY P w K mg base ip (k+1) f fd ps (Vl K λlo l=>gN n (m lo) l):=by
 refine Fn.ok S (λvs H Q E h=>?_) (λbE A outer s H vs Q E hr h=>?_)
 .obtain⟨_,a,GL,ws,lo,l,rfl,_,_,r,q⟩:=h;rw[Ap,r.length,fF q];exact hn
 obtain⟨tb,a,GL,ws,lo,l,rfl,ha,G0,r,q⟩:=h;have Ql:=r.length;have Oy:∀{i:Nat}{s:SL},(LZ a lo l N.length)[i]?=al (al s)->(i=0/\s=.ol (al a) lo)\/∃j u v,i=j+1/\GL[j]?=al u/\s=.val v/\VR K [] H u v:=λ{i s} e=>by
  unfold LZ at e;cases i with
  |zero=>simp at e;exact .inl ⟨rfl,e.symm⟩
  |succ j=>
   by_cases c:j<l.length
   .rw[AU (by simpa using c)]at e;obtain⟨u,v,h1,h2,h3⟩:=aD.slot r e;exact .inr ⟨j,u,v,rfl,h1,h2,h3⟩
   .rw[A1 (by simpa using c),Bu]at e
    split at e<;>cases e
 have sr:aH K H (L2.start N (.ref a::GL)) (LZ a lo l N.length):=by
  refine⟨?_,λi s e=>?_,λi j s t x y b e1 e2 o1 o2 q1 q2 _ _=>?_,tb⟩
  .unfold L2.start LZ;rw[Ah,Am,BQ,Ah,Ap,Ap,Am,BQ];lia
  .rcases Oy e with⟨rfl,rfl⟩|⟨j,u,v,rfl,h1,rfl,h3⟩
   .exact⟨.ref a,i8 rfl,.inr ⟨a,rfl,λb z=>Option.some.inj z,ws,ha,G0⟩⟩
   .exact⟨u,i8 (by simpa using h1),.inl ⟨v,rfl,h3⟩⟩
  .rcases Oy e1 with⟨rfl,rfl⟩|⟨j1,u,v,rfl,h1,rfl,h3⟩
   .rcases Oy e2 with⟨rfl,rfl⟩|⟨j1,u,v,rfl,h1,rfl,h3⟩
    .rfl
    .cases o2
   .cases o1
 refine⟨_,(Æ a lo l (fF q) bE A outer s H E hr).p,sr,(gN n (m lo) l).mono (λt q1 u σ' aE H' g s' ho rv=>?_) q⟩;obtain⟨i,e⟩:=ho;obtain⟨u',e',r'⟩:=s'.at' i _ e;rcases r' with⟨v,z,_⟩|⟨b,rfl,hb,uI,h1,h2⟩
 .cases z
 have hba:=hb a rfl;subst hba;refine q1 u uI H' (λc o nc e=>(g.keep c o e λz=>?_).1) s'.tb g.there h1 h2 rv;obtain⟨j,t',x,z1,z2,z3,z4⟩:=z;rcases Oy z1 with⟨rfl,rfl⟩|⟨j1,u,v,rfl,_,rfl,_⟩
 .have:=qP z3;simp at this;rcases z4 with rfl|z4
  .exact nc this.symm
  .cases z4
 .cases z2
def m9(G:Nat->O Int->Prop):Nat->O V->Prop:=λn ws=>∃ns:O Int,ws=ns.map V.int/\G n ns
def qV{b:db}:V.ref b∉ns.map V.int:=λh=>by obtain⟨_,_,e⟩:=AR.mp h;cases e
theorem RB{m:O PV->O PV->W (PV×O PV)}{mp:O PV->W PV}(F:aY P w K mg base ip k f fd ps (Vl K m))(hm:∀j ns l Q,G j ns->j+d<=sF->(mp l).run Q->(m (ns.map PV.int) l).run λt=>Q t.1/\∃RY:O Int,t.2=RY.map PV.int/\G (j+d) RY):aY P w K mg base ip k f fd ps (mn K (.p (m9 G) d::Ar n .v) mp):=F.imp λvs H Q E h=>by
 obtain⟨tb,jj,l,ha,q⟩:=h;cases ha with
 | @p a _ _ vs ks l e r t=>
  obtain⟨j,_,hj,e,⟨ns,rfl,hG⟩,_⟩:=e;have tv:∀{n:Nat}{vs:O V}{l:O PV},gr K H jj vs (Ar n .v) l->aD K [] H vs l:=by
   intro n
   induction n with
   |zero=>intro vs l h;cases h;exact .nil
   |succ n ih=>intro vs l h;cases h with|v r t=>exact .cons r (ih t)
  refine⟨tb,a,vs,ns.map V.int,ns.map PV.int,l,rfl,e,nH _ _ ns,tv t,(m _ _).mono (λt q1 u uI H' sx tb' hth e' r' rv=>?_) (hm j ns l _ hG ∅ q)⟩;obtain⟨q1,RY,et,hG'⟩:=q1;rw[et]at r';have:=jg r';subst this;refine q1 u H' ⟨λb o eb nb nt=>sx b o (λz=>?_) eb nt,tb',hth,λb ψ d' p=>?_,λb z=>sx b _ (λy=>by subst y;rw[show H b=_ from z]at e;cases e) z rfl⟩ rv
  .subst z;exact nb _ _ ⟨0,rfl,rfl⟩
  .obtain⟨i,e1,e2⟩:=p;cases i with
   |zero=>simp at e1 e2;obtain⟨rfl,rfl⟩:=e1;subst e2;exact⟨j+d,_,by lia,e',⟨RY,rfl,hG'⟩,λb hb=>(qV hb).elim⟩
   |succ i=>
    simp at e1;rw[Bu]at e1
    split at e1<;>simp at e1
end
section
variable{Q7:O sK}{T:Type}{w:W T}{out:T->End}{x:Bool}
def VG(G:O Int->Prop)(l:O PV)(w:W T):W T:=.d9 (∃ns:O Int,l=ns.map PV.int/\G ns) w
def SF.cR(i m:Nat)(hs:fs[i]?=al (al (.ol bn l)))(hr:SF X K x (fs.set i (al (.cR (m9 G) 0 m))) Q7 w out)(hm: ~~~(m<=sF)):SF X K x fs Q7 (VG (G 0) l w) out:=⟨λZ s σ H D I ⟨sr,q⟩=>by
 obtain⟨⟨ns,el,hG⟩,q⟩:=q;obtain⟨a,ws,e1,h1,r1⟩:=cX sr hs;subst el;have:=jg r1;subst this;obtain⟨s2,g2⟩:=jU (t':=.cR (m9 G) 0 m) sr hs rfl (by simp) e1 (λ_ _ _ z=>z:jM a H H) λtk=>⟨⟨0,_,Aj 0,h1,⟨ns,rfl,hG⟩,λb hb=>(qV hb).elim⟩,Bn m,hm⟩;exact hr.p Z s σ H D I ⟨s2,w.mono (λt q2=>q2.go g2 sr s2) q⟩⟩
end
end
end FL
variable{W':FL.W PL.PV}
namespace FL
section
variable[bj]
variable{K:Aa}
abbrev XA(m m':M2)(wa wb wc:W PV):W PV:=.bind wa λx=>.bind wb λy=>.bind (of2 m x y) λz=>i5 z (.bind wc λw=>of2 m' y w)
abbrev chT(m m':M2)(wa wb wc:W PV):W Bool:=.bind wa λx=>.bind wb λy=>.bind (of2 m x y) λz=>.bind (i5 z (.bind wc λw=>of2 m' y w)) UD
abbrev Ma(wa wb:W PV):W PV:=.bind wa λx=>L9 x wb
abbrev HK(wl:W (O PV)):W PV:=.bind wl λl=>.ret (.cl l)
abbrev Sj(t:W Bool)(w:W PV):W (Option PV):=.bind t λk=>if k=true then .bind w λv=>.ret (al v) else .ret bn
section
variable{c:o0}{x:Str}{WL:W (O PV)}
def OP{m:O PV->W PV}(G:Iu X.prog X.w X.K X.mg X.base x k ps (mn K ks m))(hr:bf k' X.A)(hk:k<=k')(hg:Gl X x)(ha:AF X K fs (e::es) ks B f1)(hW:W'=B m)(dQ: ~~~(dn x))(he:‹dX X e es›)(bH:‹fD X pos es›):EF X K fs (.Call (.Name x p) (e::es) [] pos) W' f1:=hW▸Tj G hr hk hg ha dQ he bH
def Ob{m:O PV->W (O PV)}{B:(O PV->W (O PV))->W (O PV)}(G:Iu X.prog X.w X.K X.mg X.base x k ps (mQ K ks m))(hr:bf k' X.A)(hk:k<=k')(hg:Gl X x)(ha:AF X K fs (e::es) ks B f1)(hW:WL=B m)(dQ: ~~~(dn x))(he:‹dX X e es›)(bH:‹fD X pos es›):LF X K fs (.Call (.Name x p) (e::es) [] pos) WL f1:=hW▸Sn G hr hk hg ha dQ he bH
def j6{x1}(h:AF X K fs es (Ar n .v) B f1)(hW:W'=B λl=>.ret (.tup l))(hn: ~~~(n<=1000)):EF X K fs (.Tuple es x1 pos) W' f1:=hW▸Xl h hn
def cj{B:(O PV->W (O PV))->W (O PV)}(h:AF X K fs es (Ar n .v) B f1)(hW:WL=B λl=>.ret l)(hn: ~~~(n<=1000)):LF X K fs (.List es pos) WL f1:=hW▸Qg h hn
variable{T2:Type}{wt:PV->W T2}{is:O Nat}{fs2:T2->aM}{tf:T2->W Bool}{te:T2->W PV}
def j5{f:PV->W PV}(hc:X.calm=true)(S:ba X.env.scope X.N sc N' ix)(hi:nh X K fs tg iter wl f1)(hg:∀cl C s2 H2 fp,PG (dm X sc N' cl C s2 H2 fp) tg (gG i))(he:∀cl C s2 H2 fp t,EF (dm X sc N' cl C s2 H2 fp) K ((a8 ix f1).set i (al (.val t))) Å (f t))(h0:ix[i]?=al bn)(hs:pV X iter:=by intro _;rfl):LF X K fs (.ListComp Å [⟨tg,iter,[],0⟩] sc pos) (.bind wl λl=>cY l f) f1:=
 have h1:(a8 ix f1)[i]?=al bn:=by unfold a8;rw[An,h0];rfl
 Qe hc S hi (λcl C s2 H2 fp=>W2 (hg cl C s2 H2 fp)) he (λ_=>rfl) (Sk h1) (λj hj=>by rw[Ci]at hj;subst hj;exact h0) hs
def Sl(hc:X.calm=true)(S:ba X.env.scope X.N sc N' ix)(hi:nh X K fs tg iter wl f1)(hg:∀cl C s2 H2 fp,GF (dm X sc N' cl C s2 H2 fp) K (a8 ix f1) tg is wt fs2)(he:∀cl C s2 H2 fp t,EF (dm X sc N' cl C s2 H2 fp) K (fs2 t) Å (te t))(hl:mi is (a8 ix f1) fs2/\∀t,cQ (fs2 t) (a8 ix f1))(nK:∀j∈is,ix[j]?=al bn)(hs:pV X iter:=by intro _;rfl):LF X K fs (.ListComp Å [⟨tg,iter,[],0⟩] sc pos) (.bind wl λl=>cY l λp=>.bind (wt p) te) f1:=Qe hc S hi hg he (λ_=>rfl) hl nK hs
def Qh(hc:X.calm=true)(S:ba X.env.scope X.N sc N' ix)(hi:nh X K fs tg iter wl f1)(hg:∀cl C s2 H2 fp,GF (dm X sc N' cl C s2 H2 fp) K (a8 ix f1) tg is wt fs2)(hf:∀cl C s2 H2 fp t,TF (dm X sc N' cl C s2 H2 fp) K (fs2 t) c (tf t))(he:∀cl C s2 H2 fp t,EF (dm X sc N' cl C s2 H2 fp) K (fs2 t) Å (te t))(hl:mi is (a8 ix f1) fs2/\∀t,cQ (fs2 t) (a8 ix f1))(nK:∀j∈is,ix[j]?=al bn)(hs:pV X iter:=by intro _;rfl):LF X K fs (.ListComp Å [⟨tg,iter,[c],0⟩] sc pos) (.bind wl λl=>lO l λp=>.bind (wt p) λt=>Sj (tf t) (te t)) f1:=Wf hc S hi hg (λcl C s2 H2 fp t=>yy (hf cl C s2 H2 fp t)) he (λ_=>rfl) hl nK hs
variable{rest:O sK}{T:Type}{out:T->End}{x0:Bool}{kk:O PV->W T}
def N4{wt:PV->W T2}{te:T2->W PV}:(λl=>cY l λp=>.bind (wt p) te)=λl=>lO l λp=>.bind (wt p) λt=>.bind (.ret true) λk=>if k=true then .bind (te t) λv=>.ret (al v) else .ret bn:=funext λl=>by
 rw[sV];rfl
def SF.M7(hc:X.calm=true)(hN:X.N.Nodup)(tF:X.N[i]?=al y)(hx:X.env.scope.names.lookup y=al .local)(S:ba X.env.scope X.N sc N' ix)(hi:nh X K fs tg iter wl f1)(hg:∀cl C s2 H2 fp,GF (dm X sc N' cl C s2 H2 fp) K (a8 ix f1) tg is wt fs2)(he:∀cl C s2 H2 fp t,EF (dm X sc N' cl C s2 H2 fp) K (fs2 t) Å (te t))(hl:mi is (a8 ix f1) fs2/\∀t,cQ (fs2 t) (a8 ix f1))(nK:∀j∈is,ix[j]?=al bn)(hr:∀l,SF X K x0 (f1.set i (al (.ol bn l))) rest (kk l) out)(mY:‹pr (.ListComp Å [⟨tg,iter,[],0⟩] sc pos) (al (.Name y px)) jA.line X.env=pure true›)(hs:pV X iter:=by intro _;rfl):SF X K x0 fs (.Assign [.Name y px] (.ListComp Å [⟨tg,iter,[],0⟩] sc pos) jA::rest) (.bind (.bind wl λl=>cY l λp=>.bind (wt p) te) kk) out:=by
 rw[N4];exact SF.PK hc hN tF hx S hi hg (λ_ _ _ _ _ _=>K9) he (λp=>rfl) hl nK hr mY hs
def SF.M8{f:PV->W PV}(hc:X.calm=true)(hN:X.N.Nodup)(tF:X.N[i]?=al y)(hx:X.env.scope.names.lookup y=al .local)(S:ba X.env.scope X.N sc N' ix)(hi:nh X K fs tg iter wl f1)(hg:∀cl C s2 H2 fp,PG (dm X sc N' cl C s2 H2 fp) tg (gG j))(he:∀cl C s2 H2 fp t,EF (dm X sc N' cl C s2 H2 fp) K ((a8 ix f1).set j (al (.val t))) Å (f t))(h0:ix[j]?=al bn)(hr:∀l,SF X K x0 (f1.set i (al (.ol bn l))) rest (kk l) out)(mY:‹pr (.ListComp Å [⟨tg,iter,[],0⟩] sc pos) (al (.Name y px)) jA.line X.env=pure true›)(hs:pV X iter:=by intro _;rfl):SF X K x0 fs (.Assign [.Name y px] (.ListComp Å [⟨tg,iter,[],0⟩] sc pos) jA::rest) (.bind (.bind wl λl=>cY l f) kk) out:=
 have h1:(a8 ix f1)[j]?=al bn:=by unfold a8;rw[An,h0];rfl
 SF.M7 hc hN tF hx S hi (λcl C s2 H2 fp=>W2 (hg cl C s2 H2 fp)) he (Sk h1) (λm hj=>by rw[Ci]at hj;subst hj;exact h0) hr mY hs
def SF.Rf(hc:X.calm=true)(hN:X.N.Nodup)(tF:X.N[i]?=al y)(hx:X.env.scope.names.lookup y=al .local)(S:ba X.env.scope X.N sc N' ix)(hi:nh X K fs tg iter wl f1)(hg:∀cl C s2 H2 fp,GF (dm X sc N' cl C s2 H2 fp) K (a8 ix f1) tg is wt fs2)(hf:∀cl C s2 H2 fp t,TF (dm X sc N' cl C s2 H2 fp) K (fs2 t) c (tf t))(he:∀cl C s2 H2 fp t,EF (dm X sc N' cl C s2 H2 fp) K (fs2 t) Å (te t))(hl:mi is (a8 ix f1) fs2/\∀t,cQ (fs2 t) (a8 ix f1))(nK:∀j∈is,ix[j]?=al bn)(hr:∀l,SF X K x0 (f1.set i (al (.ol bn l))) rest (kk l) out)(mY:‹pr (.ListComp Å [⟨tg,iter,[c],0⟩] sc pos) (al (.Name y px)) jA.line X.env=pure true›)(hs:pV X iter:=by intro _;rfl):SF X K x0 fs (.Assign [.Name y px] (.ListComp Å [⟨tg,iter,[c],0⟩] sc pos) jA::rest) (.bind (.bind wl λl=>lO l λp=>.bind (wt p) λt=>Sj (tf t) (te t)) kk) out:=SF.PK hc hN tF hx S hi hg (λcl C s2 H2 fp t=>yy (hf cl C s2 H2 fp t)) he (λ_=>rfl) hl nK hr mY hs
end
def K7(h:∀vs H Q E,¬sp vs H Q E):aY P w K mg base ip k f fd ps sp:=⟨λvs H Q E q=>(h _ _ _ _ q).elim,λA outer s H args us vs Q E _ _ _ _ q=>(h _ _ _ _ q).elim⟩
def Rc{m:rP PV n}(h:∀l Q,l.length=n->¬(gN n m l).run Q):∀vs H Q E,¬mn K ks (gN n m) vs H Q E:=λvs H Q E ⟨_,_,l,_,q⟩=>h l _ (fF q) q
def zm{m:rP (O PV) n}(h:∀l Q,l.length=n->¬(gN n m l).run Q):∀vs H Q E,¬mQ K ks (gN n m) vs H Q E:=λvs H Q E ⟨_,_,l,_,q⟩=>h l _ (fF q) q
theorem bI(hr:bf k A):A.units+200<FM:=by have:=hr.un;lia
end
section
variable[bj]
variable{K:Aa}
mutual
def PV.ez:PV->Bool
 |.tup l=>dz l
 |.cl l=>dz l
 |.ref _=>false
 |.ty _=>false
 |.dv _ _=>false
 |.ob _ _=>false
 |.hand=>false
 |_=>true
def dz:O PV->Bool
 |[]=>true
 |x::l=>PV.ez x&&dz l
end
mutual
def PV.gH:PV->Nat
 |.tup l=>dc l+1
 |.cl l=>dc l+1
 |_=>0
def dc:O PV->Nat
 |[]=>0
 |x::l=>max (PV.gH x) (dc l)
end
mutual
def jn:PV->PV->Bool
 |.br,.br=>true
 |.bl a,.bl b=>a==b
 |.bl a,.int b=>(if a then 1 else 0)==b
 |.int a,.bl b=>a==(if b then 1 else 0)
 |.int a,.int b=>a==b
 |.str a,.str b=>a==b
 |.tup l,.tup m=>fh l m
 |.cl l,.cl m=>fh l m
 |_,_=>false
def fh:O PV->O PV->Bool
 |[],[]=>true
 |x::l,y::m=>jn x y&&fh l m
 |_,_=>false
end
theorem pA:∀{l:O PV}{j:Nat}{x:PV},dz l=true->l[j]?=al x->PV.ez x=true
 |[],_,_,_,e=>by simp at e
 |y::l,0,x,h,e=>by
  simp at e;subst e;rw[dz,AA]at h;exact h.1
 |y::l,j+1,x,h,e=>by
  rw[dz,AA]at h;exact pA h.2 (by simpa using e)
theorem rC:∀{l:O PV}{j:Nat}{x:PV},l[j]?=al x->PV.gH x<=dc l
 |[],_,_,e=>by simp at e
 |y::l,0,x,e=>by
  simp at e;subst e;rw[dc];lia
 |y::l,j+1,x,e=>by
  have:=rC (by simpa using e);rw[dc];lia
mutual
theorem kU:∀(x:PV),PV.ez x=true->jn x x=true
 |.br,_=>by rw[jn]
 |.bl b,_=>by rw[jn];simp
 |.int i,_=>by rw[jn];simp
 |.str i,_=>by rw[jn];simp
 |.tup l,h=>by rw[jn];exact jm l (by rw[PV.ez]at h;exact h)
 |.cl l,h=>by rw[jn];exact jm l (by rw[PV.ez]at h;exact h)
 |.ref _,h=>by rw[PV.ez]at h;cases h
 |.ty _,h=>by rw[PV.ez]at h;cases h
 |.dv _ _,h=>by rw[PV.ez]at h;cases h
 |.ob _ _,h=>by rw[PV.ez]at h;cases h
 |.hand,h=>by rw[PV.ez]at h;cases h
theorem jm:∀(l:O PV),dz l=true->fh l l=true
 |[],_=>by rw[fh]
 |x::l,h=>by
  rw[dz,AA]at h;rw[fh,kU x h.1,jm l h.2];rfl
end
def Lo(l m:O PV)(j:Nat):Bool:=match l[j]?,m[j]? with|some x,al y=>jn x y|_,_=>true
theorem kT:∀(l m:O PV),((AN (min l.length m.length)).all (Lo l m)&&l.length==m.length)=fh l m
 |[],[]=>by rw[fh];rfl
 |[],_::_=>by
  rw[fh]
  .simp
  .intros;simp_all
  .intros;simp_all
 |_::_,[]=>by
  rw[fh]
  .simp
  .intros;simp_all
  .intros;simp_all
 |x::l,y::m=>by
  rw[fh,<- kT l m];have e:min (x::l).length (y::m).length=min l.length m.length+1:=by simp only[Ap];lia
  rw[e,List.range_succ_eq_map,List.all_cons,Fb];have e2:((x::l).length==(y::m).length)=(l.length==m.length):=by simp
  rw[e2,Bool.and_assoc];rfl
def La{m:O PV}(h:l.length≠m.length):fh l m=false:=by
 rw[<- kT];have:(l.length==m.length)=false:=by simpa using h
 rw[this,Ew]
section
def vN(I:Inv X Z σ H s)(h:Me X.K H a xs):H a≠al (.ext φ):=λe=>by
 rcases h with⟨o,h⟩|⟨o,_,_,h,_⟩
 .rw[e]at h;cases h
 .have:=(I.bs a o (I.mod.Kw a o h)).2;rw[e]at this;cases this
mutual
theorem VR.ID(I:Inv X Z σ H s):∀{v:V}{x y:PV},VR X.K [] H v x->VR X.K [] H v y->x=y
 |_,_,_,.br,h=>by cases h;rfl
 |_,_,_,.bl b,h=>by cases h;rfl
 |_,_,_,.int b,h=>by cases h;rfl
 |_,_,_,.str b,h=>by cases h;rfl
 |_,_,_,.ty b,h=>by cases h;rfl
 |_,_,_,.ref e,h=>by simp at e
 |_,_,_,.tup e r,h=>by
  cases h with
  |tup e' r'=>
   have ee:=I.i7 (dh.of e) (dh.of e');subst ee;rw[aD.ID I r r']
  |ref e=>simp at e
  |cl e' r'=>
   obtain⟨ao,_,⟨o,n,h1,h2,_⟩,_⟩:=I.list e'.sq;obtain⟨its',_,⟨o',fP,uP,_⟩,_⟩:=I.tuple (dh.of e);rw[h1]at fP;cases fP;rw[h2]at uP;simp at uP
  |dk e' _ _=>rw[e]at e';cases e'
  |dt e' _ _=>rw[e]at e';cases e'
  |ob e' _ _ _ _=>rw[e]at e';cases e'
  |hand e'=>have e':_=_:=e';rw[e]at e';cases e'
 |_,_,_,.ob e c na k r,h=>by
  cases h with
  |ob e' _ _ k' r'=>rw[e]at e';cases e';rw[k,k',aD.ID I r r']
  |hand e'=>have e':_=_:=e';rw[e]at e';cases e'
  |dk e' _ _=>rw[e]at e';cases e'
  |dt e' _ _=>rw[e]at e';cases e'
  |ref e=>simp at e
  |tup e' _=>rw[e]at e';cases e'
  |cl e' r'=>
   obtain⟨ao,_,⟨o,n,h1,h2,_⟩,_⟩:=I.list e'.sq;obtain⟨_,_,_,_,fP,_⟩:=I.aK _ _ e;rw[h1]at fP;cases fP;simp at h2
 |_,_,_,.dk e k r,h=>by
  cases h with
  |dk e' k' r'=>rw[e]at e';cases e';rw[k,k',aD.ID I r r']
  |dt e' _ _=>rw[e]at e';cases e'
  |ob e' _ _ _ _=>rw[e]at e';cases e'
  |hand e'=>have e':_=_:=e';rw[e]at e';cases e'
  |ref e=>simp at e
  |tup e' _=>rw[e]at e';cases e'
  |cl e' r'=>
   obtain⟨ao,_,⟨o,n,h1,h2,_⟩,_⟩:=I.list e'.sq;obtain⟨_,_,vs,_,o',_,_,fP,uP,_⟩:=wz I.aK (.inr ⟨_,e⟩);rw[h1]at fP;cases fP;have h3:=uP.1;rw[h2]at h3;simp at h3
 |_,_,_,.dt e k r,h=>by
  cases h with
  |dt e' k' r'=>rw[e]at e';cases e';rw[k,k',aD.ID I r r']
  |ob e' _ _ _ _=>rw[e]at e';cases e'
  |hand e'=>have e':_=_:=e';rw[e]at e';cases e'
  |dk e' _ _=>rw[e]at e';cases e'
  |ref e=>simp at e
  |tup e' _=>rw[e]at e';cases e'
  |cl e' r'=>
   obtain⟨ao,_,⟨o,n,h1,h2,_⟩,_⟩:=I.list e'.sq;obtain⟨_,_,vs,_,o',_,_,fP,uP,_⟩:=wy I.aK (.inr ⟨_,e⟩);rw[h1]at fP;cases fP;have h3:=uP.1;rw[h2]at h3;simp at h3
 |_,_,_,.hand e,h=>by
  have e:_=al _:=e;cases h with
  |hand _=>rfl
  |ob e' _ _ _ _=>rw[e]at e';cases e'
  |dk e' _ _=>rw[e]at e';cases e'
  |dt e' _ _=>rw[e]at e';cases e'
  |ref e=>simp at e
  |tup e' _=>rw[e]at e';cases e'
  |cl e' r'=>exact absurd e (vN I e')
 |_,_,_,.cl e r,h=>by
  cases h with
  |hand e'=>exact absurd (show _=al _ from e') (vN I e)
  |ob e' _ _ _ _=>
   obtain⟨ao,_,⟨o,n,h1,h2,_⟩,_⟩:=I.list e.sq;obtain⟨_,_,_,_,fP,_⟩:=I.aK _ _ e';rw[h1]at fP;cases fP;simp at h2
  |dk e' _ _=>
   obtain⟨ao,_,⟨o,n,h1,h2,_⟩,_⟩:=I.list e.sq;obtain⟨_,_,vs,_,o',_,_,fP,uP,_⟩:=wz I.aK (.inr ⟨_,e'⟩);rw[h1]at fP;cases fP;have h3:=uP.1;rw[h2]at h3;simp at h3
  |dt e' _ _=>
   obtain⟨ao,_,⟨o,n,h1,h2,_⟩,_⟩:=I.list e.sq;obtain⟨_,_,vs,_,o',_,_,fP,uP,_⟩:=wy I.aK (.inr ⟨_,e'⟩);rw[h1]at fP;cases fP;have h3:=uP.1;rw[h2]at h3;simp at h3
  |cl e' r'=>
   obtain⟨ao,k,⟨o,n,h1,h2,h3,h4⟩,_⟩:=I.list e.sq;obtain⟨its',k',⟨o',n',fP,uP,Ow,SY⟩,_⟩:=I.list e'.sq;rw[h1]at fP;cases fP;rw[h4]at SY;have:ao=its':=by injection SY with a b;simpa using a
   subst this;have ee:=Vals.inj k k';subst ee;rw[aD.ID I r r']
  |ref e=>simp at e
  |tup e' r'=>
   obtain⟨ao,_,⟨o,n,h1,h2,_⟩,_⟩:=I.list e.sq;obtain⟨its',_,⟨o',fP,uP,_⟩,_⟩:=I.tuple (dh.of e');rw[h1]at fP;cases fP;rw[h2]at uP;simp at uP
theorem aD.ID(I:Inv X Z σ H s):∀{v:O V}{x y:O PV},aD X.K [] H v x->aD X.K [] H v y->x=y
 |_,_,_,.nil,h=>by cases h;rfl
 |_,_,_,.cons r t,h=>by
  cases h with
  |cons r' t'=>rw[VR.ID I r r',aD.ID I t t']
end
structure Cmp(A:wP)(s:gl)(w w':ce)(b:Bool):Prop where
 rc:SeqAt.RcAt A s w w' b
 ne:SeqAt.RcNeAt A s w w' (!b)
 eq:Ej A s w w' b
def Xk(I:Inv X Z σ H s){ws:O V}{m:O PV}(r:Vals vs ao)(r':Vals ws its')(r1:aD X.K [] H vs l)(r2:aD X.K [] H ws m)(ih:∀(j:Nat) (x y:PV) (v v':V) (w w':ce),l[j]?=al x->m[j]?=al y->VR X.K [] H v x->VR X.K [] H v' y->RelV v w->RelV v' w'->Ej A s w w' (jn x y)):∀j (g1:j<ao.toArray.size) (g2:j<its'.toArray.size),Ej A s ao.toArray[j] its'.toArray[j] (Lo l m j):=λj g1 g2=>by
 have h1:j<ao.length:=by simpa using g1
 have h2:j<its'.length:=by simpa using g2
 have hl:j<l.length:=by rw[<- r1.length,r.length];exact h1
 have hm:j<m.length:=by rw[<- r2.length,r'.length];exact h2
 obtain⟨v,v1,v2⟩:=r1.get (Af hl);obtain⟨v',Zg,US⟩:=r2.get (Af hm);obtain⟨u,u1,u2⟩:=r.get v1;obtain⟨u',T8,u2'⟩:=r'.get Zg;rw[Af h1]at u1;rw[Af h2]at T8;cases u1;cases T8;unfold Lo;rw[Af hl,Af hm];have:=ih j _ _ v v' _ _ (Af hl) (Af hm) v2 US u2 u2';simpa using this
inductive Sh(X:Cx)(H:Hp)(s:gl):PV->ce->Prop
 |br:Sh X H s .br .none
 |bl (b:Bool):Sh X H s (.bl b) (.bool b)
 |int (i:Int) (t:Tok):Sh X H s (.int i) (.int i t)
 |str (x:Str) (t:Tok):Sh X H s (.str x) (.str x t)
 |tup {p:db}{vs:List V}{ao:List ce}{l:List PV} (e:VR X.K [] H (.ref p) (.tup l)) (k:Vals vs ao) (r:aD X.K [] H vs l) (h:s.heap.IsTuple p ao.toArray):Sh X H s (.tup l) (.ref p)
 |cl {p:db}{vs:List V}{ao:List ce}{l:List PV} (e:VR X.K [] H (.ref p) (.cl l)) (k:Vals vs ao) (r:aD X.K [] H vs l) (h:s.heap.IsList p ao.toArray):Sh X H s (.cl l) (.ref p)
def Sh.of(I:Inv X Z σ H s){v:V}{x:PV}{w:ce}(h:VR X.K [] H v x)(r:RelV v w)(d:PV.ez x=true):Sh X H s x w:=by
 cases h with
 |ref e=>simp at e
 |br=>cases r;exact .br
 |bl a=>cases r;exact .bl a
 |int a=>obtain⟨t,rfl⟩:=r;exact .int a t
 |str a=>obtain⟨t,rfl⟩:=r;exact .str a t
 |tup e q=>
  cases r;obtain⟨ao,k,ht,_⟩:=I.tuple (dh.of e);exact .tup (.tup e q) k q ht
 |cl e q=>
  cases r;obtain⟨ao,k,pl,_⟩:=I.list e.sq;exact .cl (.cl e q) k q pl.isList
 |_=>rw[PV.ez]at d;cases d
set_option maxHeartbeats 8000000 in
theorem Tt(hK:X.K=K)(I:Inv X Z σ H s):∀(n:Nat) (x y:PV) (A:wP) (v v':V) (w w':ce),PV.gH x<=n->PV.ez x=true->PV.ez y=true->VR K [] H v x->VR K [] H v' y->RelV v w->RelV v' w'->A.units+n+1<FM->Cmp A s w w' (jn x y):=by
 subst hK;intro n
 induction n using Nat.strongRecOn with
 |ind n ih=>
 intro x y A v v' w w' hd dx dy hv Yt r1 r2 hu;have a:=Sh.of I hv r1 dx;have b:=Sh.of I Yt r2 dy;clear hv Yt r1 r2;have el:∀{l m:O PV}{vs ws:O V}{ao bX:O ce},dz l=true->dz m=true->dc l<n->Vals vs ao->Vals ws bX->aD X.K [] H vs l->aD X.K [] H ws m->ao.toArray.size=l.length/\bX.toArray.size=m.length/\∀j g1 (g2:j<bX.toArray.size),Ej A.in1 s ao.toArray[j] bX.toArray[j] (Lo l m j):=λd1 d2 hd k1 k2 r r'=>⟨by rw[Ag,<- k1.length,r.length],by rw[Ag,<- k2.length,r'.length],Xk I k1 k2 r r' λj x y v v' w w' hx hy vx vy rx ry=>(ih _ hd x y A.in1 v v' w w' (rC hx) (pA d1 hx) (pA d2 hy) vx vy rx ry (by show A.units+1+_+1<_;lia)).eq⟩;have fin:∀{pa pb:db}{l m:O PV},(pa=pb->l=m)->dz l=true->SeqAt.RcAt A s (.ref pa) (.ref pb) (fh l m)->Ej A s (.ref pa) (.ref pb) (fh l m):=λ{pa pb l m} h d q=>by
  by_cases WW:pa=pb
  .rw[h WW,jm _ (h WW▸d),WW];exact Ej.same _
  .exact Ej.of_refs WW q
 cases a<;>cases b
 case tup.tup pa vs ao l e k r ht pb ws bX m e2 k2 r2 yh=>
  rw[PV.gH]at hd;obtain⟨z1,z2,ie⟩:=el dx dy ∅ k k2 r r2;have q1:=SeqAt.RcAt.tuples ht yh ∅ ie;have q2:=SeqAt.RcNeAt.tuples ht yh (A:=A) ∅ ie;rw[z1,z2,kT]at q1 q2;exact⟨q1,q2,fin (λz=>by subst z;have:=VR.ID I e e2;injection this) dx q1⟩
 case cl.cl pa vs ao l e k r ht pb ws bX m e2 k2 r2 yh=>
  rw[PV.gH]at hd;obtain⟨z1,z2,ie⟩:=el dx dy ∅ k k2 r r2;by_cases hz:l.length=m.length
  .have q1:=Gd ht yh (by rw[z1,z2];exact hz) (A:=A) ∅ ie;have q2:=FX ht yh (by rw[z1,z2];exact hz) (A:=A) ∅ ie;have ef:(AN l.length).all (Lo l m)=fh l m:=by rw[<- kT,hz,Nat.min_self,beq_self_eq_true,Bool.and_true]
   rw[z1,ef]at q1 q2;exact⟨q1,q2,fin (λz=>by subst z;have:=VR.ID I e e2;injection this) dx q1⟩
  .have q1:=EM (A:=A) ht yh (by rw[z1,z2];simpa using hz) ∅;have q2:=Ei (A:=A) ht yh (by rw[z1,z2];simpa using hz) ∅;have ef:=La hz;rw[<- ef]at q1;have q2:SeqAt.RcNeAt A s (.ref pa) (.ref pb) (!fh l m):=by rw[ef];exact q2
   exact⟨q1,q2,fin (λz=>by subst z;have:=VR.ID I e e2;injection this) dx q1⟩
 all_goals
  clear ih el fin;rw[jn]<;>try (intros;simp_all;done)
  refine⟨?_,?_,?_⟩<;>(try simp)<;>first|with_reducible exact .none_none|with_reducible exact .none_bool _|with_reducible exact .none_int _ _|with_reducible exact .none_str _ _|with_reducible exact .none_tuple ‹_› ∅ | with_reducible exact .none_list ‹_› ∅ | with_reducible exact .bool_none _|with_reducible exact .bool_str _ _ _|with_reducible exact .bool_tuple _ ‹_› ∅ | with_reducible exact .bool_list _ ‹_› ∅ | with_reducible exact .int_none _ _|with_reducible exact .int_str _ _ _ _|with_reducible exact .int_tuple _ _ ‹_› ∅ | with_reducible exact .int_list _ _ ‹_› ∅ | with_reducible exact .str_none _ _|with_reducible exact .str_bool _ _ _|with_reducible exact .str_int _ _ _ _|with_reducible exact .str_tuple _ _ ‹_› ∅ | with_reducible exact .str_list _ _ ‹_› ∅ | with_reducible exact .tuple_none ‹_› ∅ | with_reducible exact .tuple_bool _ ‹_› ∅ | with_reducible exact .tuple_int _ _ ‹_› ∅ | with_reducible exact .tuple_str _ _ ‹_› ∅ | with_reducible exact .tuple_list ‹_› ‹_› ∅ | with_reducible exact .list_none ‹_› ∅ | with_reducible exact .list_bool _ ‹_› ∅ | with_reducible exact .list_int _ _ ‹_› ∅ | with_reducible exact .list_str _ _ ‹_› ∅ | with_reducible exact .list_tuple ‹_› ‹_› ∅ | exact .same _|exact .bool_bool _ _|exact .bool_int _ _ _|exact .int_bool _ _ _|exact .int_int _ _ _ _|exact .str_str _ _ _ _
end
end
section
variable[bj]
variable{K:Aa}
mutual
theorem VR.kF{ι:O db}{H:Hp}:∀{v:V}{q:PV},VR K ι H v q->PV.ez q=true->VR K [] H v q
 |_,_,.br,_=>.br
 |_,_,.bl b,_=>.bl b
 |_,_,.int i,_=>.int i
 |_,_,.str x,_=>.str x
 |_,_,.ty n,h=>by rw[PV.ez]at h;cases h
 |_,_,.dk _ _ _,h=>by rw[PV.ez]at h;cases h
 |_,_,.dt _ _ _,h=>by rw[PV.ez]at h;cases h
 |_,_,.ob _ _ _ _ _,h=>by rw[PV.ez]at h;cases h
 |_,_,.hand _,h=>by rw[PV.ez]at h;cases h
 |_,_,.tup e r,h=>.tup e (aD.kF r (by rw[PV.ez]at h;exact h))
 |_,_,.cl e r,h=>.cl e (aD.kF r (by rw[PV.ez]at h;exact h))
 |_,_,.ref e,h=>by rw[PV.ez]at h;cases h
theorem aD.kF{ι:O db}{H:Hp}:∀{v:O V}{q:O PV},aD K ι H v q->dz q=true->aD K [] H v q
 |_,_,.nil,_=>.nil
 |_,_,.cons r s,h=>by
  rw[dz,AA]at h;exact .cons (VR.kF r h.1) (aD.kF s h.2)
end
def HP(x y:PV):Prop:=PV.ez x=true/\PV.ez y=true/\PV.gH x<=150
def iI:M2:=⟨λx y h Q=>HP x y/\Q (.bl (jn x y)) h,λf q=>⟨q.1,f _ _ q.2⟩⟩
def kC:M2:=⟨λx y h Q=>HP x y/\Q (.bl (!jn x y)) h,λf q=>⟨q.1,f _ _ q.2⟩⟩
def Nk(K:Aa)(neg:Bool):R2:=λu v H Q=>∃x y,VR K [] H u x/\VR K [] H v y/\HP x y/\Q (.bl (if neg then !jn x y else jn x y)) H
section
theorem RL(hK:X.K=K)(hu:X.A.units+200<FM):fy X (r6 .Eq) (Nk K false):=λZ s σ H u v w w' Q I r1 r2 ⟨x,y,h1,h2,⟨o1,o2,o3⟩,q⟩=>by
 exact Fh (Tt hK I 150 x y X.A u v w w' o3 o1 o2 h1 h2 r1 r2 ∅).rc ⟨.bl _,H,I,rfl,q⟩
theorem RJ(hK:X.K=K)(hu:X.A.units+200<FM):fy X (r6 .NotEq) (Nk K true):=λZ s σ H u v w w' Q I r1 r2 ⟨x,y,h1,h2,⟨o1,o2,o3⟩,q⟩=>by
 exact ED (Tt hK I 150 x y X.A u v w w' o3 o1 o2 h1 h2 r1 r2 ∅).ne ⟨.bl _,H,I,rfl,q⟩
def NY:M2.Ok K (Nk K false) iI:=λ{ι H h u v x y Q} hr hu hv q=>⟨x,y,VR.kF hu q.1.1,VR.kF hv q.1.2.1,q.1,q.2 ι _ H (Go.refl _ _) hr (.bl _)⟩
def NS:M2.Ok K (Nk K true) kC:=λ{ι H h u v x y Q} hr hu hv q=>⟨x,y,VR.kF hu q.1.1,VR.kF hv q.1.2.1,q.1,q.2 ι _ H (Go.refl _ _) hr (.bl _)⟩
def oW(hK:X.K=K)(hu:X.A.units+200<FM):JC X K .Eq b iI:=⟨⟨_,RL hK hu,NY⟩,eV _⟩
def oV(hK:X.K=K)(hu:X.A.units+200<FM):JC X K .NotEq b kC:=⟨⟨_,RJ hK hu,NS⟩,eV _⟩
end
end
end FL
variable{xs ys:Array AZ}{b b1:Bool}{z i1 i2 a1 a2:AW}{k1:Nat}
namespace L2
def pS(b:Bool)(h:lw)(it a:db)(k:Nat):Prop:=match b with
 |true=>h.IsListIter it a k
 |false=>h.IsTupleIter it a k
def gq(b:Bool)(h:lw)(a:db)(xs:Array ce):Prop:=match b with
 |true=>h.IsList a xs
 |false=>h.IsTuple a xs
def pS.move(x:pS b h it a k)(g:∀o,h.get? it=al o->h'.get? it=al o):pS b h' it a k:=by
 cases b with
 |true=>obtain⟨o,e,p⟩:=(x);exact(⟨o,g o e,p⟩)
 |false=>obtain⟨o,e,p⟩:=(x);exact(⟨o,g o e,p⟩)
def gq.move(x:gq b h a xs)(g:∀o,h.get? a=al o->h'.get? a=al o):gq b h' a xs:=by
 cases b with
 |true=>obtain⟨o,e,p⟩:=(x);exact(⟨o,g o e,p⟩)
 |false=>obtain⟨o,e,p⟩:=(x);exact(⟨o,g o e,p⟩)
def pS.obj(x:pS b h it a k):∃o,h.get? it=al o/\∀v,o.data≠.cell v:=by
 cases b with
 |true=>obtain⟨o,e,_,d⟩:=(x);exact⟨o,e,λv z=>by rw[d]at z;cases z⟩
 |false=>obtain⟨o,e,_,d⟩:=(x);exact⟨o,e,λv z=>by rw[d]at z;cases z⟩
def gq.lt(x:gq b h a xs):a<h.objs.size:=by
 cases b with
 |true=>obtain⟨o,e,p⟩:=(x);exact Ai e
 |false=>obtain⟨o,e,p⟩:=(x);exact Ai e
section
def iJ{t:db}{x:ce}(h:pS b s.heap it t i)(ht:gq b s.heap t items)(hx:items[i]?=al x)(q:∀h':lw,pS b h' it t (i+1)->CC it s.heap h'->Q x {s with heap:=h'}):f8 (ii prog w) A (Builtin.SmallTypes.nextOf (.ref it)) Q E s:=by
 cases b with
 |true=>exact wpAny_nextOf_list_item h ht hx λh' a b=>q h' a b
 |false=>exact fJ h ht hx q
def oI{t:db}(hA:A.handled=bn)(h:pS b s.heap it t i)(ht:gq b s.heap t items)(hx:items[i]?=bn)(q:∀(h':lw) (e:db),Heap.ExtBut it s.heap h'->(∃o,h'.get? e=al o/\o.cls=.type "StopIteration")->E (.ref e) {s with heap:=h'}):f8 (ii prog w) A (Builtin.SmallTypes.nextOf (.ref it)) Q E s:=by
 cases b with
 |true=>exact wpAny_nextOf_list_end hA h ht hx λh' e a b=>q h' e a b
 |false=>exact gC hA h ht hx q
def Hv:Bool->String
 |true=>"list_iterator"
 |false=>"tuple_iterator"
def qT(h:gq b s.heap a xs)(q:Q (.ref s.heap.objs.size) {s with heap:=s.heap.push {cls:=.type (Hv b),data:=.fields #[.ref a,.int 0 0]}}):f8 (ii prog w) A (pyIter (.ref a)) Q E s:=by
 cases b with
 |true=>exact EE h q
 |false=>exact Es h q
def zj(e:h.get? it=al {cls:=.type (Hv b),data:=.fields #[.ref a,.int 0 0]}):pS b h it a 0:=by
 cases b with
 |true=>exact(⟨_,e,rfl,rfl⟩)
 |false=>exact(⟨_,e,rfl,rfl⟩)
end
structure ik(b1 b2:Bool)(h:lw)(z TI TO i1 i2 a1 a2:db)(f0:ce)(k1 k2:Nat):Prop where
 zip:IsZip h z TI TO f0
 ti:IsPair h TI (.ref i1) (.ref i2)
 to:∃a b,IsPair h TO a b
 Ys:pS b1 h i1 a1 k1
 Yr:pS b2 h i2 a2 k2
def nP{E:ce->gl->Prop}{b2:Bool}{TI TO:db}{x y:ce}(hA:ZipApart z TI TO i1 i2 a1 a2)(hz:ik b1 b2 s.heap z TI TO i1 i2 a1 a2 .none k1 k2)(Qk:gq b1 s.heap a1 xs)(yh:gq b2 s.heap a2 ys)(hx:xs[k1]?=al x)(hy:ys[k2]?=al y)(q:∀h':lw,ik b1 b2 h' z TI TO i1 i2 a1 a2 (re s.heap.objs.size) (k1+1) (k2+1)->IsPair h' s.heap.objs.size x y->(∀c o,c≠z->c≠TO->c≠i1->c≠i2->s.heap.get? c=al o->h'.get? c=al o)->Q (.ref s.heap.objs.size) {s with heap:=h'}):f8 (ii prog w) A (GE.«zip.__next__» {pos:=[.ref z]}) (λfin s'=>∃v,fin=Gm (Gk v)/\Q v s') E s:=by
 obtain⟨hz,Om,⟨ta,tb,ê⟩,HF,KY⟩:=hz;show f8 _ _ (field (.ref z) 2 >>= λr=>_) _ _ s;refine Ab (AV hz rfl rfl ?_);refine Ab (AV hz rfl rfl ?_);refine Ab (BM Om rfl ?_);refine Ab ?_;refine Ab (AV hz rfl rfl ?_);refine Ae ?_;refine Ab (Dc ?_);refine Ab (AV hz rfl rfl ?_);refine Ab (Bc hz (show 0 < 5 by decide) λh1 z1 b1=>?_);show f8 _ _ ((forIn [(Ao i1,0),(Ao i2,1)] _ _) >>= λr=>_) _ _ _;refine Ab ?_;rw[B8];have qw:=b1.2;refine Ab ?_;refine Ab (DG ?_);refine Ab (iJ (HF.move λo e=>(qw _ hA.i1z).trans e) (Qk.move λo e=>(qw _ hA.l1z).trans e) hx λh2 j2 b2=>Ae ?_);have K5:∀b,b≠z->b≠i1->h2.get? b=s.heap.get? b:=λb n1 n2=>(b2.2 b n2).trans (qw b n1);have à:=(K5 _ hA.TOz hA.TOi1).trans ê;refine Ab (BM à rfl ?_);refine Ab (DL à λh3 t3 b3=>?_);have Ñ:∀b,b≠z->b≠i1->b≠TO->h3.get? b=s.heap.get? b:=λb n1 n2 n3=>(b3.2 b n3).trans (K5 b n1 n2);refine Ab (Df (Ae ?_));show f8 _ _ (forIn [(Ao i2,1)] _ _) _ _ _;rw[B8];refine Ab ?_;refine Ab (DG ?_);refine Ab (iJ (KY.move λo e=>(Ñ _ hA.i2z hA.i12.symm hA.TOi2.symm).trans e) (yh.move λo e=>(Ñ _ hA.l2z hA.l2i1 hA.l2TO).trans e) hy λh4 j4 b4=>Ae ?_);have to4:=(b4.2 _ hA.TOi2).trans t3;refine Ab (BM to4 rfl ?_);refine Ab (DL to4 λh5 t5 b5=>?_);have to5:=t5;refine Ab (Df (Ae ?_));refine Ae ?_;refine Ab (BM to5 rfl ?_);have ZC:=b5.1.trans (b4.1.trans (b3.1.trans (b2.1.trans b1.1)));refine Ab (Dr ?_ (by show 2<=sizeLine;decide));have WZ:∀b,b≠z->b≠i1->b≠TO->b≠i2->h5.get? b=s.heap.get? b:=λb n1 n2 n3 n4=>(b5.2 b n3).trans ((b4.2 b n4).trans (Ñ b n1 n2 n3));have kp:∀b o,h5.get? b=al o->(h5.push {cls:=.type "tuple",data:=.seq #[x,y]}).get? b=al o:=λb o e=>Ad _ e;refine Ab ?_;refine Ab (Bc (kp _ _ ((b5.2 _ hA.TOz.symm).trans ((b4.2 _ hA.i2z.symm).trans ((b3.2 _ hA.TOz.symm).trans ((b2.2 _ hA.i1z.symm).trans z1))))) (show 0 < 5 by decide) λh7 z7 b7=>?_);refine Bc z7 (show 1 < 5 by decide) λh8 z8 b8=>?_;have HI:∀b,b≠z->h8.get? b=(h5.push {cls:=.type "tuple",data:=.seq #[x,y]}).get? b:=λb n=>(b8.2 b n).trans (b7.2 b n);have nz:s.heap.objs.size≠z:=λe=>by have:=Ai hz;rw[<- e]at this;exact AM _ this
 refine Ae ⟨.ref h5.objs.size,rfl,?_⟩;rw[ZC];refine q h8 ⟨?_,?_,?_,?_,?_⟩ ?_ ?_
 .rw[<- ZC];exact z8
 .rw[IsPair,HI _ hA.TIz];exact kp _ _ ((WZ _ hA.TIz hA.TIi1 hA.TITO hA.TIi2).trans Om)
 .exact⟨x,y,by rw[IsPair,HI _ hA.TOz];exact kp _ _ to5⟩
 .refine j2.move λo e=>?_;rw[HI _ hA.i1z];exact kp _ _ ((b5.2 _ hA.TOi1.symm).trans ((b4.2 _ hA.i12).trans ((b3.2 _ hA.TOi1.symm).trans e)))
 .refine j4.move λo e=>?_;rw[HI _ hA.i2z];exact kp _ _ ((b5.2 _ hA.TOi2.symm).trans e)
 .rw[IsPair,HI _ nz,<- ZC];exact(Al _ rfl)
 .intro c o n1 n2 n3 n4 e;rw[HI _ n1];exact kp _ _ ((WZ _ n1 n3 n2 n4).trans e)
def qd{b2:Bool}{TI TO:db}{Q:PySem.Fin->gl->Prop}(hh:A.handled=bn)(hA:ZipApart z TI TO i1 i2 a1 a2)(hz:ik b1 b2 s.heap z TI TO i1 i2 a1 a2 .none k1 k2)(Qk:gq b1 s.heap a1 xs)(yh:gq b2 s.heap a2 ys)(hx:xs[k1]?=bn\/ys[k2]?=bn)(q:∀(h':lw) (e:db),(∀c o,c≠z->c≠TO->c≠i1->c≠i2->s.heap.get? c=al o->h'.get? c=al o)->(∃o,h'.get? e=al o/\o.cls=.type "StopIteration")->E (.ref e) {s with heap:=h'}):f8 (ii prog w) A (GE.«zip.__next__» {pos:=[.ref z]}) Q E s:=by
 obtain⟨hz,Om,⟨ta,tb,ê⟩,HF,KY⟩:=hz;show f8 _ _ (field (.ref z) 2 >>= λr=>_) _ _ s;refine Ab (AV hz rfl rfl ?_);refine Ab (AV hz rfl rfl ?_);refine Ab (BM Om rfl ?_);refine Ab ?_;refine Ab (AV hz rfl rfl ?_);refine Ae ?_;refine Ab (Dc ?_);refine Ab (AV hz rfl rfl ?_);refine Ab (Bc hz (show 0 < 5 by decide) λh1 z1 b1'=>?_);show f8 _ _ ((forIn [(Ao i1,0),(Ao i2,1)] _ _) >>= λr=>_) _ _ _;refine Ab ?_;have qw:=b1'.2;refine Ab ?_;refine Ab (DG ?_);have fin:∀{h2:lw}{e:db}{R:ce->gl->Prop},h2.get? z=al {cls:=.type "zip",data:=.fields #[.ellipsis,.bool false,.bool false,.ref TI,.ref TO]}->(∃o,h2.get? e=al o/\o.cls=.type "StopIteration")->(∀c o,c≠z->c≠TO->c≠i1->c≠i2->s.heap.get? c=al o->h2.get? c=al o)->f8 (ii prog w) A (Op (.ref z) 0 .none) (λ_ s'=>E (.ref e) s') R {s with heap:=h2}:=λ{h2 e R} z2 ex k=>by
  refine Bc z2 (show 0<5 by decide) λh3 z3 b3=>?_;refine q h3 e (λc o n1 n2 n3 n4 ec=>?_) ?_
  .rw[b3.2 _ n1];exact k c o n1 n2 n3 n4 ec
  .obtain⟨o,eo,hc⟩:=ex;by_cases he:e=z
   .subst he;rw[z2]at eo;cases eo;exact absurd (show Co "zip"=Co "StopIteration" from hc) ⋯
   .exact⟨o,(b3.2 _ he).trans eo,hc⟩
 cases WA:xs[k1]? with
 |none=>
  exact Ab (oI hh (HF.move λo e=>(qw _ hA.i1z).trans e) (Qk.move λo e=>(qw _ hA.l1z).trans e) WA λh2 e k ex=>fin (k _ _ hA.i1z.symm z1) ex λc o n1 n2 n3 n4 ec=>k _ _ n3 ((qw _ n1).trans ec))
 |some x=>
  have hy:ys[k2]?=bn:=by
   rcases hx with h|h
   .rw[WA]at h;cases h
   .exact h
  refine Ab (iJ (HF.move λo e=>(qw _ hA.i1z).trans e) (Qk.move λo e=>(qw _ hA.l1z).trans e) WA λh2 j2 b2'=>Ae ?_);have K5:∀b,b≠z->b≠i1->h2.get? b=s.heap.get? b:=λb n1 n2=>(b2'.2 b n2).trans (qw b n1);have à:=(K5 _ hA.TOz hA.TOi1).trans ê;refine Ab (BM à rfl ?_);refine Ab (DL à λh3 t3 b3=>?_);have Ñ:∀b,b≠z->b≠i1->b≠TO->h3.get? b=s.heap.get? b:=λb n1 n2 n3=>(b3.2 b n3).trans (K5 b n1 n2);exact Ab (Df (Ae (Ab (Ab (DG (Ab (oI hh (KY.move λo e=>(Ñ _ hA.i2z hA.i12.symm hA.TOi2.symm).trans e) (yh.move λo e=>(Ñ _ hA.l2z hA.l2i1 hA.l2TO).trans e) hy λh4 e k ex=>fin (k _ _ hA.i2z.symm ((b3.2 _ hA.TOz.symm).trans ((b2'.2 _ hA.i1z.symm).trans z1))) ex λc o n1 n2 n3 n4 ec=>k _ _ n4 ((Ñ _ n1 n3 n2).trans ec))))))))
def lF{b2:Bool}{TI TO:db}{x y:ce}{Q:Option ce->gl->Prop}(hA:ZipApart z TI TO i1 i2 a1 a2)(hz:ik b1 b2 s.heap z TI TO i1 i2 a1 a2 .none k1 k2)(Qk:gq b1 s.heap a1 xs)(yh:gq b2 s.heap a2 ys)(hx:xs[k1]?=al x)(hy:ys[k2]?=al y)(q:∀h':lw,ik b1 b2 h' z TI TO i1 i2 a1 a2 (re s.heap.objs.size) (k1+1) (k2+1)->IsPair h' s.heap.objs.size x y->(∀c o,c≠z->c≠TO->c≠i1->c≠i2->s.heap.get? c=al o->h'.get? c=al o)->Q (al (.ref s.heap.objs.size)) {s with heap:=h'}):f8 (ii prog w) A (pyNext (.ref z)) Q E s:=by
 have ty:s.TypeIs (.ref z) "zip":=⟨_,hz.zip,rfl⟩;refine Ab (CJ (Bt ty DP (Cd DP ty F.entry_zip_next ?_ (F.args_zip_next_1 _))));exact nP hA hz Qk yh hx hy λh' a b c=>Ae (q h' a b c)
def mR{b2:Bool}{TI TO:db}{Q:Option ce->gl->Prop}(hh:A.handled=bn)(hA:ZipApart z TI TO i1 i2 a1 a2)(hz:ik b1 b2 s.heap z TI TO i1 i2 a1 a2 .none k1 k2)(Qk:gq b1 s.heap a1 xs)(yh:gq b2 s.heap a2 ys)(hx:xs[k1]?=bn\/ys[k2]?=bn)(q:∀h':lw,(∀c o,c≠z->c≠TO->c≠i1->c≠i2->s.heap.get? c=al o->h'.get? c=al o)->Q bn {s with heap:=h'}):f8 (ii prog w) A (pyNext (.ref z)) Q E s:=by
 have ty:s.TypeIs (.ref z) "zip":=⟨_,hz.zip,rfl⟩;refine Ab (CJ (Bt ty DP (Cd DP ty F.entry_zip_next ?_ (F.args_zip_next_1 _))));refine qd hh hA hz Qk yh hx λh' e k ex=>?_;obtain⟨o,eo,hc⟩:=ex;exact Ab (EX ⟨o,eo,hc⟩ isSubtype_stop (Ae (q h' k)))
def oO(b1 b2:Bool)(a1 a2:db)(xs ys:Array ce):Meets (GE.«zip.__new__» {pos:=[.type "zip",.ref a1,.ref a2]}) (λ_ R s=>gq b1 s.heap a1 xs/\gq b2 s.heap a2 ys/\
  ∀h':lw,ik b1 b2 h' (s.heap.objs.size+4) (s.heap.objs.size+2) (s.heap.objs.size+3) s.heap.objs.size (s.heap.objs.size+1) a1 a2 .none 0 0->(∀b o,s.heap.get? b=al o->h'.get? b=al o)->R (.ok (.ret (.ref (s.heap.objs.size+4)))) {s with heap:=h'}):=
 .of_wp λprog w A R s h=>by
  obtain⟨h1,h2,q⟩:=h;refine Ab ?_;refine Ab (CP rfl ?_);refine Ab (CP sub_zip ?_);refine Ae ?_;refine Ab ?_;refine Ab ?_;rw[B8];refine Ab ?_;refine Ab (A4 (qT h1 (Ae ?_)));have k1:∀b o,s.heap.get? b=al o->(s.heap.push {cls:=.type (Hv b1),data:=.fields #[.ref a1,.int 0 0]}).get? b=al o:=λb o e=>Ad _ e;have g1:(s.heap.push {cls:=.type (Hv b1),data:=.fields #[.ref a1,.int 0 0]}).get? s.heap.objs.size=al {cls:=.type (Hv b1),data:=.fields #[.ref a1,.int 0 0]}:=Al _ rfl;have z1:(s.heap.push {cls:=.type (Hv b1),data:=.fields #[.ref a1,.int 0 0]}).objs.size=s.heap.objs.size+1:=Bi ..;generalize s.heap.push {cls:=.type (Hv b1),data:=.fields #[.ref a1,.int 0 0]}=uN at k1 g1 z1 ⊢;show f8 _ _ (forIn [Ao a2] _ _) _ _ _;rw[B8];refine Ab ?_;refine Ab (A4 (qT (h2.move λo e=>k1 _ _ e) (Ae ?_)));show f8 _ _ (forIn [] _ _) _ _ _;refine Ae (Ae ?_);have k2:∀b o,uN.get? b=al o->(uN.push {cls:=.type (Hv b2),data:=.fields #[.ref a2,.int 0 0]}).get? b=al o:=λb o e=>Ad _ e;have g2:(uN.push {cls:=.type (Hv b2),data:=.fields #[.ref a2,.int 0 0]}).get? uN.objs.size=al {cls:=.type (Hv b2),data:=.fields #[.ref a2,.int 0 0]}:=Al _ rfl;have z2:(uN.push {cls:=.type (Hv b2),data:=.fields #[.ref a2,.int 0 0]}).objs.size=uN.objs.size+1:=Bi ..;show f8 _ _ (newTuple [.ref s.heap.objs.size,.ref uN.objs.size] >>= λr=>_) _ _ {s with heap:=uN.push {cls:=.type (Hv b2),data:=.fields #[.ref a2,.int 0 0]}};generalize uN.push {cls:=.type (Hv b2),data:=.fields #[.ref a2,.int 0 0]}=w4 at k2 g2 z2 ⊢;refine Ab (Dr ?_ (by show 2<=sizeLine;decide));have k3:∀b o,w4.get? b=al o->(w4.push {cls:=.type "tuple",data:=.seq [Ao s.heap.objs.size,Ao uN.objs.size].toArray}).get? b=al o:=λb o e=>Ad _ e;have g3:(w4.push {cls:=.type "tuple",data:=.seq [Ao s.heap.objs.size,Ao uN.objs.size].toArray}).get? w4.objs.size=al {cls:=.type "tuple",data:=.seq #[.ref s.heap.objs.size,.ref uN.objs.size]}:=Al _ rfl;have z3:(w4.push {cls:=.type "tuple",data:=.seq [Ao s.heap.objs.size,Ao uN.objs.size].toArray}).objs.size=w4.objs.size+1:=Bi ..;generalize w4.push {cls:=.type "tuple",data:=.seq [Ao s.heap.objs.size,Ao uN.objs.size].toArray}=HC at k3 g3 z3 ⊢;refine Ab (Dr ?_ (by show 2<=sizeLine;decide));have k4:∀b o,HC.get? b=al o->(HC.push {cls:=.type "tuple",data:=.seq [AJ,AJ].toArray}).get? b=al o:=λb o e=>Ad _ e;have g4:(HC.push {cls:=.type "tuple",data:=.seq [AJ,AJ].toArray}).get? HC.objs.size=al {cls:=.type "tuple",data:=.seq #[.none,.none]}:=Al _ rfl;have z4:(HC.push {cls:=.type "tuple",data:=.seq [AJ,AJ].toArray}).objs.size=HC.objs.size+1:=Bi ..;show f8 _ _ (newObj (.type "zip") (.fields #[.none,.bool false,.bool false,.ref w4.objs.size,.ref HC.objs.size]) >>= λr=>_) _ _ {s with heap:=HC.push {cls:=.type "tuple",data:=.seq [AJ,AJ].toArray}};generalize HC.push {cls:=.type "tuple",data:=.seq [AJ,AJ].toArray}=Qm at k4 g4 z4 ⊢;refine Ab (BN ?_ (by simp[sizeOk];decide));have k5:∀b o,Qm.get? b=al o->(Qm.push {cls:=.type "zip",data:=.fields #[.none,.bool false,.bool false,.ref w4.objs.size,.ref HC.objs.size]}).get? b=al o:=λb o e=>Ad _ e;have g5:(Qm.push {cls:=.type "zip",data:=.fields #[.none,.bool false,.bool false,.ref w4.objs.size,.ref HC.objs.size]}).get? Qm.objs.size=al {cls:=.type "zip",data:=.fields #[.none,.bool false,.bool false,.ref w4.objs.size,.ref HC.objs.size]}:=Al _ rfl;have e1:=z1;have e2:w4.objs.size=s.heap.objs.size+2:=by rw[z2,e1]
  have e3:HC.objs.size=s.heap.objs.size+3:=by rw[z3,e2]
  have e4:Qm.objs.size=s.heap.objs.size+4:=by rw[z4,e3]
  refine Ae ⟨.ref Qm.objs.size,rfl,?_⟩;rw[e2,e3]at g5 k5 ⊢;rw[e4]at g5 ⊢;rw[e3]at g4;rw[e1,e2]at g3;rw[e1]at g2;refine q _ ⟨g5,k5 _ _ (k4 _ _ g3),⟨_,_,k5 _ _ g4⟩,zj (k5 _ _ (k4 _ _ (k3 _ _ (k2 _ _ g1)))),zj (k5 _ _ (k4 _ _ (k3 _ _ g2)))⟩ λb o e=>k5 _ _ (k4 _ _ (k3 _ _ (k2 _ _ (k1 _ _ e))))
def HZ{b2:Bool}(h1:gq b1 s.heap a1 xs)(h2:gq b2 s.heap a2 ys)(q:∀h':lw,ik b1 b2 h' (s.heap.objs.size+4) (s.heap.objs.size+2) (s.heap.objs.size+3) s.heap.objs.size (s.heap.objs.size+1) a1 a2 .none 0 0->(∀b o,s.heap.get? b=al o->h'.get? b=al o)->Q (.ref (s.heap.objs.size+4)) {s with heap:=h'}):f8 (ii prog w) A (call (.type "zip") [.ref a1,.ref a2]) Q E s:=
 callType_new F.called_zip ⋯ (F.typeCall_zip_2 _ _) (F.newCall_zip_2 _ _) (λo=>F.args_object_init_3 o _ _) F.entry_zip_new (oO b1 b2 a1 a2 xs ys) ⟨h1,h2,λh' z k=>⟨⟨_,z.zip,rfl⟩,q h' z k⟩⟩
def IH(b:Bool)(K:Aa)(H:Hp)(a:db)(xs:O V):Prop:=match b with
 |true=>cL K H a xs
 |false=>dh K H a xs
def Inv.T9{xs:O V}(I:Inv X Z σ H s)(h:IH b X.K H a xs):∃ao:O ce,Vals xs ao/\gq b s.heap a ao.toArray/\xs.length<=sizeLine:=by
 cases b with
 |true=>obtain⟨ao,r,p,z⟩:=I.list (h);exact⟨ao,r,p.isList,z⟩
 |false=>obtain⟨ao,r,p,z⟩:=I.tuple (h);exact⟨ao,r,p,z⟩
def Inv.zi{xs ys:O V}(I:Inv X Z σ H s)(h:IH b X.K H a xs)(h':IH b X.K H a ys):xs=ys:=by
 cases b with
 |true=>
  obtain⟨ao,k,⟨o,n,h1,h2,h3,h4⟩,_⟩:=I.list (h);obtain⟨its',k',⟨o',n',fP,uP,Ow,SY⟩,_⟩:=I.list (h');rw[h1]at fP;cases fP;rw[h4]at SY;have:ao=its':=by injection SY with a b;simpa using a
  subst this;exact Vals.inj k k'
 |false=>exact I.i7 h h'
def XW(b1 b2:Bool)(K:Aa)(a1 a2:db):It where
 go:=λi H=>∃xs ys x y,IH b1 K H a1 xs/\IH b2 K H a2 ys/\xs[i]?=al x/\ys[i]?=al y
 Pg:=λi H v H'=>∃p x y,v=.ref p/\H p=bn/\H'=upd H p (.tup [x,y])/\(∀xs,IH b1 K H a1 xs->xs[i]?=al x)/\∀ys,IH b2 K H a2 ys->ys[i]?=al y
 stop:=λi H=>∃xs ys,IH b1 K H a1 xs/\IH b2 K H a2 ys/\(xs.length<=i\/ys.length<=i)
theorem GN{K:Aa}{b2:Bool}{TI TO:db}(hA:ZipApart z TI TO i1 i2 a1 a2):Turn P w K (.Tuple Ò kk pos) (XW b1 b2 K a1 a2) [z,TI,TO,i1,i2] z (λi h=>ik b1 b2 h z TI TO i1 i2 a1 a2 .none i i) where
 mem:=by simp
 obj:=λi h st b hb=>by
  simp at hb;rcases hb with rfl|rfl|rfl|rfl|rfl
  .exact⟨_,st.zip,λv z=>by cases z⟩
  .exact⟨_,st.ti,λv z=>by cases z⟩
  .obtain⟨_,_,e⟩:=st.to;exact⟨_,e,λv z=>by cases z⟩
  .exact st.Ys.obj
  .exact st.Yr.obj
 keep:=λi h h' st k=>⟨k z (by simp) _ st.zip,k TI (by simp) _ st.ti,let ⟨a,b,e⟩:=st.to;⟨a,b,k TO (by simp) _ e⟩,st.Ys.move λo e=>k i1 (by simp) _ e,st.Yr.move λo e=>k i2 (by simp) _ e⟩
 item:=by
  intro X hP hw hK hc i Z s σ H E I hf st hg;subst hP hw hK;obtain⟨xs,ys,x,y,hx,hy,gx,gy⟩:=hg;obtain⟨ao,rx,tx,_⟩:=I.T9 hx;obtain⟨bX,ry,ty,_⟩:=I.T9 hy;obtain⟨u,gu,ru⟩:=kg rx gx;obtain⟨v,gv,rv⟩:=kg ry gy;refine lF hA st tx ty (by simpa using gu) (by simpa using gv) λh' zt np k=>?_;refine⟨_,rfl,?_⟩;refine Ab (wpAny_load zt.zip ?_);show f8 _ _ (if ((["enumerate","zip","dict_itemiterator","dict_reverseitemiterator","odict_iterator","itertools.zip_longest","itertools.pairwise"].contains "zip"&&(al (re s.heap.objs.size)==al (re s.heap.objs.size)))=true) then (do rule "for.unpacks-the-owned-tuple";Op (.ref z) 0 .none) else pure ()) _ _ _;rw[if_pos (by rw[beq_self_eq_true];decide)];refine Ab (Dc ?_);refine Bc zt.zip (show 0 < 5 by decide) λh2 z2 b2=>?_;have lt:∀b∈[z,TI,TO,i1,i2],b < s.heap.objs.size:=λb hb=>by
   simp only[Az,Cv,or_false]at hb;rcases hb with rfl|rfl|rfl|rfl|rfl
   .exact Ai st.zip
   .exact Ai st.ti
   .obtain⟨_,_,e⟩:=st.to;exact Ai e
   .obtain⟨o,e,_⟩:=st.Ys.obj;exact Ai e
   .obtain⟨o,e,_⟩:=st.Yr.obj;exact Ai e
  have Wi:∀b o,b∉[z,TI,TO,i1,i2]->s.heap.get? b=al o->h2.get? b=al o:=λb o hb e=>by
   have KO:b≠z:=λq=>hb (by simp[q]);rw[b2.2 b KO];exact k b o KO (λq=>hb (by simp[q])) (λq=>hb (by simp[q])) (λq=>hb (by simp[q])) e
  refine⟨.ref s.heap.objs.size,upd H s.heap.objs.size (.tup [x,y]),I.nX hf Wi (Aj _) ⟨by show 2<=sizeLine;decide,[u,v],.cons ru (.cons rv .nil),⟨_,((b2.2 _ (λe=>AM _ (by have:=lt z (by simp);rw[<- e]at this;exact this))).trans np),rfl,_,rfl⟩,_,((b2.2 _ (λe=>AM _ (by have:=lt z (by simp);rw[<- e]at this;exact this))).trans np),rfl⟩,rfl,⟨_,x,y,rfl,(I.aK.fresh (Aj s.heap.objs.size)),rfl,λxs' h'=>?_,λys' h'=>?_⟩,⟨z2,(b2.2 _ hA.TIz).trans zt.ti,let ⟨p,q,e⟩:=zt.to;⟨p,q,(b2.2 _ hA.TOz).trans e⟩,zt.Ys.move λo e=>(b2.2 _ hA.i1z).trans e,zt.Yr.move λo e=>(b2.2 _ hA.i2z).trans e⟩,λb hb=>?_⟩
  .rw[I.zi h' hx];exact gx
  .rw[I.zi h' hy];exact gy
  .rw[af (AB (lt b hb))];exact(hf b hb).1
 done:=by
  intro X hP hw hK hc i Z s σ H E I hf st hg;subst hP hw hK;obtain⟨xs,ys,hx,hy,hl⟩:=hg;obtain⟨ao,rx,tx,_⟩:=I.T9 hx;obtain⟨bX,ry,ty,_⟩:=I.T9 hy;have el:=rx.length;have el2:=ry.length;refine mR (I.ok.hd hc) hA st tx ty ?_ λh' k=>⟨rfl,I.rX (t':=s.toks) hf λb o hb e=>k b o (λz=>hb (by simp[z])) (λz=>hb (by simp[z])) (λz=>hb (by simp[z])) (λz=>hb (by simp[z])) e⟩;rcases hl with hl|hl
  .exact .inl (by simp;lia)
  .exact .inr (by simp;lia)
 self:=λA i s Q E st h=>wpAny_pyIter_zip st.zip h
def Ww(K:Aa)(t1 t2:TE):TI:=λσ H R=>t1 σ H λx H1=>t2 σ H1 λy H2=>∃b1 b2 a b,x=.ref a/\y=.ref b/\(∃xs,IH b1 K H2 a xs)/\(∃ys,IH b2 K H2 b ys)/\R (XW b1 b2 K a b) H2
def Nt(K:Aa)(hK:X.K=K){e2:o0}{t2:TE}(hg:Gl X "zip")(hm:X.mg "zip"=bn)(h1:PE X e1 t1)(h2:PE X e2 t2)(nJ:‹lf [e1,e2] X.env=(false,pc e1 X.env)::lf [e2] X.env›)(uM:‹dX X e2 []›)(bH:‹(IR p2 (lf [e2] X.env)).any (·.1)=false›):PI X (.Tuple Ò kk tp) (.Call (.Name "zip" p1) [e1,e2] [] p2) (Ww K t1 t2):=by
 subst hK;intro Z s σ H R I h;refine AL (gh I hg hm boot_zip ?_ ⋯ ⋯);refine Bd ?_ nJ bH;rw[nJ,uM];refine A6 (aR (h1 Z s σ H _ I h) λu1 s1 ⟨x,H1,I1,r1,q1⟩=>?_);refine A6 (aR (h2 Z s1 σ H1 _ I1 q1) λu2 s2 ⟨y,H2,I2,r2,b1,b2,a,b,ex,ey,⟨xs,hx⟩,⟨ys,hy⟩,q⟩=>BK ?_);subst ex;subst ey;cases r1;cases r2;obtain⟨ao,rx,tx,_⟩:=I2.T9 hx;obtain⟨bX,ry,ty,_⟩:=I2.T9 hy;refine HZ tx ty λh' zt k=>?_;refine wpAny_pyIter_zip zt.zip ?_;have dd:∀i j:Nat,i≠j->s2.heap.objs.size+i≠s2.heap.objs.size+j:=λi j n e=>n (Nat.add_left_cancel e);have na:∀i:Nat,a≠s2.heap.objs.size+i:=λi=>AB (Au tx.lt (Br _ _));have nb:∀i:Nat,b≠s2.heap.objs.size+i:=λi=>AB (Au ty.lt (Br _ _));have hA:ZipApart (s2.heap.objs.size+4) (s2.heap.objs.size+2) (s2.heap.objs.size+3) s2.heap.objs.size (s2.heap.objs.size+1) a b:=
  ⟨dd 2 4 ⋯,dd 3 4 ⋯,dd 0 4 ⋯,dd 1 4 ⋯,dd 2 3 ⋯,dd 2 0 ⋯,dd 2 1 ⋯,dd 3 0 ⋯,dd 3 1 ⋯,dd 0 1 ⋯,na 4,na 3,na 0,na 1,nb 4,nb 3,nb 0,nb 1⟩
 refine⟨_,_,_,_,H2,rfl,I2.kept k,GN hA,zt,λc hc=>?_,q⟩;have Ó:s2.heap.objs.size<=c:=by
  simp at hc;rcases hc with rfl|rfl|rfl|rfl|rfl
  .exact Br _ _
  .exact Br _ _
  .exact Br _ _
  .exact Aj _
  .exact Br _ _
 exact I2.yx Ó (I2.aK.fresh Ó)
def VC(K:Aa):R2:=λx y H Q=>∃a b xs ys,x=.ref a/\y=.ref b/\dh K H a xs/\dh K H b ys/\xs.length+ys.length<=sizeLine/\
 (xs=[]->Q (.ref b) H)/\(xs≠[]->ys=[]->Q (.ref a) H)/\(xs≠[]->ys≠[]->jV H (.tup (xs++ys)) Q)
def NH(K:Aa)(hK:X.K=K):fy X (ww .Add) (VC K):=by
 subst hK;intro Z s σ H x y v u Q I rx ry h;obtain⟨a,b,xs,ys,rfl,rfl,ha,hb,hz,q0,q1,q2⟩:=h;by_cases c:xs=[]
 .cases rx;cases ry;obtain⟨ao,r1,p1,_⟩:=I.tuple ha;obtain⟨bX,r2,p2,_⟩:=I.tuple hb;obtain⟨⟨cls,dd,data,sl⟩,ho,hc,n,hd⟩:=id p1;obtain⟨⟨Xy,Xu,data2,Ua⟩,Mn,Us,n2,ß⟩:=id p2;subst hc hd Us ß;exact concat_meets ⟨_,ho,rfl⟩ ⟨_,Mn,rfl⟩ noFill_tuple_add seq_tuple_add Dm De (C4 _ _)
   (tuple_addW0 a b ao.toArray bX.toArray n n2 dd Xu sl Ua (by rw[r1.gU.mpr c];rfl)) ⟨ho,Mn,.ref b,H,I,rfl,q0 c⟩
 .exact zJ Z s σ H _ _ v u Q I rx ry ⟨a,b,xs,ys,rfl,rfl,ha,hb,c,hz,q1 c,λn p hp=>(q2 c n).at p hp⟩
end L2
variable{a:BL}
namespace FL
section
variable[bj]
variable{K:Aa}
section
variable{b:o0}
def addW:PV->PV->W PV
 |.int i,.int j=>.ret (.int (i+j))
 |.str a,.str b=>.d9 (a.length+b.length<=sizeLine) (.ret (.str (a++b)))
 |.tup a,.tup b=>.d9 (a.length+b.length<=sizeLine) (.ret (.tup (a++b)))
 |_,_=>.fail
def cm(hK:X.K=K)(ha:EF X K fs a wa f1)(hb:EF X K f1 b wb f2):EF X K fs (.BinOp a .Add b pos) (.bind wa λx=>.bind wb λy=>addW x y) f2:=
 ⟨PE.imp (oz ((zK K hK).or (NH K hK)) ha.p hb.p) λσ H Q ⟨sr,q⟩=>⟨sr,wa.mono (λx q1 u1 H1 g1 s1 v1=>⟨s1,wb.mono (λy q2 u2 H2 g2 s2 v2=>by
  have Zg:=g2.vr s1 v1;cases Zg with
  |int i=>
   cases v2 with
   |int j=>exact .inl ⟨_,rfl,q2 _ H2 (g1.trans g2) s2 (.int _)⟩
   |_=>exact q2.elim
  |str i=>
   cases v2 with
   |str j=>exact .inl ⟨_,rfl,q2.1,q2.2 _ H2 (g1.trans g2) s2 (.str _)⟩
   |_=>exact q2.elim
  | @tup p vs l e r=>
   cases v2 with
   | @tup p' GL l' e' r'=>
    refine .inr ⟨p,p',vs,GL,rfl,rfl,dh.of e,dh.of e',by rw[r.length,r'.length];exact q2.1,λz=>?_,λ_ z=>?_,λ_ _ q H3 s3 h3 n3=>?_⟩
    .have z':=(PL.aD.gU r).mp z;subst z';exact q2.2 _ H2 (g1.trans g2) s2 (.tup e' r')
    .have z':=(PL.aD.gU r').mp z;subst z';have q2:=q2.2;rw[A3]at q2;exact q2 _ H2 (g1.trans g2) s2 (.tup e r)
    .exact q2.2 _ H3 ((g1.trans g2).trans (cf.same s3)) (s2.same s3) (.tup h3 (aD.tk s3.dM (r.append r')))
   |_=>exact q2.elim
  |_=>exact q2.elim) q1⟩) q⟩⟩
theorem gK:∀(l m:O PV),(jy l m).length=min l.length m.length
 |[],m=>by rw[jy];simp;intros;simp_all
 |x::l,[]=>by rw[jy];simp;intros;simp_all
 |x::l,y::m=>by rw[jy,Ap,gK l m];simp only[Ap];lia
def rQ(l m:O PV):W (O PV):=.d9 (l.length<=sizeLine) (.ret (jy l m))
def Pz(h:TU K H u l):∃(b:Bool) (a:db) (vs:O V),u=.ref a/\aD K [] H vs l/\∀H',aW K H H'->IH b K H' a vs:=by
 obtain⟨a,vs,e,h|h,r⟩:=h
 .exact⟨true,a,vs,e,r,λH' t=>(t.f _ _ h).sq⟩
 .exact⟨false,a,vs,e,r,λH' t=>dh.of (t.t _ _ h)⟩
theorem tw(hK:X.K=K)(hg:Gl X "zip")(hm:X.mg "zip"=bn)(ha:IF X K fs a wl)(hb:IF X K fs b wm)(nJ:‹lf [a,b] X.env=(false,pc a X.env)::lf [b] X.env›)(uM:‹dX X b []›)(bH:‹(IR p2 (lf [b] X.env)).any (·.1)=false›):nh X K fs (.Tuple Ò kk tp) (.Call (.Name "zip" p1) [a,b] [] p2) (.bind wl λl=>.bind wm λm=>rQ l m):=
 ⟨PI.imp (Nt K hK hg hm ha.p hb.p nJ uM bH) λσ H R ⟨sr,q⟩=>⟨sr,wl.mono (λl q1 u1 H1 g1 s1 v1=>⟨s1,wm.mono (λm q2 u2 H2 g2 s2 v2=>by
  obtain⟨b1,a1,vs,rfl,r1,x1⟩:=Pz (v1.tk (g2.bN s1));obtain⟨b2,a2,ws,rfl,r2,x2⟩:=Pz v2;have tr:aW K H2 H2:=aW.refl H2;refine⟨b1,b2,a1,a2,rfl,rfl,⟨vs,x1 H2 tr⟩,⟨ws,x2 H2 tr⟩,q2.2 _ H2 (g1.trans g2) s2 ⟨by rw[gK];have:=q2.1;lia,λH' t=>⟨λi pp hp=>?_,vs,ws,x1 H' t,x2 H' t,?_⟩⟩⟩
  .obtain⟨x,y,hx,hy,rfl⟩:=ke hp;obtain⟨v,h3,h4⟩:=(aD.tk t r1).get hx;obtain⟨v',Ow,SY⟩:=(aD.tk t r2).get hy;refine⟨⟨vs,ws,v,v',x1 H' t,x2 H' t,h3,Ow⟩,λz H3 yl=>?_⟩;obtain⟨p,x',y',rfl,hn,rfl,e1,e2⟩:=yl;have e1:=e1 vs (x1 H' t);have e2:=e2 ws (x2 H' t);rw[h3]at e1;rw[Ow]at e2;cases e1;cases e2;have sm:=gw hn (.tup [v,v']);exact⟨sm,.tup aw (.cons (VR.tk sm.dM h4) (.cons (VR.tk sm.dM SY) .nil))⟩
  .rw[gK,r1.length,r2.length];lia) q1⟩) q⟩⟩
end
end
end FL
namespace L2
def Hj:O Int->Int
 |[]=>0
 |x::l=>l.foldl max x
theorem tP(l:O Int)(x:Int):x<=l.foldl max x/\(∀y∈l,y<=l.foldl max x)/\(l.foldl max x=x\/l.foldl max x∈l):=by
 induction l generalizing x with
 |nil=>exact⟨Gh _,by simp,.inl rfl⟩
 |cons y l ih=>
  obtain⟨h1,h2,h3⟩:=ih (max x y);refine⟨by rw[C8];lia,λz hz=>?_,?_⟩
  .rw[C8];rcases Az.mp hz with rfl|hz
   .omega
   .exact h2 z hz
  .rw[C8];rcases h3 with h3|h3
   .rw[h3];by_cases c:x<=y
    .right;rw[Int.max_eq_right c];exact .head _
    .left;lia
   .exact .inr (.tail _ h3)
def N8{l:O Int}{x:Int}(h:x∈l):x<=Hj l:=by
 cases l with
 |nil=>cases h
 |cons y l=>
  rcases Az.mp h with rfl|h
  .exact(tP l _).1
  .exact(tP l y).2.1 x h
def Kk{l:O Int}(h:l≠[]):Hj l∈l:=by
 cases l with
 |nil=>exact absurd rfl h
 |cons y l=>
  rcases (tP l y).2.2 with e|e
  .show l.foldl max y∈_;rw[e];exact .head _
  .exact .tail _ e
def Jx(K:Aa)(C:O Int->Prop)(g:O Int->Int):O V->Hp->VK->Prop:=λxs H Q=>∃(p:db) (ns:O Int),xs=[.ref p]/\cL K H p (ns.map V.int)/\C ns/\Q (.int (g ns)) H
section
theorem Hh{l:db}{vs:O ce}(hh:A.handled=bn)(hl:s.heap.IsList l vs.toArray)(hi:SC vs ns)(IB:ns≠[])(h:∀(h':lw) (t:Tok) tk,(∀b o,s.heap.get? b=al o->h'.get? b=al o)->Q (.int (Hj ns) t) {s with heap:=h',toks:=tk}):f8 (ii prog w) A (call (.builtin "max") [.ref l]) Q E s:=by
 obtain⟨xs,e⟩:=hi.allInts.items;have Mo:ns=xs.toList.map (·.1):=by rw[<- hi.numsOf,<- nums_intItems,<- e]
 have hsz:0<xs.size:=by
  have h3:=Ca.mpr IB;rw[Mo,Am,D9]at h3;exact h3
 rw[e]at hl;refine max_intList hh hl hsz λv h' tk hv hk=>?_;obtain⟨t,rfl⟩:=intItems_at hv;obtain⟨h1,h2⟩:=argBest_gt (numAt xs) (xs.size-1);have e1:numAt xs (argBest (λi j=>decide (numAt xs i > numAt xs j)) (xs.size-1))=Hj ns:=by
  apply Int.le_antisymm
  .refine N8 ?_;rw[Mo,numAt_eq];exact getD_mem (by rw[Am,D9];lia)
  .have hm:=Kk IB;rw[Mo]at hm;obtain⟨j,hj,ej⟩:=mem_getD hm;rw[Am,D9]at hj;rw[<- Mo]at ej;rw[<- ej,Mo,<- numAt_eq];exact h2 j ∅
 rw[e1];exact h h' t tk hk
end
def Ig{b:String}{C:O Int->Prop}{g:O Int->Int}(K:Aa)(hK:X.K=K)(hc:X.calm=true)(Ù:∀{s:gl}{l:db}{vs:O ce}{ns:O Int}{Q:ce->gl->Prop},X.A.handled=bn->s.heap.IsList l vs.toArray->SC vs ns->C ns->(∀(h':lw) (t:Tok) tk,(∀b o,s.heap.get? b=al o->h'.get? b=al o)->Q (.int (g ns) t) {s with heap:=h',toks:=tk})->f8 (ii X.prog X.w) X.A (call (.builtin b) [.ref l]) Q X.xe s):bz X (.builtin b) (Jx K C g):=by
 subst hK;intro Z s σ H xs us Q I r h;obtain⟨p,ns,rfl,hq,hC,q⟩:=h;obtain⟨u,rfl,rx⟩:=vals1 r;cases rx;obtain⟨ao,r',pl,hz⟩:=I.list hq;exact Ù (I.ok.hd hc) pl.isList (intsAre_of r') hC λh' t tk hk=>⟨.int _,H,I.kept hk,⟨t,rfl⟩,q⟩
def dZ(ns:O Int):Nat:=(firstMet (λi=>ns.getD i 0) ns.length).length
theorem range_getD(ns:O Int):(AN ns.length).map (λi=>ns.getD i 0)=ns:=by
 refine CM λi=>?_;rw[An];by_cases h:i<ns.length
 .rw[Af (by simpa using h),List.getElem_range,Af h];show al (ns.getD i 0)=_;rw[AQ,Af h];rfl
 .rw[A2 (by simpa using h),A2 ∅];rfl
theorem LL{K:Type}[DecidableEq K](l:O K):∀acc:O K,(l.foldl step_dedup acc).length=acc.length+l.length↔l.Nodup/\∀x∈l,x∉acc:=by
 induction l with
 |nil=>intro acc;simp
 |cons x l ih=>
  intro acc;rw[C8];have Ó:=foldl_step_dedup_length_le (step_dedup acc x) l;unfold step_dedup at Ó ⊢;by_cases c:acc.any (·==x)=true
  .rw[if_pos c]at Ó ⊢;have hx:x∈acc:=by
    obtain⟨y,hy,e⟩:=List.any_eq_true.mp c;have:y=x:=by simpa using e
    exact this▸hy
   constructor
   .intro h;rw[Ap]at h;lia
   .intro h;exact absurd hx (h.2 x (.head _))
  .rw[if_neg c]at Ó ⊢;have hx:x∉acc:=λz=>c (List.any_eq_true.mpr ⟨x,z,by simp⟩);have:=ih (acc++[x]);rw[Ah,DA]at this;have e:acc.length+(x::l).length=acc.length+1+l.length:=by rw[Ap];lia
   rw[e,show(l.foldl (λσ k=>if σ.any (·==k) then σ else σ++[k]) (acc++[x])).length=(l.foldl step_dedup (acc++[x])).length from rfl,this,CG]
   constructor
   .rintro⟨h1,h2⟩;refine⟨⟨λz=>h2 x z (by simp),h1⟩,λy hy=>?_⟩;rcases Az.mp hy with rfl|hy
    .exact hx
    .exact λz=>h2 y hy (by simp[z])
   .rintro⟨⟨h0,h1⟩,h2⟩;refine⟨h1,λy hy z=>?_⟩;rcases C7.mp z with z|z
    .exact h2 y (.tail _ hy) z
    .have:y=x:=by simpa using z
     exact h0 (this▸hy)
def i9(ns:O Int):dZ ns=ns.length↔ns.Nodup:=by
 unfold dZ firstMet;rw[range_getD];have:=LL ns [];simp at this;exact this
section
variable{b:o0}{ta:TA}
def MV(K:Aa)(ta:TA):TE:=λσ H Q=>ta σ H λvs H1=>∃(q:db) (ns:O Int),vs=[.ref q]/\cL K H1 q (ns.map V.int)/\ns.length+1<scanBound/\Q (.int (dZ ns)) H1
theorem G8(K:Aa)(hK:X.K=K)(hc:X.calm=true)(SQ:Gl X "len")(SM:X.mg "len"=bn)(SO:Gl X "set")(SK:X.mg "set"=bn)(ha:PA X [e] ta)(Yx:‹lf [.Call (.Name "set" p1) [e] [] p2] X.env=(false,pc (.Call (.Name "set" p1) [e] [] p2) X.env)::lf [] X.env›)(hs:‹dX X e []›)(bH:‹fD X p2 []›):PE X (.Call (.Name "len" p) [.Call (.Name "set" p1) [e] [] p2] [] pos) (MV K ta):=by
 subst hK;intro Z s σ H Q I h;refine AL (gh I SQ SM boot_len ?_ ⋯ ⋯);refine DC ?_ Yx rfl;refine A6 ?_;refine Call_ (gh I SO SK (show tz "set"=al (.type "set") by rfl) (Bd (aR (ha p2 Z s σ H _ I h) λus s1 ⟨vs,H1,I1,r1,q1⟩=>?_) hs bH));obtain⟨l,ns,rfl,hq,hb,q⟩:=q1;obtain⟨u,rfl,rx⟩:=vals1 r1;cases rx;obtain⟨ao,r',pl,hz⟩:=I1.list hq;have hi:=intsAre_of r';have Â:ao.length=ns.length:=by rw[<- r'.length,Am]
 refine PySem.call_set_list (I1.ok.hd hc) pl.isList (by simpa using hi) (by rw[Ag,Â];exact hb) λh' tk hS hk=>?_;have hsz:ao.toArray.size=ns.length:=by rw[Ag,Â]
 rw[hsz]at hS;refine BK ?_;obtain⟨o,es,ep,t,ho,õ,hd,_,_,SI,hf,hn⟩:=hS;have h4:=SI;refine call_len_set ho õ hd hf (by unfold scanBound at h4;lia) ?_;rw[hn];exact⟨.int _,H1,(I1.kept λb o e=>hk b o (Ai e) e).tok _,⟨_,rfl⟩,q⟩
end
end L2
namespace FL
section
variable[bj]
variable{K:Aa}
section
open Classical in
noncomputable def HQ(K:Aa)(H:Hp)(x:PV)(w:ce):Bool:=decide (∃p v,RelV v w/\VR K [] H v p/\jn p x=true)
open Classical in
def Lq(hK:X.K=K)(I:Inv X Z σ H s){x p:PV}{v:V}{w:ce}(r:RelV v w)(h:VR K [] H v p):HQ K H x w=jn p x:=by
 subst hK;cases e:jn p x with
 |true=>exact decide_eq_true ⟨p,v,r,h,e⟩
 |false=>
  refine decide_eq_false ?_;rintro⟨p',v',r',h',e'⟩;have:=Js r r';subst this;rw[VR.ID I h h',e']at e;cases e
theorem tU(hK:X.K=K)(I:Inv X Z σ H s){x:PV}:∀{vs:O V}{ao:O ce}{l:O PV},Vals vs ao->aD K [] H vs l->ao.map (HQ K H x)=l.map λy=>jn y x
 |_,_,_,.nil,.nil=>rfl
 |_,_,_,.cons r t,.cons q z=>by rw[AY,AY,Lq hK I r q,tU hK I t z]
def SD(x:PV)(l:O PV):Prop:=PV.ez x=true/\dz l=true/\dc l<=150
theorem pG(hK:X.K=K)(I:Inv X Z σ H s){x:PV}{v:V}{w:ce}(hx:VR K [] H v x)(rx:RelV v w)(dx:PV.ez x=true)(hu:A.units+150+1<FM):∀{vs:O V}{ao:O ce}{l:O PV},Vals vs ao->aD K [] H vs l->dz l=true->dc l<=150->∀u∈ao,Ej A s u w (HQ K H x u)
 |_,_,_,.nil,.nil,_,_,u,hu=>by cases hu
 |_,_,_,.cons r t,.cons q z,d,dd,u,hm=>by
  rw[dz,AA]at d;rw[dc]at dd;rcases Az.mp hm with rfl|hm
  .rw[Lq hK I r q];exact(Tt hK I 150 _ x A _ v _ w ∅ d.1 dx q hx r rx hu).eq
  .exact pG hK I hx rx dx hu t z d.2 ∅ u hm
end
def vJ(x:PV)(l:O PV):Bool:=l.any λy=>jn y x
def Ru(K:Aa)(neg:Bool):R2:=λx y H Q=>∃p vs l xp,y=.ref p/\(cL K H p vs\/dh K H p vs)/\aD K [] H vs l/\VR K [] H x xp/\SD xp l/\Q (.bl (if neg then !vJ xp l else vJ xp l)) H
section
theorem any_map'(f:α->Bool):∀l:List α,l.any f=(l.map f).any id
 |[]=>rfl
 |x::l=>by rw[Cq,AY,Cq,any_map' f l];rfl
theorem ZS(K:Aa)(hK:X.K=K)(hu:X.A.units+200<FM):fy X (r6 .In) (Ru K false):=by
 intro Z s σ H x y v u Q I rx ry h;obtain⟨p,vs,l,xp,rfl,hq,hl,hx,ok,q⟩:=h;cases ry;have WC:X.A.in1.units+150+1<FM:=by show X.A.units+1+150+1<_;lia
 have fin:∀{ao:O ce},Vals vs ao->ao.toArray.any (HQ K H xp)=vJ xp l:=λ{ao} r=>by
  rw[show ao.toArray.any (HQ K H xp)=ao.any (HQ K H xp) by simp,any_map',tU hK I r hl,<- any_map'];rfl
 rcases hq with hq|hq
 .obtain⟨ao,r,pl,hz⟩:=I.list (show cL X.K H p vs by rw[hK];exact hq);refine SeqAt.in_listAt (HQ K H xp) pl.isList (λw hw=>pG hK I hx rx ok.1 WC r hl ok.2.1 ok.2.2 w (by simpa using hw)) ⟨.bl _,H,I,rfl,?_⟩;rw[fin r];exact q
 .obtain⟨ao,r,pl,hz⟩:=I.tuple (show dh X.K H p vs by rw[hK];exact hq);refine SeqAt.in_tupleAt (HQ K H xp) pl (λw hw=>pG hK I hx rx ok.1 WC r hl ok.2.1 ok.2.2 w (by simpa using hw)) ⟨.bl _,H,I,rfl,?_⟩;rw[fin r];exact q
theorem ND(K:Aa)(hK:X.K=K)(hu:X.A.units+200<FM):fy X (r6 .NotIn) (Ru K true):=by
 intro Z s σ H x y v u Q I rx ry h;obtain⟨p,vs,l,xp,rfl,hq,hl,hx,ok,q⟩:=h;cases ry;have WC:X.A.in1.units+150+1<FM:=by show X.A.units+1+150+1<_;lia
 have fin:∀{ao:O ce},Vals vs ao->ao.toArray.any (HQ K H xp)=vJ xp l:=λ{ao} r=>by
  rw[show ao.toArray.any (HQ K H xp)=ao.any (HQ K H xp) by simp,any_map',tU hK I r hl,<- any_map'];rfl
 rcases hq with hq|hq
 .obtain⟨ao,r,pl,hz⟩:=I.list (show cL X.K H p vs by rw[hK];exact hq);refine SeqAt.notIn_listAt (HQ K H xp) pl.isList (λw hw=>pG hK I hx rx ok.1 WC r hl ok.2.1 ok.2.2 w (by simpa using hw)) ⟨.bl _,H,I,rfl,?_⟩;rw[fin r];exact q
 .obtain⟨ao,r,pl,hz⟩:=I.tuple (show dh X.K H p vs by rw[hK];exact hq);refine SeqAt.notIn_tupleAt (HQ K H xp) pl (λw hw=>pG hK I hx rx ok.1 WC r hl ok.2.1 ok.2.2 w (by simpa using hw)) ⟨.bl _,H,I,rfl,?_⟩;rw[fin r];exact q
end
end
section
variable[bj]
variable{K:Aa}
section
variable{b c:o0}
def KL(neg:Bool)(x:PV)(l:O PV):W Bool:=.d9 (SD x l) (.ret (if neg then !vJ x l else vJ x l))
def S6:∀σ H Q,fT K fs (.bind wa λx=>.bind wl λl=>KL neg x l) fs σ H Q->Q1 (Ru K neg) (fE K fs wa) (fQ K fs wl) σ H λx H'=>∃k,x=.bl k/\Q k H':=λσ H Q ⟨sr,q⟩=>
 ⟨sr,wa.mono (λx q1 u1 H1 g1 s1 v1=>⟨s1,wl.mono (λl q2 u2 H2 g2 s2 v2=>by
  obtain⟨ad,vs,rfl,h,rs⟩:=v2.sq s2;exact⟨ad,vs,l,x,rfl,h,rs,g2.vr s1 v1,q2.1,_,rfl,q2.2 H2 (g1.trans g2) s2⟩) q1⟩) q⟩
def Jc(hK:X.K=K)(hu:X.A.units+200<FM)(ha:EF X K fs a wa)(hb:QF X K fs b wl)(hk:‹wf .NotIn b=false›):TF X K fs (.Compare a [.NotIn] [b] pos) (.bind wa λx=>.bind wl λl=>KL true x l):=⟨PT.imp (ja (ND K hK hu) ha.p hb.p hk) (S6)⟩
abbrev Wt(neg:Bool)(wa:W PV)(wl:W (O PV)):W Bool:=.bind wa λx=>.bind wl λl=>KL neg x l
def vq(l:O PV):W PV:=.bind (mF l) λns=>.d9 (ns≠[]) (.ret (.int (Hj ns)))
def gP(l:O PV):W PV:=.bind (mF l) λns=>.d9 (ns.length+1<scanBound) (.ret (.int (dZ ns)))
def Hz{C:O Int->Prop}{g:O Int->Int}{f:O PV->W PV}(hf:∀{l:O PV}{Q:PV->Prop},(f l).run Q->∃ns:O Int,l=ns.map PV.int/\C ns/\Q (.int (g ns))):∀σ H Q,fE K fs (.bind wl f) fs σ H Q->Zw (Jx K C g) (Pu (fQL K fs wl) U0) σ H Q:=λσ H Q ⟨sr,q⟩=>⟨sr,wl.mono (λl q1 u1 H1 g1 s1 _ v1=>by
 obtain⟨ns,el,hC,q2⟩:=hf q1;obtain⟨a,vs,rfl,h1,r1⟩:=v1 _ H1 .refl s1;rw[el]at r1;have:=jg r1;subst this;exact⟨a,ns,rfl,h1,hC,q2 _ H1 g1 s1 (.int _)⟩) q⟩
def Hi{Q:PV->Prop}(h:(vq l).run Q):∃ns:O Int,l=ns.map PV.int/\ns≠[]/\Q (.int (Hj ns)):=let ⟨ns,e,q⟩:=jh h;⟨ns,e,q.1,q.2⟩
def Th(hK:X.K=K)(hc:X.calm=true)(hg:Gl X "max")(hm:X.mg "max"=bn)(ha:Im X K fs e wl)(he:‹dX X e []›)(bH:‹fD X pos []›):EF X K fs (.Call (.Name "max" p) [e] [] pos) (.bind wl vq):=⟨PE.imp (bo (Ig K hK hc λa b c d q=>Hh a b c d q) hg hm boot_max (ah ha.p aA he) ⋯ ⋯ he bH) (Hz Hi)⟩
def v8(hK:X.K=K)(hc:X.calm=true)(SQ:Gl X "len")(SM:X.mg "len"=bn)(SO:Gl X "set")(SK:X.mg "set"=bn)(ha:Im X K fs e wl)(Yx:‹lf [.Call (.Name "set" p1) [e] [] p2] X.env=(false,pc (.Call (.Name "set" p1) [e] [] p2) X.env)::lf [] X.env›)(hs:‹dX X e []›)(bH:‹fD X p2 []›):EF X K fs (.Call (.Name "len" p) [.Call (.Name "set" p1) [e] [] p2] [] pos) (.bind wl gP):=⟨PE.imp (G8 K hK hc SQ SM SO SK (ah ha.p aA hs) Yx hs bH) λσ H Q ⟨sr,q⟩=>⟨sr,wl.mono (λl q1 u1 H1 g1 s1 _ v1=>by
 obtain⟨ns,el,hC,q2⟩:=jh q1;obtain⟨a,vs,rfl,h1,r1⟩:=v1 _ H1 .refl s1;rw[el]at r1;have:=jg r1;subst this;exact⟨a,ns,rfl,h1,hC,q2 _ H1 g1 s1 (.int _)⟩) q⟩⟩
end
end
section
variable[bj]
variable{K:Aa}
section
variable{rest:O sK}{T:Type}{out:T->End}{x:Bool}
def aaf(l:O PV):PV->W PV
 |.int k=>.d9 (0<=k/\k<1000) (.Ue l[k.toNat]?)
 |_=>.fail
def Vo(l:O PV)(i j:PV)(m:O PV):W (O PV):=match i,j with
 |.int a,.int c=>.d9 (0<=a/\a<=c/\c<=l.length/\l.length+m.length<=sizeLine) (.ret (l.take a.toNat++m++l.drop c.toNat))
 |_,_=>.fail
def SF.Vn(i:Nat){lo hi:o0}{k:O PV->W T}(hs:fs[i]?=al (al (.ol q0 l)))(hN:X.N[i]?=al y)(hv:qF X.env.scope y)(he:LF X K fs e wl)(hl:EF X K fs lo wa)(hh:EF X K fs hi wb)(hr:∀l',SF X K x (fs.set i (al (.ol q0 l'))) rest (k l') out)(ha:∀v,Pv (.Subscript (.Name y p) (.Slice (al lo) (al hi) bn p2) jz) X.env v=(do
   let ov <- u8 [v] (pc (.Name y p) X.env)
   let iv <- u8 [v,ov] (pc (.Slice (al lo) (al hi) bn p2) X.env)
   KF jz
   u8 [v,ov,iv] (SB ov iv v)
   release [iv,v,ov] []):=by intro _;rfl)(hd: ~~~(dn y))(cS: ~~~(qI y))(ì:‹Da [.Subscript (.Name y p) (.Slice (al lo) (al hi) bn p2) jz] e pos.line X.env=pure false›)(hw:‹Db [.Subscript (.Name y p) (.Slice (al lo) (al hi) bn p2) jz] e X.env=pure bn›)(h1:‹(KB [.Subscript (.Name y p) (.Slice (al lo) (al hi) bn p2) jz] X.env).map (·.2)=[Pv (.Subscript (.Name y p) (.Slice (al lo) (al hi) bn p2) jz) X.env]›):SF X K x fs (.Assign [.Subscript (.Name y p) (.Slice (al lo) (al hi) bn p2) jz] e pos::rest) (.bind wl λm=>.bind wa λa=>.bind wb λb=>.bind (Vo l a b m) k) out:=
 SF.step (JL he.p (JQ (cy hN hv hd cS) hl.p hh.p ha) ì hw h1) λD σ H ⟨sr,q⟩=>by
  refine⟨sr,wl.mono (λm q1 b vb H1 g1 s1 nb eb rb=>?_) q⟩;obtain⟨a,ws,e1,h1,r1⟩:=cX s1 hs;refine⟨_,e1,s1,wa.mono (λi1 q2 u2 H2 g2 s2 v2=>⟨s2,wb.mono (λj1 q3 u3 H3 g3 s3 v3=>?_) q2⟩) q1⟩;obtain⟨a',Zf,e3',Ow,Yd⟩:=cX s3 hs;rw[e1]at e3';cases e3';have US:=g3.vr s2 v2;have no:¬bL σ fs b:=sr.noOwn nb;have eb3:=(g2.trans g3).kK eb no;have rb3:=(g2.trans g3).za s1 rb;have ne:a≠b:=λz=>no ⟨i,_,a,hs,rfl,e1,.inl z.symm⟩;cases US with
  |int aa=>
   cases v3 with
   |int cc=>
    have q3:(0<=aa/\aa<=cc/\cc<=l.length/\l.length+m.length<=sizeLine)/\(k (l.take aa.toNat++m++l.drop cc.toNat)).run _:=q3;obtain⟨⟨c1,c2,c3,c4⟩,q3⟩:=q3;refine⟨a,b,Zf,vb,aa,cc,rfl,rfl,rfl,rfl,Ow,eb3,ne,c1,c2,by rw[Yd.length];exact c3,by rw[Yd.length,rb3.length];exact c4,?_⟩;have sx:jM a H3 (upd H3 a (.lst (Zf.take aa.toNat++vb++Zf.drop cc.toNat))):=λz o n hz=>by rw[af n];exact hz
    obtain⟨s4,g4⟩:=jb s3 hs e1 sx aw (((Yd.take aa.toNat).append rb3).append (Yd.drop cc.toNat));exact⟨_,k _,hr _,s4,(k _).mono (λt q4=>q4.go (((g1.trans g2).trans g3).f.trans g4) sr s4) q3⟩
   |_=>exact q3.elim
  |_=>exact q3.elim
def Rl(l:O PV)(v:PV):W (O PV):=match v with
 |.int k=>.bind (mF l) λns=>.d9 (k∈ns) (.ret ((ns.erase k).map PV.int))
 |_=>.fail
theorem SF.remove(i:Nat){k:O PV->W T}(hs:fs[i]?=al (al (.ol q0 l)))(hK:X.K=K)(hN:X.N[i]?=al y)(hv:qF X.env.scope y)(he:EF X K fs e we)(hr:∀l',SF X K x (fs.set i (al (.ol q0 l'))) rest (k l') out)(hd: ~~~(dn y))(cS: ~~~(qI y))(cD:‹sB (.Name y p) "remove" X.env (pc (.Name y p) X.env)=pc (.Name y p) X.env›)(o7:‹UH X bD [e]›)(dP:‹Pc Á bD›)(ly:‹dX X e []›)(fg:‹fD X bD []›)(mY:‹pr (.Call (.Attribute (.Name y p) "remove" Á) [e] [] bD) bn pos.line X.env=pure false›):SF X K x fs (.Expr (.Call (.Attribute (.Name y p) "remove" Á) [e] [] bD) pos::rest) (.bind we λv=>.bind (Rl l v) k) out:=
 SF.step (gR (oA K hK B6 PySem.F.slot_list_remove PySem.F.type_list_remove xM (cy hN hv hd cS) (ah he.p aA ly) cD o7 dP ly fg) mY) λD σ H ⟨sr,q⟩=>by
  obtain⟨a,ws,e1,h1,r1⟩:=cX sr hs;refine⟨_,e1,.inl ⟨rfl,_,cL.of h1⟩,sr,we.mono (λv q1 u H1 g1 s1 v1=>?_) q⟩;obtain⟨a',uI,t6,fP,wX⟩:=cX s1 hs;rw[e1]at t6;cases t6;cases v1 with
  |int kk=>
   obtain⟨ns,el,hk,q2⟩:=jh (l:=l) q1;subst el;have:=jg wX;subst this;refine⟨a,ns,kk,rfl,rfl,fP,hk,λH2 sx h2=>?_⟩;obtain⟨s2,g2⟩:=jb s1 hs e1 sx h2 (nH _ _ (ns.erase kk));exact⟨_,k _,hr _,s2,(k _).mono (λt q3=>q3.go (g1.f.trans g2) sr s2) q2⟩
  |_=>exact q1.elim
end
end
end FL
variable{vs:O (L2.Key×L2.V)}{ay:O (L2.Key×PL.PV)}{q:L2.Key×PL.PV}
namespace FL
section
variable[bj]
variable{K:Aa}
abbrev w2(f:PV->PV->W PV)(wa wb:W PV):W PV:=.bind wa λx=>.bind wb λy=>f x y
def X8(K:Aa)(us:O V)(qs:O PV)(fz:O (db×Obj))(sp:Sp):Sp:=λvs H Q E=>aD K [] H us qs/\mN H fz/\sp vs H Q E
structure T5(P:sw)(w:wE)(K:Aa)(mg:Str->Option ce)(base:lw)(f:db)(us:List V)(qs:List PV)(fz:List (db×Obj))(k:Nat)(ps:List Str)(sp:Sp) where
 fd:wp
 ok:aY P w K mg base ip k f fd ps (X8 K us qs fz sp)
 bi:Binds K fd ps []
 kp:∀h:lw,K.In h->(∀b o,base.get? b=al o->h.get? b=al o)->(∀p∈fz,h.get? p.1=al p.2)->Di f h
section
variable{x:Str}{R:Type}{B:(O PV->W R)->W R}{us:O V}
def abu(hg:Gl X x)(hm:X.mg x=al (.ref fa))(hr:AF X K fs es ks B)(hd: ~~~(dn x))(ly:‹lf (.Name x pos::es) X.env=(false,pc (.Name x pos) X.env)::lf es X.env›):AF X K fs (.Name x pos::es) (.f fa [] [] []::ks) B:=by
 obtain⟨wr,hp,hB⟩:=hr.p;exact⟨wr,PA.imp (ah (dD (v:=.ref fa) hg hm rfl hd) hp ly) λσ H Q ⟨sr,q⟩=>⟨sr,wr.mono (λl q2 vs H2 g2 s2 v2=>q2 _ H2 g2 s2 (.f .nil .nil v2)) q⟩,hB⟩
def OQ{m:O PV->W PV}{B:(O PV->W PV)->W PV}(i:Nat)(G:T5 X.prog X.w X.K X.mg X.base fa us qs fz k ps (mn K ks m))(hK:X.K=K)(hr:bf k' X.A)(hk:k<=k')(hs:fs[i]?=al (al (.adr fa us qs fz)))(ha:AF X K fs (e::es) ks B)(hW:W'=B m)(hN:‹X.N[i]?=al x›)(hv:qF X.env.scope x:=by first|exact Bs rfl|exact Bw (Bs rfl)|exact Bw (Bw rfl))(hd: ~~~(dn x))(cS: ~~~(qI x))(he:‹dX X e es›)(bH:‹fD X pos es›):EF X K fs (.Call (.Name x p) (e::es) [] pos) W':=by
 subst hW hK;obtain⟨w,hp,hB⟩:=ha.p;rw[hB];refine⟨λZ s σ H Q I ⟨sr,q⟩=>?_⟩;obtain⟨u,e1,r⟩:=sr.at' i _ hs;rcases r with⟨v,e,_⟩|⟨a,e,r⟩
 .cases e
 obtain⟨rfl,rv,rz⟩:a=fa/\aD X.K [] H us qs/\mN H fz:=r;subst e;refine AL (aR (cy hN hv hd cS Z s σ H (λy H1=>y=.ref a/\H1=H) I ⟨_,e1,rfl,rfl⟩) λv s1 ⟨y,H1,I1,r1,ey,eH⟩=>?_);subst ey;subst eH;cases r1;have kz:∀{σ':L2.St}{H':Hp}{s':gl},Inv X Z σ' H' s'->mN H' fz->Di a s'.heap:=λJ z=>G.kp _ J.ek J.bk λp hp=>let ⟨u,e⟩:=z p hp;(J.aK _ _ e).1;refine Eh (kz I1 rz) (aR (hp pos Z s1 σ H1 (λvs H2=>mN H2 fz/\X8 X.K us qs fz (mn X.K ks m) (vs++[]) H2 Q E0) I1 ⟨sr,w.mono (λl q1 vs H1' g1 Uc v1=>?_) q⟩) λZh s2 ⟨vs,H2,I2,r,z2,q2⟩=>⟨kz I2 z2,oj G.ok (hr.mono hk) G.bi .nil mq I2 r q2⟩) he bH;have z1:=rz.tk (g1.bN sr);show mN H1' fz/\X8 X.K us qs fz (mn X.K ks m) (vs++[]) H1' Q E0;rw[A3];exact⟨z1,aD.tk (g1.bN sr) rv,z1,Uc.tb,0,l,v1.c,(m l).mono (λz q2 u H2 g2 r2=>let ⟨s2,g3⟩:=g2.caller v1 Uc;q2 u H2 (g1.trans g3) s2 r2) q1⟩
end
def xY:PV->W Key
 |.int i=>.ret (.inl i)
 |.str s=>.ret (.inr s)
 |_=>.fail
def mZ(ay:O (Key×PV))(k:Key):Bool:=ay.any λkv=>decide (kv.1=k)
def xv(ay:O (Key×PV))(k:Key)(v:PV):O (Key×PV):=if mZ ay k=true then ay.map (λkv=>if kv.1=k then (kv.1,v) else kv) else ay++[(k,v)]
def di(K:Aa)(H:Hp)(vs:O (Key×V))(ay:O (Key×PV)):Prop:=vs.map (·.1)=ay.map (·.1)/\aD K [] H (vs.map (·.2)) (ay.map (·.2))
section
def di.cons_inv{p:Key×V}(h:di K H (p::vs) (q::ay)):p.1=q.1/\VR K [] H p.2 q.2/\di K H vs ay:=by
 obtain⟨h1,h2⟩:=h;injection h1 with a b;cases h2 with
 |cons r t=>exact⟨a,r,b,t⟩
def di.mk{p:Key×V}(e:p.1=q.1)(r:VR K [] H p.2 q.2)(h:di K H vs ay):di K H (p::vs) (q::ay):=⟨by rw[AY,AY,e,h.1],.cons r h.2⟩
theorem di.ind{C:O (Key×V)->O (Key×PV)->Prop}(h0:C [] [])(h1:∀p q vs ay,p.1=q.1->VR K [] H p.2 q.2->di K H vs ay->C vs ay->C (p::vs) (q::ay)):∀{vs ay},di K H vs ay->C vs ay
 |[],[],_=>h0
 |[],_::_,h=>by simp[di]at h
 |_::_,[],h=>by simp[di]at h
 |p::vs,q::ay,h=>let ⟨a,b,c⟩:=h.cons_inv;h1 p q vs ay a b c (di.ind h0 h1 c)
def di.has(h:di K H vs ay)(k:Key):(mO vs k).isSome=mZ ay k:=by
 rw[<- kh];refine di.ind (C:=λvs ay=>(vs.any λkv=>decide (kv.1=k))=ay.any λkv=>decide (kv.1=k)) rfl (λp q vs ay e _ _ ih=>?_) h;rw[Cq,Cq,ih,e]
def di.put(h:di K H vs ay)(k:Key)(r:VR K [] H u v):di K H (putK vs k u) (xv ay k v):=by
 have hh:(vs.any λkv=>decide (kv.1=k))=mZ ay k:=by rw[kh];exact h.has k
 unfold putK xv;rw[hh]
 split
 .refine di.ind (C:=λvs ay=>di K H (vs.map λkv=>if kv.1=k then (kv.1,u) else kv) (ay.map λkv=>if kv.1=k then (kv.1,v) else kv)) ⟨rfl,.nil⟩ (λp q vs ay e rr _ ih=>?_) h;rw[AY,AY];by_cases c:p.1=k
  .rw[if_pos c,if_pos (e▸c)];exact di.mk e r ih
  .rw[if_neg c,if_neg (e▸c)];exact di.mk e rr ih
 .refine di.ind (C:=λvs ay=>di K H (vs++[(k,u)]) (ay++[(k,v)])) ⟨rfl,.cons r .nil⟩ (λp q vs ay e rr _ ih=>di.mk e rr ih) h
def di.length(h:di K H vs ay):vs.length=ay.length:=by
 have:=congrArg CU h.1;simpa using this
end
section
variable{ei:o0}{rest:O sK}{T:Type}{out:T->End}{x:Bool}
def sQ(sr:aH K H σ fs)(hs:fs[i]?=al (al (.od ay))):∃a vs,σ[i]?=al (al (.ref a))/\H a=al (.dK vs)/\di K H vs ay:=by
 obtain⟨u,e1,r⟩:=sr.at' i _ hs;rcases r with⟨v,e,_⟩|⟨a,e,vs,q1,q2,q3⟩
 .cases e
 .subst e;exact⟨a,vs,e1,q1,q2,q3⟩
def SF.ZH{k:W T}(hN:X.N.Nodup)(hi:X.N[i]?=al y)(hx:Loc X.env.scope y)(hr:SF X K x (fs.set i (al (.od []))) rest k out)(hs:‹pr (.Dict [] [] p2) (al (.Name y p')) pos.line X.env=pure false›)(hf:Md X y:=by first|exact .inl rfl|exact .inr rfl|assumption):SF X K x fs (.Assign [.Name y p'] (.Dict [] [] p2) pos::rest) k out:=SF.step (cV hN hi hx JW hs hf) λD σ H ⟨sr,q⟩=>λa H1 s1 e1 n1=>by
 have no:=sr.noOwn n1;have s2:=(sr.same s1).ou (t:=.od []) ⟨[],e1,rfl,.nil⟩ no i;exact⟨_,k,hr,s2,k.mono (λt q2=>q2.go (bT.ou (sr.same s1) (cf.same s1) no n1 i) sr s2) q⟩
def Qi{Q:Key->Prop}(r:VR K [] H u v)(q:(xY v).run Q):∃k,u=kV k/\Q k:=by
 cases r with
 |int i=>exact⟨.inl i,rfl,q⟩
 |str s=>exact⟨.inr s,rfl,q⟩
 |_=>exact q.elim
def Ol(i:Nat)(hs:fs[i]?=al (al (.od ay)))(hN:X.N[i]?=al y):∀σ H Q,fT K fs (.bind wa λx=>.bind (xY x) λk=>.ret (if neg then !mZ ay k else mZ ay k)) fs σ H Q->(fE K fs wa) σ H λu H1=>(QZ i) σ H1 λz H2=>∃a o,z=.ref a/\Iq H2 a u o/\(∃b,(V.bl (if neg then !o.isSome else o.isSome))=.bl b/\Q b H2):=λσ H Q ⟨sr,q⟩=>
 ⟨sr,wa.mono (λv q1 u H1 g1 s1 v1=>by
  obtain⟨k,rfl,q2⟩:=Qi v1 q1;obtain⟨a,vs,e1,h1,r1⟩:=sQ s1 hs;refine⟨_,e1,a,_,rfl,Iq.k h1,_,rfl,?_⟩;rw[r1.has k];exact q2 H1 g1 s1) q⟩
theorem UU(i:Nat)(hs:fs[i]?=al (al (.od ay)))(hu:X.A.units+200<FM)(ha:EF X K fs a wa)(hN:‹X.N[i]?=al y›)(hv:qF X.env.scope y:=by first|exact Bs rfl|exact Bw (Bs rfl)|exact Bw (Bw rfl))(hd: ~~~(dn y))(cS: ~~~(qI y))(hk:‹wf .In (.Name y p)=false›):TF X K fs (.Compare a [.In] [.Name y p] pos) (.bind wa λx=>.bind (xY x) λk=>.ret (mZ ay k)):=⟨PT.imp (Ry (RG ∅ ha.p (cy hN hv hd cS)) hk) (Ol (neg:=false) i hs hN)⟩
def Rx(ay:O (Key×PV))(n v:PV):W (O (Key×PV)):=.bind (xY n) λkk=>.d9 (ay.length<sizeLine) (.ret (xv ay kk v))
theorem SF.putD(i:Nat){k:O (Key×PV)->W T}(hs:fs[i]?=al (al (.od ay)))(hu:X.A.units+200<FM)(hN:X.N[i]?=al y)(hv:qF X.env.scope y)(he:EF X K fs e we)(hi:EF X K fs ei wi)(hr:∀l',SF X K x (fs.set i (al (.od l'))) rest (k l') out)(hd: ~~~(dn y))(cS: ~~~(qI y))(mY:‹pr e (al (.Subscript (.Name y p) ei jz)) pos.line X.env=pure false›):SF X K x fs (.Assign [.Subscript (.Name y p) ei jz] e pos::rest) (.bind we λv=>.bind wi λn=>.bind (Rx ay n v) k) out:=
 SF.step (Np ∅ (cy hN hv hd cS) hi.p he.p mY) λD σ H ⟨sr,q⟩=>by
  refine⟨sr,we.mono (λv q1 u H1 g1 s1 v1=>?_) q⟩;obtain⟨a,vs,e1,h1,r1⟩:=sQ s1 hs;refine⟨_,e1,s1,wi.mono (λn q2 u2 H2 g2 s2 v2=>?_) q1⟩;obtain⟨kk,rfl,hz,q3⟩:=Qi v2 q2;obtain⟨a',GL,t6,fP,wX⟩:=sQ s2 hs;rw[e1]at t6;cases t6;refine⟨a,_,rfl,Mh.k fP (by rw[wX.length];exact hz),?_⟩;have sx:jM a H2 (upd H2 a (.dK (putK GL kk u))):=λz o n hz=>by rw[af n];exact hz
  obtain⟨s3,g3⟩:=jU (t':=.od (xv ay kk v)) s2 hs rfl (by simp) e1 sx λtk=>⟨_,aw,(wX.put kk (g2.vr s1 v1)).1,aD.tk tk (wX.put kk (g2.vr s1 v1)).2⟩;exact⟨_,k _,hr _,s3,(k _).mono (λt q4=>q4.go ((g1.trans g2).f.trans g3) sr s3) q3⟩
end
end
section
variable[bj]
variable{K:Aa}
section
variable{st:sK}
def TK(b0:Nat)(hs:fs[b0]?=al (al t))(h:AS X K (fs.set b0 (al (.val t.bv))) st i wl f1)(hb:‹t.bw=true›):AS X K fs st i (.bind wl Ja) (f1.set b0 (al t)):=⟨λZ s σ H D I ⟨sr,q⟩=>by
 obtain⟨a,o,ob,I2,s2,ċ⟩:=bor I sr hs hb;refine aR (h.p Z s σ _ {nx:=λσ' H1=>∃b vs l',σ'=σ.set i (al (.ref b))/\cf σ (fs.set b0 (al (.val t.bv))) (upd H a (.cE ob o)) H1 f1/\aH K H1 σ f1/\upd H a (.cE ob o) b=bn/\H1 b=al (.lst vs)/\aD K [] H1 vs l'/\qD l'=true/\∀a vs H',cf σ fs H H' (f1.set b0 (al t))->aH K H' σ (f1.set b0 (al t))->H a=bn->H' a=al (.lst vs)->aD K [] H' vs l'->D.nx (σ.set i (al (.ref a))) H',rt:=D.rt,bk:=D.bk,ct:=D.ct} I2 ⟨s2,wl.mono (λl' q1 b vs H1 g1 s1 n e v1=>⟨b,vs,l',rfl,g1,s1,n,e,v1,q1.1,q1.2⟩) q⟩) λf s1 q1=>?_;cases f with
 |next=>
  obtain⟨σ',H1,I1,b,vs,l',rfl,g1,Uc,n,eb,v1,d,q1⟩:=q1;obtain⟨I3,g3,s3,t3,k3⟩:=ċ _ s1 H1 _ I1 g1 Uc;have nb:b≠a:=λy=>by subst y;rw[aw]at n;cases n
  exact⟨_,_,I3,q1 b vs _ g3 s3 (by rw[af nb]at n;exact n) (k3 b vs nb eb) (aD.kZ t3 v1 d)⟩
 |ret v=>exact q1
 |brk=>exact q1
 |cont=>exact q1⟩
end
section
variable{c:o0}{T2:Type}{wt:PV->W T2}{tf:T2->W Bool}{te:T2->W PV}
def TJ{tf:PV->W Bool}{te:PV->W PV}(hc:X.calm=true)(hN:X.N.Nodup)(tF:X.N[i]?=al y)(hx:X.env.scope.names.lookup y=al .local)(S:ba X.env.scope X.N sc N' ix)(hi:nh X K fs tg iter wl f1)(hg:∀cl C s2 H2 fp,PG (dm X sc N' cl C s2 H2 fp) tg (gG j))(hf:∀cl C s2 H2 fp t,TF (dm X sc N' cl C s2 H2 fp) K ((a8 ix f1).set j (al (.val t))) c (tf t))(he:∀cl C s2 H2 fp t,EF (dm X sc N' cl C s2 H2 fp) K ((a8 ix f1).set j (al (.val t))) Å (te t))(h0:ix[j]?=al bn)(mY:‹pr (.ListComp Å [⟨tg,iter,[c],0⟩] sc pos) (al (.Name y px)) jA.line X.env=pure true›)(hs:pV X iter:=by intro _;rfl):AS X K fs (.Assign [.Name y px] (.ListComp Å [⟨tg,iter,[c],0⟩] sc pos) jA) i (.bind wl λl=>lO l λp=>Sj (tf p) (te p)) f1:=
 have h1:(a8 ix f1)[j]?=al bn:=by unfold a8;rw[An,h0];rfl
 QG (wt:=.ret) (tf:=tf) (te:=te) hc hN tF hx S hi (λcl C s2 H2 fp=>W2 (hg cl C s2 H2 fp)) (λcl C s2 H2 fp t=>yy (hf cl C s2 H2 fp t)) he (λ_=>rfl) (Sk h1) (λm hj=>by rw[Ci]at hj;subst hj;exact h0) mY hs
end
end
section
variable[bj]
variable{K:Aa}
mutual
def PV.pd:PV->PyData
 |.br=>.none
 |.bl b=>.bool b
 |.int i=>.int i
 |.str x=>.str x
 |.tup l=>.tuple (NA l)
 |.cl l=>.list (NA l)
 |_=>.none
def NA:O PV->O PyData
 |[]=>[]
 |x::l=>PV.pd x::NA l
end
section
mutual
theorem VR.reads(I:Inv X Z σ H s):∀{v:V}{x:PV},VR X.K [] H v x->PV.ez x=true->∀{u},RelV v u->∃as,Reads s.heap u (PV.pd x) as
 |_,_,.br,_,u,r=>by cases r;rw[PV.pd];exact⟨_,.none⟩
 |_,_,.bl b,_,u,r=>by cases r;rw[PV.pd];exact⟨_,.bool b⟩
 |_,_,.int i,_,u,r=>by obtain⟨t,r⟩:=(show ∃t,u=CH i t from r);cases r;rw[PV.pd];exact⟨_,.int i t⟩
 |_,_,.str i,_,u,r=>by obtain⟨t,r⟩:=(show ∃t,u=Ga i t from r);cases r;rw[PV.pd];exact⟨_,.str i t⟩
 |_,_,.ty n,h,_,_=>by rw[PV.ez]at h;cases h
 |_,_,.dk _ _ _,h,_,_=>by rw[PV.ez]at h;cases h
 |_,_,.dt _ _ _,h,_,_=>by rw[PV.ez]at h;cases h
 |_,_,.ob _ _ _ _ _,h,_,_=>by rw[PV.ez]at h;cases h
 |_,_,.hand _,h,_,_=>by rw[PV.ez]at h;cases h
 |_,_,.ref e,h,_,_=>by simp at e
 |_,_,.tup e r,h,u,q=>by
  cases q;obtain⟨ao,rv,⟨o,h1,h2,n,h3⟩,_⟩:=I.tuple (dh.of (K:=X.K) e);obtain⟨as,ra⟩:=aD.reads I r (by rw[PV.ez]at h;exact h) rv;rw[PV.pd];exact⟨as,.tuple h1 h2 h3 (by simpa using ra)⟩
 |_,_,.cl e r,h,u,q=>by
  cases q;obtain⟨ao,rv,⟨o,n,h1,h2,_,h3⟩,_⟩:=I.list e.sq;obtain⟨as,ra⟩:=aD.reads I r (by rw[PV.ez]at h;exact h) rv;rw[PV.pd];exact⟨_,.list h1 h2 h3 (by simpa using ra)⟩
theorem aD.reads(I:Inv X Z σ H s):∀{v:O V}{x:O PV},aD X.K [] H v x->dz x=true->∀{u},Vals v u->∃as,ReadsAll s.heap u (NA x) as
 |_,_,.nil,_,u,r=>by cases r;rw[NA];exact⟨_,.nil⟩
 |_,_,.cons a t,h,u,r=>by
  rw[dz,AA]at h;cases r with
  |cons r1 r2=>
  obtain⟨as,ra⟩:=VR.reads I a h.1 r1;obtain⟨bs,rb⟩:=aD.reads I t h.2 r2;rw[NA];exact⟨_,.cons ra rb⟩
end
mutual
theorem qW:∀x:PV,(PV.pd x).hasDict=false
 |.br=>by simp[PV.pd,BG]
 |.bl _=>by simp[PV.pd,BG]
 |.int _=>by simp[PV.pd,BG]
 |.str _=>by simp[PV.pd,BG]
 |.tup l=>by rw[PV.pd,BG];exact jT l
 |.cl l=>by rw[PV.pd,BG];exact jT l
 |.ref _=>by simp[PV.pd,BG]
 |.ty _=>by simp[PV.pd,BG]
 |.dv _ _=>by simp[PV.pd,BG]
 |.ob _ _=>by simp[PV.pd,BG]
 |.hand=>by simp[PV.pd,BG]
theorem jT:∀x:O PV,EC (NA x)=false
 |[]=>by simp[NA,EC]
 |x::l=>by rw[NA,EC,qW x,jT l];rfl
end
end
def xo(x:PV):Prop:=PV.ez x=true/\(PV.pd x).showable=true/\(PV.pd x).depth<=100/\(PV.pd x).shown.length<=sizeLine
def qf(x:PV):W PV:=match x with
 |.int i=>.d9 (xo x) (.ret (.str (PV.pd x).shown))
 |.tup l=>.d9 (xo x) (.ret (.str (PV.pd x).shown))
 |.cl l=>.d9 (xo x) (.ret (.str (PV.pd x).shown))
 |_=>.fail
section
def Qj(b:Bool):PV->Prop
 |.int _=>b=true
 |.tup _=>True
 |.cl _=>True
 |_=>False
def Vv(K:Aa)(b:Bool):O V->Hp->VK->Prop:=λxs H Q=>∃v x,xs=[v]/\VR K [] H v x/\xo x/\Qj b x/\Q (.str (PV.pd x).shown) H
theorem Ia(hK:X.K=K)(hg:X.A.guards=al [])(hu:X.A.units+200 < FM):bz X (.type "str") (Vv K true):=by
 subst hK;intro Z s σ H xs us Q I r ⟨v,x,e,hv,⟨o1,o2,o3,o4⟩,hx,q⟩;subst e;obtain⟨u,rfl,ru⟩:=vals1 r;have rf:∀a,u=.ref a->f8 (ii X.prog X.w) X.A (call (.type "str") [u]) (EP X Z σ Q) X.xe s:=λa e=>by
  subst e;obtain⟨as,rd⟩:=VR.reads I hv o1 ru;exact str_of_reads rd o2 (PyData.noDict_hsm (qW x)) hg ∅ (λ_ _ e=>e) (λh' u tk hk=>⟨.str _,H,I.kept (t':=tk) hk,⟨_,rfl⟩,q⟩) o4
 cases hv with
 |int i=>
  obtain⟨t,ru⟩:=(show ∃t,u=CH i t from ru);subst ru;simp only[PV.pd,PyData.showable,decide_eq_true_iff,Ea]at o2 q;exact P.str_of_int o2 ⟨.str _,H,I.tok _,⟨_,rfl⟩,q⟩
 |tup _ _=>exact rf _ ru
 |cl _ _=>exact rf _ ru
 |_=>exact hx.elim
def Lw(hK:X.K=K)(hr:bf k X.A)(hg:Gl X "str")(hm:X.mg "str"=bn)(ha:EF X K fs a wa)(he:‹dX X a []›)(bH:‹fD X pos []›):EF X K fs (.Call (.Name "str" p) [a] [] pos) (.bind wa qf):=
 ⟨PE.imp (eK (Ia hK hr.gd (bI hr)) hg hm FS (ah ha.p aA he) ⋯ ⋯ he bH) λσ H Q ⟨sr,q⟩=>⟨sr,wa.mono (λx q1 u H1 g1 s1 v1=>by
  have h:xo x/\Qj true x/\∀u H',cf σ fs H H'->aH K H' σ fs->VR K [] H' u (.str (PV.pd x).shown)->Q u H':=by
   cases x with
   |int i=>exact⟨q1.1,(by first|rfl|trivial),q1.2⟩
   |tup l=>exact⟨q1.1,(by first|rfl|trivial),q1.2⟩
   |cl l=>exact⟨q1.1,(by first|rfl|trivial),q1.2⟩
   |_=>exact q1.elim
  exact⟨u,x,rfl,v1,h.1,h.2.1,h.2.2 _ H1 g1 s1 (.str _)⟩) q⟩⟩
end
end
end FL
namespace My
def cW(ns:O Int):Prop:=∃g s:Int,ns=[g,s]/\0<=g/\0<=s/\s<2305843009213693951
end My
namespace FL
section
variable[bj]
def drawn(m:Int):W PV:=.any λv=>∃d:Int,v=.int d/\0<=d/\d<m
def bW:PV->W PV
 |.int m=>.d9 (0<m/\m<=2000) (drawn m)
 |_=>.fail
end
end FL
namespace My
def jW(bU:PV):W (O PV):=
 []\λka=>
 am (bU\λx3=>ap [x3]) λdr=>
 am (rS (λs4=>(s4.2\λl5=>ap (!l5.isEmpty))) (λs4=>(
 am (sG s4.2) λt7=>
 t7.2\λx9=>am (um s4.1 x9) λj9=>
 c9 (jQ (am (am (ap t7.2) (da .str)) cG)) (
 am (am (ap t7.2) bB) λWh=>am (Lb t7.1 Wh) λeQ=>
 ap (j9,eQ)) (
 ap (j9,t7.1)))) (ka,dr)) λs4=>
 (s4.1\λWg=>ap Wg.reverse)
def nC(bU:PV):W PV:=
 []\λxg=>
 []\λsW=>
 am (bU\λx3=>jW x3) λZ9=>am (iW Z9 (xg,sW) λsP s4=>(
 am (am (am (ap sP) (da .str)) cG) λb=>am (if b=true then (
 sP\λQP=>am (um s4.1 QP) λzc=>
 ap (zc,s4.2)) else (
 am (sG s4.2) λZA=>
 am (sG ZA.1) λZz=>
 am (Zz.2\λQN=>ZA.2\λUO=>ap (.tup [QN,UO])) λQM=>am (um s4.1 QM) λzb=>
 ap (zb,Zz.1))) λRi=>
 am (b2 xJ (am (ap Ri.1) Ho) (ap (.int 1))) λUN=>am (um Ri.2 UN) λvv=>
 ap (Ri.1,vv))) λs4=>
 (am (ap s4.1) IZ)
def eX(bh:PV):W PV:=
 (Ma (am (ap bh) (da .int)) (am (am (ap bh) (da .bool)) R0))
def eY(bh:PV)(gD:PV):W PV:=
 (Ma (am (ap bh) (da .tup)) (b2 iI (c1 fu (ap bh)) (ap gD)))
def jd(bh:PV):W PV:=
 c9 (QU (jQ (am (am (ap bh) (da .str)) cG)) (jQ (chT oLe oLe (ap (.int 1)) (c1 fu (ap bh)) (ap (.int 8))))) (
 (ap (.bl false))) (
 (am (am (am (ap bh) xn) λl1=>cY l1 λp2=>(b2 NX (ap p2) (ap (.str "abcdefghijklmnopqrstuvwxyz")))) pP))
def gW(bh:PV)(xG:PV):W PV:=
 am (bh\λx3=>ap [x3]) λdr=>
 am (nS (λs4=>(s4.2\λl5=>ap (!l5.isEmpty))) (λs4=>(
 am (sG s4.2) λt7=>
 c9 (am (t7.2\λx8=>(.int 2)\λx9=>eY x8 x9) cG) (
 am (am (ap t7.2) bB) λWh=>am (Lb t7.1 Wh) λeQ=>
 ap (.go (s4.1,eQ))) (
 c9 (QU (jQ (am (t7.2\λQR=>jd QR) cG)) (MP (t7.2\λZe=>am (xY Ze) λk13=>ap (mZ s4.1 k13)) (jQ (am (ap xG) cG)))) (
 (.bl false)\λIM=>ap (Lp.out IM)) (
 (.bl true)\λQQ=>t7.2\λQP=>am (Rx s4.1 QP QQ) λzu=>
 ap (.go (zu,t7.1)))))) ([],dr)) (tI (λs4=>
 (ap (.bl true))) id)
def gX(bh:PV):W PV:=
 (bh\λx1=>(.bl false)\λx2=>gW x1 x2)
def dE(jl:PV)(fm:PV):W (O PV):=
 (am (am (am (ap jl) bB) λl1=>am (am (ap fm) bB) λl2=>rQ l1 l2) λl3=>lO l3 λp4=>am (Pm p4) λt5=>Sj (jQ (am (am (ap t5.1) (da .str)) cG)) (ap t5.2))
def je(jl:PV)(fm:PV)(lU:PV):W PV:=
 c9 (am (am (iy (am (ap jl) bB) (ap lU)) (da .str)) cG) (
 (b2 iI (iy (am (ap fm) bB) (ap lU)) (ap (.int 0)))) (
 am (am (am (am (iy (am (ap jl) bB) (ap lU)) bB) λl2=>cY l2 λp3=>(iy (am (ap fm) bB) (ap p3))) vq) λbelow_1=>
 (Ma (b2 oLt (ap below_1) (iy (am (ap fm) bB) (ap lU))) (XA oLe oLe (ap (.int 1)) (iy (am (ap fm) bB) (ap lU)) (ap (.int 99)))))
def aU(yn:PV)(bh:PV):W PV:=
 c9 (jQ (am (yn\λx1=>gX x1) cG)) (
 (ap (.bl false))) (
 am (yn\λx3=>nC x3) λiT=>
 c9 (QU (jQ (am (bh\λx7=>am (c1 fu (ap iT)) λx8=>eY x7 x8) cG)) (jQ (am (am (am (am (ap bh) bB) λl4=>cY l4 λp5=>(p5\λx6=>eX x6)) pP) cG))) (
 (ap (.bl false))) (
 am (iT\λMF=>bh\λQS=>dE MF QS) λn8=>
 c9 (t2 kC (am (am (ap (.cl n8)) vt) gP) (c1 fu (ap (.cl n8)))) (
 (ap (.bl false))) (
 (am (am (am (c1 fu (ap iT)) om) λl13=>cY l13 λYf=>(iT\λIM=>bh\λIL=>Yf\λQQ=>je IM IL QQ)) pP))))
def dF(dC:PV)(k_:PV):W (O PV):=
 am (c9 (am (am (ap dC) vt) λl2=>ap (!l2.isEmpty)) (iy (am (ap dC) bB) (b2 oMod (ap k_) (c1 fu (ap dC)))) (ap (.int 0))) λuf=>
 am (b2 iH (b2 oMod (c1 wJ (ap uf)) (b2 iH (b2 iH (b2 qi (ap (.int 10)) (ap (.int 60))) (b2 qi (ap (.int 10)) (ap (.int 60)))) (b2 qi (ap (.int 10)) (ap (.int 60))))) (c1 wI (b2 Yj (c1 wJ (ap uf)) (b2 qi (ap (.int 10)) (ap (.int 18)))))) λeI=>
 (eI\λx4=>am (b2 oMod (b2 iH (w2 addW (w2 addW (b2 oMod (ap uf) (ap (.int 2305843009213693921))) (b2 iH (b2 iH (ap (.int 104729)) (ap k_)) (ap k_))) (ap (.int 7))) (ap (.int 48271))) (ap (.int 2305843009213693951))) λx5=>ap [x4,x5])
def cJ(bZ:O PV)(gD:PV):W (PV×O PV):=
 c9 (t2 ZU (iy (ap bZ) (ap (.int 0))) (ap (.int 0))) (
 am (b2 oMod (iy (ap bZ) (ap (.int 0))) (ap gD)) λGv=>
 am (b2 oDiv (iy (ap bZ) (ap (.int 0))) (ap gD)) λx3=>(.int 0)\λx4=>am (uZ bZ x4 x3) λiU=>
 Gv\λx5=>ap (x5,iU)) (
 am (b2 oMod (w2 addW (b2 iH (iy (ap bZ) (ap (.int 1))) (ap (.int 6364136223846793005))) (ap (.int 1442695040888963407))) (ap (.int 2305843009213693951))) λx7=>(.int 1)\λx8=>am (uZ bZ x8 x7) λfN=>
 am (b2 oDiv (iy (ap fN) (ap (.int 1))) (ap (.int 524287))) λsU=>
 am (b2 oMod (b2 oDiv (b2 oMod (b2 iH (ap sU) (ap sU)) (ap (.int 1000000007))) (ap (.int 11))) (ap gD)) λMF=>ap (MF,fN))
def c6(gD:PV):W (O PV):=
 (.str "abcdefghijklmnopqrstuvwxyz")\λlM=>
 am ((.int 26)\λx2=>bW x2) λpB=>am (iy ((.int 1)\λx3=>(.int 3)\λx4=>(.int 5)\λx5=>(.int 7)\λx6=>(.int 9)\λx7=>(.int 11)\λx8=>ap [x3,x4,x5,x6,x7,x8]) ((.int 6)\λx9=>bW x9)) λrZ=>
 am (iy ((.str "")\λZd=>(.str "")\λQR=>(.str "ab")\λIM=>ap [Zd,QR,IM]) ((.int 3)\λIL=>bW IL)) λpN=>
 []\λph=>
 am (am (ap gD) om) λZ9=>am (iW Z9 ph λWn Rh=>(
 am (iy ((.str "")\λUQ=>(.str "a")\λUP=>(.str "zz")\λQN=>(.str "abcde")\λUO=>ap [UQ,UP,QN,UO]) ((.int 4)\λQM=>bW QM)) λLs=>
 am (w2 addW (w2 addW (ap pN) (b2 Ka (ap lM) (b2 oMod (w2 addW (ap pB) (b2 iH (ap rZ) (ap Wn))) (ap (.int 26))))) (ap Ls)) λUN=>am (um Rh UN) λvO=>
 ap vO)) λRh=>
 ap Rh
def b9(zp:PV):W PV:=
 am (am (ap zp) bB) λJp=>am ((.int 5)\λx1=>bW x1) λrY=>
 am (am (b2 xJ (c1 fu (ap zp)) (ap (.int 1))) om) λl24=>am (iW l24 Jp λUk s5=>(
 am (b2 xJ (am (ap s5) Ho) (ap (.int 2))) λvR=>
 am (iy ((.int 0)\λx9=>vR\λMF=>am (b2 oMod (ap Uk) (w2 addW (ap vR) (ap (.int 1)))) λQS=>am (am (w2 addW (ap vR) (ap (.int 1))) λZe=>bW Ze) λZd=>am (am (w2 addW (ap vR) (ap (.int 1))) λQR=>bW QR) λIM=>ap [x9,MF,QS,Zd,IM]) (ap rY)) λL7=>
 am (am (am (iy (ap s5) (ap L7)) λQQ=>am (iy (ap s5) (w2 addW (ap L7) (ap (.int 1)))) λQP=>ap (.tup [QQ,QP])) λQO=>ap [QO]) λl20=>L7\λZc=>am (w2 addW (ap L7) (ap (.int 2))) λUQ=>am (Vo s5 Zc UQ l20) λJq=>
 ap Jq)) λs5=>
 (iy (ap s5) (ap (.int 0)))
def c7(P7:PV):W PV:=
 am (w2 addW (ap (.int 1)) (am (iy ((.int 5)\λx2=>P7\λx3=>ap [x2,x3]) (c1 wI (b2 iI ((.int 8)\λx4=>bW x4) (ap (.int 0))))) λx5=>bW x5)) λKl=>
 (am (HK (Kl\λx6=>c6 x6)) λx7=>b9 x7)
def aQ:Nat->PV->W (O PV)
 |0,_=>W.fail
 |n+1,bU=>
 c9 (am (am (ap bU) (da .str)) cG) (
 (bU\λx1=>ap [x1])) (
 (am (am (iy (am (ap bU) bB) (ap (.int 0))) λx2=>aQ n x2) λl4=>am (am (iy (am (ap bU) bB) (ap (.int 1))) λx3=>aQ n x3) λl5=>LQ l4 l5))
end My
variable{a L:AW}{o:FI}{Q:Unit->CY->Prop}{vs:Array AZ}{S:O AW}{ot:Option AW}
namespace L2
def qK(h:lw)(a C dx:db)(ot:Option db):Prop:=∃vs sl,h.get? a=al {cls:=.ref C,dict:=al dx,data:=.fields vs,slots:=sl}/\1<vs.size/\
 match ot with
 |none=>vs[1]?=al AJ
 |some T=>vs[1]?=al (.ref T)/\T≠a/\∃c d ts st,h.get? T=al {cls:=c,dict:=d,data:=.fields ts,slots:=st}/\ts[3]?=al AJ
structure qc(S:List db)(a:db)(ot:Option db)(h h':lw):Prop where
 keep:∀b o,h.get? b=al o->b≠a->ot≠al b->b∉S->h'.get? b=al o
 slot:∀b o,h.get? b=al o->b≠a->ot≠al b->∃sl,h'.get? b=al {o with slots:=sl}
 there:∀b o,h.get? b=al o->∃o',h'.get? b=al o'
def eR{c:ce}{d:Option db}{sl:Array (Option ce)}{f:Array ce->Array ce}(e:h.get? a=al {cls:=c,dict:=d,data:=.fields vs,slots:=sl}):(h.update a (Cb f)).get? a=al {cls:=c,dict:=d,data:=.fields (f vs),slots:=sl}:=Cj (Cb f) e rfl
def qc.slots(k:Heap.SlotsOnly S h h'):qc S a ot h h':=
 ⟨λb o e _ _ n=>by rw[k.2.1 b n];exact e,λb o e _ _=>k.2.2 b o e,λb o e=>let ⟨_,z⟩:=k.2.2 b o e;⟨_,z⟩⟩
def qc.trans{h1 h2:lw}(x:qc S a ot h h1)(y:qc S a ot h1 h2):qc S a ot h h2:=
 ⟨λb o e n m k=>y.keep b o (x.keep b o e n m k) n m k,λb o e n m=>by
  obtain⟨sl,z⟩:=x.slot b o e n m;obtain⟨M5,z'⟩:=y.slot b _ z n m;exact⟨M5,z'⟩,λb o e=>let ⟨_,z⟩:=x.there b o e;y.there b _ z⟩
def qc.push:qc S a ot h (h.push o):=
 ⟨λb o e _ _ _=>Ad _ e,λb o e _ _=>⟨o.slots,Ad _ e⟩,λb o e=>⟨o,Ad _ e⟩⟩
def qc.upd{c:db}{f:Obj->Obj}(hc:c=a\/ot=al c\/h.get? c=bn)(ht:∀o,h.get? c=al o->∃o',(h.update c f).get? c=al o'):qc S a ot h (h.update c f):=by
 have ne:∀b o,h.get? b=al o->b≠a->ot≠al b->b≠c:=λb o e n m z=>by
  subst z;rcases hc with z|z|z
  .exact n z
  .exact m z
  .rw[z]at e;cases e
 refine⟨λb o e n m _=>?_,λb o e n m=>⟨o.slots,?_⟩,λb o e=>?_⟩
 .rw[Bf _ _ _ _ (ne b o e n m)];exact e
 .rw[Bf _ _ _ _ (ne b o e n m)];exact e
 .by_cases d:b=c
  .subst d;exact ht o e
  .exact⟨o,by rw[Bf _ _ _ _ d];exact e⟩
set_option maxHeartbeats 1000000 in
def pI{M:Model}{A:wP}{E:ce->gl->Prop}{s:gl}{base:lw}{env:Env}{outer:O Env}{L a C dx:db}{head:ce}{b:Bool}{vs:Array ce}{sl:Array (Option ce)}{Q:Unit->gl->Prop}(hA:A.frames=al (env::outer))(hF:s.heap.FunFrames base (env::outer))(hL:env.frame=al L)(e0:s.heap.get? a=al {cls:=.ref C,dict:=al dx,data:=.fields vs,slots:=sl})(l0:1<vs.size)(h:∀h' T,qc (m5 (env::outer)) a bn s.heap h'->qK h' a C dx (al T)->s.heap.objs.size<=T->Q () {s with heap:=h'}):
  f8 M A (do
   let f <- FQ env
   let p <- entryPlaceOf L b
   let t <- C0 head f AJ (re ↑L) AJ p
   Op (Ao a) 1 t) (λ_ s'=>f8 M A (setFlight (Ao a) bn) Q E s') E s:=by
 refine Ab (wpAny_frameOf_fun hA hF hL λh1 k1=>?_);obtain⟨sl1,e1⟩:=k1.2.2 _ _ e0;refine Ab (wpAny_entryPlaceOf λpl hp=>?_);refine Ab ?_;unfold C0 newFields;have hl:∃ts:O ce,([head,Ao L,AJ,re ↑L,AJ]++if pl.isEmpty=true then Ar 6 AJ else pl)=ts/\3<ts.length/\ts.length<=100:=⟨_,rfl,by
  rcases hp with rfl|⟨_,_,_,_,_,_,_,rfl⟩<;>simp⟩
 obtain⟨ts,hts,l3,l4⟩:=hl;rw[hts];refine BN ?_ (by simp only[sizeOk];exact AE (by simpa using l4) (by decide:100<=sizeLine+2));have at_:(h1.push {cls:=.type "traceback",data:=.fields ts.toArray}).get? a=al {cls:=.ref C,dict:=al dx,data:=.fields vs,slots:=sl1}:=Ad _ e1;have nT:h1.objs.size≠a:=E6 (Ai e1);refine Dp at_ rfl l0 ?_;have e2:=eR (f:=λx=>x.setIfInBounds 1 (.ref h1.objs.size)) at_;have eT:((h1.push {cls:=.type "traceback",data:=.fields ts.toArray}).update a (Cb λx=>x.setIfInBounds 1 (.ref h1.objs.size))).get? h1.objs.size=al {cls:=.type "traceback",data:=.fields ts.toArray}:=by
  rw[Bf _ _ _ _ nT];exact Al _ rfl
 refine wpAny_setFlight_none e2 rfl (by simp[l0]) eT rfl (by simpa using l3) ?_;refine h _ h1.objs.size ?_ ⟨_,sl1,(Bf _ _ _ _ nT.symm).trans e2,by simpa using l0,by simp[l0],nT,_,_,_,_,eR eT,by simp[l3]⟩ (Ee k1.1.symm);have z:qc (m5 (env::outer)) a (al h1.objs.size) s.heap _:=(((qc.slots k1).trans .push).trans (qc.upd (f:=Cb λx=>x.setIfInBounds 1 (.ref h1.objs.size)) (.inl rfl) λo e=>⟨_,e2⟩)).trans (qc.upd (f:=Cb λx=>x.setIfInBounds 3 AJ) (.inr (.inl rfl)) λo e=>⟨_,eR eT⟩);have nb:∀b o,s.heap.get? b=al o->al h1.objs.size≠al b:=λb o e y=>by
  have:=Ai e;rw[<- k1.1]at this;exact absurd (Option.some.inj y) (E6 this)
 exact⟨λb o e n _ m=>z.keep b o e n (nb b o e) m,λb o e n _=>z.slot b o e n (nb b o e),z.there⟩
def q9{C dx:db}(hA:A.frames=al (env::outer))(hF:s.heap.FunFrames base (env::outer))(hL:env.frame=al L)(hx:qK s.heap a C dx ot)(h:∀h' T,qc (m5 (env::outer)) a ot s.heap h'->qK h' a C dx (al T)->s.heap.objs.size<=T->Q () {s with heap:=h'}):f8 M A (noteFrame (.ref a) env) (λ_ s2=>f8 M A (setFlight (.ref a) bn) Q E s2) E s:=by
 obtain⟨vs,sl,e0,l0,h1⟩:=hx;unfold noteFrame;rw[hL];cases ot with
 |none=>
  refine Ab (AV e0 rfl h1 ?_);exact pI hA hF hL e0 l0 h
 |some T=>
  obtain⟨h1,nT,c,d,ts,st,eT,h3⟩:=h1;have l3:3<ts.size:=by
   rcases Ec 3 ts.size with z|z
   .exact z
   .rw[Fd z]at h3;cases h3
  refine Ab (AV e0 rfl h1 ?_);show f8 M A (do
   let x <- field (.ref T) 3
   if (x==re ↑L)=true then pure () else do
    let _ <- Op (.ref T) 3 AJ
    (do
     let f <- FQ env
     let p <- entryPlaceOf L (Ao T != AJ)
     let t <- C0 (.ref T) f AJ (re ↑L) AJ p
     Op (Ao a) 1 t)) _ E s
  refine Ab (AV eT rfl h3 ?_);show f8 M A (do
    let _ <- Op (.ref T) 3 AJ
    (do
     let f <- FQ env
     let p <- entryPlaceOf L (Ao T != AJ)
     let t <- C0 (.ref T) f AJ (re ↑L) AJ p
     Op (Ao a) 1 t)) _ E s
  refine Ab (Dp eT rfl l3 ?_);have c1:qc (m5 (env::outer)) a (al T) s.heap (s.heap.update T (Cb λx=>x.setIfInBounds 3 .none)):=qc.upd (.inr (.inl rfl)) λo e=>⟨_,eR eT⟩;refine pI (s:={s with heap:=_}) hA (hF.of_keeps λb o e n=>?_) hL (sl:=sl) (vs:=vs) (by rw[Bf _ _ _ _ nT.symm];exact e0) l0 λh' T' k x z=>?_
  .have:b≠T:=λy=>by subst y;rw[eT]at e;cases e;exact n _ rfl
   exact⟨o,by rw[Bf _ _ _ _ this];exact e,rfl⟩
  .refine h h' T' (c1.trans ⟨λb o e n _ m=>k.keep b o e n (by simp) m,λb o e n _=>k.slot b o e n (by simp),k.there⟩) x (AE (Ee ?_) z);show s.heap.objs.size=(s.heap.objs.modify T _).size;simp
def vz{C dx:db}(hA:A.frames=al (env::outer))(hF:s.heap.FunFrames base (env::outer))(hL:env.frame=al L)(hx:qK s.heap a C dx ot)(h:∀h' T,qc (m5 (env::outer)) a ot s.heap h'->qK h' a C dx (al T)->s.heap.objs.size<=T->Q () {s with heap:=h'}):f8 M A (leaving env (.ref a)) Q E s:=by
 unfold leaving;exact Ab (q9 hA hF hL hx h)
abbrev LY:O ce:=[.type "ValueError",.type "Exception",.type "BaseException",.type "object"]
def gZ(C t:db):Obj:={cls:=.ref C,data:=.fields #[.ref t,.none,.none,.none,.bool false,.none]}
structure wU(K:Aa)(C f:db):Prop where
 obj:∃nm q N bs bm lW sn sub ab col dd k0 k1 k2 k3 k5,K.lookup C=al (Os nm q C N bs bm lW sn sub ab col dd k0 k1 k2 k3 k5 "ValueError.__new__")/\∀h:lw,K.In h->OwnTail h LY bm
 call:B3 K (.ref C) "__call__"=al (al (.builtin "type.__call__"))
 self:Bx K C (.ref C)=al true
 init:Av K (.ref C) "__init__"=al (al (.ref f))
 fn:Cz K (.ref f)=true
set_option maxHeartbeats 2000000 in
def Kn{prog:sw}{w:wE}{A:wP}{K:Aa}{C f:db}{R:Result->gl->Prop}{s:gl}{vs:O ce}(X:K.In s.heap)(M:wU K C f)(lv:vs.length<=sizeLine)(h:KM (ii prog w) (A.under (.builtin "type.__call__" ⟨.ref C::vs,[]⟩)) (.call (.ref f) ⟨.ref (s.heap.objs.size+1)::vs,[]⟩) (F9 (s.heap.objs.size+1) R)
   {s with heap:=(s.heap.push {cls:=.type "tuple",data:=.seq vs.toArray}).push (gZ C s.heap.objs.size)}):KM (ii prog w) A (.call (.ref C) ⟨vs,[]⟩) R s:=by
 obtain⟨nm,q,N,bs,bm,lW,sn,sub,ab,col,dd,k0,k1,k2,k3,k5,hC,tl⟩:=M.obj;have WY:=X _ _ hC;refine codeAny_of_tree ?_;show f8 _ _ (callAny (.ref C) ⟨vs,[]⟩) _ _ _;unfold callAny;refine Ab (wpAny_load WY ?_);show f8 _ _ (FZ (.ref C) ⟨vs,[]⟩) _ _ _;unfold FZ;refine Ab (AX.here (PySem.W.looks_specialIn X M.call) ?_);show f8 _ _ (bindSpecial (.builtin "type.__call__") (.ref C) >>= _) _ _ _;rw[PySem.F.bind_type_call];refine Ab (Ae ?_);show f8 _ _ (callAny.plainCallee (.builtin "type.__call__") >>= _) _ _ _;refine Ab (Ae ?_);refine Ae ⟨rfl,?_⟩;refine codeAny_of_tree ?_;show f8 _ _ (callAny (.builtin "type.__call__") ⟨.ref C::vs,[]⟩) _ _ _;unfold callAny;refine Ab (wpAny_check_type_call_sub WY (Ae ⟨Code.quiet_builtin _ (by decide +kernel),codeAny_builtin PySem.F.entry_type_call ?_⟩));unfold GE.«type.__call__»;have h1:(Ao C==Co "type")=false:=rfl;have tlh:=tl _ X;show f8 _ _ (mroOf (.ref C) >>= _) _ _ _;unfold mroOf;refine Ab (Ab (AX.here (Cs X (show BF K C=al _ by unfold BF;rw[hC])) (Ae ?_)));show f8 _ _ (Bind.madeBy (.ref C) >>= _) _ _ _;refine Ab (wpAny_madeBy_exc WY ?_);show f8 _ _ (u8 [Value.builtin "ValueError.__new__"] (call (.builtin "ValueError.__new__") (.ref C::vs) []) >>= _) _ _ _;refine Ab (A4 (Cp (codeAny_of_tree ?_)));show f8 _ _ (callAny (.builtin "ValueError.__new__") ⟨.ref C::vs,[]⟩) _ _ _;refine Ab (wpAny_check_new_subT El tlh WY (Ae ⟨Code.quiet_builtin _ (by decide +kernel),codeAny_exc_new_subT El tlh WY ?_ lv⟩));have X':K.In ((s.heap.push {cls:=.type "tuple",data:=.seq vs.toArray}).push (gZ C s.heap.objs.size)):=X.keeps λb o e=>Ad _ (Ad _ e);have eo:((s.heap.push {cls:=.type "tuple",data:=.seq vs.toArray}).push (gZ C s.heap.objs.size)).get? (s.heap.objs.size+1)=al (gZ C s.heap.objs.size):=by
  have:=Al (s.heap.push {cls:=.type "tuple",data:=.seq vs.toArray}) (o:=gZ C s.heap.objs.size) rfl
  rwa [Bi]at this
 show f8 _ _ (Fk (.ref (s.heap.objs.size+1)) (.ref C) >>= _) _ _ _;unfold Fk;refine Ab (Ab (Ab (A7 eo (Ae ?_))));refine AX.here (Cr X' M.self) ?_;show f8 _ _ (u8 [Ao (s.heap.objs.size+1)] (callSpecial? (.ref (s.heap.objs.size+1)) "__init__" vs []) >>= _) _ _ _;refine Ab (A4 ?_);unfold callSpecial? specialOf;refine Ab (Ab (Ab (A7 eo (Ae ?_))));refine AX.here (BI X' M.init) ?_;refine A4 (Ab (AX.here (PySem.W.bind_fn X' _ (beq_iff_eq.mp M.fn)) ?_));refine Ab (Cp (zn h λr s' hr=>?_));cases r with
 |error e=>exact hr
 |ok fl=>
  cases fl with
  |ret v=>
   obtain⟨rfl,hr⟩:=hr;exact Ae (Ae hr)
  |next=>exact hr
  |brk=>exact hr
  |cont=>exact hr
end L2
variable{u:AZ}
namespace L2
def sJ(a C:db)(h:lw):Prop:=∃v0,h.get? a=al {cls:=.ref C,data:=.fields #[v0,.none,.none,.none,.bool false,.none]}
def sI(a C dx:db)(h:lw):Prop:=∃vs sl,h.get? a=al {cls:=.ref C,dict:=al dx,data:=.fields vs,slots:=sl}
structure Mg(K:Aa)(TE C:db):Prop where
 ga:B3 K (.ref TE) "__getattribute__"=al (al (.builtin "type.__getattribute__"))
 rd:PySem.W.readsIn K TE (.type "type")=true
 fc:PySem.W.findCls K (.ref TE) (.type "type") "__init__"=al (.val (.builtin "ValueError.__init__"))
 sub:Bx K C (.type "ValueError")=al true
def ZF:Manifest.Signature:={machinery:=Manifest.Machinery.positional,full:="*",short:="ValueError",receiver:=Manifest.Receiver.self,params:=[{name:="args",kind:=Manifest.ParamKind.varPos,required:=false}]}
section
variable{K:Aa}
def wD{C:db}(X:K.In s.heap)(e:s.heap.get? a=al o)(c:o.cls=.ref C)(m:Bx K C (.type "ValueError")=al true)(Ċ:∃cd,BF K C=al cd)(h:Q () s):f8 M A (GT "ValueError.__init__" ⟨[.ref a,u],[]⟩) Q E s:=by
 have F:=Ek;unfold GT;rw[F.initKind,F.initSplit,F.initRow];show f8 M A (Fk (.ref a) (.type "ValueError") >>= _) Q E s;unfold Fk;refine Ab (Ab (Ab (A7 e (Ae ?_))));rw[c];refine AX.here (Cr X m) ?_;obtain⟨cd,cS⟩:=Ċ;rw[if_neg ⋯];show f8 M A (Bind.checkArgs "ValueError.__init__" ZF ⟨[.ref a,u],[]⟩) Q E s;unfold Bind.checkArgs;show f8 M A (Bind.printed "*" true ZF (al (.ref a)) >>= _) Q E s;unfold Bind.printed;show f8 M A ((Bind.receiverType ZF (.ref a) >>= _) >>= _) Q E s;refine Ab (Ab ?_);show f8 M A (typeOf (.ref a)) _ E s;refine Ab (A7 e (Ae ?_));rw[c];unfold typeNameWhole;refine Ab (Ab (AX.here (Cs X cS) (Ae (Ae ?_))));show f8 M A (pure "ValueError" >>= _) Q E s;refine Ab (Ae (DG ?_));exact Ae h
def Lv{Q:ce->gl->Prop}{C:db}{v0:ce}(X:K.In s.heap)(e:s.heap.get? a=al {cls:=.ref C,data:=.fields #[v0,.none,.none,.none,.bool false,.none]})(m:Bx K C (.type "ValueError")=al true)(Ċ:∃cd,BF K C=al cd)(h:∀h' v1,h'.get? a=al {cls:=.ref C,data:=.fields #[v1,.none,.none,.none,.bool false,.none]}->(∀b o,b≠a->s.heap.get? b=al o->h'.get? b=al o)->Q .none {s with heap:=h'}):f8 (ii prog w) A (call (.builtin "ValueError.__init__") [.ref a,u]) Q E s:=by
 have F:=Ek;refine Cp (Pi (by decide +kernel) F.initEntry (wD X e rfl m Ċ ?_));unfold GE.«BaseException.__init__»;show f8 _ _ (newTuple [u] >>= _) _ _ s;unfold newTuple;refine Ab (BN ?_ (by simp only[sizeOk];show 1<=sizeLine;decide));have e1:(s.heap.push {cls:=.type "tuple",data:=.seq #[u]}).get? a=al {cls:=.ref C,data:=.fields #[v0,.none,.none,.none,.bool false,.none]}:=Ad _ e;show f8 _ _ (Builtin.BaseException.bexcPut (.ref a) 0 (.ref s.heap.objs.size) >>= _) _ _ _;refine Ab ?_;unfold Builtin.BaseException.bexcPut;refine Ab (AV e1 rfl rfl (Ab (Dp e1 rfl (by simp) ?_)));have fin:∀{Q':Unit->gl->Prop},Q' () {s with heap:=(s.heap.push {cls:=.type "tuple",data:=.seq #[u]}).update a (Cb λx=>x.setIfInBounds 0 (.ref s.heap.objs.size))}->
   f8 (ii prog w) A.in1 (match v0 with | .ref b=>letGo [v0] [] | _=>pure ()) Q' (λe s'=>E e s') {s with heap:=(s.heap.push {cls:=.type "tuple",data:=.seq #[u]}).update a (Cb λx=>x.setIfInBounds 0 (.ref s.heap.objs.size))}:=λ{Q'} hq=>by
  cases v0<;>first|exact Ae hq|exact Df hq
 refine fin (Ae ?_);exact h _ _ (eR e1) λb o n eb=>by rw[Bf _ _ _ _ n];exact Ad _ eb
end
end L2
variable{tk:PySem.Tok}
namespace L2
def X3{t:Sem Unit}(e:t=pure ())(h:Q () s):f8 M A t Q E s:=e▸Ae h
structure O9(K:Aa)(C:db)(f:Str):Prop where
 ga:Av K (.ref C) "__getattribute__"=al (al (.builtin "BaseException.__getattribute__"))
 no:Av K (.ref C) "__getattr__"=al bn
 sub:Bx K C (.type "BaseException")=al true
 hd:B4 K C=true
 at_:Av K (.ref C) f=al bn
def MC{K:Aa}{C dx:db}{sl:Array (Option ce)}{f:Str}{p:Int}{m:Str->Option ce}{Q:ce->gl->Prop}(X:K.In s.heap)(F:O9 K C f)(e:s.heap.get? a=al {cls:=.ref C,dict:=al dx,data:=.fields vs,slots:=sl})(n:s.heap.Ns1 dx m)(hm:m f=al (.int p tk))(h:Q (.int p tk) {s with toks:=s.toks+1}):f8 (ii prog w) A (getAttr (.ref a) f b) Q E s:=by
 obtain⟨od,ho,hl⟩:=q8 n;have J:Dh s.heap a {cls:=.ref C,dict:=al dx,data:=.fields vs,slots:=sl} C (al od):=⟨e,rfl,rfl,ho⟩;unfold getAttr;refine Ab (wpAny_mkText ?_);unfold getAttrBy;refine A4 (Ab (Ab (A7 e (Ae ?_))));refine Ab (AX.here (BI X F.ga) ?_);show f8 _ _ (Tk (.ref a) (.str f s.toks) (.ref C) (.builtin "BaseException.__getattribute__") true b) _ _ _;unfold Tk;refine Ab ?_;show f8 _ _ (typeLookup (.ref C) "__getattr__") _ _ _;refine AX.here (BI X F.no) ?_;refine Ab (CJ (A4 ?_));have e1:callGetattribute (.ref a) (.str f s.toks) (.builtin "BaseException.__getattribute__") b=boundAndCalled (.builtin "BaseException.__getattribute__") (.ref a) (.str f s.toks):=by
  unfold callGetattribute;rw[show(b&&onTheHeap (.builtin "BaseException.__getattribute__"))=false by cases b <;> rfl];rfl
 rw[e1];unfold boundAndCalled;rw[Em.ga.bind (.ref a)];refine Ab (Ae (Cp (Pi (by decide +kernel) Fm ?_)));unfold GT;have hk:(builtinKind "BaseException.__getattribute__",splitId "BaseException.__getattribute__")=(al Dk,al ("BaseException","__getattribute__")):=by decide +kernel
 rw[hk];refine Ab ?_;show f8 _ _ (Fk (.ref a) (.type "BaseException")) _ _ _;unfold Fk;refine Ab (Ab (A7 e (Ae ?_)));refine AX.here (Cr X F.sub) ?_;have ha:argsOk "BaseException.__getattribute__" ⟨[.ref a,.str f s.toks],[]⟩:=Fz _ _;rw[if_neg ⋯];refine X3 ha ?_;unfold GE.«object.__getattribute__»;refine Ab (Ae (Ab (Ae (Ab (Ab (A7 e (Ae ?_)))))));refine Ab (AX.here (FV X J (FK F.hd F.at_ rfl (by rw[hl,hm]))) (Ae ?_));show f8 _ _ (handedOut (.int p tk)) _ _ _;exact Ae h
def iC{self:ce}{l:O ce}{n:String}(h1:(n=="_thread._local")=false)(h2:(n=="_pickle.Pickler"||n=="_pickle.Unpickler")=false)(h:builtinOwn n "__setattr__"=bn):refuseLoop self "__setattr__" (.type n::l)=refuseLoop self "__setattr__" l:=by
 have hc:classOwn (.type n) "__setattr__"=pure bn:=by
  show pure (builtinOwn n "__setattr__")=pure bn;rw[h]
 unfold refuseLoop;rw[B8];simp only[h1,h2,hc];rfl
structure GH(K:Aa)(C TE:db)(f:Str):Prop where
 sa:Av K (.ref C) "__setattr__"=al (al (.builtin "object.__setattr__"))
 ob:Bx K C (.type "object")=al true
 at_:Av K (.ref C) f=al bn
 cd:∃cd,BF K C=al cd/\cd.hasDict=true/\cd.mro=[.ref C,.ref TE,.type "ValueError",.type "Exception",.type "BaseException",.type "object"]
def MB{K:Aa}{C TE:db}{f:Str}{v:ce}(X:K.In s.heap)(F:GH K C TE f)(e:s.heap.get? a=al {cls:=.ref C,data:=.fields vs})(h:∀h' dx tk,s.heap.objs.size<=dx->h'.get? a=al {cls:=.ref C,dict:=al dx,data:=.fields vs}->h'.Ns1 dx (λy=>if y=f then al v else bn)->(∀b o,b≠a->s.heap.get? b=al o->h'.get? b=al o)->Q () {s with heap:=h',toks:=tk}):f8 (ii prog w) A (setAttr (.ref a) f v) Q E s:=by
 obtain⟨cd,cS,hhd,aaz⟩:=F.cd;have J:Dh s.heap a {cls:=.ref C,data:=.fields vs} C bn:=⟨e,rfl,rfl,trivial⟩;refine F1 X J F.sa ?_;refine Pi (by decide +kernel) PySem.F.entry_object_setattr ?_;unfold GT;have hk:(builtinKind "object.__setattr__",splitId "object.__setattr__")=(al Dk,al ("object","__setattr__")):=by decide +kernel
 rw[hk];refine Ab ?_;show f8 _ _ (Fk (.ref a) (.type "object")) _ _ _;unfold Fk;refine Ab (Ab (A7 e (Ae ?_)));refine AX.here (Cr X F.ob) ?_;rw[if_neg ⋯];refine X3 (PySem.F.args_object_setattr_3 _ _ _) ?_;rw[PySem.W.osa_eq,refuse_eq];refine Ab (Ab (Ab (A7 e (Ae ?_))));refine Ab (Ab (AX.here (Cs X cS) (Ae ?_)));rw[aaz,refuseLoop_ref,refuseLoop_ref,iC (by decide +kernel) (by decide +kernel) (by decide +kernel),iC (by decide +kernel) (by decide +kernel) (by decide +kernel),iC (by decide +kernel) (by decide +kernel) (by decide +kernel)];refine X3 (PySem.W.refuse_only _ (by decide +kernel)) ?_;refine Ab (Ab (A7 e (Ae ?_)));refine Ab (AX.here (BI X F.at_) ?_);show f8 _ _ (pure bn >>= _) _ _ _;refine Ab (Ae ?_);show f8 _ _ (Builtin.ObjectAttr.storeInOwnDict (.ref a) (.ref C) (.str f s.toks) f v false) _ _ _;unfold Builtin.ObjectAttr.storeInOwnDict;show f8 _ _ (pure () >>= _) _ _ _;refine Ab (Ae ?_);show f8 _ _ (instanceDict a true >>= _) _ _ _;refine Ab ?_;unfold instanceDict;refine Ab (A7 e ?_);show f8 _ _ (classData C >>= _) _ _ _;refine Ab (AX.here (Cs X cS) ?_);rw[hhd];show f8 _ _ (alloc {cls:=.type "dict",data:=.dict #[]} >>= _) _ _ _;refine Ab (wpAny_alloc ?_);have e1:(s.heap.push {cls:=.type "dict",data:=.dict #[]}).get? a=al {cls:=.ref C,data:=.fields vs}:=Ad _ e;have nd:s.heap.objs.size≠a:=E6 (Ai e);refine Ab (wpAny_update e1 ?_);refine Ae ?_;have e2:=Cj (λo:Obj=>{cls:=o.cls,dict:=al s.heap.objs.size,data:=o.data,slots:=o.slots}) e1 rfl;have e3:((s.heap.push {cls:=.type "dict",data:=.dict #[]}).update a (λo:Obj=>{cls:=o.cls,dict:=al s.heap.objs.size,data:=o.data,slots:=o.slots})).get? s.heap.objs.size=al {cls:=.type "dict",data:=.dict #[]}:=by
  rw[Bf _ _ _ _ nd];exact Al _ rfl
 have kp:∀b o,b≠a->s.heap.get? b=al o->((s.heap.push {cls:=.type "dict",data:=.dict #[]}).update a (λo:Obj=>{cls:=o.cls,dict:=al s.heap.objs.size,data:=o.data,slots:=o.slots})).get? b=al o:=λb o n eb=>by
  rw[Bf _ _ _ _ n];exact Ad _ eb
 generalize (s.heap.push {cls:=.type "dict",data:=.dict #[]}).update a (λo:Obj=>{cls:=o.cls,dict:=al s.heap.objs.size,data:=o.data,slots:=o.slots})=h2 at e2 e3 kp;have n0:h2.Ns1 s.heap.objs.size (λ_=>bn):=Heap.Ns1.of_empty ⟨_,#[],_,e3,rfl,(λe he=>absurd he (by simp)),λ_=>rfl⟩;show f8 _ _ (Builtin.ObjectAttr.storeInDict s.heap.objs.size (.str f s.toks) f v) _ _ _;unfold Builtin.ObjectAttr.storeInDict;show f8 _ _ (pure () >>= _) _ _ _;refine Ab (Ae (Ab (wpAny_nsSet1 n0 λh3 n3 sb=>?_)));obtain⟨oD,esD,epD,ð,ù,K1⟩:=n3.count (F0 f v (ns:=[]) λy hy=>absurd rfl hy);refine Ab (wpAny_lookBehind ð (by rw[ù];exact pastItsLine_dict (AE K1 (by show 1<=sizeLine+1;decide))) (Ae ?_));refine h h3 _ _ (Aj _) ((sb.2 _ nd.symm).trans e2) n3 λb o n eb=>?_;have:b≠s.heap.objs.size:=AB (Ai eb);exact(sb.2 _ this).trans (kp b o n eb)
end L2
variable{ot':Option AW}
namespace L2
structure O7(C:db)(lo:Nat)(H:Hp)(h:lw)(a dx:db)(ot:Option db)(n:Int):Prop where
 fx:qK h a C dx ot
 fa:H a=al (.ext (sI a C dx))
 fd:H dx=al (.xd [("place",.int n)])
 fl:lo<=a
 ft:∀T,ot=al T->H T=bn/\lo<=T
def mj(P:sw)(w:wE)(C:db):II:=λouter H s E e s'=>∃a dx ot n H',e=.ref a/\s'.os=s.os/\Rs s'.gens/\Un (m5 outer) [] H H' s.heap s'.heap/\gJ P w H' s'.heap/\O7 C s.heap.objs.size H' s'.heap a dx ot n/\E (.int n 0) (al a) H'
def pU(X:Cx)(C:db)(E:XK):Prop:=∀(Z:O (db×Obj)) (σ:St) (H:Hp) (s:gl) (a dx:db) (ot:Option db) (n:Int),Inv X Z σ H s->O7 C X.s₀.heap.objs.size H s.heap a dx ot n->E (.int n 0) (al a) H->X.xe (.ref a) s
def qK.phi{C dx:db}(x:qK h a C dx ot):sI a C dx h:=let ⟨vs,sl,e,_⟩:=x;⟨vs,sl,e⟩
def qc.aK{C dx:db}(c:qc S a ot h h')(x:qK h' a C dx ot')(ok:gJ P w H h)(ea:H a=al (.ext (sI a C dx)))(et:∀T,ot=al T->H T=bn)(es:∀b∈S,H b=bn):gJ P w H h':=λb o e=>by
 by_cases hb:b=a
 .subst hb;rw[ea]at e;cases e;obtain⟨_,_,st⟩:=ok b _ ea;obtain⟨vs,sl,q,_⟩:=id x;exact⟨x.phi,⟨_,q⟩,st⟩
 .refine(ok b o e).lB (λd u hd q=>c.keep d u q ?_ ?_ ?_) (λ_ z=>z) λ_ _ z=>z
  .rintro rfl;rcases hd with rfl|hd
   .exact hb rfl
   .rw[ea]at hd;cases hd
  .intro z;have:=et d z;rcases hd with rfl|hd
   .rw[this]at e;cases e
   .rw[this]at hd;cases hd
  .intro z;have:=es d z;rcases hd with rfl|hd
   .rw[this]at e;cases e
   .rw[this]at hd;cases hd
def bR{K:Aa}{N:O Str}{C:db}{E:XK}:pU (jB (mj P w C) P w K mg base N qual sc f cd A outer s H E) C E:=by
 intro Z σ H1 s1 a dx ot n I F e;have st:=I.stack;have sf:=I.km;have nl:∀b,s.heap.objs.size<=b->∀o,s.heap.get? b=al o->False:=λb hb o q=>absurd (Ai q) (Eu.mpr hb);show f8 _ _ (leaving _ (.ref a)) _ _ s1;refine vz (base:=base) (env:=xL qual sc s.heap.objs.size f cd) (outer:=outer) I.ok.frames st rfl F.fx λh' T c x hT=>?_;have T0:H1 T=bn:=I.aK.fresh hT;refine⟨a,dx,al T,n,H1,rfl,I.os,I.bare,⟨λb o q n0 hb hx=>?_,λb o q n0 hb hx=>?_,I.base.free,λb o q hx=>?_,I.base.bN,I.base.kS,I.base.lA⟩,c.aK x I.aK F.fa (λT h=>(F.ft T h).1) sf,⟨x,F.fa,F.fd,F.fl,λT' z=>by cases z;exact⟨T0,AE I.sz hT⟩⟩,e⟩
 .have q1:=I.base.keep b o q n0 hb hx;refine c.keep b o q1 (λz=>nl _ F.fl _ (z▸q)) (λz=>nl _ (F.ft _ z).2 _ q) λz=>?_;have z:b∈m5 (xL qual sc s.heap.objs.size f cd::outer):=z;simp only[m5,Bh,xL]at z;rcases Az.mp z with rfl|z
  .exact nl _ (Aj _) _ q
  .exact hb z
 .obtain⟨sl,q1⟩:=I.base.slot b o q n0 hb hx;obtain⟨M5,q2⟩:=c.slot b _ q1 (λz=>nl _ F.fl _ (z▸q)) (λz=>nl _ (F.ft _ z).2 _ q);exact⟨M5,q2⟩
 .obtain⟨o1,q1⟩:=I.base.there b o q hx;exact c.there b o1 q1
def oB{C:db}{E:XK}(h:pU X C E):Passes (mj X.prog X.w C) X E:=by
 rintro Z σ H s e s' I ⟨a,dx,ot,n,H',rfl,os,bare,un,aK,F,q⟩;obtain⟨hh,g,d,t,VW⟩:=s';obtain rfl:VW=s.os:=os;refine h Z σ H' _ a dx ot n (I.call (h':=hh) (g':=g) (d':=d) (t':=t) (ch:=[]) un aK bare (λb z=>absurd z (by simp))) ⟨F.fx,F.fa,F.fd,AE I.sz F.fl,λT z=>⟨(F.ft T z).1,AE I.sz (F.ft T z).2⟩⟩ q
section
variable{K:Aa}
def kb.Ud{C:db}{x:Str}{st:sK}{N:O Str}(F:kb K x qual st f fd)(S:bu N ps (ai st))(len:∀vs H Q E,sp vs H Q E->vs.length=ps.length)(kQ:∀(bE:ce) (A:wP) (outer:O Env) (s:gl) (H:Hp) (vs:O V) (Q:VK) (E:XK),bf k (A.deeper (xL qual (ai st) s.heap.objs.size f bE))->sp vs H Q E->
   ∃t,mf (jB (mj P w C) P w K mg base N qual (ai st) f bE A outer s H E) (aN st) t/\t {nx:=λ_ H'=>Q .br H',rt:=Q} (start N vs) H):aY P w K mg base (mj P w C) (k+1) f fd ps sp:=by
 obtain⟨oc,od,kV,Ç,pm,an,bE,ct,G9,rfl,lk,cS⟩:=F.ex;exact zV lk cS S len λA outer s H vs Q E hr uL=>kQ bE A outer s H vs Q E hr uL
end
def xy(a C dx:db)(h:lw):Prop:=∃v1,h.get? a=al {cls:=.ref C,dict:=al dx,data:=.fields #[v1,.none,.none,.none,.bool false,.none]}
section
variable{K:Aa}{es:o0}{q1:Pos}{x:Str}{C Č:db}
def tF1(t1:TE):TE:=λσ H Q=>t1 σ H λx H1=>∃n:Int,x=.int n/\n.natAbs.log2<100/\∀u,Q (.str u) H1
theorem VN{a:Str}(la:a.length<=100)(he:PE X e te):PE X (.JoinedStr [.Constant (.str a) i q1,.FormattedValue e (-1) bn p1] pos) (tF1 te):=by
 intro Z s σ H Q I h;have big:3000<=sizeLine:=by rw[GM];decide
 have e0:(Gb:Str).length=0:=rfl;refine JoinedStr_many ?_;refine joinParts_cons (aR (xA Z s σ H (λx H1=>x=.str a/\H1=H) I ⟨rfl,rfl⟩) λu0 s0 ⟨x0,H0,I0,r0,ex0,eH0⟩=>?_);subst ex0;subst eH0;obtain⟨t0,rfl⟩:=r0;refine⟨by rw[B5];lia,?_⟩;refine joinParts_cons (FormattedValue_plain (aR (he Z s0 σ _ _ I0 h) λu1 s1 ⟨x1,H1,I1,r1,n,ex1,ln,h⟩=>?_));subst ex1;obtain⟨t1,rfl⟩:=r1;have l1:=int_text_length_le (k:=100) ⋯ ln;have l2:(Dj (toString n)).length<=101:=by rw[PySem.ofString_length];exact l1
 have l3:(Gb++a++Dj (toString n)).length<=sizeLine:=by rw[B5,B5];lia
 refine formatField_int_small ∅ ⟨l3,?_⟩;exact joinParts_nil ⟨.str _,_,(I1.tok _).tok _,⟨_,rfl⟩,h _⟩ l3
def Py{C:db}:∀h1 h2:lw,sJ a C h1->(∀o,h1.get? a=al o->h2.get? a=al o)->sJ a C h2:=λ_ _ ⟨v,e⟩ k=>⟨v,k _ e⟩
def Ve{C dx:db}:∀h1 h2:lw,xy a C dx h1->(∀o,h1.get? a=al o->h2.get? a=al o)->xy a C dx h2:=λ_ _ ⟨v,e⟩ k=>⟨v,k _ e⟩
def Vf{C dx:db}:∀h1 h2:lw,sI a C dx h1->(∀o,h1.get? a=al o->h2.get? a=al o)->sI a C dx h2:=λ_ _ ⟨v,sl,e⟩ k=>⟨v,sl,k _ e⟩
def tXi(C:db)(ta te:TE):TE:=λσ H Q=>ta σ H λx H1=>te σ H1 λy H2=>∃a u,x=.ref a/\y=.str u/\H2 a=al (.ext (sJ a C))/\Q .br H2
def VJ(T:Mg X.K Č C)(cS:∃cd,BF X.K C=al cd)(hg:Gl X x)(hm:X.mg x=al (.ref Č))(hs:PE X es ta)(he:PE X e te)(ly:‹lf [es,e] X.env=[(false,pc es X.env),(false,pc e X.env)]›)(dQ: ~~~(dn x))(ht:‹pc (.Call (.Attribute (.Name x p) "__init__" Á) [es,e] [] pos) X.env=(do
   let ov <- pc (.Name x p) X.env
   KF Á.atName
   let (f,first) <- u8 [ov] (getMethod ov "__init__" pl)
   callWith pos f first (IR pos (lf [es,e] X.env)) (backToKw pos (Re [] X.env)))›):PE X (.Call (.Attribute (.Name x p) "__init__" Á) [es,e] [] pos) (tXi C ta te):=by
 intro Z s σ H Q I h;refine Dz (pl:=pl) (eF I hg hm ?_ dQ) ht;refine PySem.W.method_cls I.ek T.ga (PySem.W.cls_value I.ek T.rd T.fc (by rfl) ?_);have I0:=I.tok (s.toks+1);rw[ly];refine Dn rfl (FA ?_);refine A6 (aR (hs Z _ σ H _ I0 h) λu1 s1 ⟨x1,H1,I1,r1,h⟩=>A6 (aR (he Z s1 σ H1 _ I1 h) λu2 s2 ⟨x2,H2,I2,r2,a,u,e1,e2,ea,q⟩=>BK ?_));subst e1;subst e2;obtain rfl:u1=Ao a:=r1;obtain⟨tk,rfl⟩:=r2;obtain⟨⟨v0,e0⟩,_,st⟩:=I2.aK _ _ ea;refine Lv I2.ek e0 T.sub cS λh' v1 e1 k1=>?_;have e2:upd H2 a (.ext (sJ a C))=H2:=by
  funext b;by_cases hb:b=a
  .subst hb;rw[aw,ea]
  .rw[af hb]
 have I3:=I2.write (x:=a) (e:=a) (o:=.ext (sJ a C)) (h':=h') (t':=s2.toks) (by rw[ea];trivial) (.inl rfl) (λb o n=>k1 b o n) ⟨_,e1⟩ ⟨⟨v1,e1⟩,⟨_,e1⟩,Py⟩;rw[e2]at I3;exact⟨.br,H2,I3,rfl,q⟩
def sXf(C:db)(ta tv:TE)(f:Str):TS:=λD σ H=>tv σ H λy H1=>ta σ H1 λx H2=>∃a,x=.ref a/\H2 a=al (.ext (sJ a C))/\∀H' dx,H2 dx=bn->(∀c,c≠a->c≠dx->H' c=H2 c)->H' a=al (.ext (xy a C dx))->H' dx=al (.xd [(f,y)])->D.nx σ H'
def VF{o:o0}{f:Str}(F:GH X.K C Č f)(ha:PE X o ta)(hv:PE X Ã tv)(hs:pr Ã (al (.Attribute o f È)) pos.line X.env=pure false):PS X (.Assign [.Attribute o f È] Ã pos) (sXf C ta tv f):=by
 intro Z s σ H D I h;refine plainObj_wpAny_Assign_Attribute (aR (hv Z s σ H _ I h) λu s1 ⟨y,H1,I1,ry,q⟩=>aR (ha Z s1 σ H1 _ I1 q) λov s2 ⟨x,H2,I2,rx,a,ex,ea,q⟩=>?_) hs;subst ex;obtain rfl:ov=Ao a:=rx;obtain⟨⟨v0,e0⟩,_,_⟩:=I2.aK _ _ ea;refine MB I2.ek F e0 λh' dx tk hd e1 n1 k1=>?_;have fd:H2 dx=bn:=I2.aK.fresh hd;have lt:a<s2.heap.objs.size:=Ai e0;have na:dx≠a:=λz=>absurd lt (Eu.mpr (z▸hd));have un:Un X.fs [] H2 (upd (upd H2 dx (.xd [(f,y)])) a (.ext (xy a C dx))) s2.heap h':=by
  refine⟨λb o q n _ _=>k1 b o (λz=>by subst z;rw[ea]at n;cases n) q,λb o q n _ _=>⟨o.slots,k1 b o (λz=>by subst z;rw[ea]at n;cases n) q⟩,λb o q n _=>?_,λb o q _=>?_,λb xs n=>?_,λb o v n=>?_,λb ps n=>?_⟩
  .have h1:b≠a:=λz=>by subst z;rw[ea]at n;cases n
   have h2:b≠dx:=AB (Au (Ai q) hd);rw[af h1,af h2];exact n
  .by_cases hb:b=a
   .subst hb;exact⟨_,e1⟩
   .exact⟨o,k1 b o hb q⟩
  .have h1:b≠a:=λz=>by subst z;rw[ea]at n;cases n
   have h2:b≠dx:=λz=>by subst z;rw[fd]at n;cases n
   rw[af h1,af h2];exact n
  .have h1:b≠a:=λz=>by subst z;rw[ea]at n;cases n
   have h2:b≠dx:=λz=>by subst z;rw[fd]at n;cases n
   rw[af h1,af h2];exact n
  .have h1:b≠a:=λz=>by subst z;rw[ea]at n;cases n
   have h2:b≠dx:=λz=>by subst z;rw[fd]at n;cases n
   exact⟨#[],by rw[af h1,af h2,n];simp⟩
 have aK:gJ X.prog X.w (upd (upd H2 dx (.xd [(f,y)])) a (.ext (xy a C dx))) h':=λb o n=>by
  by_cases h1:b=a
  .subst h1;rw[aw]at n;cases n;exact⟨⟨_,e1⟩,⟨_,e1⟩,Ve⟩
  rw[af h1]at n;by_cases h2:b=dx
  .subst h2;rw[aw]at n;cases n;refine⟨_,n1,λg=>?_⟩;by_cases hg:g=f
   .subst hg;rw[if_pos rfl,Fp];exact ry
   .rw[if_neg hg];have:(g==f)=false:=by simpa using hg
    simp[Cy,this,lq]
  rw[af h2]at n;refine(I2.aK b o n).lB (λc u hc q=>k1 c u ?_ q) (λc z=>?_) λc xs z=>?_
  .rintro rfl;rcases hc with rfl|hc
   .exact h1 rfl
   .rw[ea]at hc;cases hc
  .have h1:c≠a:=λy=>by subst y;rw[ea]at z;cases z
   have h2:c≠dx:=λy=>by subst y;rw[fd]at z;cases z
   rw[af h1,af h2];exact z
  .have h1:c≠a:=λy=>by subst y;rw[ea]at z;cases z
   have h2:c≠dx:=λy=>by subst y;rw[fd]at z;cases z
   rw[af h1,af h2];exact z
 exact⟨σ,_,I2.un (t':=tk) un aK,q _ dx fd (λc h1 h2=>by rw[af h1,af h2]) aw (by rw[af na,aw])⟩
end
end L2
variable{σ:L2.St}{q nm:BJ}{bs sub:O AZ}{k1 k0 k3 k5:Option AZ}{lW:Bool}{sn:O BJ}{col:Option Bool}{dd:Option AW}
namespace L2
def Je(C:db):Sp:=λvs H Q _=>∃(a:db) (n:Int),vs=[.ref a,.int n]/\H a=al (.ext (sJ a C))/\n.natAbs.log2 < 100/\∀H' dx,H dx=bn->(∀c,c≠a->c≠dx->H' c=H c)->H' a=al (.ext (xy a C dx))->H' dx=al (.xd [("place",.int n)])->Q .br H'
section
variable{K:Aa}{C:db}
def R9{n:Int}{Q:ce->gl->Prop}(M:wU X.K C f)(F:aY X.prog X.w X.K X.mg X.base ip k f fd ["self","place"] (Je C))(hb:Binds X.K fd ["self","place"] [])(hr:bf (k+1) X.A)(I:Inv X Z σ H s)(hn:n.natAbs.log2 < 100)(q:∀s' a dx H',Inv X Z σ H' s'->(∀c o,H c=al o->H' c=al o)->(∀c,H' c=bn->H c=bn)->O7 C s.heap.objs.size H' s'.heap a dx bn n->
   (∃v1,s'.heap.get? a=al {cls:=.ref C,dict:=al dx,data:=.fields #[v1,.none,.none,.none,.bool false,.none]})->Q (.ref a) s'):f8 (ii X.prog X.w) X.A (call (.ref C) [.int n tk]) Q X.xe s:=by
 have e1:((s.heap.push {cls:=.type "tuple",data:=.seq [CH n tk].toArray}).push (gZ C s.heap.objs.size)).get? (s.heap.objs.size+1)=al (gZ C s.heap.objs.size):=by
  have:=Al (s.heap.push {cls:=.type "tuple",data:=.seq [CH n tk].toArray}) (o:=gZ C s.heap.objs.size) rfl
  rwa [Bi]at this
 have fa:H (s.heap.objs.size+1)=bn:=I.aK.fresh (FG _);have I1:=I.laid (a:=s.heap.objs.size+1) (o:=.ext (sJ (s.heap.objs.size+1) C)) (t':=s.toks) (h':=(s.heap.push {cls:=.type "tuple",data:=.seq [CH n tk].toArray}).push (gZ C s.heap.objs.size)) (λb u q=>Ad _ (Ad _ q)) (FG _) ⟨⟨_,e1⟩,⟨_,e1⟩,Py⟩;have r2:Vals [V.ref (s.heap.objs.size+1),.int n] [Ao (s.heap.objs.size+1),.int n tk]:=.cons rfl (.cons ⟨tk,rfl⟩ .nil);have hq:Je C [V.ref (s.heap.objs.size+1),.int n] (upd H (s.heap.objs.size+1) (.ext (sJ (s.heap.objs.size+1) C))) (λv H'=>v=.br/\∃dx,H dx=bn/\dx≠s.heap.objs.size+1/\(∀c,c≠s.heap.objs.size+1->c≠dx->H' c=H c)/\H' (s.heap.objs.size+1)=al (.ext (xy (s.heap.objs.size+1) C dx))/\H' dx=al (.xd [("place",.int n)])) E0:=
  ⟨_,n,rfl,aw,hn,λH' dx hd ho ha hx=>by
   have nx:dx≠s.heap.objs.size+1:=λz=>by subst z;rw[aw]at hd;cases hd
   rw[af nx]at hd;exact⟨rfl,dx,hd,nx,λc h1 h2=>by rw[ho c h1 h2,af h1],ha,hx⟩⟩
 refine Cp (Kn I.ek M (by show 1<=sizeLine;decide) (zn (F.run _ X.stack _ _ ⟨[Ao (s.heap.objs.size+1),.int n tk],[]⟩ [Ao (s.heap.objs.size+1),.int n tk] _ _ E0 (hr.make C _ [])
  (I1.Lr.make C _ []) (hb _ [Ao (s.heap.objs.size+1),.int n tk] I1.ek rfl) r2 hq) λr s' HB=>?_))
 cases r with
 |error e=>exact HB.elim
 |ok fl=>
  cases fl with
  |ret u=>
   obtain⟨v,H',I3,rv,ev,dx,hd,nd,ho,ha,hx⟩:=I1.after HB;subst ev;obtain⟨⟨v1,e2⟩,_,_⟩:=I3.aK _ _ ha;refine⟨rv,?_⟩;have I4:=I3.write (x:=s.heap.objs.size+1) (e:=s.heap.objs.size+1) (o:=.ext (sI (s.heap.objs.size+1) C dx)) (h':=s'.heap) (t':=s'.toks) (by rw[ha];trivial) (.inl rfl) (λb o _ q=>q) ⟨_,e2⟩ ⟨⟨_,_,e2⟩,⟨_,e2⟩,Vf⟩;refine q s' _ dx _ I4 (λc o e=>?_) (λc e=>?_) ⟨⟨_,_,e2,(by show 1<6;decide),rfl⟩,aw,by rw[af nd];exact hx,FG _,λT z=>(nomatch z)⟩ ⟨v1,e2⟩
   .have h1:c≠s.heap.objs.size+1:=λz=>by subst z;rw[fa]at e;cases e
    have h2:c≠dx:=λz=>by subst z;rw[hd]at e;cases e
    rw[af h1,ho c h1 h2];exact e
   .by_cases h1:c=s.heap.objs.size+1
    .subst h1;exact fa
    .rw[af h1]at e;by_cases h2:c=dx
     .subst h2;exact hd
     .rw[ho c h1 h2]at e;exact e
  |next=>exact AO HB
  |brk=>exact AO HB
  |cont=>exact AO HB
def qS{N:db}{bm:O ce}{ab:Bool}{k2:Option ce}{â:String}{x:Sem ce}{Q:Flow->gl->Prop}(cD:bm.contains (.type "BaseException")=true)(hh:A.handled=bn)(h:f8 M A x (λv s₁=>∃e dx t,v=.ref e/\s₁.heap.get? C=al (Os nm q C N bs bm lW sn sub ab col dd k0 k1 k2 k3 k5 â)/\
   s₁.heap.get? e=al {cls:=.ref C,dict:=al dx,data:=.fields #[t,.none,.none,.none,.bool false,.none]}/\E (.ref e) s₁) E s):f8 M A (raiseStmt env (al x) bn) Q E s:=by
 have hcB:(Ao C::bm).contains (.type "BaseException")=true:=by rw[List.contains_cons,cD,Bool.or_true]
 unfold raiseStmt;refine Ab (Bv h (λv s₁ h₁=>?_) λ_ _ x=>x);obtain⟨e,dx,t,rfl,hC,he,hE⟩:=h₁;obtain⟨hp,g,d,tk,os⟩:=s₁
 repeat (first|with_reducible refine Ds he ?_|with_reducible refine Ds hC ?_|(with_reducible refine DW hC ?_;rw[hcB])|wp_step)
 exact wpAny_raiseNew_none hh hE
end
def Q0(te:TE)(E:XK):TS:=λ_ σ H=>te σ H λx H1=>∃n:Int,[x]=[.int n]/\n.natAbs.log2<100/\∀(a:db) (H':Hp),(∀c o,H1 c=al o->H' c=al o)->(∀c,H' c=bn->H1 c=bn)->E (.int n 0) (al a) H'
section
variable{K:Aa}{C:db}{x:Str}{np:Pos}{E:XK}
def kr(M:wU X.K C f)(F:aY X.prog X.w X.K X.mg X.base ip k f fd ["self","place"] (Je C))(hb:Binds X.K fd ["self","place"] [])(hr:bf (k+1) X.A)(hc:X.calm=true)(hg:Gl X x)(hm:X.mg x=al (.ref C))(hkp:AH X.K (.ref C)=true)(he:PE X e te)(hf:pU X C E)(dQ: ~~~(dn x))(ly:‹dX X e []›)(bH:‹fD X bD []›):PS X (.Raise (al (.Call (.Name x np) [e] [] bD)) bn pos) (Q0 te E):=by
 intro Z s σ H D I h;obtain⟨nm,q,N,bs,bm,lW,sn,sub,ab,col,dd,k0,k1,k2,k3,k5,hC,tl⟩:=M.obj;have cD:bm.contains (.type "BaseException")=true:=(tl _ I.ek).hasType ⋯;have main:f8 (ii X.prog X.w) X.A (pc (.Call (.Name x np) [e] [] bD) X.env) (λv s₁=>∃a dx t,v=.ref a/\s₁.heap.get? C=al (Os nm q C N bs bm lW sn sub ab col dd k0 k1 k2 k3 k5 "ValueError.__new__")/\
   s₁.heap.get? a=al {cls:=.ref C,dict:=al dx,data:=.fields #[t,.none,.none,.none,.bool false,.none]}/\X.xe (.ref a) s₁) X.xe s:=by
  refine AL (eF I hg hm (BS I.ok.mod.Kw hkp (aR ((ah he aA ly) bD Z s σ H (λvs H1=>∃n:Int,vs=[.int n]/\n.natAbs.log2<100/\∀(a:db) (H':Hp),(∀c o,H1 c=al o->H' c=al o)->(∀c,H' c=bn->H1 c=bn)->E (.int n 0) (al a) H') I h) λus s1 ⟨vs,H1,I1,r,q⟩=>⟨I1.ek,?_⟩) ly bH) dQ);obtain⟨n,rfl,hn,q⟩:=q;obtain⟨u,rfl,r1⟩:=r.one;obtain⟨tk,rfl⟩:=r1;refine R9 M F hb hr I1 hn λs' a dx H' I2 k1 k2 fl ⟨v1,e1⟩=>⟨a,dx,v1,rfl,I2.ek _ _ hC,e1,?_⟩;exact hf Z σ H' s' a dx bn n I2 ⟨fl.fx,fl.fa,fl.fd,AE I1.sz fl.fl,λT z=>(nomatch z)⟩ (q a H' k1 k2)
 rw[arm_exec_Raise]
 first
  |exact Ab (BW (qS cD (I.ok.hd hc) (Ab (Bv main (λv s₃ h₃=>Ab (BW (Ae h₃))) λ_ _ x=>x))))
  |(simp only[evalOpt,Option.map];exact Ab (BW (qS cD (I.ok.hd hc) (Ab (Bv main (λv s₃ h₃=>Ab (BW (Ae h₃))) λ_ _ x=>x)))))
end
structure O8(K:Aa)(C TE:db):Prop where
 c:∃nm q N bs lW sn sub ab col dd k0 k1 k2 k3 k5,K.lookup C=al (Os nm q C N bs (.ref TE::LY) lW sn sub ab col dd k0 k1 k2 k3 k5 "ValueError.__new__")
 t:∃nm q N bs lW sn sub ab col dd k0 k1 k2 k3 k5,K.lookup TE=al (Os nm q TE N bs LY lW sn sub ab col dd k0 k1 k2 k3 k5 "ValueError.__new__")
def HM{K:Aa}{C TE:db}{e:db}{oe:Obj}{Q:Bool->gl->Prop}(U:O8 K C TE)(X:K.In s.heap)(he:s.heap.get? e=al oe)(KZ:oe.cls=.ref C)(hq:Q true s):f8 M A (excMatches (.ref e) (.ref TE)) Q E s:=by
 obtain⟨nm,q,N,bs,lW,sn,sub,ab,col,dd,k0,k1,k2,k3,k5,lc⟩:=U.c;obtain⟨nm',q',N',bs',Qp,sn',Vc,ab',Xw,Tp,k0',k1',k2',k3',k5',lt⟩:=U.t;have hC:=X _ _ lc;have hT:=X _ _ lt;obtain⟨h,g,d,t,os⟩:=s;have c1:(Ao TE::LY).contains (.type "BaseException")=true:=by rfl
 have c2:(Ao C::Ao TE::LY).contains (.ref TE)=true:=by simp
 have f:=tc_notTuple;unfold excMatches
 repeat (first|(with_reducible refine Ds he ?_;rw[KZ])|with_reducible refine Ds hT ?_|(with_reducible refine DW hT ?_;rw[c1])|(with_reducible refine DW hC ?_;rw[c2])|wp_step)
 exact hq
abbrev Cx.mark(X:Cx)(e:Option ce):Cx:={X with A:=X.A.mark e,calm:=false}
def Inv.mark(I:Inv X Z σ H s)(e:Option ce):Inv (X.mark e) Z σ H s:=
 ⟨⟨I.ok.mod,I.ok.kind,I.ok.glob,I.ok.blt,I.ok.above,I.ok.inj,I.ok.has,I.ok.Tv,λz=>(nomatch z),I.ok.frames,I.ok.Vd,I.ok.exf,I.ok.bs,I.ok.LW,I.ok.He,I.ok.HL,I.ok.iV,I.ok.Mr⟩,I.os,I.bare,I.base,I.loc,I.cell,I.free,I.eu,I.pin,I.aK,I.len⟩
def Inv.unmark{e:Option ce}(I:Inv (X.mark e) Z σ H s)(ok:X.Ok):Inv X Z σ H s:=⟨ok,I.os,I.bare,I.base,I.loc,I.cell,I.free,I.eu,I.pin,I.aK,I.len⟩
def Inv.landed{C dx:db}(I:Inv X Z σ H s)(c:qc (m5 X.stack) a ot s.heap h')(x:qK h' a C dx ot')(ea:H a=al (.ext (sI a C dx)))(et:∀T,ot=al T->H T=bn/\X.s₀.heap.objs.size<=T)(ep:∀T,ot=al T->∀p∈X.pn++Z,p.1≠T)(hs:X.stack=X.env::X.outer)(hl:∀T,ot=al T->T≠X.env.locals/\∀y c,X.env.cells.lookup y=al c->c≠T)(ns:∀m,s.heap.Ns X.env.locals m->h'.Ns X.env.locals m):Inv X Z σ H {s with heap:=h'}:=by
 have sf:=I.km;have aK:=c.aK x I.aK ea (λT h=>(et T h).1) sf;have na:∀b,H b=bn->b≠a:=λb h z=>by subst z;rw[ea]at h;cases h
 refine I.step (g':=s.gens) (d':=s.drawn) (t':=s.toks) (ch:=ot.toList) (λb hb=>?_) (λb o n1 n2 n3 e h=>?_) (λb o n1 n2 n3 e h=>?_) (λb o _ _ h=>h) (λb o _ e=>c.there b o e) (λ_ _ h=>h) (λ_ _ _ h=>h) (λb ps h=>⟨#[],by simpa using h⟩) ns aK I.bare
 .have hb:ot=al b:=by simpa using hb
  exact⟨.inr (et b hb).2,(hl b hb).1,(hl b hb).2,ep b hb⟩
 .refine c.keep b o e (na b h) (λz=>n3 (by simp[z])) λz=>?_;rcases Az.mp (I.n6 b z) with z|z
  .exact n1 z
  .exact n2 z
 .exact c.slot b o e (na b h) λz=>n3 (by simp[z])
end L2
variable{t:L2.TA}
namespace L2
section
def Ox{n:Str}(I:Inv X Z σ H s)(hN:X.N.Nodup)(hj:X.N[j]?=al n)(hk:X.env.kindOf n=al .local)(h:∀s',Inv X Z (σ.set j bn) H s'->Q () s'):
  f8 M A (do bindName X.env n .none;unbindBehindTheSuite X.env n pos) Q E s:=by
 obtain⟨m,hn,hl⟩:=id I.loc;have KZ:(X.env.scope.kind==.class||(X.env.scope.kind==.module&&X.env.locals != X.env.globals))=false:=by rw[I.ok.kind];rfl
 have IG:=I.IG;refine wpAny_nameGoes_keeps hk hn KZ λh' v WJ hs=>?_;obtain⟨oL,_,_,hoL,_⟩:=id hn;have Ë:gJ X.prog X.w H h':=λb ob e=>(I.aK b ob e).lB (λc w' hc q=>(hs.2 c (by
  rintro rfl;rcases hc with z|hc
  .rw[<- z,I.free]at e;cases e
  .rw[I.free]at hc;cases hc)).trans q) (λ_ q=>q) λ_ _ q=>q
 refine h _ ⟨I.ok,I.os,I.bare,⟨λb o e n hb hx=>?_,λb o e n hb hx=>?_,I.base.free,λb o e hx=>?_,I.base.bN,I.base.kS,I.base.lA⟩,⟨_,WJ,λi y v' e1 e2 e3=>?_⟩,λy c e=>?_,I.free,I.eu,λp hp=>?_,Ë,by simpa using I.len⟩
 .exact(hs.2 b (AB (Au (Ai e) I.ok.above))).trans (I.base.keep b o e n hb hx)
 .obtain⟨sl,e1⟩:=I.base.slot b o e n hb hx;exact⟨sl,(hs.2 b (AB (Au (Ai e) I.ok.above))).trans e1⟩
 .obtain⟨o',e1⟩:=I.base.there b o e hx;exact⟨o',(hs.2 b (AB (Au (Ai e) I.ok.above))).trans e1⟩
 .by_cases hi:i=j
  .subst hi;rw[EK]at e2;simp at e2
  .rw[B1 (BA hi)]at e2;obtain⟨u',r',q⟩:=hl i y v' e1 e2 e3;refine⟨u',r',?_⟩;rcases q with⟨k,e⟩|⟨k,c,e,z⟩
   .refine .inl ⟨k,?_⟩;have:y≠n:=λe=>hi (oG hN e1 (e▸hj));simp[this,e]
   .exact .inr ⟨k,c,e,z.sameBut hs (IG y c e)⟩
 .obtain⟨w',z⟩:=I.cell y c e;exact⟨w',z.sameBut hs (IG y c e)⟩
 .obtain⟨e,n,ne,nf,d⟩:=I.pin p hp;exact⟨(hs.2 p.1 ne).trans e,n,ne,nf,d⟩
end
def PR(X:Cx)(C:db)(e:o0)(t:St->Hp->VK->XK->Prop):Prop:=
 ∀(Z:O (db×Obj)) (s:gl) (σ:St) (H:Hp) (Q:VK) (E:XK),Inv X Z σ H s->t σ H Q E->f8 (ii X.prog X.w) X.A (pc e X.env) (EP X Z σ Q)
  (λev s'=>∃a dx ot n H',ev=.ref a/\Inv X Z σ H' s'/\O7 C X.s₀.heap.objs.size H' s'.heap a dx ot n/\(∀T,ot=al T->(T≠X.env.locals/\∀y c,X.env.cells.lookup y=al c->c≠T)/\∀p∈X.pn++Z,p.1≠T)/\E (.int n 0) (al a) H') s
section
variable{C D0:db}{x:Str}{ta:L2.TE}
def JM(hx:∀e s,¬X.xe e s)(F:aY X.prog X.w X.K X.mg X.base (mj X.prog X.w C) k f fd ps sp)(hr:bf k X.A)(kz:∀h:lw,X.K.In h->(∀b o,X.base.get? b=al o->h.get? b=al o)->(∀p∈fz,h.get? p.1=al p.2)->Di f h)(hf:PE X (.Name x p) ta)(hb:Binds X.K fd ps [])(ha:PA X (e::es) t)(he:‹dX X e es›)(bH:‹fD X pos es›):PR X C (.Call (.Name x p) (e::es) [] pos) (λσ H Q E=>ta σ H λx H1=>x=.ref f/\mN H1 fz/\t σ H1 λvs H2=>mN H2 fz/\sp vs H2 Q E):=by
 intro Z s σ H Q E I q;refine AL (Bv (hf Z s σ H _ I q) (λv s1 ⟨y,H1,I1,r1,ey,z1,q1⟩=>?_) λ_ _ h=>(hx _ _ h).elim);subst ey;cases r1;have kz':∀{σ':L2.St}{H':Hp}{s':gl},Inv X Z σ' H' s'->mN H' fz->Di f s'.heap:=λJ z=>kz _ J.ek J.bk λp hp=>let ⟨u,e⟩:=z p hp;(J.aK _ _ e).1;refine Eh (kz' I1 z1) (Bv (ha pos Z s1 σ H1 _ I1 q1) (λus s2 ⟨vs,H2,I2,r,z2,q2⟩=>⟨kz' I2 z2,?_⟩) λ_ _ h=>(hx _ _ h).elim) he bH;have hl:us.length=ps.length:=by rw[<- r.length];exact F.len _ _ _ _ q2
 refine Cp (zn (F.run X.A X.stack s2 H2 ⟨us,[]⟩ us vs Q E hr I2.Lr (by have:=hb s2 us I2.ek (by rw[A3];exact hl);rwa [A3]at this) r q2) λr s' hq=>?_);cases r with
 |error e=>
  obtain⟨a,dx,ot,n,H',rfl,os,bare,un,aK,F,q⟩:=hq;obtain⟨hh,g,d,t,VW⟩:=s';obtain rfl:VW=s2.os:=os;refine⟨a,dx,ot,n,H',rfl,I2.call (h':=hh) (g':=g) (d':=d) (t':=t) (ch:=[]) un aK bare (λb z=>absurd z (by simp)),⟨F.fx,F.fa,F.fd,AE I2.sz F.fl,λT z=>⟨(F.ft T z).1,AE I2.sz (F.ft T z).2⟩⟩,λT z=>⟨⟨λy=>?_,λx c e y=>?_⟩,λp hp y=>?_⟩,q⟩
  .have:=I2.lt;have:=(F.ft T z).2;rw[y]at this;exact absurd I2.lt (Eu.mpr this)
  .obtain⟨v,o,ho,_⟩:=I2.cell x c e;rw[y]at ho;exact absurd (Ai ho) (Eu.mpr (F.ft T z).2)
  .have ho:=(I2.pin p hp).1;rw[y]at ho;exact absurd (Ai ho) (Eu.mpr (F.ft T z).2)
 |ok fl=>
  cases fl with
  |ret u=>exact I2.after hq
  |next=>exact AO hq
  |brk=>exact AO hq
  |cont=>exact AO hq
def Zk(t:St->Hp->VK->XK->Prop)(i j:Nat)(C:db):TS:=λD σ H=>t σ H (λ_ H1=>D.nx σ H1) λv oa H1=>∀m a dx,v=.int m 0->oa=al a->H1 a=al (.ext (sI a C dx))->H1 dx=al (.xd [("place",.int m)])->D.nx (((σ.set j (al (.ref a))).set i (al (.ref a))).set j bn) H1
def Rz{tt:St->Hp->VK->XK->Prop}{tn n cn:Str}{np np2 cp aat Xi:Pos}{ec:o0}(yi:X.stack=X.env::X.outer)(YC:X.env.frame=al X.env.locals)(hx:∀e s,¬X.xe e s)(U:O8 X.K C D0)(hN:X.N.Nodup)(hi:X.N[i]?=al cn)(hj:X.N[j]?=al n)(hil:X.env.scope.names.lookup cn=al .local)(KS:X.env.kindOf n=al .local)(ò:X.env.scope.names.lookup n=al .local)(hg:Gl X tn)(hm:X.mg tn=al (.ref D0))(he:PR X C ec tt)(hs:‹pr ec bn Xi.line X.env=pure false›)(uM:‹pr (.Name n np2) (al (.Name cn cp)) Á.line X.env=pure false›)(dQ: ~~~(dn tn))(hdn: ~~~(dn n))(hdc: ~~~(qI n)):PS X (.Try [.Expr ec Xi] [.ExceptHandler (al (.Name tn np)) (al n) [.Assign [.Name cn cp] (.Name n np2) Á] aat] [] [] pos) (Zk tt i j C):=by
 intro Z s σ H D I h;refine wpAny_Try_except (EY (wpAny_Expr_any (Bv (he Z s σ H _ _ I h) (λv s1 ⟨x,H1,I1,r1,q1⟩=>CF (CF ⟨σ,H1,I1,q1⟩)) ?_) I.quiet hs));rintro ev s1 ⟨a,dx,ot,m,H1,rfl,I1,F,hT,q⟩;have q:=q m a dx rfl rfl F.fa F.fd;have st:=I1.stack;rw[yi]at st;have hA:X.A.frames=al (X.env::X.outer):=by rw[I1.ok.frames,yi]
 refine q9 hA st YC F.fx λh' T' c x' hT'=>?_;have ns:∀m,s1.heap.Ns X.env.locals m->h'.Ns X.env.locals m:=λm' ⟨o,es,ep,ho,hd,hk,hf⟩=>by
  obtain⟨sl,e⟩:=c.slot _ o ho (λz=>by have:=I1.free;rw[z,F.fa]at this;cases this) λz=>(hT _ z).1.1 rfl;exact⟨_,es,ep,e,hd,hk,hf⟩
 have I2:Inv X Z σ H1 {s1 with heap:=h'}:=I1.landed (by rw[yi];exact c) x' F.fa F.ft (λT z=>(hT T z).2) yi (λT z=>(hT T z).1) ns;refine wpAny_handleBy_cons (codeAny_handlers_test ?_) (by intro z;cases z);have I3:=I2.mark (al (.ref a));refine eF (X:=X.mark (al (.ref a))) I3 hg hm ?_ dQ;obtain⟨vs,sl,e0,l0,e1,nT,cc,dd,ts,stt,eT,h3⟩:=id x';refine HM U I2.ek e0 rfl ?_;have l3:3<ts.size:=by
  rcases Ec 3 ts.size with z|z
  .exact z
  .rw[Fd z]at h3;cases h3
 refine codeAny_handlers_suite_as (wpAny_setFlight_none e0 rfl e1 eT rfl l3 ?_);have same:h'.update T' (Cb λx=>x.setIfInBounds 3 AJ)=h':=Heap.update_setField_same h' T' _ ts 3 AJ eT rfl h3;rw[same];refine dN I2 hN hj (.inl ò) (show RelV (.ref a) (.ref a) from rfl) (λs3 I4=>?_) (.inr ò);have I5:=I4.mark (al (.ref a));refine Bv (aZ (cV (X:=(X.mark (al (.ref a))).Hd) (i:=i) hN hi (.inl hil) (cy (i:=j) hj (.inl ò) hdn hdc) uM (.inr hil)) Z s3 _ H1 {nx:=λσ' H'=>σ'=((σ.set j (al (.ref a))).set i (al (.ref a)))/\H'=H1,rt:=λ_ _=>False} (I5.lz _) ⟨.ref a,?_,rfl,rfl⟩) (λfl s4 h4=>?_) λ_ _ h=>h.elim
 .rw[CD];rw[I2.len];exact(Ak.mp hj).1
 .cases fl with
  |next=>
   obtain⟨σ',H',I6,rfl,rfl⟩:=h4;exact Ox (I6.gM.unmark I.ok) hN hj KS λs5 I7=>⟨_,H',I7,q⟩
  |ret v=>obtain⟨_,_,_,_,_,z⟩:=h4;exact z.elim
  |brk=>obtain⟨_,_,_,z⟩:=h4;exact z.elim
  |cont=>obtain⟨_,_,_,z⟩:=h4;exact z.elim
end
structure Ip(K:Aa)(C:db):Prop where
 ga:Av K (.ref C) "__getattribute__"=al (al (.builtin "BaseException.__getattribute__"))
 no:Av K (.ref C) "__getattr__"=al bn
 sub:Bx K C (.type "BaseException")=al true
 hd:B4 K C=true
 ha:Av K (.ref C) "__class__"=al (al (.builtin "object.__class__"))
 hn:B3 K (.builtin "object.__class__") "__get__"=al (al (.builtin "getset_descriptor.__get__"))
 Yv:Fe K (.builtin "object.__class__")=al true
 hm:Bx K C (.type "object")=al true
def MD{K:Aa}{C dx:db}{sl:Array (Option ce)}{od:Obj}{Q:Option ce->gl->Prop}(X:K.In s.heap)(F:Ip K C)(e:s.heap.get? a=al {cls:=.ref C,dict:=al dx,data:=.fields vs,slots:=sl})(ho:s.heap.get? dx=al od)(h:Q (al (.ref C)) {s with toks:=s.toks+1}):f8 (ii prog w) A (getAttr? (.ref a) "__class__") Q E s:=by
 have J:Dh s.heap a {cls:=.ref C,dict:=al dx,data:=.fields vs,slots:=sl} C (al od):=⟨e,rfl,rfl,ho⟩;have hf:PySem.W.findObj K C (al od) "__class__"=al (.bind (.builtin "getset_descriptor.__get__") (.builtin "object.__class__")):=PySem.W.findObj_data (by obtain⟨cd,hc,_⟩:=CW F.hd;rw[hc];rfl) F.ha F.hn F.Yv;unfold getAttr? getAttrBy? getAttrBy;refine Ab (wpAny_mkText (Ab (CJ (A4 (Ab (Ab (A7 e (Ae ?_))))))));refine Ab (AX.here (BI X F.ga) ?_);show f8 _ _ (Tk (.ref a) (.str "__class__" s.toks) (.ref C) (.builtin "BaseException.__getattribute__") false false) _ _ _;unfold Tk;refine Ab ?_;show f8 _ _ (typeLookup (.ref C) "__getattr__") _ _ _;refine AX.here (BI X F.no) ?_;refine Ab (CJ (A4 ?_));have e1:callGetattribute (.ref a) (.str "__class__" s.toks) (.builtin "BaseException.__getattribute__") false=boundAndCalled (.builtin "BaseException.__getattribute__") (.ref a) (.str "__class__" s.toks):=by rfl
 rw[e1];unfold boundAndCalled;rw[Em.ga.bind (.ref a)];refine Ab (Ae (Cp (Pi (by decide +kernel) Fm ?_)));unfold GT;have hk:(builtinKind "BaseException.__getattribute__",splitId "BaseException.__getattribute__")=(al Dk,al ("BaseException","__getattribute__")):=by decide +kernel
 rw[hk];refine Ab ?_;show f8 _ _ (Fk (.ref a) (.type "BaseException")) _ _ _;unfold Fk;refine Ab (Ab (A7 e (Ae ?_)));refine AX.here (Cr X F.sub) ?_;have ha:argsOk "BaseException.__getattribute__" ⟨[.ref a,.str "__class__" s.toks],[]⟩:=Fz _ _;rw[if_neg ⋯];refine X3 ha ?_;unfold GE.«object.__getattribute__»;refine Ab (Ae (Ab (Ae (Ab (Ab (A7 e (Ae ?_)))))));refine Ab (AX.here (FV X J hf) ?_);show f8 _ _ (u8 [Value.builtin "object.__class__"] (call (.builtin "getset_descriptor.__get__") [.builtin "object.__class__",.ref a,.ref C]) >>= _) _ _ _;refine Ab (A4 (Cp (PySem.W.class_get (s:={s with toks:=s.toks+1}) (ox:={cls:=.ref C,dict:=al dx,data:=.fields vs,slots:=sl}) (od:=al od) X J F.hm ?_)));refine Ae ?_;show f8 _ _ (handedOut (.ref C)) _ _ _;exact Ae (Ae h)
def IsX(a C:db)(h:lw):Prop:=∃dx vs sl od,h.get? a=al {cls:=.ref C,dict:=al dx,data:=.fields vs,slots:=sl}/\h.get? dx=al od
def vC{K:Aa}{C:db}(F:Ip K C):PySem.W.KitX K (.ref a) (.ref C) (IsX a C) where
 ty:=λM h _ ⟨dx,vs,sl,od,e,ho⟩=>(show Dh h a _ C (al od) from⟨e,rfl,rfl,ho⟩).type
 it:=λ_ _ X _=>by
  obtain⟨cdD,K1,_⟩:=CW F.hd;unfold BF at K1
  split at K1
  .rename_i c' d' cd' M5 ho;intro A' Q' E' s' k q;unfold isType loadHead;exact Ab (A7 (k _ _ (X _ _ ho)) (Ae q))
  .cases K1
 ne:=λh tp dd ao n sl X htp=>by
  obtain⟨cdD,K1,_⟩:=CW F.hd;refine Bool.eq_false_iff.mpr λq=>?_;have e:C=tp:=Ao.inj (beq_iff_eq.mp q);subst e;unfold BF at K1
  split at K1
  .rename_i c' d' cd' M5 ho;have z:=(X _ _ ho).symm.trans htp;cases z
  .cases K1
 ca:=λX ⟨dx,vs,sl,od,e,ho⟩ k=>MD X F e ho k
theorem Pl:∀{l:O db}{ao:O ce},Vals (l.map V.ref) ao->ao=l.map Ao
 |[],_,.nil=>rfl
 |y::l,_,.cons r0 r1=>by rw[Pl r1,show _=Ao y from r0];rfl
section
structure XH(H:Hp)(a C dx:db)(n:Int):Prop where
 a:H a=al (.ext (sI a C dx))
 d:H dx=al (.xd [("place",.int n)])
def XH.is{C dx:db}{n:Int}(x:XH H a C dx n)(ok:gJ P w H h):IsX a C h:=by
 obtain⟨⟨vs,sl,e⟩,_,_⟩:=ok _ _ x.a;obtain⟨mA,⟨od,_,_,ho,_⟩,_⟩:=ok _ _ x.d;exact⟨dx,vs,sl,od,e,ho⟩
def wH{K:Aa}(hK:X.K=K):bz X (.builtin "isinstance") (λxs H Q=>∃a C dx n cv c b,xs=[V.ref a,cv]/\XH H a C dx n/\Ip K C/\(∀u,RelV cv u->u=c)/\AG K (.ref C) c=al b/\Q (.bl b) H):=by
 subst hK;intro Z s σ H xs us Q I r h;obtain⟨a,C,dx,n,cv,c,b,rfl,x,F,hc,hk,q⟩:=h;obtain⟨u,w',rfl,ru,G0⟩:=vals2 r;obtain rfl:u=Ao a:=ru;obtain rfl:=hc _ G0;exact A5 (vC F) I.ek (x.is I.aK) hk (λz=>nomatch z) λtk=>⟨.bl b,H,I.tok _,rfl,q⟩
def Ic{K:Aa}(hK:X.K=K):bz X (.builtin "isinstance") (λxs H Q=>∃(a C dx:db) (n:Int) (p:db) (l:O db) (b:Bool),xs=[V.ref a,.ref p]/\XH H a C dx n/\Ip K C/\H p=al (.tup (l.map V.ref))/\Cu K (.ref C) (l.map Ao)=al b/\Q (.bl b) H):=by
 subst hK;intro Z s σ H xs us Q I r h;obtain⟨a,C,dx,n,p,l,b,rfl,x,F,hp,hk,q⟩:=h;obtain⟨u,w',rfl,ru,G0⟩:=vals2 r;obtain rfl:u=Ao a:=ru;obtain rfl:w'=Ao p:=G0;obtain⟨hz,ao,rv,⟨o,e,hcl,n',hd⟩,hq⟩:=I.aK _ _ hp;have:=Pl rv;subst this;obtain⟨c0,d0,dt,sl⟩:=o;cases hcl;cases hd;exact PySem.W.kia_tup (vC F) I.ek (x.is I.aK) e hk (λz=>nomatch z) λtk=>⟨.bl b,H,I.tok _,rfl,q⟩
def tXg(K:Aa)(ta:TE):TE:=λσ H Q=>ta σ H λx H1=>∃a C dx n,x=.ref a/\XH H1 a C dx n/\O9 K C "place"/\Q (.int n) H1
def JR{K:Aa}(hK:X.K=K)(he:PE X e ta)(hb:sB e "place" X.env (pc e X.env)=pc e X.env):PE X (.Attribute e "place" pos) (tXg K ta):=by
 subst hK;intro Z s σ H Q I h;refine GC hb (aR (he Z s σ H _ I h) λu s1 ⟨x,H1,I1,rx,a,C,dx,n,ex,hx,F,q⟩=>?_);subst ex;obtain rfl:u=Ao a:=rx;obtain⟨⟨vs,sl,e1⟩,_,_⟩:=I1.aK _ _ hx.a;obtain⟨mA,hn,hl⟩:=I1.aK _ _ hx.d;have h1:=hl "place";rw[Fp]at h1;cases hm:mA "place" with
 |none=>rw[hm]at h1;exact h1.elim
 |some v=>
  rw[hm]at h1;obtain⟨tk,rfl⟩:=(show ∃tk,v=.int n tk from h1);exact MC I1.ek F e1 hn hm ⟨.int n,H1,I1.tok _,⟨_,rfl⟩,q⟩
end
end L2
namespace FL
section
variable[bj]
def oE{i j:Int}:of2 (aI g) (.int i) (.int j)=.ret (g i j):=Ps λQ=>⟨Dg,λq=>⟨rfl,q⟩⟩
def nB{C:Int->Int->Prop}{i j:Int}:of2 (TN C g) (.int i) (.int j)=.d9 (C i j) (.ret (g i j)):=Ps λQ=>⟨λq=>⟨q.1,q.2.2⟩,λq=>⟨q.1,rfl,q.2⟩⟩
section
variable(i j:Int)(a:Bool)(x y:PV)(l m:O PV)(s t:Str)
@[simp] theorem yz:of2 xJ (.int i) (.int j)=.ret (.int (i-j)):=oE
@[simp] theorem Lj:of2 iH (.int i) (.int j)=.d9 (Gc i j) (.ret (.int (i*j))):=nB
@[simp] theorem abf:of2 oDiv (.int i) (.int j)=.d9 (Ml i j) (.ret (.int (i / j))):=nB
@[simp] theorem tQ:of2 oMod (.int i) (.int j)=.d9 (0<j) (.ret (.int (i % j))):=nB
@[simp] theorem S9:of2 qi (.int i) (.int j)=.d9 (Mj i j) (.ret (.int (i ^ j.toNat))):=nB
@[simp] theorem Qw:of2 oLt (.int i) (.int j)=.ret (.bl (decide (i<j))):=oE
@[simp] theorem Ll:of2 oLe (.int i) (.int j)=.ret (.bl (decide (i<=j))):=oE
@[simp] theorem acQ:of2 ZU (.int i) (.int j)=.ret (.bl (decide (j<i))):=oE
@[simp] theorem Xh:of2 Yj (.int i) (.int j)=.ret (.bl (decide (j<=i))):=oE
def vU:of2 iI x y=.d9 (HP x y) (.ret (.bl (jn x y))):=Ps λQ=>⟨λq=>⟨q.1,q.2.2⟩,λq=>⟨q.1,rfl,q.2⟩⟩
def Li:of2 kC x y=.d9 (HP x y) (.ret (.bl (!jn x y))):=Ps λQ=>⟨λq=>⟨q.1,q.2.2⟩,λq=>⟨q.1,rfl,q.2⟩⟩
@[simp] theorem Ln:of2 Kb x .br=.ret (.bl x.rq):=Ps λQ=>⟨Dg,λq=>⟨rfl,q⟩⟩
@[simp] theorem Td:of2 NX (.str s) (.str t)=.ret (.bl (!(Builtin.Str.occurrences t s 0 t.length 1).isEmpty)):=Ps λQ=>⟨Dg,λq=>⟨rfl,q⟩⟩
def Tc{c:Nat}(h:dY s.cps.toList i=al c):of2 Ka (.str s) (.int i)=.d9 (s.length<=sizeLine) (.ret (.str ⟨#[c]⟩)):=Ps λQ=>by
 show(s.length<=sizeLine/\match dY s.cps.toList i with|some c=>_/\_|none=>False)↔_;rw[h];exact⟨λq=>⟨q.1,q.2.2⟩,λq=>⟨q.1,rfl,q.2⟩⟩
@[simp] theorem dH:addW (.int i) (.int j)=.ret (.int (i+j)):=(rfl)
@[simp] theorem OM:addW (.str s) (.str t)=.d9 (s.length+t.length<=sizeLine) (.ret (.str (s++t))):=(rfl)
@[simp] theorem Y0:addW (.tup l) (.tup m)=.d9 (l.length+m.length<=sizeLine) (.ret (.tup (l++m))):=(rfl)
@[simp] theorem fk:UD (.bl a)=.ret a:=(rfl)
@[simp] theorem HN(w:W PV):i5 (.bl true) w=w:=(rfl)
@[simp] theorem UB(w:W PV):i5 (.bl false) w=.ret (.bl false):=(rfl)
@[simp] theorem tT(w:W PV):L9 (.bl true) w=w:=(rfl)
@[simp] theorem OL(w:W PV):L9 (.bl false) w=.ret (.bl false):=(rfl)
def Tf(w:W PV):L9 (.bl a) w=if a=true then w else .ret (.bl false):=by cases a<;>rfl
def vV(w:W PV):i5 (.bl a) w=if a=true then w else .ret (.bl false):=by cases a<;>rfl
@[simp] theorem abd:R0 (.bl a)=.ret (.bl (!a)):=(rfl)
@[simp] theorem aV:cG (.bl a)=.ret a:=(rfl)
@[simp] theorem YO:cG (.int i)=.ret (i != 0):=(rfl)
@[simp] theorem YN:cG .br=.ret false:=(rfl)
@[simp] theorem YM:cG (.tup l)=.ret (!l.isEmpty):=(rfl)
@[simp] theorem YQ:cG (.cl l)=.ret (!l.isEmpty):=(rfl)
@[simp] theorem cu:bB (.tup l)=.ret l:=(rfl)
@[simp] theorem g8:bB (.cl l)=.ret l:=(rfl)
@[simp] theorem jo:vt (.cl l)=.ret l:=(rfl)
@[simp] theorem eA:Yp l (.int i)=.Ue (dY l i):=(rfl)
@[simp] theorem Lk:Ho l=.ret (.int l.length):=(rfl)
@[simp] theorem abc:IZ l=.ret (.tup l):=(rfl)
@[simp] theorem OE:part (.int i)=.ret (al i):=(rfl)
@[simp] theorem Ld:Pm (.tup [x,y])=.ret (x,y):=(rfl)
@[simp] theorem OK(k:Kd):da k (.int i)=.ret (.bl (k.is (.int i))):=(rfl)
@[simp] theorem kX(k:Kd):da k (.str s)=.ret (.bl (k.is (.str s))):=(rfl)
@[simp] theorem fU(k:Kd):da k (.tup l)=.ret (.bl (k.is (.tup l))):=(rfl)
@[simp] theorem YX(k:Kd):da k (.cl l)=.ret (.bl (k.is (.cl l))):=(rfl)
@[simp] theorem YY(k:Kd):da k (.bl a)=.ret (.bl (k.is (.bl a))):=(rfl)
@[simp] theorem YW(k:Kd):da k .br=.ret (.bl (k.is .br)):=(rfl)
@[simp] theorem nL:uJ fu [.tup l]=.ret (.int l.length):=Ps λQ=>⟨Dg,λq=>⟨rfl,q⟩⟩
@[simp] theorem fR:uJ fu [.cl l]=.ret (.int l.length):=Ps λQ=>⟨Dg,λq=>⟨rfl,q⟩⟩
@[simp] theorem z9:uJ fu [.str s]=.d9 (s.length<=sizeLine) (.ret (.int s.length)):=Ps λQ=>⟨λq=>⟨q.1,q.2.2⟩,λq=>⟨q.1,rfl,q.2⟩⟩
@[simp] theorem Tg:uJ wJ [.int i]=.ret (.int (if i<0 then -i else i)):=Ps λQ=>⟨Dg,λq=>⟨rfl,q⟩⟩
@[simp] theorem YZ:uJ wI [.int i]=.ret (.int i):=Ps λQ=>⟨Dg,λq=>⟨rfl,q⟩⟩
@[simp] theorem Fl:uJ wI [.bl a]=.ret (.int (if a then 1 else 0)):=Ps λQ=>⟨Dg,λq=>⟨rfl,q⟩⟩
@[simp] theorem Tb:uJ L1 [.int i,.int j]=.ret (.int (if j > i then j else i)):=Ps λQ=>⟨Dg,λq=>⟨rfl,q⟩⟩
@[simp] theorem YR:xY (.int i)=.ret (.inl i):=(rfl)
@[simp] theorem OG:xY (.str s)=.ret (.inr s):=(rfl)
@[simp] theorem kW:om (.int j)=.d9 (okN 0 j) (.ret (iR 0 j.toNat)):=(rfl)
@[simp] theorem Lf:xn (.str s)=.d9 (s.cps.size<=sizeLine) (.ret (s.cps.toList.map λc=>.str ⟨#[c]⟩)):=(rfl)
@[simp] theorem Lh:sG (l++[x])=.ret (l,x):=by unfold sG;simp
@[simp] theorem S8:Nh l (.int i)=.d9 (-(2 ^ 63)<=i/\i<2 ^ 63/\l.length*i.toNat<=sizeLine) (.ret (Ar i.toNat l).flatten):=(rfl)
@[simp] theorem OI:Kd.is .int (.int i)=true:=(rfl)
@[simp] theorem YU:Kd.is .int (.bl a)=true:=(rfl)
@[simp] theorem YV:Kd.is .bool (.bl a)=true:=(rfl)
@[simp] theorem OJ:Kd.is .bool (.int i)=false:=(rfl)
@[simp] theorem nM:Kd.is .str (.str s)=true:=(rfl)
@[simp] theorem jq:Kd.is .str (.tup l)=false:=(rfl)
@[simp] theorem YT:Kd.is .str (.int i)=false:=(rfl)
@[simp] theorem tR:Kd.is .tup (.tup l)=true:=(rfl)
@[simp] theorem tS:Kd.is .tup (.str s)=false:=(rfl)
@[simp] theorem OH:Kd.is .tup (.int i)=false:=(rfl)
@[simp] theorem YS:Kd.is .tup (.bl a)=false:=(rfl)
@[simp] theorem de(h0:0<i)(h1:i<=2000):bW (.int i)=drawn i:=wn ⟨h0,h1⟩
def bF{m:Int}{Q:PV->Prop}(h:∀d:Int,0<=d->d<m->Q (.int d)):(drawn m).run Q:=λv ⟨d,e,h0,h1⟩=>e▸h d h0 h1
end
namespace W
variable{α:Type}
def le(a b:W α):Prop:=∀Q,b.run Q->a.run Q
def le.use{a:W α}{v:α}{Q:α->Prop}(h:a.le (.ret v))(q:Q v):a.run Q:=h _ q
end W
section
variable{S R:Type}
@[simp] theorem W8(s:S)(f:PV->S->W S):iW [] s f=.ret s:=(rfl)
@[simp] theorem Uu(x:PV)(r:O PV)(s:S)(f:PV->S->W S):iW (x::r) s f=.bind (f x s) λs'=>iW r s' f:=(rfl)
theorem pj{f:PV->S->W S}{Q:S->Prop}(I:O PV->S->Prop):∀{l:O PV}{s:S},I l s->(∀x r s,I (x::r) s->(f x s).run (I r))->(∀s,I [] s->Q s)->(iW l s f).run Q
 |[],s,h0,_,he=>he s h0
 |x::r,s,h0,hs,he=>(f x s).mono (λs' h=>pj I h hs he) (hs x r s h0)
theorem pq{f:PV->S->W (Lp S R)}{Q:Lp S R->Prop}(I:O PV->S->Prop):∀{l:O PV}{s:S},I l s->(∀x r s,I (x::r) s->(f x s).run λo=>match o with|.go s'=>I r s'|.out t=>Q (.out t))->(∀s,I [] s->Q (.go s))->(FL.ir l s f).run Q
 |[],s,h0,_,he=>he s h0
 |x::r,s,h0,hs,he=>(f x s).mono (λo h=>match o,h with
  |.go s',h=>pq I h hs he
  |.out t,h=>h) (hs x r s h0)
theorem OC{f:PV->S->W S}{Q:S->Prop}(I:Nat->S->Prop){s:S}(h0:I 0 s)(hs:∀(i:Nat) (x:PV) s,l[i]?=al x->I i s->(f x s).run (I (i+1)))(he:∀s,I l.length s->Q s):(iW l s f).run Q:=by
 refine pj (λr s=>∃i,i<=l.length/\r=l.drop i/\I i s) ⟨0,Bn _,rfl,h0⟩ (λx r s ⟨i,hi,e,h⟩=>?_) (λs ⟨i,hi,e,h⟩=>?_)
 .have lV:i<l.length:=by
   rcases Ec i l.length with h|h
   .exact h
   .rw[E9 h]at e;cases e
  rw[Bo lV]at e;injection e with e1 e2;subst e1;exact(f _ s).mono (λs' h'=>⟨i+1,lV,e2,h'⟩) (hs i _ s (Af lV) h)
 .have:i=l.length:=by
   have:=congrArg CU e;rw[CZ]at this;simp at this;lia
  subst this;exact he s h
theorem OD{f:PV->S->W (Lp S R)}{Q:Lp S R->Prop}(I:Nat->S->Prop){s:S}(h0:I 0 s)(hs:∀(i:Nat) (x:PV) s,l[i]?=al x->I i s->(f x s).run λo=>match o with|.go s'=>I (i+1) s'|.out t=>Q (.out t))(he:∀s,I l.length s->Q (.go s)):(FL.ir l s f).run Q:=by
 refine pq (λr s=>∃i,i<=l.length/\r=l.drop i/\I i s) ⟨0,Bn _,rfl,h0⟩ (λx r s ⟨i,hi,e,h⟩=>?_) (λs ⟨i,hi,e,h⟩=>?_)
 .have lV:i<l.length:=by
   rcases Ec i l.length with h|h
   .exact h
   .rw[E9 h]at e;cases e
  rw[Bo lV]at e;injection e with e1 e2;subst e1;exact(f _ s).mono (λo h'=>match o,h' with
   |.go s',h'=>⟨i+1,lV,e2,h'⟩
   |.out t,h'=>h') (hs i _ s (Af lV) h)
 .have:i=l.length:=by
   have:=congrArg CU e;simp at this;lia
  subst this;exact he s h
def vP{f:PV->S->W S}{Q:S->Prop}(I:Nat->S->Prop){s:S}(h0:I 0 s)(hs:∀(i:Nat) s,i<n->I i s->(f (.int (i:Int)) s).run (I (i+1)))(he:∀s,I n s->Q s):(iW (iR 0 n) s f).run Q:=
 OC I h0 (λi x s hx h=>by obtain⟨hi,rfl⟩:=lT hx;rw[Fc];exact hs i s hi h) (λs h=>he s (by rw[jk]at h;exact h))
def vQ{f:PV->S->W (Lp S R)}{Q:Lp S R->Prop}(I:Nat->S->Prop){s:S}(h0:I 0 s)(hs:∀(i:Nat) s,i<n->I i s->(f (.int (i:Int)) s).run λo=>match o with|.go s'=>I (i+1) s'|.out t=>Q (.out t))(he:∀s,I n s->Q (.go s)):(FL.ir (iR 0 n) s f).run Q:=
 OD I h0 (λi x s hx h=>by obtain⟨hi,rfl⟩:=lT hx;rw[Fc];exact hs i s hi h) (λs h=>he s (by rw[jk]at h;exact h))
theorem nR{c:S->W Bool}{b:S->W S}{Q:S->Prop}(I:Nat->S->Prop){s:S}(h0:I n s)(hs:∀n s,I n s->(c s).run λk=>if k=true then (b s).run (λs'=>∃m,m<n/\I m s') else Q s):(rS c b s).run Q:=by
 refine⟨n+1,?_⟩;have:∀k n s,n<k->I n s->(gL c b k s).run Q:=by
  intro k
  induction k with
  |zero=>intro n s h;lia
  |succ k ih=>
   intro n s hn h;refine(c s).mono (λz q=>?_) (hs n s h);cases z with
   |true=>exact(b s).mono (λs' ⟨m,hm,h'⟩=>ih m s' ∅ h') (q)
   |false=>exact q
 exact this (n+1) n s ∅ h0
theorem w6{c:S->W Bool}{b:S->W (Lp S R)}{Q:Lp S R->Prop}(I:Nat->S->Prop){s:S}(h0:I n s)(hs:∀n s,I n s->(c s).run λk=>if k=true then (b s).run (λo=>match o with|.go s'=>∃m,m<n/\I m s'|.out t=>Q (.out t)) else Q (.go s)):(FL.nS c b s).run Q:=by
 refine⟨n+1,?_⟩;have:∀k n s,n<k->I n s->(eB c b k s).run Q:=by
  intro k
  induction k with
  |zero=>intro n s h;lia
  |succ k ih=>
   intro n s hn h;refine(c s).mono (λz q=>?_) (hs n s h);cases z with
   |true=>exact(b s).mono (λo q=>match o,q with
    |.go s',⟨m,hm,h'⟩=>ih m s' ∅ h'
    |.out t,q=>q) (q)
   |false=>exact q
 exact this (n+1) n s ∅ h0
theorem jc{f:PV->W PV}{g:PV->PV}:∀{l:O PV},(∀x∈l,f x=.ret (g x))->cY l f=.ret (l.map g)
 |[],_=>rfl
 |x::r,h=>by
  show am (f x) (λy=>am (cY r f) λl=>ap (y::l))=_;rw[h x (.head _),jc λy hy=>h y (.tail _ hy)];rfl
theorem xW{f:PV->W (Option PV)}{g:PV->Option PV}:∀{l:O PV},(∀x∈l,f x=.ret (g x))->lO l f=.ret (l.filterMap g)
 |[],_=>rfl
 |x::r,h=>by
  show am (f x) (λo=>am (lO r f) λl=>ap (o.toList++l))=_;rw[h x (.head _),xW λy hy=>h y (.tail _ hy),Bh];cases g x<;>rfl
@[simp] theorem uo(bs:O Bool):pP (bs.map PV.bl)=.ret (.bl (bs.all id)):=by unfold pP;rw[GB];rfl
def all_map(f:PV->Bool)(l:O PV):pP (l.map λx=>.bl (f x))=.ret (.bl (l.all f)):=by
 have:(l.map λx=>PV.bl (f x))=(l.map f).map PV.bl:=by rw[BC];rfl
 rw[this,uo,Fb];rfl
end
section
variable(i j:Int)(a b:Bool)(x y:PV)(l m:O PV)(s t:Str)
@[simp] theorem Qt:jn (.int i) (.int j)=(i==j):=by rw[jn]
@[simp] theorem Xc:jn (.str s) (.str t)=(s==t):=by rw[jn]
@[simp] theorem Qu:jn (.bl a) (.bl b)=(a==b):=by rw[jn]
@[simp] theorem acN:jn (.tup l) (.tup m)=fh l m:=by rw[jn]
@[simp] theorem acO:jn (.cl l) (.cl m)=fh l m:=by rw[jn]
@[simp] theorem aa5:fh [] []=true:=by rw[fh]
@[simp] theorem aa4:fh (x::l) (y::m)=(jn x y&&fh l m):=by rw[fh]
@[simp] theorem YJ:PV.ez (.int i)=true:=by rw[PV.ez]<;>simp
@[simp] theorem aa2:PV.ez (.bl a)=true:=by rw[PV.ez]<;>simp
@[simp] theorem YH:PV.ez (.str s)=true:=by rw[PV.ez]<;>simp
@[simp] theorem YI:PV.ez .br=true:=by rw[PV.ez]<;>simp
@[simp] theorem YG:PV.ez (.tup l)=dz l:=by rw[PV.ez]
@[simp] theorem aa1:PV.ez (.cl l)=dz l:=by rw[PV.ez]
@[simp] theorem Xb:dz []=true:=by rw[dz]
@[simp] theorem Uv:dz (x::l)=(PV.ez x&&dz l):=by rw[dz]
@[simp] theorem Xg:PV.gH (.int i)=0:=by rw[PV.gH]<;>simp
@[simp] theorem YL:PV.gH (.bl a)=0:=by rw[PV.gH]<;>simp
@[simp] theorem Xe:PV.gH (.str s)=0:=by rw[PV.gH]<;>simp
@[simp] theorem Xf:PV.gH .br=0:=by rw[PV.gH]<;>simp
@[simp] theorem Xd:PV.gH (.tup l)=dc l+1:=by rw[PV.gH]
@[simp] theorem YK:PV.gH (.cl l)=dc l+1:=by rw[PV.gH]
@[simp] theorem Uy:dc []=0:=by rw[dc]
@[simp] theorem S4:dc (x::l)=max (PV.gH x) (dc l):=by rw[dc]
def vW:HP (.int i) (.int j):=⟨by simp,by simp,by simp⟩
@[simp] theorem yA:of2 iI (.int i) (.int j)=.ret (.bl (i==j)):=by rw[vU,wn (vW i j),Qt]
@[simp] theorem pE:of2 kC (.int i) (.int j)=.ret (.bl (!(i==j))):=by rw[Li,wn (vW i j),Qt]
@[simp] theorem abe:of2 iI (.bl a) (.bl b)=.ret (.bl (a==b)):=by rw[vU,wn ⟨by simp,by simp,by simp⟩,Qu]
@[simp] theorem Ta:of2 kC (.bl a) (.bl b)=.ret (.bl (!(a==b))):=by rw[Li,wn ⟨by simp,by simp,by simp⟩,Qu]
end
theorem pw:∀{l:O PV},dz l=true↔∀x∈l,PV.ez x=true
 |[]=>by simp
 |x::l=>by rw[dz,AA,pw];simp
theorem pC:∀{l:O PV},(∀x∈l,PV.gH x<=n)->dc l<=n
 |[],_=>by simp
 |x::l,h=>by
  have h1:=h x (.head _);have h2:=pC λy hy=>h y (.tail _ hy);rw[dc];lia
instance (priority:=10) adJ:bj:=⟨[]⟩
end
section
variable[bj]
structure EV where
 P:sw
 w:wE
 K:Aa
 mg:Str->Option ce
 base:lw
structure DF where
 x:Str
 s:sK
 ps:List Str
 k:Nat
 sp:Aa->Sp
abbrev DF.C(d:DF)(v:EV):=Iu v.P v.w v.K v.mg v.base d.x d.k d.ps (d.sp v.K)
structure DI(v:EV)(d:DF) where
 f:db
 fd:wp
 fn:kb v.K d.x d.x d.s f fd
 bi:Binds v.K fd d.ps []
 at':v.mg d.x=al (.ref f)
abbrev DI.O{v:EV}{d:DF}(D:DI v d):Prop:=aY v.P v.w v.K v.mg v.base ip d.k D.f D.fd d.ps (d.sp v.K)
def DI.c{v:EV}{d:DF}(D:DI v d)(h:D.O):d.C v:=⟨D.f,D.fd,h,D.bi,D.fn.kp,D.at'⟩
def DI.cN{v:EV}{d:DF}(D:DI v d)(h:aY v.P v.w v.K v.mg v.base ip k D.f D.fd d.ps sp):Iu v.P v.w v.K v.mg v.base d.x k d.ps sp:=⟨D.f,D.fd,h,D.bi,D.fn.kp,D.at'⟩
def DI.cA{v:EV}{d:DF}(D:DI v d)(h:D.O):T5 v.P v.w v.K v.mg v.base D.f [] [] [] d.k d.ps (d.sp v.K):=⟨D.fd,h.imp λ_ _ _ _ z=>z.2.2,D.bi,λ_ hK _ _=>let ⟨_,_,_,_,_,_,_,_,_,_,l,_⟩:=D.fn.ex;⟨_,_,_,_,hK _ _ l⟩⟩
structure DX(K:Aa)(x:Str)(st:sK):Prop where
 ex:∃f fd,Aw K gt x=al (al (.ref f))/\kb K x x st f fd
abbrev dnm(s:sK):Str:=match s with
 |.FunctionDef x _ _ _ _ _ _ _ _ _=>x
 |_=>""
def dx{K:Aa}{x:Str}{st:sK}{kV:ce}(a:Aw K gt x=al (al (.ref f)))(l:K.lookup f=al ⟨oc,od,.func (Be x x (bM st) (aN st) (ai st) .none kV Ç pm an bE ct),G9⟩)(c:BX K bE x=true)(k:AH K (.ref f)=true):DX K x st:=⟨f,_,a,lZ l c k⟩
def tM{N P:O Str}(h1:‹sc.kind=.function›)(h2:‹sc.isCoroutine=false›)(h3:‹sc.isGenerator=false›)(h4:N.Nodup:=by decide +kernel)(h5:‹N.take P.length=P›)(h6:∀x∈P,sc.names.lookup x=al .local\/sc.names.lookup x=al .cell:=by decide +kernel)(h7:∀y∈sc.names,y.2≠.free:=by decide +kernel):bu N P sc:=⟨h1,h2,h3,h4,h5,h6,h7⟩
def lcs{N:O Str}(h1:‹sc.kind=.function›)(h2:∀y∈sc.names,y.2=.cell->sc.names.lookup y.1=al .cell:=by decide +kernel)(h3:∀y∈sc.names,y.2=.local->sc.names.lookup y.1=al .local:=by decide +kernel)(h4:∀y∈sc.names,y.2=.free->(Xs.names.lookup y.1=al .cell\/Xs.names.lookup y.1=al .free):=by decide +kernel)(h5:N'.Nodup:=by decide +kernel)(h6:‹ix.length=N'.length›)(h7:((ix.zip N').all λp=>match p.1 with|none=>true|some j=>decide (N[j]?=al p.2)&&decide (sc.names.lookup p.2=al .free))=true:=by decide +kernel):ba Xs N sc N' ix:=⟨h1,h2,h3,h4,h5,h6,h7⟩
abbrev Hm(l:O (Str×xz)):wS:={kind:=.function,names:=(Dj ".0",.local)::l,isGenerator:=false,isCoroutine:=false,more:=[]}
abbrev lo:xz:=.local
abbrev gi:xz:=.globalImplicit
abbrev fr:xz:=.free
def qk:O AK->Nat
 |[]=>0
 |.p _ _::ks=>qk ks+1
 |_::ks=>qk ks
theorem kE:∀{ks:O AK}{i:Nat},ks[i]?=al (.p ψ d)->qk ks≠0
 |[],i,h=>by simp at h
 |.p _ _::_,_,_=>Nat.succ_ne_zero _
 |.v::ks,0,h=>by simp at h
 |.f _ _ _ _::ks,0,h=>by simp at h
 |.v::ks,i+1,h=>kE (ks:=ks) (by simpa using h)
 |.f _ _ _ _::ks,i+1,h=>kE (ks:=ks) (i:=i) (by simpa using h)
theorem oC:∀{ks:O AK},F7 (qk ks) 1=true->pT ks
 |[],_=>nA
 |.v::ks,h=>vg (oC (ks:=ks) h)
 |.f _ _ _ _::ks,h=>V1 (oC (ks:=ks) h)
 |.p _ _::ks,h=>λi j ⟨φ,d,a⟩ ⟨ψ,d',b⟩=>by
  have z:qk ks+1<=1:=BE h;cases i with|succ i=>exact absurd ∅ (kE (ks:=ks) (by simpa using a))|zero=>cases j with|succ j=>exact absurd ∅ (kE (ks:=ks) (by simpa using b))|zero=>rfl
abbrev p8(st:sK):O Str:=((ai st).names.filter λy=>y.2==.local||y.2==.cell).map (·.1)
abbrev nu(st:sK):O Str:=(bM st).args.map (·.arg)
abbrev nml(sc:wS):O Str:=((sc.names.tail.filter λy=>y.2==.local||y.2==.cell)++sc.names.filter λy=>y.2==.free).map (·.1)
abbrev ixl(N:O Str)(sc:wS):O (Option Nat):=((sc.names.tail.filter λy=>y.2==.local||y.2==.cell).map λ_=>bn)++(sc.names.filter λy=>y.2==.free).map λy=>al (N.idxOf y.1)
abbrev LS(st:sK)(sc:wS):Prop:=ba (ai st) (p8 st) sc (nml sc) (ixl (p8 st) sc)
def Z1:Nat->aM->aM
 |_,[]=>[]
 |n,s::l=>(match n % 2 with|0=>s|_=>bn)::Z1 (n / 2) l
theorem cQ.m:∀(n:Nat) {fs:aM},cQ fs (Z1 n fs)
 |_,[]=>.refl _
 |n,s::l=>by
  unfold Z1
  split
  .exact .keep (cQ.m _)
  .exact .drop (cQ.m _)
def y7:(n:Nat)->(O PV->W R->Prop)->rP R n->Prop
 |0,B,m=>B [] m
 |n+1,B,m=>∀x:PV,y7 n (λl w=>B (x::l) w) (m x)
theorem y7.all:∀{n:Nat}{B:O PV->W R->Prop}{m:rP R n},y7 n B m->∀l,l.length=n->B l (gN n m l)
 |0,_,_,h,[],_=>h
 |n+1,_,_,h,x::l,e=>y7.all (h x) l (Nat.succ.inj e)
section
variable{v:EV}{x:Str}{st:sK}
abbrev BB{T:Type}(v:EV)(x:Str)(st:sK)(k:Nat)(ks:O AK)(f:db)(n:Nat)(m:rP T n)(o:T->End):Prop:=∀{j:Nat}{bE:ce}{A:wP}{outer:O Env}{s:gl}{H:Hp}{E:XK},bf k (A.deeper (xL x (ai st) s.heap.objs.size f bE))->(p8 st).Nodup->y7 n (λl w=>SF (jB ip v.P v.w v.K v.mg v.base (p8 st) x (ai st) f bE A outer s H E).Hd v.K false (m8 j ks l (p8 st).length) (aN st) w o) m
abbrev BP{T:Type}(v:EV)(x:Str)(st:sK)(k:Nat)(ks:O AK)(f:db)(n:Nat)(m:rP T n)(o:T->End):Prop:=∀{bE:ce}{A:wP}{outer:O Env}{s:gl}{H:Hp}{E:XK} (j:Nat),bf k (A.deeper (xL x (ai st) s.heap.objs.size f bE))->(p8 st).Nodup->y7 n (λl w=>SF (jB ip v.P v.w v.K v.mg v.base (p8 st) x (ai st) f bE A outer s H E).Hd v.K false (m8 j ks l (p8 st).length) (aN st) w o) m
def IA{m:rP PV n}(D:DI v ⟨x,st,nu st,k+1,λK=>mn K ks (gN n m)⟩)(Æ:BB v x st k ks D.f n m .rt)(HD:‹ks.length=(nu st).length›)(one:‹F7 (qk ks) 1=true›)(S:bu (p8 st) (nu st) (ai st):=by exact tM):D.O:=fnV D.fn S HD (oC one) λj l e bE A outer s H E hr=>(Æ hr S.nd).all l e
def Ym{m:rP (O PV) n}(D:DI v ⟨x,st,nu st,k+1,λK=>mQ K ks (gN n m)⟩)(Æ:BB v x st k ks D.f n m .rl)(HD:‹ks.length=(nu st).length›)(one:‹F7 (qk ks) 1=true›)(S:bu (p8 st) (nu st) (ai st):=by exact tM):D.O:=fnL D.fn S HD (oC one) λj l e bE A outer s H E hr=>(Æ hr S.nd).all l e
def Sa{m:rP PV n}(D:DI v ⟨x,st,nu st,k+1,λK=>mn K ks (gN n m)⟩)(Æ:BP v x st k ks D.f n m .rt)(HD:‹ks.length=(nu st).length›)(one:‹F7 (qk ks) 1=true›)(S:bu (p8 st) (nu st) (ai st):=by exact tM):D.O:=IA D (λ{j _ _ _ _ _ _}=>Æ j) HD one S
def Z3{m:rP (O PV) n}(D:DI v ⟨x,st,nu st,k+1,λK=>mQ K ks (gN n m)⟩)(Æ:BP v x st k ks D.f n m .rl)(HD:‹ks.length=(nu st).length›)(one:‹F7 (qk ks) 1=true›)(S:bu (p8 st) (nu st) (ai st):=by exact tM):D.O:=Ym D (λ{j _ _ _ _ _ _}=>Æ j) HD one S
end
section
variable{K:Aa}{x:Str}{WL:W (O PV)}
theorem eC{m:O PV->W PV}(G:Iu X.prog X.w X.K X.mg X.base x k ps (mn K ks m))(hr:bf k' X.A)(ha:AF X K fs (e::es) ks B f1)(hk:k<=k':=by first|exact BE rfl|exact Aj _|lia)(hg:‹Gl X x›)(hW:‹W'=B m›)(dQ: ~~~(dn x))(he:‹dX X e es›)(bH:‹fD X pos es›):EF X K fs (.Call (.Name x p) (e::es) [] pos) W' f1:=OP G hr hk hg ha hW dQ he bH
theorem lC{m:O PV->W (O PV)}{B:(O PV->W (O PV))->W (O PV)}(G:Iu X.prog X.w X.K X.mg X.base x k ps (mQ K ks m))(hr:bf k' X.A)(ha:AF X K fs (e::es) ks B f1)(hk:k<=k':=by first|exact BE rfl|exact Aj _|lia)(hg:‹Gl X x›)(hW:‹WL=B m›)(dQ: ~~~(dn x))(he:‹dX X e es›)(bH:‹fD X pos es›):LF X K fs (.Call (.Name x p) (e::es) [] pos) WL f1:=Ob G hr hk hg ha hW dQ he bH
variable{n0 mx:Nat}{y0:Str}
theorem eP(i:Nat){m:O PV->W PV}(G:Iu X.prog X.w X.K X.mg X.base x k ps (mn K (.p ψ d::ks) m))(hr:bf k' X.A)(ha:AF X K fs es ks B f1)(hs:‹fs[i]?=al (al (.cR ψ n0 mx))›)(nJ:‹f1[i]?=al (al (.cR ψ n mx))›)(hd:n+d<=mx:=by omega)(hk:k<=k':=by first|exact BE rfl|exact Aj _|lia)(hg:‹Gl X x›)(hW:‹W'=B m›)(dQ: ~~~(dn x))(hN:‹X.N[i]?=al y0›)(hv:qF X.env.scope y0:=by first|exact Bs rfl|exact Bw (Bs rfl)|exact Bw (Bw rfl))(SG: ~~~(dn y0))(cS: ~~~(qI y0))(he:‹lf (.Name y0 py::es) X.env=(false,pc (.Name y0 py) X.env)::lf es X.env›)(bH:‹fD X pos es›):EF X K fs (.Call (.Name x p) (.Name y0 py::es) [] pos) W' (f1.set i (al (.cR ψ (n+d) mx))):=hW▸OS i G hr hk hg hs ha nJ hd dQ hN hv SG cS he bH
theorem lP(i:Nat){m:O PV->W (O PV)}{B:(O PV->W (O PV))->W (O PV)}(G:Iu X.prog X.w X.K X.mg X.base x k ps (mQ K (.p ψ d::ks) m))(hr:bf k' X.A)(ha:AF X K fs es ks B f1)(hs:‹fs[i]?=al (al (.cR ψ n0 mx))›)(nJ:‹f1[i]?=al (al (.cR ψ n mx))›)(hd:n+d<=mx:=by omega)(hk:k<=k':=by first|exact BE rfl|exact Aj _|lia)(hg:‹Gl X x›)(hW:‹WL=B m›)(dQ: ~~~(dn x))(hN:‹X.N[i]?=al y0›)(hv:qF X.env.scope y0:=by first|exact Bs rfl|exact Bw (Bs rfl)|exact Bw (Bw rfl))(SG: ~~~(dn y0))(cS: ~~~(qI y0))(he:‹lf (.Name y0 py::es) X.env=(false,pc (.Name y0 py) X.env)::lf es X.env›)(bH:‹fD X pos es›):LF X K fs (.Call (.Name x p) (.Name y0 py::es) [] pos) WL (f1.set i (al (.cR ψ (n+d) mx))):=hW▸Oc i G hr hk hg hs ha nJ hd dQ hN hv SG cS he bH
def nv(i:Nat)(hN:X.N.Nodup)(hi:‹X.N[i]?=al x›)(hx:Loc X.env.scope x:=by first|exact .inl rfl|exact .inr rfl)(hf:Md X x:=by first|exact .inl rfl|exact .inr rfl|assumption):PG X (.Name x pos) (gG i):=Nu hN hi hx hf
variable{T:Type}{out:T->End}{rest:O sK}
def sv(i:Nat){k:PV->W T}(hN:X.N.Nodup)(he:EF X K fs e we f1)(hr:∀v,SF X K b (f1.set i (al (.val v))) rest (k v) out)(hi:‹X.N[i]?=al y›)(hx:Loc X.env.scope y:=by first|exact .inl rfl|exact .inr rfl)(hs:‹pr e (al (.Name y p')) pos.line X.env=pure false›)(hf:Md X y:=by first|exact .inl rfl|exact .inr rfl|assumption):SF X K b fs (.Assign [.Name y p'] e pos::rest) (.bind we k) out:=SF.set hN hi hx he hr hs hf
def sl(i:Nat){k:O PV->W T}(hN:X.N.Nodup)(he:LF X K fs e wl f1)(hr:∀l,SF X K b (f1.set i (al (.ol bn l))) rest (k l) out)(hi:‹X.N[i]?=al y›)(hx:Loc X.env.scope y:=by first|exact .inl rfl|exact .inr rfl)(hs:‹pr e (al (.Name y p')) pos.line X.env=pure false›)(hf:Md X y:=by first|exact .inl rfl|exact .inr rfl|assumption):SF X K b fs (.Assign [.Name y p'] e pos::rest) (.bind wl k) out:=SF.ZG hN hi hx he hr hs hf
end
end
end FL
variable{v:FL.EV}{d:FL.DF}
namespace FL
section
variable[bj]
def X2:(n:Nat)->(O ce->Prop)->Prop
 |0,P=>P []
 |n+1,P=>∀x,X2 n λl=>P (x::l)
theorem usN:∀{n:Nat}{P:O ce->Prop},X2 n P->∀us:O ce,us.length=n->P us
 |0,_,h,[],_=>h
 |n+1,_,h,x::l,e=>usN (h x) l (Nat.succ.inj e)
def DX.wZ(D:DX v.K d.x d.s)(X:v.K.In h)(G:h.Ns gt v.mg)(hb:∀(kV Ç pm:ce) (an:Option db) (bE ct:ce) (us:O ce),us.length=d.ps.length->P3 (Be d.x d.x (bM d.s) (aN d.s) (ai d.s) .none kV Ç pm an bE ct) ⟨us,[]⟩=pure (d.ps.zip us):=by exact λ_ _ _ _ _ _=>usN (by (repeat intro _);rfl)):Nonempty (DI v d):=by
 obtain⟨f,fd,a,F⟩:=D.ex;exact⟨⟨f,fd,F,F.binds hb,Ba X G a⟩⟩
def DX.go(D:DX v.K d.x d.s)(X:v.K.In h)(G:h.Ns gt v.mg){P:Prop}(k:∀D:DI v d,D.O)(r:d.C v->P)(hb:∀(kV Ç pm:ce) (an:Option db) (bE ct:ce) (us:O ce),us.length=d.ps.length->P3 (Be d.x d.x (bM d.s) (aN d.s) (ai d.s) .none kV Ç pm an bE ct) ⟨us,[]⟩=pure (d.ps.zip us):=by exact λ_ _ _ _ _ _=>usN (by (repeat intro _);rfl)):P:=by
 obtain⟨D⟩:=D.wZ X G hb;exact r (D.c (k D))
def Jf(K:Aa):Sp:=λvs H Q _=>TB H/\∃(a:db) (ns:O Int),vs=[.ref a]/\Me K H a (ns.map V.int)/\ns.length<=63/\∀H',Q (.bl true) H'
def Oa{K:Aa}{m:PV->W PV}(ok:∀ns:O Int,ns.length<=63->(m (.cl (ns.map PV.int))).run (·=.bl true)):∀vs H Q E,Jf K vs H Q E->mn K [.v] (gN 1 m) vs H Q E:=λvs H Q E ⟨tb,a,ns,e,fz,hl,q⟩=>by
 subst e;refine⟨tb,0,[.cl (ns.map PV.int)],.v (.cl fz (nH _ _ ns)) .nil,(m (.cl (ns.map PV.int))).mono (λv e u H' _ r=>?_) (ok ns hl)⟩;subst e;cases r;exact q H'
section
variable{K:Aa}{R:Type}{B:(O PV->W R)->W R}
def av(i:Nat){x:Str}{v:PV}(hr:AF X K fs es ks B f1)(hs:‹fs[i]?=al (al (.val v))›)(hN:‹X.N[i]?=al x›)(hv:qF X.env.scope x:=by first|exact Bs rfl|exact Bw (Bs rfl)|exact Bw (Bw rfl))(hd: ~~~(dn x))(cS: ~~~(qI x))(h:‹lf (.Name x pos::es) X.env=(false,pc (.Name x pos) X.env)::lf es X.env›):AF X K fs (.Name x pos::es) (.v::ks) (λk=>.bind (.ret v) λx=>B λl=>k (x::l)) f1:=ak (ae i hs hN hv hd cS) hr h
end
end
section
variable[bj]{K:Aa}
structure Lm where
 q:Str
 ar:Arguments
 bd:o0
 sc:wS
abbrev Lm.fn(L:Lm)(cl:O (Str×db))(pm:ce)(cv kd:ce):wp:=PySem.W.kla_fn "<lambda>" L.q L.ar L.bd L.sc cl pm cv kd
abbrev Lm.ob(L:Lm)(cl:O (Str×db))(pm:ce)(cv kd:ce):Obj:={cls:=.type "function",data:=.func (L.fn cl pm cv kd)}
def Mi(o:Obj)(q:Str):Prop:=∃vs t,o.data=.fields vs/\vs[1]?=al (.str q t)
def jN(L:Lm)(ys:O Str)(base:lw)(a:db)(us:O V)(fz:O (db×Obj)):Prop:=∃cl pm c kd co,fz=[(a,L.ob cl pm (.ref c) kd),(c,co)]/\Mi co L.q/\
 (∀x c,cl.lookup x=al c->∃v,base.IsCell c v)/\(∀x y c,cl.lookup x=al c->cl.lookup y=al c->x=y)/\∀(i:Nat) (y:Str),ys[i]?=al y->∃c v u,cl.lookup y=al c/\us[i]?=al v/\RelV v u/\base.IsCell c (al u)
structure XT(ps ys:List Str)(sc:wS):Prop where
 kind:sc.kind=.function
 co:sc.isCoroutine=false
 gen:sc.isGenerator=false
 nd:(ps++ys).Nodup
 par:∀x∈ps,sc.names.lookup x=al .local
 fre:∀y∈ys,sc.names.lookup y=al .free
 noc:∀y∈sc.names,y.2≠.cell
 fin:∀y∈sc.names,y.2=.free->y.1∈ys
def cxL(P:sw)(w:wE)(K:Aa)(mg:Str->Option ce)(base:lw)(N:O Str)(L:Lm)(a:db)(cl:O (Str×db))(cv:ce)(A:wP)(outer:O Env)(s:gl)(H:Hp):Cx where
 prog:=P
 w:=w
 K:=K
 mg:=mg
 base:=base
 A:=A.deeper (E3 L.q L.sc s.heap.objs.size a cv cl)
 N:=N
 s₀:=s
 H₀:=H
 env:=E3 L.q L.sc s.heap.objs.size a cv cl
 outer:=outer
 stack:=E3 L.q L.sc s.heap.objs.size a cv cl::outer
 ex:=[]
 calm:=true
 fn:=λ_=>false
 pn:=[]
 xe:=λ_ _=>False
theorem qZ:∀{l:O (Str×β)}{x:Str}{u:β},(l.map (·.1)).Nodup->(x,u)∈l->l.lookup x=al u
 |(y,v)::l,x,u,nd,h=>by
  rw[AY,CG]at nd;rw[AI];by_cases c:x=y
  .subst c;rcases Az.mp h with h|h
   .cases h;simp
   .exact absurd (AR.mpr ⟨_,h,rfl⟩) nd.1
  .rw[beq_eq_false_iff_ne.mpr c];rcases Az.mp h with h|h
   .cases h;exact absurd rfl c
   .exact qZ nd.2 h
theorem y8:∀(ps:O Str) (us:O ce),List.Sublist ((ps.zip us).map (·.1)) ps
 |[],_=>.slnil
 |_::_,[]=>List.nil_sublist _
 |p::ps,_::us=>(y8 ps us).cons₂ p
def Mw(nd:ps.Nodup){x:Str}(h1:ps[i]?=al x)(h2:us[i]?=al u):(ps.zip us).reverse.lookup x=al u:=by
 refine qZ ?_ (List.mem_reverse.mpr (A9 (by rw[Ex];exact⟨h1,h2⟩)));rw[List.map_reverse];exact(List.reverse_perm _).nodup_iff.mpr (nd.sublist (y8 ps us))
end
end FL
variable{b:AW}{E:L2.XK}{b0:Er}
namespace L2
section
variable{cs:O db}
def lh(b0 h:lw)(cs:O db):lw:=PySem.W.hideAll h ((AN h.objs.size).filter λb=>!(b0.get? b).isSome&&!cs.contains b)
def rM(e:h.get? b=al o)(c:(∃o,b0.get? b=al o)\/b∈cs):(lh b0 h cs).get? b=al o:=FJ _ e λhm=>by
 have q:=(Bz.mp hm).2;rw[AA,Dy,Dy]at q;rcases c with⟨o',c⟩|c
 .rw[c]at q;simp at q
 .have:=q.2;rw[Fq.mpr c]at this;cases this
def vh(e:(lh b0 h cs).get? b=al o):h.get? b=al o/\((∃o,b0.get? b=al o)\/b∈cs):=by
 have e':=FU _ e;refine⟨e',Classical.byContradiction λn=>?_⟩;have z:(lh b0 h cs).get? b=bn:=Fw _ (Bz.mpr ⟨Bj.mpr (Ai e'),by
  rw[AA,Dy,Dy];refine⟨?_,?_⟩
  .cases q:b0.get? b with
   |none=>rfl
   |some o=>exact absurd (.inl ⟨o,q⟩) n
  .cases q:cs.contains b with
   |false=>rfl
   |true=>exact absurd (.inr (Fq.mp q)) n⟩)
 rw[z]at e;cases e
theorem zX{b1:lw}:∀{l:O Env},h.FunFrames b0 l->(∀L∈m5 l,b1.get? L=bn)->h.FunFrames b1 l
 |[],_,_=>trivial
 |e::l,⟨h1,⟨L,o,h2,h3,h4⟩,h5⟩,n=>⟨h1,⟨L,o,h2,n L (by simp[m5,h2]),h4⟩,zX h5 λL hL=>n L (by
  unfold m5 at hL ⊢;rw[Bh,h2];exact AD _ hL)⟩
def Inv.Xj(I:Inv X Z σ H s)(hc:∀c∈cs,∃x,X.fn x=true/\X.env.cells.lookup x=al c):uH X.prog X.w X.K X.mg (lh X.base s.heap cs) X.A X.stack s H:=by
 have kp:∀b o,X.base.get? b=al o->(lh X.base s.heap cs).get? b=al o:=λb o e=>rM (I.bk b o e) (.inl ⟨o,e⟩);have e0:=I.Lr;refine⟨e0.frames,⟨e0.mod.Kw.keeps kp,e0.mod.glob.keeps kp,let ⟨mb,h1,h2⟩:=e0.mod.blt;⟨mb,h1.keeps kp,h2⟩,e0.mod.nolimit.keeps kp,let ⟨bm,ob,h1,h2,h3,h4⟩:=e0.mod.bm;⟨bm,ob,h1,h2,kp _ _ h3,h4⟩⟩,λb o e=>?_,Ee (Fv _ _),zX e0.iV λL hL=>?_,e0.Mr,e0.aK,e0.bare⟩
 .obtain⟨h1,⟨o',h2⟩|h2⟩:=vh e
  .exact⟨h1,(I.bs b o' h2).2⟩
  .obtain⟨x,_,hx⟩:=hc b h2;exact⟨h1,I.eu x b hx⟩
 .cases z:(lh X.base s.heap cs).get? L with
  |none=>rfl
  |some o=>
   obtain⟨h1,⟨o',h2⟩|h2⟩:=vh z
   .rw[(e0.iV.mem hL).1]at h2;cases h2
   .obtain⟨x,hf,hx⟩:=hc L h2;rcases Az.mp (I.n6 L hL) with h|h
    .exact absurd h (I.IG x L hx)
    .obtain⟨_,o2,h3,_⟩:=I.ok.iV.mem h;exact absurd (Au (Ai h3) (I.ok.Tv x L hf hx)) (AM _)
def zx{mJ:lw}{CX:II}{Q:VK}{vs:O V}(F:aY X.prog X.w X.K X.mg mJ CX k f fd ps sp)(e0:uH X.prog X.w X.K X.mg mJ X.A X.stack s H)(hr:bf k X.A)(hb:Binds X.K fd ps [])(hx:Passes CX X E)(I:Inv X Z σ H s)(r:Vals vs us)(h:sp vs H Q E):f8 (ii X.prog X.w) X.A (call (.ref f) us) (EP X Z σ Q) X.xe s:=by
 have hl:(us++[]).length=ps.length:=by rw[A3,<- r.length];exact F.len _ _ _ _ h
 have ý:=hb s us I.ek hl;rw[A3]at ý;refine Cp (zn (F.run X.A X.stack s H ⟨us,[]⟩ us vs Q E hr e0 ý r h) λr s' hq=>?_);cases r with
 |error e=>exact hx Z σ H s e s' I hq
 |ok fl=>
  cases fl with
  |ret u=>exact I.after hq
  |next=>exact AO hq
  |brk=>exact AO hq
  |cont=>exact AO hq
end
end L2
variable{σ:L2.St}{Q:AZ->CY->Prop}{ys:O BJ}{L:FL.Lm}{ar:PySem.Arguments}
namespace FL
section
variable[bj]{K:Aa}
theorem uX{x y:Int}{c:ce}(n:Nat):∀l:O ce,l.length<=n->TriplesOk l->TriplesOk (l++[re x,re y,c])/\∀pos d,Sc pos (l++[re x,re y,c])=al d->Sc pos l=al d\/d=c:=by
 induction n with
 |zero=>
  intro l hl _;have:l=[]:=B2 ∅;subst this;refine⟨by simp[re,TriplesOk],λpos d h=>?_⟩;rw[C6]at h;simp only[re,Sc]at h
  split at h
  .cases h;exact .inr rfl
  .cases h
 |succ n ih=>
  intro l hl h;by_cases c1:l=[]
  .subst c1;exact ih [] (Bn _) h
  by_cases c2:∃i t j u e r,l=.int i t::.int j u::e::r
  .obtain⟨i,t,j,u,e,r,rfl⟩:=c2;obtain⟨h1,h2⟩:=ih r (by simp at hl;lia) h;refine⟨?_,λpos d hd=>?_⟩
   .show TriplesOk (.int i t::.int j u::e::(r++_));exact h1
   .have hd:Sc pos (.int i t::.int j u::e::(r++[re x,re y,c]))=al d:=hd;rw[codeAmong.eq_1]at hd ⊢;by_cases z:(i==↑pos.line&&j==↑pos.col)=true
    .rw[if_pos z]at hd ⊢;exact .inl hd
    .rw[if_neg z]at hd ⊢;exact h2 pos d hd
  .rw[TriplesOk.eq_3 l c1 λi t j u e r z=>c2 ⟨i,t,j,u,e,r,z⟩]at h;exact h.elim
def mK(P:db)(q:Str):Prop:=(P,q)∈bj.ts/\∀p∈bj.ts,p.1=P->p.2=q
structure uF(K:Aa)(mg:Str->Option ce)(bE:ce)(P:db):Prop where
 hd:∃c,bE=.ref c/\∀h:lw,K.In h->PySem.W.CodeHd h c P
def uE(X:Cx)(L:Lm)(a:db)(fz:O (db×Obj)):Prop:=∃cl pm c kd co,fz=[(a,L.ob cl pm (.ref c) kd),(c,co)]/\Mi co L.q/\(∀x c,cl.lookup x=al c->X.env.cells.lookup x=al c/\(x,.free)∈L.sc.names)/\∀x,(x,.free)∈L.sc.names->∃c,cl.lookup x=al c
section
variable{P:db}
def vB{pm kd:ce}{c tk:Nat}{co:Obj}{u0:HO}(I:Inv X Z σ H {s with heap:=h',toks:=tk})(tb:TB H)(hc:H c=al (.cE co u0))(SU:Mi co L.q)(h1:∀x c,cl.lookup x=al c->X.env.cells.lookup x=al c/\(x,.free)∈L.sc.names)(h2:∀x,(x,.free)∈L.sc.names->∃c,cl.lookup x=al c)(h:∀a fz H' s',Inv X Z σ H' s'->uE X L a fz->mN H' fz->TB H'->dW H H'->Q (.ref a) s'):Q (.ref h'.objs.size) {s with heap:=h'.push (L.ob cl pm (.ref c) kd),toks:=tk}:=by
 have hn:H h'.objs.size=bn:=I.aK.fresh (Aj _);have I2:=I.laid (a:=h'.objs.size) (o:=.cE (L.ob cl pm (.ref c) kd) (.own 0)) (t':=tk) (h':=h'.push (L.ob cl pm (.ref c) kd)) (λb u z=>Ad _ z) (Aj _) ⟨Al _ rfl,_,Al _ rfl⟩;have sm:=gw hn (.cE (L.ob cl pm (.ref c) kd) (.own 0));refine h _ [(h'.objs.size,L.ob cl pm (.ref c) kd),(c,co)] _ _ I2 ⟨cl,pm,c,kd,co,rfl,SU,h1,h2⟩ (λp hp=>?_) (tb.same sm) sm;simp only[Az,Cv,or_false]at hp;rcases hp with rfl|rfl
 .exact⟨_,aw⟩
 .exact⟨u0,sm _ _ hc⟩
def Ks(I:Inv X Z σ H s)(tb:TB H)(hK:uF X.K X.mg X.env.code P)(hq:L.q=X.env.qual++"<lambda>")(hP:mK P L.q)(hd:defaultsOf L.ar X.env=([],[]))(hf:∀y∈L.sc.names,y.2=.free->X.env.kindOf y.1=al .cell\/X.env.kindOf y.1=al .free)(h:∀a fz H' s',Inv X Z σ H' s'->uE X L a fz->mN H' fz->TB H'->(∀b o,H b=al o->o.nt=true->H' b=al o)->(∀b,H' b=bn->H b=bn)->Q (.ref a) s'):f8 (ii X.prog X.w) X.A (pc (.Lambda L.ar L.bd L.sc pos) X.env) Q X.xe s:=by
 obtain⟨ps,eP,tr,ck⟩:=tb _ hP.1;obtain⟨c,hcv,chd⟩:=hK.hd;obtain⟨cl,rA,lX,tG⟩:=gn λy hy hk=>I.ok.has y.1 (hf y hy hk);have hg:=I.mod.glob.keeps I.bk;have Yz:=I.aK P _ eP;have gne:gt≠P:=λz=>by
  obtain⟨o,es,ep,g1,g2,_⟩:=hg;rw[z,Yz]at g1;cases g1;cases g2
 have bl:s.heap.BuiltinsAt X.mg P:=by
  obtain⟨bm,ob,b1,b2,b3,b4,b5,b6⟩:=I.mod.bm;have b7:=I.bk _ _ b3;refine⟨bm,ob,b1,b2,λz=>?_,λz=>?_,b7,b4,b5,b6⟩
  .obtain⟨o,es,ep,g1,g2,_⟩:=hg;rw[z,g1]at b7;cases b7;rw[g2]at b6;cases b6
  .rw[z,Yz]at b7;cases b7;cases b4
 refine PySem.W.kla_eval hd ?_;rw[<- hq];cases e:Sc pos ps.toList with
 |some cv=>
  obtain⟨ca,co,u,vs,t,rfl,e1,e2,e3⟩:=ck pos cv e;exact PySem.W.kla_makeFunctionHit rA I.ok.glob hg hcv (chd _ I.ek) Yz tr e bl λkd h' tk kp hsz=>vB (I.kept kp) tb e1 ⟨vs,t,e2,e3⟩ lX tG λa fz H' s' I' n z t' sm=>h a fz H' s' I' n z t' (λb o z _=>sm b o z) λb z=>sm.free z
 |none=>
  refine PySem.W.kla_makeFunction rA I.ok.glob hg hcv (chd _ I.ek) Yz tr e gne bl λc' kd h' tk ext h1 h2 cr YA=>?_;obtain⟨_,co,vs,t,e0,e1,e2,e3⟩:=cr;cases e0;have hn:=I.aK.fresh h1;have cP:c'≠P:=λz=>by subst z;rw[hn]at eP;cases eP
  obtain⟨tr',ck'⟩:=uX (x:=pos.line) (y:=pos.col) (c:=.ref c') _ _ (Aj _) tr;have YD:upd (upd H P (.mP (ps++#[re pos.line,re pos.col,.ref c']))) c' (.cE co (.own 0)) P=al (.mP (ps++#[re pos.line,re pos.col,.ref c'])):=by rw[af (BA cP)];exact aw
  have ot:∀b u,b≠P->H b=al u->upd (upd H P (.mP (ps++#[re pos.line,re pos.col,.ref c']))) c' (.cE co (.own 0)) b=al u:=λb u n z=>by
   rw[af (a6 z hn),af n];exact z
  have uO:upd (upd H P (.mP (ps++#[re pos.line,re pos.col,.ref c']))) c' (.cE co (.own 0)) c'=al (.cE co (.own 0)):=aw;have on:∀b,b≠c'->H b=bn->upd (upd H P (.mP (ps++#[re pos.line,re pos.col,.ref c']))) c' (.cE co (.own 0)) b=bn:=λb n z=>by
   rw[af n,af (λy=>by subst y;rw[z]at eP;cases eP)];exact z
  have inv:∀b u,upd (upd H P (.mP (ps++#[re pos.line,re pos.col,.ref c']))) c' (.cE co (.own 0)) b=al u->(b=c'/\u=.cE co (.own 0))\/(b=P/\u=.mP (ps++#[re pos.line,re pos.col,.ref c']))\/(b≠P/\H b=al u):=λb u z=>by
   by_cases y1:b=c'
   .subst y1;rw[aw]at z;cases z;exact .inl ⟨rfl,rfl⟩
   .rw[af y1]at z;by_cases y2:b=P
    .subst y2;rw[aw]at z;cases z;exact .inr (.inl ⟨rfl,rfl⟩)
    .rw[af y2]at z;exact .inr (.inr ⟨y2,z⟩)
  generalize upd (upd H P (.mP (ps++#[re pos.line,re pos.col,.ref c']))) c' (.cE co (.own 0))=H1 at YD ot uO on inv;have Ug:∀b u,H b=al u->u.nt=true->b≠P:=λb u z nt y=>by subst y;rw[eP]at z;cases z;cases nt
  have ext':∀b o,H b=bn->s.heap.get? b=al o->h'.get? b=al o:=λb o n z=>ext b o (λy=>by subst y;rw[n]at eP;cases eP) z;have un:Un X.fs [] H H1 s.heap h':=by
   refine⟨λb o z n _ _=>ext' b o n z,λb o z n _ _=>⟨o.slots,ext' b o n z⟩,λb o z n _=>on b ((λb o z=>AB (Au (Ai z) h1)) b o z) n,λb o z _=>?_,λb xs z=>ot b _ (Ug b _ z rfl) z,λb o u z=>ot b _ (Ug b _ z rfl) z,λb qs z=>?_⟩
   .by_cases y:b=P
    .subst y;exact⟨_,YA⟩
    .exact⟨o,ext b o y z⟩
   .by_cases y:b=P
    .subst y;rw[eP]at z;cases z;exact⟨_,YD⟩
    .exact⟨#[],by rw[ot b _ y z];simp⟩
  have aK:gJ X.prog X.w H1 h':=λb u z=>by
   rcases inv b u z with⟨rfl,rfl⟩|⟨rfl,rfl⟩|⟨y,z⟩
   .exact⟨e1,_,e1⟩
   .exact YA
   .refine(I.aK b u z).lB (λd v hd q=>ext d v (λw=>?_) q) (λd q=>ot d _ (Ug d _ q rfl) q) λd xs q=>ot d _ (Ug d _ q rfl) q;rcases hd with hd|hd
    .exact y (hd.symm.trans w)
    .subst w;rw[eP]at hd;cases hd
  have Zj:TB H1:=λp hp=>by
   obtain⟨qs,k1,k2,k3⟩:=tb p hp;have tr1:∀cv,FzC H cv p.2->FzC H1 cv p.2:=λcv ⟨a,o,u,vs,t,f1,f2,f3,f4⟩=>⟨a,o,u,vs,t,f1,ot a _ (Ug a _ f2 rfl) f2,f3,f4⟩;by_cases y:p.1=P
   .rw[y,eP]at k1;cases k1;refine⟨_,by rw[y];exact YD,by simpa using tr',λÈ d hd=>?_⟩;rcases ck' È d (by simpa using hd) with z|rfl
    .exact tr1 _ (k3 È d z)
    .rw[hP.2 p hp y];exact⟨c',co,_,vs,t,rfl,uO,e2,e3⟩
   .exact⟨qs,ot _ _ y k1,k2,λÈ d z=>tr1 _ (k3 È d z)⟩
  exact vB (L:=L) (s:=s) (I.un (t':=tk) un aK) Zj uO ⟨vs,t,e2,e3⟩ lX tG λa fz H' s' I' n z t' sm=>h a fz H' s' I' n z t' (λb o z nt=>sm b o (ot b o (Ug b o z nt) z)) λb z=>by
   have z':=sm.free z;cases y:H b with
   |none=>rfl
   |some u=>
    by_cases w:b=P
    .subst w;rw[YD]at z';cases z'
    .rw[ot b u w y]at z';cases z'
end
def yN(is:O Nat)(σ:L2.St):O V:=is.map λi=>((σ[i]?).join).getD .br
def fAL(X:Cx)(K:Aa)(fs:aM)(L:Lm)(is:O Nat)(qs:O PV)(k1 k2:O AK)(w:W (O PV)):TA:=λσ H Q=>aH K H σ fs/\w.run λl=>∀vs H' a fz,cf σ fs H H'->aH K H' σ fs->uE X L a fz->mN H' fz->dq K H' vs (k1++.f a (yN is σ) qs fz::k2) l->Q vs H'
structure AFL(X:Cx)(K:Aa)(fs:aM)(es:List o0)(L:Lm)(is:List Nat)(qs:List PV)(k1 k2:List AK){R:Type}(B:(List PV->W R)->W R):Prop where
 p:∃w:W (List PV),PA X es (fAL X K fs L is qs k1 k2 w)/\∀k,B k=am w k
section
variable{is:O Nat}{k1 k2:O AK}{R:Type}{B:(O PV->W R)->W R}{P:db}
theorem Gy(sr:aH K H σ fs):∀{is:O Nat}{qs:O PV},is.map (λi=>fs[i]?)=qs.map (λq=>al (al (SL.val q)))->aD K [] H (yN is σ) qs
 |[],[],_=>.nil
 |[],_::_,h=>by simp at h
 |_::_,[],h=>by simp at h
 |i::is,q::qs,h=>by
  injection h with h1 h2;obtain⟨u,e1,r⟩:=sr.at' i _ h1;rcases r with⟨v,e,r⟩|⟨a,_,r⟩
  .cases e;refine .cons ?_ (Gy sr h2);show VR K [] H (((σ[i]?).join).getD .br) q;rw[e1];exact r
  .exact r.elim
def Pa(N:O Str)(so sl:wS)(is:O Nat)(ys:O Str):Prop:=is.map (λi=>N[i]?)=ys.map al/\(∀y∈ys,so.names.lookup y=al .cell/\(y,Bb)∈sl.names)/\∀y∈sl.names,y.2=.free->y.1∈ys
instance {N:O Str}{so sl:wS}{is:O Nat}{ys:O Str}:Decidable (Pa N so sl is ys):=inferInstanceAs (Decidable (_/\_/\_))
def TL{bd:o0}(q:Str)(ys:O Str)(hK:uF X.K X.mg X.env.code P)(hP:mK P q)(hN:Pa X.N X.env.scope sc is ys)(hr:AF X K fs es k2 B)(hc:‹is.map (λi=>fs[i]?)=qs.map λq=>al (al (SL.val q))›)(hq:‹q=X.env.qual++"<lambda>"›)(hd:‹defaultsOf ar X.env=([],[])›)(ly:‹lf (.Lambda ar bd sc pos::es) X.env=(false,pc (.Lambda ar bd sc pos) X.env)::lf es X.env›):AFL X K fs (.Lambda ar bd sc pos::es) ⟨q,ar,bd,sc⟩ is qs [] k2 B:=by
 obtain⟨w,hp,hB⟩:=hr.p;refine⟨w,λÈ Z s σ H Q I ⟨sr,q⟩=>?_,hB⟩;refine A6 (Ks (L:=⟨_,ar,bd,sc⟩) I sr.tb hK hq hP hd (λy hy hk=>.inl (hN.2.1 _ (hN.2.2 y hy hk)).1) λa fz H1 s1 I1 ä z1 Zj kp th=>?_);have g1:cf σ fs H H1:=⟨λb o e _ nt=>kp b o e nt,th,.refl _,λb z=>kp b _ z rfl⟩;have tk:=g1.bN sr;have Vi:aH K H1 σ fs:=⟨sr.len,λi t e=>let ⟨u,h1,h2⟩:=sr.at' i t e;⟨u,h1,h2.mono tk λx b o _ _ _ z nt=>kp b o z nt⟩,sr.nd,Zj⟩;refine aR (hp È Z s1 σ H1 (λvs H2=>Q (.ref a::vs) H2) I1 ⟨Vi,w.mono (λl q1 vs H2 g2 s2 r2=>?_) q⟩) λus s2 ⟨vs,H2,I2,r2,q2⟩=>⟨.ref a::vs,H2,I2,.cons rfl r2,q2⟩;have z2:=z1.tk (g2.bN Vi);exact q1 _ H2 a fz (g1.trans g2) s2 ä z2 (.f (Gy s2 hc) z2 r2)
theorem HW{x:Str}{m:O PV->W PV}{B:(O PV->W PV)->W PV}(bi:Binds X.K fd ps [])(kp:AH X.K (.ref f)=true)(hm:X.mg x=al (.ref f))(G:∀mJ a us fz,jN L ys mJ a us fz->us.length=qs.length->aY X.prog X.w X.K X.mg mJ ip k f fd ps (mn K (k1++.f a us qs fz::k2) m))(SR:∀y,X.fn y=true)(hN:Pa X.N X.env.scope L.sc is ys)(hc:is.map (λi=>fs[i]?)=qs.map λq=>al (al (SL.val q)))(hr:bf k' X.A)(ha:AFL X K fs (e::es) L is qs k1 k2 B)(hk:k<=k':=by first|exact BE rfl|exact Aj _|lia)(hW:‹W'=B m›)(hg:‹Gl X x›)(dQ: ~~~(dn x))(he:‹dX X e es›)(bH:‹fD X pos es›):EF X K fs (.Call (.Name x p) (e::es) [] pos) W':=by
 subst hW;obtain⟨w,hp,hB⟩:=ha.p;rw[hB];refine⟨λZ s σ H Q I ⟨sr,q⟩=>?_⟩;refine AL (eF I hg hm ?_ dQ);refine BS I.ok.mod.Kw kp (aR (hp pos Z s σ H (λvs H1=>∃a fz l,aH K H1 σ fs/\uE X L a fz/\dq K H1 vs (k1++.f a (yN is σ) qs fz::k2) l/\(m l).run λz=>∀u H2,Mv 0 vs (k1++.f a (yN is σ) qs fz::k2) H1 H2->VR K [] H2 u z->Q u H2) I ⟨sr,w.mono (λl q1 vs H1 a fz g1 s1 n z r=>⟨a,fz,l,s1,n,r,(m l).mono (λz q2 u H2 g2 r2=>let ⟨s2,g3⟩:=g2.caller r s1;q2 u H2 (g1.trans g3) s2 r2) q1⟩) q⟩)
  λus s1 ⟨vs,H1,I1,r,a,fz,l,Vi,⟨cl,pm,c,kd,co,ĉ,SU,h1,h2⟩,ar,q1⟩=>⟨I1.ek,?_⟩) he bH
 obtain⟨hN1,ÿ,hN3⟩:=hN;have cin:∀x c,cl.lookup x=al c->c∈ys.filterMap λy=>cl.lookup y:=λx c z=>Dd.mpr ⟨x,(λx c z=>hN3 _ (h1 x c z).2 rfl) x c z,z⟩;have e1:=I1.Xj (cs:=ys.filterMap λy=>cl.lookup y) λc hc=>by
  obtain⟨y,hy,z⟩:=Dd.mp hc;exact⟨y,SR y,(h1 y c z).1⟩
 have bc:∀x c v,cl.lookup x=al c->s1.heap.IsCell c v->(lh X.base s1.heap (ys.filterMap λy=>cl.lookup y)).IsCell c v:=λx c v z ⟨o,z1,z2⟩=>⟨o,rM z1 (.inr (cin x c z)),z2⟩;have Â:is.length=qs.length:=by have:=congrArg CU hc;simpa using this
 have Z6:jN L ys (lh X.base s1.heap (ys.filterMap λy=>cl.lookup y)) a (yN is σ) fz:=by
  refine⟨cl,pm,c,kd,co,ĉ,SU,λx c z=>?_,λx y c z1 z2=>I.ok.inj x y c (h1 x c z1).1 (h1 y c z2).1,λi y hy=>?_⟩
  .obtain⟨v,hv⟩:=I1.cell x c (h1 x c z).1;exact⟨v,bc x c v z hv⟩
  .obtain⟨c',uO⟩:=h2 y (ÿ y (A9 hy)).2;have HF:(is.map λi=>X.N[i]?)[i]?=al (al y):=by rw[hN1,An,hy];rfl
   rw[An]at HF;cases z:is[i]? with
   |none=>rw[z]at HF;cases HF
   |some j=>
    rw[z]at HF;have KY:(is.map λi=>fs[i]?)[i]?=al (fs[j]?):=by rw[An,z];rfl
    rw[hc,An]at KY;cases zq:qs[i]? with
    |none=>rw[zq]at KY;cases KY
    |some qv=>
     rw[zq]at KY;obtain⟨v,e2,_⟩:=Vi.at' j _ ((Option.some.inj KY).symm);obtain⟨mm,_,hl⟩:=I1.loc;obtain⟨u,ru,lk⟩:=hl j y v (Option.some.inj HF) e2 (.inr (.inl (ÿ y (A9 hy)).1));refine⟨c',v,u,uO,?_,ru,?_⟩
     .unfold yN;rw[An,z];show al (((σ[j]?).join).getD .br)=al v;rw[e2];rfl
     .rcases lk with⟨k0,_⟩|⟨_,c2,k1,k2⟩
      .have k0:X.env.scope.names.lookup y=al .local:=k0;rw[(ÿ y (A9 hy)).1]at k0;cases k0
      .rw[(h1 y c' uO).1]at k1;cases k1;exact bc y c' _ uO k2
 exact zx (G _ a _ fz Z6 (by unfold yN;rw[Am];exact Â)) e1 (hr.mono hk) bi mq I1 r ⟨Vi.tb,0,l,ar.c,q1⟩
end
end
end FL
variable{o:Option L2.HO}{ts:O AW}
namespace L2
def kb.okc{K:Aa}{x:Str}{st:sK}{N:O Str}(F:kb K x qual st f fd)(S:bu N ps (ai st))(len:∀vs H Q E,sp vs H Q E->vs.length=ps.length)(kQ:∀(bE:ce) (A:wP) (outer:O Env) (s:gl) (H:Hp) (vs:O V) (Q:VK) (E:XK),fd.code=bE->bf k (A.deeper (xL qual (ai st) s.heap.objs.size f bE))->sp vs H Q E->
   ∃t,mf (jB ip P w K mg base N qual (ai st) f bE A outer s H E).Hd (aN st) t/\t {nx:=λ_ H'=>Q .br H',rt:=Q} (start N vs) H):aY P w K mg base ip (k+1) f fd ps sp:=by
 obtain⟨oc,od,kV,Ç,pm,an,bE,ct,G9,rfl,lk,cS⟩:=F.ex;refine zV lk cS S len λA outer s H vs Q E hr uL=>?_;obtain⟨t,h,q⟩:=kQ bE A outer s H vs Q E rfl hr uL;exact⟨t,h.Hd,q⟩
def xi(ts:O db)(a:db)(o:Option HO):Hp:=λb=>if b∈ts then al (.mP #[]) else if b=a then o else bn
def Jb(h:b∈ts):xi ts a o b=al (.mP #[]):=if_pos h
def QX(h:a∉ts):xi ts a o a=o:=by unfold xi;rw[if_neg h,if_pos rfl]
def kl{u:HO}(h:xi ts a o b=al u):(b∈ts/\u=.mP #[])\/(b=a/\o=al u):=by
 unfold xi at h;by_cases c:b∈ts
 .rw[if_pos c]at h;cases h;exact .inl ⟨c,rfl⟩
 .rw[if_neg c]at h;by_cases d:b=a
  .rw[if_pos d]at h;exact .inr ⟨d,h⟩
  .rw[if_neg d]at h;cases h
def Hr{K:Aa}{mb:Str->Option ce}{x:Str}{s₁:gl}{vs:O ce}(KX:K.In s₁.heap)(Mo:s₁.heap.Ns gt mg)(hb:s₁.heap.Ns PP mb)(hbb:∀x:Str,x≠"__name__"->mb x=tz x)(aaC:s₁.heap.NoLimit)(hbm:∃bm ob,mg "__builtins__"=al (.ref bm)/\bm≠PP/\s₁.heap.get? bm=al ob/\ob.cls=.type "module"/\ob.dict=al PP/\ob.data=.plain)(hg:s₁.gens=#[])(ha:s₁.heap.get? a=al {cls:=.type "list",data:=.seq vs.toArray})(hi:SC vs ns)(hl:ns.length<=sizeLine)(hr:bf k callerA)(ht:∀P∈ts,s₁.heap.get? P=al (Fu #[]))(htK:∀P∈ts,K.lookup P=bn)(htC:∀P∈ts,isCodeTable s₁.heap P)(F:∀base:lw,K.In base->base.Ns gt mg->aY P w K mg base ip k fa fd [x] sp)(WU:∀(s:gl) (u:ce),BindsTo s fd ⟨[u],[]⟩ [(x,u)])(uL:∀H:Hp,(∀P∈ts,H P=al (.mP #[]))->PL.Me K H a (ns.map V.int)->sp [.ref a] H (λv _=>v=.bl true) λ_ _ _=>False):KM (ii P w) callerA (.call (.ref fa) ⟨[.ref a],[]⟩) (λr s'=>r=.ok (.ret (.bool true))/\OldK s₁.heap s'.heap/\s'.os=s₁.os/\Rs s'.gens) s₁:=by
 have rv:=qL hi;have Z7:=hi.length;have Ù:∀H:Hp,(∀P∈ts,H P=al (.mP #[]))->PL.Me K H a (ns.map V.int)->gJ P w H s₁.heap->(∀b o,H b=al o->(b∈ts/\o=.mP #[])\/(b=a/\K.lookup a=bn/\∃o' u,o=.cE o' u))->
   KM (ii P w) callerA (.call (.ref fa) ⟨[.ref a],[]⟩) (λr s'=>r=.ok (.ret (.bool true))/\OldK s₁.heap s'.heap/\s'.os=s₁.os/\Rs s'.gens) s₁:=by
  intro H hT hS aK hA;have uh:∀{b:db}{o:Obj},s₁.heap.get? b=al o->H b=bn->(tE s₁.heap H).get? b=al o:=λe n=>KW e n;have V6:∀{b:db}{o:Obj}{es:Array DictEntry}{ep:Nat},s₁.heap.get? b=al o->o.data=.dict es ep->H b=bn:=λ{b o es ep} e d=>by
   cases q:H b with
   |none=>rfl
   |some u=>
    rcases hA b u q with⟨z,_⟩|⟨z,_⟩
    .rw[ht b z]at e;cases e;cases d
    .subst z;rw[ha]at e;cases e;cases d
  have Yk:∀{b:db}{m:Str->Option ce},s₁.heap.Ns b m->(tE s₁.heap H).Ns b m:=λ{b m} ⟨o,es,ep,e,d,r⟩=>⟨o,es,ep,uh e (V6 e d),d,r⟩;have hKb:K.In (tE s₁.heap H):=λb o e=>uh (KX b o e) (by
   cases q:H b with
   |none=>rfl
   |some u=>
    rcases hA b u q with⟨z,_⟩|⟨z,z2,_⟩
    .rw[htK b z]at e;cases e
    .subst z;rw[z2]at e;cases e)
  have hM:Mod K mg (tE s₁.heap H):=⟨hKb,Yk Mo,⟨mb,Yk hb,hbb⟩,let ⟨mc,h1,h2⟩:=aaC;⟨mc,Yk h1,h2⟩,let ⟨bm,ob,h1,h2,h3,h4,h5,h6⟩:=hbm;⟨bm,ob,h1,h2,uh h3 (by
   cases q:H bm with
   |none=>rfl
   |some u=>
    rcases hA bm u q with⟨z,_⟩|⟨z,_⟩
    .rw[ht bm z]at h3;cases h3;cases h6
    .subst z;rw[ha]at h3;cases h3;cases h6),h4,h5,h6⟩⟩
  have e0:uH P w K mg (tE s₁.heap H) callerA [] s₁ H:=⟨rfl,hM,λb o e=>NQ e,Ee (HE _ _),trivial,λb hb=>absurd (show b∈([]:O db) from hb) (by simp),aK,.of_eq hg⟩;refine zn ((F _ hKb (Yk Mo)).run callerA [] s₁ H ⟨[.ref a],[]⟩ [.ref a] [.ref a] _ _ hr e0 (WU s₁ (.ref a)) (.cons rfl .nil) (uL H hT hS)) λr s' h=>?_;cases r with
  |error e=>exact h.elim
  |ok fl=>
   cases fl with
   |next=>exact AO h
   |brk=>exact AO h
   |cont=>exact AO h
   |ret u=>
    obtain⟨v,H',os,bare,un,WI,r',q⟩:=h;have q':v=.bl true:=q;subst q';obtain rfl:u=C9 true:=r';refine⟨rfl,⟨λb o e=>?_,λb o e=>un.there b o e (by simp)⟩,os,bare⟩;cases q:H b with
    |none=>exact .inl (un.keep b o e q (by intro z;exact absurd (show b∈([]:O db) from z) (by simp)) (by simp))
    |some u=>
     rcases hA b u q with⟨z,rfl⟩|⟨z,_,o',u',rfl⟩
     .obtain⟨more,h2⟩:=un.lA b _ q;have h3:s'.heap.get? b=al (Fu (#[]++more)):=WI b _ h2;rw[ht b z]at e;cases e;exact .inr (.inl ⟨htC b z,rfl,#[],more,rfl,h3⟩)
     .have z2:=un.kS b _ _ q;obtain⟨e1,_⟩:=aK b _ q;obtain⟨e2,_⟩:=WI b _ z2;rw[e]at e1;cases e1;exact .inl e2
 have naT:a∉ts:=λz=>by rw[ht a z]at ha;cases ha
 cases hk:K.lookup a with
 |some o=>
  have e:=KX a o hk;rw[ha]at e;cases e;refine Ù (xi ts a bn) (λb hb=>Jb hb) (.inr ⟨_,vs.toArray,_,hk,rfl,rfl,rfl,by rw[Ag,Z7];exact hl,by simpa using rv⟩) (λb u z=>?_) λb u z=>?_
  .rcases kl z with⟨y,rfl⟩|⟨_,y⟩
   .exact ht b y
   .cases y
  .rcases kl z with⟨y,rfl⟩|⟨_,y⟩
   .exact .inl ⟨y,rfl⟩
   .cases y
 |none=>
  refine Ù (xi ts a (al (.cE {cls:=.type "list",data:=.seq vs.toArray} (.lst (ns.map V.int))))) (λb hb=>Jb hb) (.inl ⟨{cls:=.type "list",data:=.seq vs.toArray},QX naT⟩) (λb u z=>?_) λb u z=>?_
  .rcases kl z with⟨y,rfl⟩|⟨rfl,y⟩
   .exact ht b y
   .cases y;exact⟨ha,by rw[Am];exact hl,vs,_,rv,ha⟩
  .rcases kl z with⟨y,rfl⟩|⟨rfl,y⟩
   .exact .inl ⟨y,rfl⟩
   .cases y;exact .inr ⟨rfl,hk,_,_,rfl⟩
end L2
variable{P:AW}
namespace FL
section
variable[bj]
abbrev EV.at(v:EV)(b:lw):EV:=⟨v.P,v.w,v.K,v.mg,b⟩
def DI.at(D:DI v d)(b:lw):DI (v.at b) d:=⟨D.f,D.fd,D.fn,D.bi,D.at'⟩
def Z2{x:Str}{st:sK}{m:rP PV n}(D:DI v ⟨x,st,nu st,k+1,λK=>mn K ks (gN n m)⟩)(hc:uF v.K v.mg D.fd.code P)(Æ:∀{j:Nat}{bE:ce}{A:wP}{outer:O Env}{s:gl}{H:Hp}{E:XK},uF v.K v.mg bE P->bf k (A.deeper (xL x (ai st) s.heap.objs.size D.f bE))->(p8 st).Nodup->y7 n (λl w=>SF (jB ip v.P v.w v.K v.mg v.base (p8 st) x (ai st) D.f bE A outer s H E).Hd v.K false (m8 j ks l (p8 st).length) (aN st) w .rt) m)(HD:‹ks.length=(nu st).length›)(one:‹F7 (qk ks) 1=true›)(S:bu (p8 st) (nu st) (ai st):=by exact tM):D.O:=by
 refine D.fn.okc S (λvs H Q E h=>?_) (λbE A outer s H vs Q E ec hr h=>?_)
 .obtain⟨_,_,l,h,_⟩:=h;rw[h.len];exact HD
 obtain⟨tb,j,l,h,q⟩:=h;subst ec;exact⟨_,((Æ hc hr S.nd).all l (fF q)).p,h.beg tb (oC one) (p8 st),(gN n m l).mono (λv q1 u σ' aE H' g s' r=>q1 u H' (h.go g s') r) q⟩
def XZ(vs:Array ce)(c P:db):Prop:=∃Þ tf Ø tg æ Ü tt,vs[11]?=al (.ref P)/\vs.getD 11 .none=.ref P/\vs.getD 18 .none=.str Þ tf/\vs.getD 7 .none=.int Ø tg/\vs.getD 9 .none=.bool æ/\vs.getD 10 .none=.int Ü tt/\c≠P
structure DXc(K:Aa)(x:Str)(st:sK)(P:db):Prop where
 ex:∃f fd,Aw K gt x=al (al (.ref f))/\kb K x x st f fd/\∃c,fd.code=.ref c/\(∀h:lw,K.In h->PySem.W.CodeHd h c P)/\∀h:lw,K.In h->isCodeTable h P
def dxc{K:Aa}{x:Str}{st:sK}{c:db}{cd:Option db}{sl:Array (Option ce)}{kV:ce}(a:Aw K gt x=al (al (.ref f)))(l:K.lookup f=al ⟨oc,od,.func (Be x x (bM st) (aN st) (ai st) .none kV Ç pm an (.ref c) ct),G9⟩)(h:BX K (.ref c) x=true)(k:AH K (.ref f)=true)(e:K.lookup c=al ⟨.type "code",cd,.fields vs,sl⟩)(z:XZ vs c P):DXc K x st P:=
 ⟨f,_,a,lZ l h k,c,rfl,λhp hK=>let ⟨Þ,tf,Ø,tg,æ,Ü,tt,z⟩:=z;⟨_,vs,Þ,tf,Ø,tg,æ,Ü,tt,hK _ _ e,rfl,rfl,z⟩,λhp hK=>let ⟨_,_,_,_,_,_,_,z,_⟩:=z;⟨c,_,vs,hK _ _ e,rfl,rfl,z⟩⟩
def DXc.mk3(D:DXc v.K d.x d.s P)(X:v.K.In h)(G:h.Ns gt v.mg)(hb:∀(kV Ç pm:ce) (an:Option db) (bE ct:ce) (us:O ce),us.length=d.ps.length->P3 (Be d.x d.x (bM d.s) (aN d.s) (ai d.s) .none kV Ç pm an bE ct) ⟨us,[]⟩=pure (d.ps.zip us):=by exact λ_ _ _ _ _ _=>usN (by (repeat intro _);rfl)):∃D:DI v d,uF v.K v.mg D.fd.code P:=by
 obtain⟨f,fd,a,F,c,hc,hd,_⟩:=D.ex;exact⟨⟨f,fd,F,F.binds hb,Ba X G a⟩,⟨⟨c,hc,hd⟩⟩⟩
def DXc.tab{K:Aa}{x:Str}{st:sK}(D:DXc K x st P)(hK:K.In h):isCodeTable h P:=let ⟨_,_,_,_,_,_,_,z⟩:=D.ex;z h hK
def walkT{l:PySem.W.OpenLaw}{q:sw}{d:DefRec}{K:Params->Aa}(hn:l.most=al 63)(ø:d.params.defaults=[])(hr:bf k callerA)(hY:∀(w:wE) (h:lw),YP w h->(K w.params).In h/\∀P∈bj.ts.map (·.1),h.get? P=al (Fu #[]))(hK:∀w:wE,∀P∈bj.ts.map (·.1),(K w.params).lookup P=bn)(hC:∀(w:wE) (h:lw),(K w.params).In h->∀P∈bj.ts.map (·.1),isCodeTable h P)(F:∀(w:wE) (mg:Str->Option ce) (fa:db) (h:lw),(K w.params).In h->h.Ns gt mg->mg d.name=al (.ref fa)->
   ∃fd:wp,(∀(s:gl) (u:ce),BindsTo s fd ⟨[u],[]⟩ [("_law_script",u)])/\∀base:lw,(K w.params).In base->base.Ns gt mg->aY l.prog w (K w.params) mg base ip k fa fd ["_law_script"] (Jf (K w.params))):PySem.W.WalkO q Õ XP YP l.row.toRowW d [] (λf vs=>PySem.call f vs):=by
 refine Att.wK hn ø λw s₀ s₁ mg mb fa o pm cd Ç a vs ns G Y ho hd cS hmg SJ Ö Â hg=>?_;obtain⟨KX,hT⟩:=hY w _ Y;obtain⟨fd,hb,hF⟩:=F w mg fa _ KX G.T.g hmg;exact Hr KX G.T.g G.T.b G.T.builtins G.T.nolimit G.T.bmain hg SJ Ö (AE Â ⋯) hr hT (hK w) (hC w _ KX) hF hb λH hT' hS=>⟨λp hp=>⟨#[],hT' _ (AR.mpr ⟨p,hp,rfl⟩),trivial,λpos c z=>by simp[Sc]at z⟩,a,ns,rfl,hS,Â,λ_=>rfl⟩
def forK{K:Aa}(P:Aa->Prop)(_:K.In h)(p:P K):P K:=p
end
end FL
namespace My
def gI(j:Nat):sK->sK
 |.ClassDef _ _ _ b _ _ _ _ _ _ _=>b.getD j (.Pass ⟨0,0,0,0⟩)
 |s=>s
def Po(i:Nat):sK:=BZ.main.body.getD i (.Pass ⟨0,0,0,0⟩)
abbrev sN:sK:=Po 20
abbrev sR:sK:=Po 28
abbrev zw:sK:=Po 29
abbrev Nb:sK:=Po 30
abbrev zv:sK:=Po 31
abbrev Nd:sK:=Po 32
abbrev sy:sK:=Po 33
abbrev X9:sK:=Po 44
end My
variable{P:FR}{s T:BJ}{c m:Nat}{p C:AW}
namespace My
def qa(C p:db)(T:Str)(n:Nat)(H:Hp):Prop:=∃dx,H p=al (.ins C dx [("text",.str T),("place",.int n)])
def wY(s:Str)(c:Nat):Bool:=!(Builtin.Str.occurrences s ⟨#[c]⟩ 0 s.length 1).isEmpty
def jD(T:Str)(n:Nat)(s:Str):Bool:=match T.cps.toList[n]? with
 |some c=>wY s c
 |none=>false
theorem QE{l:List α}{c:α}(h:l[n]?=al c):dY l (n:Int)=al c:=by
 have:=(Ak.mp h).1;unfold dY vH;rw[if_pos ∅,if_pos ∅];simpa using h
def pO(e:T.cps.toList[n]?=al c):jD T n s=wY s c:=by unfold jD;rw[e]
def yT(h:jD T n s=true):∃c,T.cps.toList[n]?=al c/\wY s c=true/\n<T.length:=by
 unfold jD at h;cases e:T.cps.toList[n]? with
 |none=>rw[e]at h;cases h
 |some c=>
  rw[e]at h;exact⟨c,rfl,h,by have:=(Ak.mp e).1;simpa[CA]using this⟩
def xm(h:n<=16777216):(n:Int).natAbs.log2<100:=by
 rw[Int.natAbs_natCast];by_cases z:n=0
 .subst z;decide
 .exact(Nat.log2_lt z).mpr (Nat.lt_of_le_of_lt h ⋯)
def mh(p:db)(H H':Hp):Prop:=∀b,b≠p->H' b=H b
structure ng(p:db)(H H':Hp):Prop where
 k:∀c o,c≠p->H c=al o->H' c=al o
 t:∀c,H' c=bn->H c=bn
def ng.trans(a:ng p H H1)(b:ng p H1 H2):ng p H H2:=⟨λc o n h=>b.k c o n (a.k c o n h),λc h=>a.t c (b.t c h)⟩
def ng.same(s:dW H H'):ng p H H':=⟨λc o _ h=>s c o h,λc h=>by
 cases e:H c with
 |none=>rfl
 |some o=>rw[s c o e]at h;cases h⟩
def ng.off(o:mh p H H')(r:qa C p T n H'):ng p H H':=⟨λc u nc h=>(o c nc).trans h,λc h=>by
 by_cases e:c=p
 .subst e;obtain⟨dx,r⟩:=r;rw[r]at h;cases h
 .rw[<- o c e];exact h⟩
def qa.same(s:dW H H')(r:qa C p T n H):qa C p T n H':=let ⟨dx,r⟩:=r;⟨dx,s _ _ r⟩
def mh.trans(a:mh p H H1)(b:mh p H1 H2):mh p H H2:=λc n=>(b c n).trans (a c n)
def ni(E:XK)(p:db)(H:Hp)(m:Nat):Prop:=∀a H',ng p H H'->E (.int m 0) (al a) H'
def ni.kp(b:ni E p H m)(k:ng p H H1):ni E p H1 m:=λa H' k'=>b a H' (k.trans k')
def uY(C:db):Sp:=λvs H Q _=>∃(p:db) (T:Str) (n:Nat) (s:Str),vs=[.ref p,.str s]/\qa C p T n H/\T.length<=sizeLine/\Q (.bl (jD T n s)) H
structure QH(K:Aa)(mg:Str->Option ce)(C:db):Prop where
 cl:GJ K C
 t:ed K C "text"
 p:ed K C "place"
 len:mg "len"=bn
structure XO(P:sw)(w:wE)(K:Aa)(mg:Str->Option ce)(base:lw)(N:db) where
 f:db
 fd:wp
 m:wU K N f
 ok:aY P w K mg base ip 1 f fd ["self","place"] (Je N)
 bi:Binds K fd ["self","place"] []
 at':mg "NoText"=al (.ref N)
 kp:AH K (.ref N)=true
section
variable{K:Aa}{N:db}
def V3{TE:db}(T:Mg K TE N)(S:GH K N TE "place")(hm:mg "TreeError"=al (.ref TE))(F:kb K "__init__" "NoText.__init__" (gI 0 sN) f fd):aY P w K mg base ip 1 f fd ["self","place"] (Je N):=by
 refine F.ok (N:=["self","place"]) tM (λvs H Q E h=>?_) (λbE A outer s H vs Q E hr h=>?_)
 .obtain⟨_,_,rfl,_⟩:=h;rfl
 obtain⟨a,n,rfl,ha,hn,q⟩:=h;refine⟨_,aJ (gR (VJ T (let ⟨cd,h,_⟩:=S.cd;⟨cd,h⟩) rfl hm (pv 0) (VN (by decide +kernel) (pv 1)))) (aZ (VF S (pv 0) (pv 1) rfl)),?_⟩;refine⟨.ref a,rfl,.int n,rfl,n,rfl,hn,λu=>⟨a,u,rfl,rfl,ha,?_⟩⟩;exact⟨.int n,rfl,.ref a,rfl,a,rfl,ha,λH' dx hd ho h1 h2=>q H' dx hd ho h1 h2⟩
theorem Hb(R:QH K mg C)(F:kb K "stands_at" "Reader.stands_at" (gI 1 sR) f fd):aY P w K mg base ip 1 f fd ["self","signs"] (uY C):=by
 refine F.ok (N:=["self","signs"]) tM (λvs H Q E h=>?_) (λbE A outer s H vs Q E hr h=>?_)
 .obtain⟨_,_,_,_,rfl,_⟩:=h;rfl
 obtain⟨p,T,n,sg,rfl,⟨dx,hp⟩,hT,q⟩:=h;refine⟨_,aZ (cK (JZ (ny zI (gb (pv 0) rfl) (bo (eN K rfl) (by rfl) R.len Ep (ah (gb (pv 0) rfl) aA)) (eV _)) (xB (ny qX (zG (tu K rfl) (gb (pv 0) rfl) (gb (pv 0) rfl) (λ_ _=>rfl)) (pv 1) rfl)))),?_⟩;refine⟨.ref p,rfl,p,C,dx,_,.int n,rfl,hp,R.cl,R.p,rfl,.ref p,rfl,p,C,dx,_,.str T,rfl,hp,R.cl,R.t,rfl,.str T,T.length,rfl,⟨hT,rfl⟩,_,_,rfl,rfl,_,rfl,?_⟩;cases e:T.cps.toList[n]? with
 |none=>
  have:¬((n:Int)<(T.length:Int)):=λz=>by
   have:=List.getElem?_eq_none_iff.mp e;have e2:T.cps.toList.length=T.length:=by simp[CA]
   lia
  rw[if_neg (by simpa using this)];have:jD T n sg=false:=by unfold jD;rw[e]
  rw[this]at q;exact q
 |some c=>
  have l1:n<T.length:=by have:=(Ak.mp e).1;simpa[CA]using this
  rw[if_pos (by simpa using l1)];have:jD T n sg=wY sg c:=by unfold jD;rw[e]
  rw[this]at q;exact⟨.ref p,rfl,p,C,dx,_,.str T,rfl,hp,R.cl,R.t,rfl,.ref p,rfl,p,C,dx,_,.int n,rfl,hp,R.cl,R.p,rfl,.inr (.inr ⟨T,n,c,rfl,rfl,hT,QE e,.str sg,rfl,_,_,rfl,rfl,q⟩)⟩
structure Mt(P:sw)(w:wE)(K:Aa)(mg:Str->Option ce)(base:lw)(CX:II)(C:db)(m:Str)(k:Nat)(ps:List Str)(sp:Sp) where
 f:db
 fd:wp
 m:Meth K C m f
 ok:aY P w K mg base CX k f fd ps sp
 bi:Binds K fd ps []
def zk(C:db):Sp:=λvs H Q E=>∃(p:db) (T:Str) (n:Nat) (s:Str),vs=[.ref p,.str s]/\qa C p T n H/\T.length<=sizeLine/\n<=T.length/\(∀c,T.cps.toList[n]?=al c->wY s c=true->∀H',mh p H H'->qa C p T (n+1) H'->Q (.str ⟨#[c]⟩) H')/\(jD T n s=false->ni E p H n)
abbrev XR(P:sw)(w:wE)(K:Aa)(mg:Str->Option ce)(base:lw)(C:db):=Mt P w K mg base ip C "stands_at" 1 ["self","signs"] (uY C)
abbrev MtT(P:sw)(w:wE)(K:Aa)(mg:Str->Option ce)(base:lw)(N C:db):=Mt P w K mg base (mj P w N) C "take" 3 ["self","signs"] (zk C)
def Tz(b:ni E p H m):∀(a:db) (H':Hp),(∀c o,H c=al o->H' c=al o)->(∀c,H' c=bn->H c=bn)->E (.int m 0) (al a) H':=λa H' k t=>b a H' ⟨λc o _ h=>k c o h,t⟩
theorem NM(R:QH K mg C)(NT:XO P w K mg base N)(S:XR P w K mg base C)(F:kb K "take" "Reader.take" (gI 2 sR) f fd):aY P w K mg base (mj P w N) 3 f fd ["self","signs"] (zk C):=by
 refine F.Ud (N:=["self","signs"]) tM (λvs H Q E h=>?_) (λbE A outer s H vs Q E hr h=>?_)
 .obtain⟨_,_,_,_,rfl,_⟩:=h;rfl
 obtain⟨p,T,n,sg,rfl,⟨dx,hp⟩,hT,hn,q,Î⟩:=h;refine⟨_,aJ (iD (lH (f9 (gT (pv 0) R.cl S.m S.ok (hr.mono ⋯) S.bi .nil mq (ah (pv 1) aA)))) (aZ (kr NT.m NT.ok NT.bi hr rfl rfl NT.at' NT.kp (gb (pv 0) rfl) bR)) cU) (aJ (xw (pv 0) (oz J3 (gb (pv 0) rfl) iG) rfl) (aZ (cK (zG (tu K rfl) (gb (pv 0) rfl) (oz J1 (gb (pv 0) rfl) iG) (λ_ _=>rfl))))),?_⟩;refine⟨.ref p,rfl,p,dx,_,rfl,hp,rfl,.str sg,rfl,p,T,n,sg,rfl,⟨dx,hp⟩,hT,_,rfl,?_⟩;cases hb:jD T n sg with
 |false=>
  refine iO ?_;exact⟨.ref p,rfl,p,C,dx,_,.int n,rfl,hp,R.cl,R.p,rfl,n,rfl,xm (by rw[<- GM];lia),Tz (Î hb)⟩
 |true=>
 obtain⟨c,hc,ho,_⟩:=yT hb;refine fe ?_;refine⟨.ref p,rfl,p,C,dx,_,.int n,rfl,hp,R.cl,R.p,rfl,_,_,rfl,rfl,.ref p,rfl,p,C,dx,_,rfl,hp,R.cl,R.p,(by show 2 < 1000;decide),?_⟩;have e1:upd H p (.ins C dx (iq "place" (.int ((n:Int)+1)) [("text",.str T),("place",.int n)])) p=al (.ins C dx [("text",.str T),("place",.int ((n+1:Nat):Int))]):=aw;have e2:mh p H (upd H p (.ins C dx (iq "place" (.int ((n:Int)+1)) [("text",.str T),("place",.int n)]))):=λb nb=>af nb;generalize upd H p (.ins C dx (iq "place" (.int ((n:Int)+1)) [("text",.str T),("place",.int n)]))=H1 at e1 e2;refine⟨.ref p,rfl,p,C,dx,_,.str T,rfl,e1,R.cl,R.t,rfl,.ref p,rfl,p,C,dx,_,.int ((n+1:Nat):Int),rfl,e1,R.cl,R.p,rfl,_,_,rfl,rfl,.inr (.inr ⟨T,_,c,rfl,rfl,hT,?_,q c hc ho H1 e2 ⟨dx,e1⟩⟩)⟩;have:((n+1:Nat):Int)-1=(n:Int):=by lia
 rw[this];exact QE hc
end
end My
variable{most:Nat}
namespace My
def rn(T s:Str)(n most:Nat):O Nat:=((T.cps.toList.drop n).take most).takeWhile (wY s)
theorem IV{f:α->Bool}:∀{l:List α}{i:Nat},i<(l.takeWhile f).length->l[i]?=(l.takeWhile f)[i]?
 |[],i,h=>by simp at h
 |a::l,i,h=>by
  by_cases c:f a=true
  .rw[CS c]at h ⊢;cases i with
   |zero=>rfl
   |succ i=>simpa using IV (l:=l) (by simpa using h)
  .rw[CT c]at h;simp at h
theorem IX{f:α->Bool}:∀{l:List α}{c:α},c∈l.takeWhile f->f c=true
 |[],c,h=>by simp at h
 |a::l,c,h=>by
  by_cases e:f a=true
  .rw[CS e]at h;rcases Az.mp h with rfl|h
   .exact e
   .exact IX h
  .rw[CT e]at h;simp at h
theorem IW{f:α->Bool}:∀{l:List α},(l.takeWhile f).length=l.length\/∃a,l[(l.takeWhile f).length]?=al a/\f a=false
 |[]=>.inl rfl
 |a::l=>by
  by_cases c:f a=true
  .rw[CS c];rcases IW (f:=f) (l:=l) with h|⟨x,h1,h2⟩
   .exact .inl (by simp[h])
   .exact .inr ⟨x,by simpa using h1,h2⟩
  .rw[CT c];exact .inr ⟨a,rfl,by simpa using c⟩
section
theorem sA:(rn T s n most).length<=most:=AE (List.takeWhile_sublist _).length_le (by rw[Cf];lia)
theorem xr(h:i<(rn T s n most).length):T.cps.toList[n+i]?=(rn T s n most)[i]?:=by
 have l:=sA (T:=T) (s:=s) (n:=n) (most:=most);have:=IV (l:=(T.cps.toList.drop n).take most) (f:=wY s) h;rw[show(rn T s n most)[i]?=_ from this.symm,List.getElem?_take,if_pos ∅,List.getElem?_drop]
def sC(h:c∈rn T s n most):wY s c=true:=IX h
theorem xt(h:(rn T s n most).length<most):jD T (n+(rn T s n most).length) s=false:=by
 rcases IW (f:=wY s) (l:=(T.cps.toList.drop n).take most) with z|⟨a,z1,z2⟩
 .have z':(rn T s n most).length=((T.cps.toList.drop n).take most).length:=z;rw[Cf,CZ]at z';unfold jD;rw[A2 ∅]
 .have z1:((T.cps.toList.drop n).take most)[(rn T s n most).length]?=al a:=z1;rw[List.getElem?_take,if_pos h,List.getElem?_drop]at z1;rw[pO z1];exact z2
def Jr(h:jD T n s=false):rn T s n most=[]:=by
 cases e:rn T s n most with
 |nil=>rfl
 |cons c u=>
  have:=xr (T:=T) (s:=s) (n:=n) (most:=most) (i:=0) (by rw[e];simp);rw[e]at this;have h2:=sC (T:=T) (s:=s) (n:=n) (most:=most) (c:=c) (by rw[e];simp);rw[pO (by simpa using this),h2]at h;cases h
def PM(m:0<most)(h:jD T n s=true):rn T s n most≠[]:=λz=>by
 have:=xt (T:=T) (s:=s) (n:=n) (most:=most) (by rw[z];exact m);rw[z]at this;rw[show n+([]:O Nat).length=n from rfl,h]at this;cases this
theorem PN(hn:n<=T.length):n+(rn T s n most).length<=T.length:=by
 cases e:(rn T s n most).length with
 |zero=>exact hn
 |succ k=>
  have:=xr (T:=T) (s:=s) (n:=n) (most:=most) (i:=k) ∅;rw[Af (l:=rn T s n most) ∅]at this;have:=(Ak.mp this).1;have e2:T.cps.toList.length=T.length:=by simp[CA]
  lia
end
def si(C:db):Sp:=λvs H Q E=>∃(p:db) (T:Str) (n:Nat) (s:Str) (most:Nat),vs=[.ref p,.str s,.int most]/\qa C p T n H/\T.length<=sizeLine/\n<=T.length/\0<most/\most<=100/\(rn T s n most=[]->ni E p H n)/\(rn T s n most≠[]->∀H',mh p H H'->qa C p T (n+(rn T s n most).length) H'->Q (.str ⟨(rn T s n most).toArray⟩) H')
section
variable{K:Aa}{N:db}
theorem NP(R:QH K mg C)(S:XR P w K mg base C)(M:MtT P w K mg base N C)(F:kb K "take_many" "take_many" zw f fd):aY P w K mg base (mj P w N) 4 f fd ["reader","signs","most"] (si C):=by
 have nd:(["reader","signs","most","told"]:O Str).Nodup:=by decide
 refine F.Ud (N:=["reader","signs","most","told"]) tM (λvs H Q E h=>?_) (λbE A outer s H vs Q E hr h=>?_)
 .obtain⟨_,_,_,_,_,rfl,_⟩:=h;rfl
 obtain⟨p,T,n,sg,most,rfl,hR,hT,hn,ñ,hm,Î,q⟩:=h;refine⟨_,aJ (cV (i:=3) nd rfl (Bs rfl) (gT (pv 0) R.cl M.m M.ok hr M.bi .nil (oB bR) (ah (pv 1) aA))) (aJ (kq F2 (PW.pt (JD (ja zI (bo (eN K rfl) (by rfl) R.len Ep (ah (pv 3) aA)) (pv 2) (eV _)) (zB (f9 (gT (pv 0) R.cl S.m S.ok (hr.mono ⋯) S.bi .nil mq (ah (pv 1) aA)))))) (aZ (cV (i:=3) nd rfl (Bs rfl) (oz (zK K rfl) (pv 3) (gT (pv 0) R.cl M.m M.ok hr M.bi .nil (oB bR) (ah (pv 1) aA)))))) (aZ (cK (pv 3)))),?_⟩;obtain⟨dx,hp⟩:=hR;refine⟨.ref p,rfl,p,dx,_,rfl,hp,rfl,.str sg,rfl,p,T,n,sg,rfl,⟨dx,hp⟩,hT,hn,λc0 WT ho0 H1 o1 r1=>?_,λhb=>Î (Jr hb)⟩;have hb:jD T n sg=true:=by rw[pO WT];exact ho0
 have ne:=PM ñ hb;replace q:=q ne;have ul:0<(rn T sg n most).length:=Ca.mpr ne;have u1:=sA (T:=T) (s:=sg) (n:=n) (most:=most);have u2:=λi (h:i<(rn T sg n most).length)=>xr h;have u3:=λc (h:c∈rn T sg n most)=>sC h;have u4:=λh=>xt (T:=T) (s:=sg) (n:=n) (most:=most) h;have tl:=PN (T:=T) (s:=sg) (n:=n) (most:=most) hn;generalize rn T sg n most=u at q ul u1 u2 u3 u4 tl ne;have t0:T.cps.toList[n]?=al u[0]:=by
  have:=u2 0 ul;rw[Nat.add_zero]at this;rw[this,Af ul]
 have c00:c0=u[0]:=by rw[t0]at WT;exact(Option.some.inj WT).symm
 refine⟨λm σ H2=>∃i,0<i/\i<=u.length/\m=u.length-i/\σ=[al (.ref p),al (.str sg),al (.int most),al (.str ⟨(u.take i).toArray⟩)]/\mh p H H2/\qa C p T (n+i) H2,⟨_,1,by lia,ul,rfl,?_,o1,r1⟩,?_⟩
 .cases u with
  |nil=>exact absurd rfl ne
  |cons a u=>rw[c00];rfl
 rintro m σ H2 ⟨i,i0,i1,rfl,rfl,o2,r2⟩;have len:(⟨(u.take i).toArray⟩:Str).length=i:=by simp[CA];lia
 refine⟨.str _,rfl,.str _,i,rfl,⟨by rw[len];exact AE (by lia:i<=100) ⋯,len.symm⟩,.int most,rfl,_,_,rfl,rfl,_,rfl,?_⟩;obtain⟨OT,h2⟩:=r2;by_cases c:i<most
 .rw[if_pos (by simpa using c)];refine⟨.ref p,rfl,p,OT,_,rfl,h2,rfl,.str sg,rfl,p,T,n+i,sg,rfl,⟨OT,h2⟩,hT,_,rfl,?_⟩;by_cases d:i<u.length
  .have ti:T.cps.toList[n+i]?=al u[i]:=by rw[u2 i d,Af d]
   have hi:jD T (n+i) sg=true:=by rw[pO ti];exact u3 _ (List.getElem_mem d)
   rw[hi];refine iO ?_;refine⟨λσ' H'=>σ'=[al (.ref p),al (.str sg),al (.int most),al (.str ⟨(u.take (i+1)).toArray⟩)]/\mh p H H'/\qa C p T (n+(i+1)) H',?_,?_⟩
   .rintro σ' H' ⟨z1,z2,z3⟩;exact⟨u.length-(i+1),by lia,i+1,by lia,d,rfl,z1,z2,z3⟩
   .refine⟨.str _,rfl,.ref p,rfl,p,OT,_,rfl,h2,rfl,.str sg,rfl,p,T,n+i,sg,rfl,⟨OT,h2⟩,hT,by lia,λc1 ü _ H3 o3 r3=>⟨_,rfl,?_,?_⟩,λz=>by rw[hi]at z;cases z⟩
    .rw[len];exact AE (by show i+1<=101;lia:i+1<=101) ⋯
    .have c11:c1=u[i]:=by rw[ti]at ü;exact(Option.some.inj ü).symm
     subst c11;refine⟨?_,o2.trans o3,by rw[<- FT];exact r3⟩;have:(⟨(u.take i).toArray⟩:Str)++(⟨#[u[i]]⟩:Str)=⟨(u.take (i+1)).toArray⟩:=by
      show(⟨(u.take i).toArray++#[u[i]]⟩:Str)=_;congr 1;rw[List.take_succ,Af d];simp
     rw[this];rfl
  .have iu:i=u.length:=by lia
   have z:jD T (n+i) sg=false:=by rw[iu];exact u4 ∅
   rw[z];refine fe ?_;refine⟨_,rfl,?_⟩;rw[Dv ∅];exact q H2 o2 ⟨OT,by rw[<- iu];exact h2⟩
 .rw[if_neg (by simpa using c)];refine fe ?_;refine⟨_,rfl,?_⟩;have iu:i=u.length:=by lia
  rw[Dv ∅];exact q H2 o2 ⟨OT,by rw[<- iu];exact h2⟩
end
end My
namespace L2
def Ih:bz X (.type "int") (λxs H Q=>∃x n,xs=[.str x]/\PySem.intText? x=al n/\x.length<=640/\Q (.int n) H):=by
 intro Z s σ H xs us Q I r h;obtain⟨x,n,rfl,hn,hl,q⟩:=h;obtain⟨u,rfl,t,rfl⟩:=vals1 r;exact PySem.W.KIN.call_text hn hl ⟨.int n,H,I.tok _,⟨_,rfl⟩,q⟩
end L2
namespace My
section
variable{K:Aa}{N:db}
structure wW(P:sw)(w:wE)(K:Aa)(mg:Str->Option ce)(base:lw)(N:db)(x:Str)(k:Nat)(ps:List Str)(sp:Sp) where
 f:db
 fd:wp
 ok:aY P w K mg base (mj P w N) k f fd ps sp
 bi:Binds K fd ps []
 kp:AH K (.ref f)=true
 at':mg x=al (.ref f)
def kA{x:Str}{p:Pos}(G:wW X.prog X.w X.K X.mg X.base N x k ps sp)(hr:bf k' X.A)(hk:k<=k')(hf:pU X N E)(hg:Gl X x)(ha:PA X (e::es) t)(dQ: ~~~(dn x))(he:‹dX X e es›)(bH:‹fD X pos es›):PE X (.Call (.Name x p) (e::es) [] pos) (Pw sp [] E t):=
 zH G.ok (hr.mono hk) hg G.at' G.kp G.bi .nil (oB hf) ha dQ he bH
end
end My
namespace L2
def rB(yi:X.stack=X.env::X.outer)(YC:X.env.frame=al X.env.locals)(õ:X.ex=[])(hxe:X.xe=λe (s':gl)=>f8 (ii X.prog X.w) X.A (leaving X.env e) (λ_ GZ=>mj X.prog X.w C X.outer X.H₀ X.s₀ E e GZ) (λe' GZ=>mj X.prog X.w C X.outer X.H₀ X.s₀ E e' GZ) s'):pU X C E:=by
 intro Z σ H1 s1 a dx ot n I F e;have st:=I.stack;have sf:=I.km;rw[yi]at st sf;have nl:∀b,X.s₀.heap.objs.size<=b->∀o,X.s₀.heap.get? b=al o->False:=λb hb o q=>absurd (Ai q) (Eu.mpr hb);rw[hxe];show f8 _ _ (leaving _ (.ref a)) _ _ s1;refine vz (base:=X.base) (env:=X.env) (outer:=X.outer) (by rw[I.ok.frames,yi]) st YC F.fx λh' T c x hT=>?_;have T0:H1 T=bn:=I.aK.fresh hT;have nx:∀b,b∉X.ex:=λb=>by rw[õ];simp
 refine⟨a,dx,al T,n,H1,rfl,I.os,I.bare,⟨λb o q n0 hb hx=>?_,λb o q n0 hb hx=>?_,λb o q n _=>I.base.free b o q n (nx b),λb o q hx=>?_,I.base.bN,I.base.kS,I.base.lA⟩,c.aK x I.aK F.fa (λT h=>(F.ft T h).1) sf,⟨x,F.fa,F.fd,F.fl,λT' z=>by cases z;exact⟨T0,AE I.sz hT⟩⟩,e⟩
 .have q1:=I.base.keep b o q n0 hb (nx b);refine c.keep b o q1 (λz=>nl _ F.fl _ (z▸q)) (λz=>nl _ (F.ft _ z).2 _ q) λz=>?_;simp only[m5,Bh,YC]at z;rcases Az.mp z with z|z
  .exact nl _ (z▸I.ok.above) _ q
  .exact hb z
 .obtain⟨sl,q1⟩:=I.base.slot b o q n0 hb (nx b);obtain⟨M5,q2⟩:=c.slot b _ q1 (λz=>nl _ F.fl _ (z▸q)) (λz=>nl _ (F.ft _ z).2 _ q);exact⟨M5,q2⟩
 .obtain⟨o1,q1⟩:=I.base.there b o q (nx b);exact c.there b o1 q1
end L2
variable{us:O L2.V}
namespace FL
section
variable[bj]
structure Ir(P:sw)(w:wE)(K:Aa)(mg:Str->Option ce)(base:lw)(N:db)(f:db)(us:List V)(qs:List PV)(fz:List (db×Obj))(k:Nat)(ps:List Str)(sp:Sp) where
 fd:wp
 ok:aY P w K mg base (mj P w N) k f fd ps (X8 K us qs fz sp)
 bi:Binds K fd ps []
 kp:∀h:lw,K.In h->(∀b o,base.get? b=al o->h.get? b=al o)->(∀p∈fz,h.get? p.1=al p.2)->Di f h
def U8(a:db)(K:Aa)(us:O V)(qs:O PV)(fz:O (db×Obj))(sp:Sp)(E:XK)(ta:TE)(t:TA):TE:=λσ H Q=>ta σ H λx H1=>x=.ref a/\mN H1 fz/\t σ H1 λvs H2=>aD K [] H2 us qs/\mN H2 fz/\sp vs H2 Q E
def JY{N:db}{p:Pos}{x:Str}(G:Ir X.prog X.w X.K X.mg X.base N a us qs fz k ps sp)(hr:bf k' X.A)(hk:k<=k')(hf:PE X (.Name x p) ta)(hx:pU X N E)(ha:PA X (e::es) t)(he:‹dX X e es›)(bH:‹fD X pos es›):PE X (.Call (.Name x p) (e::es) [] pos) (U8 a X.K us qs fz sp E ta t):=λZ s σ H Q I q=>by
 refine AL (aR (hf Z s σ H _ I q) λv s1 ⟨y,H1,I1,r1,ey,z1,q1⟩=>?_);subst ey;cases r1;have kz:∀{σ':L2.St}{H':Hp}{s':gl},Inv X Z σ' H' s'->mN H' fz->Di a s'.heap:=λJ z=>G.kp _ J.ek J.bk λp hp=>let ⟨u,e⟩:=z p hp;(J.aK _ _ e).1;exact Eh (kz I1 z1) (aR (ha pos Z s1 σ H1 _ I1 q1) λZh s2 ⟨vs,H2,I2,r,v2,z2,q2⟩=>⟨kz I2 z2,oj G.ok (hr.mono hk) G.bi .nil (oB hx) I2 r (by rw[A3];exact⟨v2,z2,q2⟩)⟩) he bH
abbrev cxE(N:db)(E:XK)(X:Cx):Cx:=X.lz λe (s':gl)=>f8 (ii X.prog X.w) X.A (leaving X.env e) (λ_ GZ=>mj X.prog X.w N X.outer X.H₀ X.s₀ E e GZ) (λe' GZ=>mj X.prog X.w N X.outer X.H₀ X.s₀ E e' GZ) s'
section
variable{K:Aa}{N:db}
theorem zW(I0:jN L ys base a us fz)(S:XT ps ys L.sc)(hq:us.length=ys.length)(len:∀vs H Q E,sp vs H Q E->vs.length=ps.length)(hb:∀(cl:O (Str×db)) (pm cv kd:ce) (us:O ce),us.length=ps.length->P3 (L.fn cl pm cv kd) ⟨us,[]⟩=pure (ps.zip us))(Æ:∀(cl:O (Str×db)) (cv:ce) (A:wP) (outer:O Env) (s:gl) (H:Hp) (vs:O V) (Q:VK) (E:XK),bf k (A.deeper (E3 L.q L.sc s.heap.objs.size a cv cl))->aD K [] H us qs->mN H fz->sp vs H Q E->∃t,PE (cxE N E (cxL P w K mg base (ps++ys) L a cl cv A outer s H)) L.bd t/\t ((vs++us).map al) H Q):Nonempty (Ir P w K mg base N a us qs fz (k+1) ps sp):=by
 obtain⟨cl,pm,c,kd,co,rfl,SU,vI,aaG,yk⟩:=I0;refine⟨⟨L.fn cl pm (.ref c) kd,⟨λvs H Q E h=>len vs H Q E h.2.2,λA outer s H args Zh vs Q E hr e0 hbt r uL=>?_⟩,.all (hb cl pm _ kd),λh _ _ hz=>⟨_,_,_,_,hz (a,_) (Bp ..)⟩⟩⟩;obtain⟨rv,z,uL⟩:=uL;obtain⟨_,z1⟩:=id z (a,L.ob cl pm (.ref c) kd) (Bp ..);obtain⟨_,z2⟩:=id z (c,co) (by simp);have hlv:vs.length=ps.length:=len vs H Q E uL;obtain⟨cvs,ct,d1,d2⟩:=SU;refine PySem.W.kla_callFunE hr.depth ((e0.aK _ _ z1).1) rfl S.co S.gen rfl ⟨c,co,cvs,ct,rfl,((e0.aK _ _ z2).1),d1,d2⟩ (hbt _ _ _ _ ?_);refine wpAny_newFunctionEnv S.noc (λy hy=>S.par _ (DS hy).1) (λh' Mo SI=>?_) S.kind;have hk:∀b o,s.heap.get? b=al o->h'.get? b=al o:=λb o e=>by
  rw[SI.2 b (AB (Ai e))];exact Ad _ e
 refine⟨(e0.mod.nolimit.keeps λb o e=>(e0.bs b o e).1).keeps hk,PySem.W.kla_codeExpr ?_⟩;have kc:∀{c:db}{v:Option ce},base.IsCell c v->h'.IsCell c v:=λ⟨o,h1,h2⟩=>⟨o,hk _ _ (e0.bs _ _ h1).1,h2⟩;have I:Inv (cxL P w K mg base (ps++ys) L a cl (.ref c) A outer s H) [] ((vs++us).map al) H {heap:=h',gens:=s.gens,drawn:=s.drawn,toks:=s.toks+(ps.zip Zh).length,os:=s.os}:=by
  refine⟨⟨e0.mod,S.kind,rfl,rfl,Aj _,aaG,λx hx=>?_,λ_ _ z=>(by cases z),λ_=>hr.hd,FC e0.frames,.inr ⟨rfl,rfl⟩,λb z=>(nomatch z),e0.bs,e0.LW,λb _ _ z=>(nomatch z),λb z=>(nomatch z),e0.iV,e0.Mr⟩,
   rfl,e0.bare,Un.kept hk,⟨_,Mo,λi x v h1 h2 h3=>?_⟩,λx c' e=>?_,e0.aK.fresh (Aj _),λx c' e=>?_,λp hp=>(nomatch hp),e0.aK.kept hk,?_⟩
  .have qu:=hx;rcases qu with hx|hx
   .exact absurd rfl (S.noc _ (Bg hx))
   .obtain⟨i,hi⟩:=DN (S.fin _ (Bg hx) rfl);obtain⟨c',_,_,e,_⟩:=yk i _ hi;exact⟨c',e⟩
  .have h1:(ps++ys)[i]?=al x:=h1;rw[An]at h2;cases e:(vs++us)[i]? with
   |none=>rw[e]at h2;cases h2
   |some v'=>
    rw[e]at h2;cases h2;by_cases ci:i<vs.length
    .rw[AU ci]at e;rw[AU ∅]at h1;obtain⟨u,hu,ru⟩:=r.get e;exact⟨u,ru,.inl ⟨S.par x (A9 h1),Mw (EI.mp S.nd).1 h1 hu⟩⟩
    .rw[A1 ∅]at e h1;obtain⟨c',v',u,e1,e2,ru,uO⟩:=yk _ x h1;rw[<- hlv]at e2;rw[e]at e2;cases e2;exact⟨u,ru,.inr ⟨.inr (S.fre x (A9 h1)),c',e1,kc uO⟩⟩
  .obtain⟨v,hv⟩:=vI x c' e;exact⟨v,kc hv⟩
  .obtain⟨v,o,ho,_⟩:=vI x c' e;exact(e0.bs _ _ ho).2
  .show((vs++us).map al).length=(ps++ys).length;rw[Am,Ah,Ah,hlv,hq]
 obtain⟨t,ht,HB⟩:=Æ cl (.ref c) A outer s H vs Q E (hr.deeper _) rv z uL;refine Bv (ht [] _ _ H Q (I.lz _) HB) (λu s' h=>?_) λe s' h=>h;obtain⟨v,H',J,ru,q'⟩:=h;exact⟨v,H',J.os,J.bare,J.base,J.aK,ru,q'⟩
end
end
end FL
variable{Q:L2.VK}
namespace My
section
variable[bj]
def K2:PV->Bool
 |.ref _=>false
 |.ty _=>false
 |.ob _ _=>false
 |.hand=>false
 |_=>true
def aag{K:Aa}{u:V}{x:PV}(v:VR K [] H u x)(k:Kd)(ht:K2 x=true)(q:Q (.bl (k.is x)) H):zA K [u,.ty k.name] H Q:=by
 have fin:∀{t:ce}{y:PV},i6 K H u t->AG K t (.type k.name)=al (k.is y)->Q (.bl (k.is y)) H->zA K [u,.ty k.name] H Q:=λty e q=>⟨_,_,_,_,rfl,.inl ty,e,q⟩;cases v with
 |br=>exact fin .br (by rw[(fM K).1 k];cases k<;>rfl) q
 |bl b=>exact fin (.bl b) (Kv K b k) q
 |int b=>exact fin (.int b) (nF K b k) q
 |str b=>exact fin (.str b) (zR K b k) q
 |ty n=>cases ht
 |ref n=>cases ht
 |ob _ _ _ _ _=>cases ht
 |hand _=>cases ht
 | @dk a o ay ks l e k1 r=>exact⟨_,_,_,_,rfl,.inr (.inr (.inr ⟨rfl,_,rfl,.inl ⟨_,.inr ⟨_,e⟩⟩⟩)),(show _=al (k.is (.dv ks l)) by rw[(fM K).2.2 k];cases k<;>rfl),q⟩
 | @dt a o ay ks l e k1 r=>exact⟨_,_,_,_,rfl,.inr (.inr (.inr ⟨rfl,_,rfl,.inr ⟨_,.inr ⟨_,e⟩⟩⟩)),(show _=al (k.is (.dv ks l)) by rw[(fM K).2.2 k];cases k<;>rfl),q⟩
 | @cl p vs l e r=>exact⟨_,_,_,_,rfl,.inr (.inr (.inl ⟨rfl,_,_,rfl,e.sq⟩)),(show _=al (k.is (.cl l)) by rw[(fM K).2.1 k];cases k<;>rfl),q⟩
 | @tup p vs l e r=>exact⟨_,_,_,_,rfl,.inr (.inl ⟨rfl,_,_,rfl,dh.of e⟩),zQ K _ k,q⟩
structure qb(H H':Hp):Prop where
 k:∀c o,H c=al o->o.nt=true->H' c=al o
 t:∀c,H' c=bn->H c=bn
 tb:TB H->TB H'
def qb.trans(a:qb H H1)(b:qb H1 H2):qb H H2:=⟨λc o h n=>b.k c o (a.k c o h n) n,λc h=>a.t c (b.t c h),λh=>b.tb (a.tb h)⟩
def lx(E:XK)(H:Hp)(m:Nat):Prop:=∀a H',qb H H'->E (.int m 0) (al a) H'
def lx.kp(b:lx E H m)(k:qb H H1):lx E H1 m:=λa H' k'=>b a H' (k.trans k')
def lx.x(b:lx E H m)(k:qb H H1)(n:H p=bn)(hp:∃C dx fs,H1 p=al (.ins C dx fs)):ni E p H1 m:=λa H' k'=>b a H' ⟨λc o h nt=>k'.k c o (λz=>by subst z;rw[n]at h;cases h) (k.k c o h nt),λc h=>k.t c (k'.t c h),λh=>(k.tb h).mono (λa ps z=>k'.k _ _ (λy=>by subst y;obtain⟨_,_,_,hp⟩:=hp;rw[hp]at z;cases z) z) λa o u vs z _=>⟨u,k'.k _ _ (λy=>by subst y;obtain⟨_,_,_,hp⟩:=hp;rw[hp]at z;cases z) z⟩⟩
def Vj(K:Aa)(C:db):Sp:=λvs H Q E=>∃(p dx:db) (v:V) (x:PV),vs=[.ref p,v]/\H p=al (.ins C dx [])/\VR K [] H v x/\K2 x=true/\(∀T,x=.str T->∀H',mh p H H'->qa C p T 0 H'->Q .br H')/\((∀T,x≠.str T)->ni E p H 0)
section
variable{K:Aa}{N:db}
def J6(R:QH K mg C)(NT:XO P w K mg base N)(hi:mg "isinstance"=bn)(hs:mg "str"=bn)(F:kb K "__init__" "Reader.__init__" (gI 0 sR) f fd):aY P w K mg base (mj P w N) 3 f fd ["self","text"] (Vj K C):=by
 refine F.Ud (N:=["self","text"]) tM (λvs H Q E h=>?_) (λbE A outer s H vs Q E hr h=>?_)
 .obtain⟨_,_,_,_,rfl,_⟩:=h;rfl
 obtain⟨p,dx,v,x,rfl,hp,hv,ht,q,Î⟩:=h;refine⟨_,aJ (iD (lH (f9 (bo (rF rfl) (by rfl) hi Ch (ah (pv 1) (ah (kB (v:=.ty "str") rfl hs FS rfl) aA))))) (aZ (kr NT.m NT.ok NT.bi hr rfl rfl NT.at' NT.kp iG bR)) cU) (aJ (xw (pv 0) (pv 1) rfl) (aZ (xw (pv 0) iG rfl))),?_⟩;obtain⟨x',c',t',b',e1,ty,e2,e3⟩:=aag (Q:=λu _=>u=.bl (Kd.str.is x)) hv .str ht rfl;cases e3;refine⟨v,rfl,x',c',t',_,e1,ty,e2,_,rfl,?_⟩;clear ty e2;cases e:Kd.str.is x with
 |false=>
  refine iO ?_;refine⟨0,rfl,by decide,Tz (Î λT z=>?_)⟩;subst z;cases e
 |true=>
  have:∃T,x=.str T:=by cases x<;>first|exact⟨_,rfl⟩|cases e
  obtain⟨T,rfl⟩:=this;cases hv;refine fe ?_;refine⟨.str T,rfl,.ref p,rfl,p,C,dx,_,rfl,hp,R.cl,R.t,(by show 0<1000;decide),?_⟩;refine⟨.ref p,rfl,p,C,dx,_,rfl,aw,R.cl,R.p,(by show 1<1000;decide),q T rfl _ (λb nb=>?_) ⟨dx,aw⟩⟩;rw[af nb,af nb]
end
end
end My
variable{t1:PySem.Tok}
namespace My
section
variable[bj]
abbrev rN:Str:="0123456789"
abbrev IE(u:O Nat):Nat:=PySem.NumText.digitsVal u
def gc(T:Str)(n most:Nat):O Nat:=rn T rN n (if jD T n "0"=true then 1 else most)
def qj(T:Str)(n most:Nat):Except Nat (Nat×Nat):=if gc T n most=[] then .error n else .ok (IE (gc T n most),n+(gc T n most).length)
theorem NR(h:wY rN c=true):48<=c/\c<=57:=by
 have e:wY rN c=decide (c∈rN.cps.toList):=EU rN c;rw[e,decide_eq_true_eq]at h;have e2:rN.cps.toList=[48,49,50,51,52,53,54,55,56,57]:=by decide +kernel
 rw[e2]at h;simp only[Az,Cv,or_false]at h;omega
def zl(C:db):Sp:=λvs H Q E=>∃(p:db) (T:Str) (n most:Nat),vs=[.ref p,.int most]/\qa C p T n H/\T.length<=sizeLine/\n<=T.length/\0<most/\most<=100/\(∀m,qj T n most=.error m->ni E p H m)/\(∀v n',qj T n most=.ok (v,n')->∀H',mh p H H'->qa C p T n' H'->Q (.int v) H')
section
variable{K:Aa}{N:db}
theorem RO(R:QH K mg C)(S:XR P w K mg base C)(G:wW P w K mg base N "take_many" 4 ["reader","signs","most"] (si C))(hf:mg "FIGURES"=al (.str rN t1))(hi:mg "int"=bn)(F:kb K "take_number" "take_number" Nb f fd):aY P w K mg base (mj P w N) 5 f fd ["reader","most"] (zl C):=by
 have nd:(["reader","most"]:O Str).Nodup:=by decide
 refine F.Ud (N:=["reader","most"]) tM (λvs H Q E h=>?_) (λbE A outer s H vs Q E hr h=>?_)
 .obtain⟨_,_,_,_,rfl,_⟩:=h;rfl
 obtain⟨p,T,n,most,rfl,hR,hT,hn,ñ,hm,Î,q⟩:=h;refine⟨_,aJ (iD (f9 (gT (pv 0) R.cl S.m S.ok (hr.mono ⋯) S.bi .nil mq (ah xA aA))) (aZ (cV (i:=1) nd rfl (Bs rfl) iG)) cU)
  (aZ (cK (eK Ih (by rfl) hi boot_int (ah (kA G hr (Aj _) bR rfl (ah (pv 0) (ah (dD (v:=.str rN) rfl hf ⟨_,rfl⟩) (ah (pv 1) aA)))) aA)))),?_⟩
 obtain⟨dx,hp⟩:=id hR;have fin:∀mo:Nat,gc T n most=rn T rN n mo->0<mo->mo<=100->∃(p':db) (T':Str) (n':Nat) (s:Str) (oM:Nat),[V.ref p,.str rN,.int mo]=[.ref p',.str s,.int oM]/\qa C p' T' n' H/\T'.length<=sizeLine/\n'<=T'.length/\0<oM/\oM<=100/\(rn T' s n' oM=[]->ni E p' H n')/\(rn T' s n' oM≠[]->∀H',mh p' H H'->qa C p' T' (n'+(rn T' s n' oM).length) H'->∃x k,[V.str ⟨(rn T' s n' oM).toArray⟩]=[.str x]/\PySem.intText? x=al k/\x.length<=640/\Q (.int k) H'):=λmo e m0 m1=>by
  refine⟨p,T,n,rN,mo,rfl,hR,hT,hn,m0,m1,λz=>?_,λz H' o r=>?_⟩
  .rw[<- e]at z;exact Î n (if_pos z)
  .have u1:=sA (T:=T) (s:=rN) (n:=n) (most:=mo);have u3:=λc (h:c∈rn T rN n mo)=>sC h;have q:=q (IE (gc T n most)) (n+(gc T n most).length) (if_neg (by rw[e];exact z));rw[e]at q;refine⟨_,_,rfl,PySem.intText_digits (λc hc=>NR (u3 c (by simpa using hc))) (by simpa using z) (by simp[CA];lia),by simp[CA];lia,?_⟩;have:=q H' o r;simpa using this
 refine⟨.ref p,rfl,p,dx,_,rfl,hp,rfl,p,T,n,"0",rfl,hR,hT,_,rfl,?_⟩;cases c:jD T n "0" with
 |true=>
  refine iO ?_;exact⟨.ref p,rfl,.int 1,rfl,fin 1 (by unfold gc;rw[if_pos c]) ⋯ ⋯⟩
 |false=>
  refine fe ?_;exact⟨.ref p,rfl,.int most,rfl,fin most (by unfold gc;rw[if_neg (by rw[c];decide)]) ñ hm⟩
end
end
section
variable[bj]
theorem ng.x{l:db}{o:HO}(k:ng p H H1)(x:jM l H1 H2)(e:H2 l=al o)(n:H l=bn):ng p H H2:=⟨λc o nc h=>x c o (λz=>by subst z;rw[n]at h;cases h) (k.k c o nc h),λc h=>k.t c (by
 cases z:H1 c with
 |none=>rfl
 |some u=>
  have:c≠l:=λy=>by subst y;rw[h]at e;cases e
  rw[x c u this z]at h;cases h)⟩
def Mm(T s:Str):Nat->O Nat->Nat->Except Nat (O Nat×Nat)
 |0,acc,n=>.ok (acc,n)
 |k+1,acc,n=>if jD T n s=true then (match qj T (n+1) 4 with
   |.error m=>.error m
   |.ok (v,n1)=>Mm T s k (acc++[v]) n1) else .ok (acc,n)
def mr(T s:Str)(n:Nat):Except Nat (O Nat×Nat):=match qj T n 4 with
 |.error m=>.error m
 |.ok (v,n1)=>Mm T s (T.length+1) [v] n1
def Ul(l:O Nat):O PV:=l.map λv:Nat=>PV.int (v:Int)
theorem IQ{K:Aa}:∀l:O Nat,aD K [] H (l.map λv:Nat=>V.int (v:Int)) (Ul l)
 |[]=>.nil
 |v::l=>.cons (.int v) (IQ l)
theorem zL{v:Nat}(hn:n<=T.length)(h:qj T n most=.ok (v,n')):n'<=T.length/\n<n':=by
 unfold qj at h
 split at h
 .cases h
 .next c=>
  cases h;have:0<(gc T n most).length:=Ca.mpr c;unfold gc at this ⊢;exact⟨PN hn,by lia⟩
def se(K:Aa)(C:db):Sp:=λvs H Q E=>∃(p:db) (T:Str) (n:Nat) (s:Str),vs=[.ref p,.str s]/\qa C p T n H/\T.length<=sizeLine/\n<=T.length/\(∀m,mr T s n=.error m->ni E p H m)/\(∀l n',mr T s n=.ok (l,n')->∀u H',ng p H H'->qa C p T n' H'->VR K [] H' u (.tup (Ul l))->Q u H')
section
variable{K:Aa}{N:db}
theorem NN(R:QH K mg C)(S:XR P w K mg base C)(M:MtT P w K mg base N C)(G:wW P w K mg base N "take_number" 5 ["reader","most"] (zl C))(hf:mg "MOST_FIGURES"=al (.int 4 t1))(ht:mg "tuple"=bn)(F:kb K "take_numbers" "take_numbers" zv f fd):aY P w K mg base (mj P w N) 6 f fd ["reader","sign"] (se K C):=by
 have nd:(["reader","sign","told"]:O Str).Nodup:=by decide
 refine F.Ud (N:=["reader","sign","told"]) tM (λvs H Q E h=>?_) (λbE A outer s H vs Q E hr h=>?_)
 .obtain⟨_,_,_,_,rfl,_⟩:=h;rfl
 obtain⟨p,T,n,sg,rfl,hR,hT,hn,Î,q⟩:=h;refine⟨_,aJ (cV (i:=2) nd rfl (Bs rfl) (zF (ah (kA G hr (Aj _) bR rfl (ah (pv 0) (ah (dD (v:=.int 4) rfl hf ⟨_,rfl⟩) aA))) aA)))
  (aJ (kq F2 (f9 (gT (pv 0) R.cl S.m S.ok (hr.mono ⋯) S.bi .nil mq (ah (pv 1) aA)))
   (aJ (gR (gT (pv 0) R.cl M.m M.ok (hr.mono ⋯) M.bi .nil (oB bR) (ah (pv 1) aA)))
    (aZ (gR (oA K rfl B6 EO EN oK (pv 2) (ah (kA G hr (Aj _) bR rfl (ah (pv 0) (ah (dD (v:=.int 4) rfl hf ⟨_,rfl⟩) aA))) aA))))))
   (aZ (cK (eK wG (by rfl) ht Ix (ah (pv 2) aA))))),?_⟩
 refine⟨.ref p,rfl,p,T,n,4,rfl,hR,hT,hn,by decide,by decide,λm z=>Î m (by unfold mr;rw[z]),λv n1 z H1 o1 r1=>?_⟩;obtain⟨l1,l2⟩:=zL hn z;refine⟨by show 1<=sizeLine;decide,λl H2 s2 e2 nl=>?_⟩;generalize WH:mr T sg n=r at Î q;have h0:Mm T sg (T.length+1) [v] n1=r:=by rw[<- WH];unfold mr;rw[z]
 clear WH;obtain⟨dx0,hp0⟩:=id hR;have k1:ng p H H1:=ng.off o1 r1;have ZZ:H l=bn:=k1.t l nl;have pl:p≠l:=λz=>by subst z;rw[hp0]at ZZ;cases ZZ
 refine⟨λm σ H2=>∃k acc n,m=k/\σ=[al (.ref p),al (.str sg),al (.ref l)]/\ng p H H2/\qa C p T n H2/\H2 l=al (.lst (acc.map λv:Nat=>V.int (v:Int)))/\n<=T.length/\acc.length<=n/\T.length<n+k/\Mm T sg k acc n=r,
  ⟨_,T.length+1,[v],n1,rfl,rfl,k1.trans (.same s2),r1.same s2,e2,l1,by show 1<=n1;lia,by lia,h0⟩,?_⟩
 rintro k σ H2 ⟨_,acc,n,rfl,rfl,k2,r2,e2,hn,ha,hk,h2⟩;obtain⟨dx,hp⟩:=id r2;refine⟨.ref p,rfl,p,dx,_,rfl,hp,rfl,.str sg,rfl,p,T,n,sg,rfl,r2,hT,_,rfl,?_⟩;cases c:jD T n sg with
 |false=>
  refine fe ?_;have hr:r=.ok (acc,n):=by
   rw[<- h2];cases k with
   |zero=>rfl
   |succ k=>unfold Mm;rw[if_neg (by rw[c];decide)]
  refine⟨.ref l,rfl,l,_,rfl,cL.of e2,λq1 H3 s3 e3 n3=>?_⟩;exact q acc n hr (.ref q1) H3 (k2.trans (.same s3)) (r2.same s3) (.tup e3 (IQ acc))
 |true=>
  refine iO ?_;cases k with
  |zero=>exact absurd (yT c).choose_spec.2.2 ∅
  |succ k=>
  obtain⟨ch,K0,ï,lV⟩:=yT c;unfold Mm at h2;rw[if_pos c]at h2;refine⟨λσ' H'=>∃m',m'<k+1/\∃k acc n,m'=k/\σ'=[al (.ref p),al (.str sg),al (.ref l)]/\ng p H H'/\qa C p T n H'/\H' l=al (.lst (acc.map λv:Nat=>V.int (v:Int)))/\n<=T.length/\acc.length<=n/\T.length<n+k/\Mm T sg k acc n=r,λ_ _ z=>z,?_⟩;refine⟨.ref p,rfl,p,dx,_,rfl,hp,rfl,.str sg,rfl,p,T,n,sg,rfl,r2,hT,hn,λc0 WT ho0 H3 o3 r3=>?_,λz=>by rw[c]at z;cases z⟩;have e3:H3 l=al (.lst (acc.map λv:Nat=>V.int (v:Int))):=by rw[o3 l pl.symm];exact e2
  have k3:ng p H H3:=k2.trans (ng.off o3 r3);refine⟨.ref l,rfl,Rm e3,.ref p,rfl,p,T,n+1,4,rfl,r3,hT,lV,by decide,by decide,λm z=>?_,λv n4 z H4 o4 r4=>?_⟩
  .rw[z]at h2;exact(Î m h2.symm).kp k3
  .rw[z]at h2;obtain⟨m1,m2⟩:=zL lV z;have e4:H4 l=al (.lst (acc.map λv:Nat=>V.int (v:Int))):=by rw[o4 l pl.symm];exact e3
   refine⟨l,_,_,rfl,rfl,e4,?_,λH5 x5 e5=>?_⟩
   .rw[Am];lia
   .obtain⟨dx4,Qm⟩:=id r4;exact⟨k,Ce _,k,acc++[v],n4,rfl,rfl,(k3.trans (ng.off o4 r4)).x x5 e5 ZZ,⟨dx4,x5 p _ pl Qm⟩,by rw[e5,BH];rfl,m1,by rw[Ah];show acc.length+1<=n4;lia,by lia,h2⟩
end
end
end My
variable{x:BJ}{p:Cc}
namespace FL
section
variable[bj]
def U5(te:TE)(sp:db->O (db×Obj)->Sp)(E:XK):TE:=λσ H Q=>te σ H λv H1=>TB H1/\∀a fz H2,My.qb H1 H2->TB H2->mN H2 fz->sp a fz [v,.ref a] H2 Q E
def Ny{N P:db}{lp:Pos}{sp:db->O (db×Obj)->Sp}(L:Lm)(hK:uF X.K X.mg X.env.code P)(hP:mK P L.q)(bi:Binds X.K fd ps [])(kp:AH X.K (.ref f)=true)(hm:X.mg x=al (.ref f))(he:PE X e te)(hr:bf k' X.A)(hk:k<=k')(hx:pU X N E)(G:∀mJ a fz,jN L [] mJ a [] fz->aY X.prog X.w X.K X.mg mJ (mj X.prog X.w N) k f fd ps (sp a fz))(yk:∀y∈L.sc.names,y.2≠.free)(hq:‹L.q=X.env.qual++"<lambda>"›)(hd:‹defaultsOf L.ar X.env=([],[])›)(hg:‹Gl X x›)(dQ: ~~~(dn x))(ly:‹lf [e,.Lambda L.ar L.bd L.sc lp] X.env=(false,pc e X.env)::lf [.Lambda L.ar L.bd L.sc lp] X.env›)(aaq:‹lf [.Lambda L.ar L.bd L.sc lp] X.env=[(false,pc (.Lambda L.ar L.bd L.sc lp) X.env)]›)(bH:‹(IR pos (lf [.Lambda L.ar L.bd L.sc lp] X.env)).any (·.1)=false›):PE X (.Call (.Name x p) [e,.Lambda L.ar L.bd L.sc lp] [] pos) (U5 te sp E):=by
 intro Z s σ H Q I h;refine AL (eF I hg hm ?_ dQ);refine BS I.ok.mod.Kw kp ?_ ly bH;rw[ly,aaq];refine A6 (aR (he Z s σ H _ I h) λu1 s1 ⟨v,H1,I1,r1,tb,q⟩=>A6 (Ks (L:=L) I1 tb hK hq hP hd (λy hy hk=>absurd hk (yk y hy)) λa fz H2 s2 I2 ä z2 X5 k2 th=>BK ?_));obtain⟨cl,pm,c,kd,co,ĉ,SU,h1,h2⟩:=ä;have no:∀x c,cl.lookup x=al c->False:=λx c z=>yk _ (h1 x c z).2 rfl;have Z6:jN L [] (lh X.base s2.heap []) a [] fz:=⟨cl,pm,c,kd,co,ĉ,SU,λx c z=>(no x c z).elim,λx y c z=>(no x c z).elim,λi y hy=>(by cases hy)⟩;have e1:=I2.Xj (cs:=[]) λc hc=>(nomatch hc);exact⟨I2.ek,zx (G _ a fz Z6) e1 (hr.mono hk) bi (oB hx) I2 (.cons r1 (.cons (show RelV (.ref a) (.ref a) from rfl) .nil)) (q a fz H2 ⟨k2,th,λ_=>X5⟩ X5 z2)⟩
end
end FL
namespace My
section
variable{K:Aa}{N:db}
def _root_.L2.kb.ZT{st:sK}{f:db}{fd:wp}{N:O Str}(F:kb K x qual st f fd)(S:bu N ps (ai st))(len:∀vs H Q E,sp vs H Q E->vs.length=ps.length)(kQ:∀(bE:ce) (A:wP) (outer:O Env) (s:gl) (H:Hp) (vs:O V) (Q:VK) (E:XK),fd.code=bE->bf k (A.deeper (xL qual (ai st) s.heap.objs.size f bE))->sp vs H Q E->
   ∃t,mf (jB (mj P w C) P w K mg base N qual (ai st) f bE A outer s H E) (aN st) t/\t {nx:=λ_ H'=>Q .br H',rt:=Q} (start N vs) H):aY P w K mg base (mj P w C) (k+1) f fd ps sp:=by
 obtain⟨oc,od,kV,Ç,pm,an,bE,ct,G9,rfl,lk,cS⟩:=F.ex;exact zV lk cS S len λA outer s H vs Q E hr uL=>kQ bE A outer s H vs Q E rfl hr uL
end
section
variable[bj]
def Yc:Lm:=match aN sy with
 |.Assign _ (.Call _ [_,.Lambda ar bd sc _] [] _) _::_=>⟨"read_dates.<locals>.<lambda>",ar,bd,sc⟩
 |_=>⟨"",⟨[],[],bn,[],[],bn,[]⟩,.Constant .none 0 ⟨0,0,0,0⟩,default⟩
def k6(T:Str)(n:Nat):Except Nat (PV×Nat):=match mr T "." n with
 |.error m=>.error m
 |.ok (l,n')=>.ok (.tup (Ul l),n')
def PB(K:Aa)(C:db):Sp:=λvs H Q E=>∃(p:db) (T:Str) (n:Nat),vs=[.ref p]/\qa C p T n H/\T.length<=sizeLine/\n<=T.length/\(∀m,k6 T n=.error m->ni E p H m)/\∀y n',k6 T n=.ok (y,n')->∀u H',ng p H H'->qa C p T n' H'->VR K [] H' u y->Q u H'
section
variable{K:Aa}{N:db}
def RP(G:wW P w K mg base N "take_numbers" 6 ["reader","sign"] (se K C))(hp:mg "POINT"=al (.str "." t1))(L:jN Yc [] base a [] fz):Nonempty (Ir P w K mg base N a [] [] fz 7 ["reader"] (PB K C)):=by
 refine zW L ⟨rfl,rfl,rfl,by decide +kernel,by decide +kernel,by decide +kernel,by decide +kernel,by decide +kernel⟩ rfl (λvs H Q E h=>?_) (λ_ _ _ _=>usN (by (repeat intro _);rfl)) λcl cv A outer s H vs Q E hr _ _ h=>?_
 .obtain⟨_,_,_,rfl,_⟩:=h;rfl
 obtain⟨p,T,n,rfl,r,hT,hn,Î,q⟩:=h;refine⟨_,kA G hr (Aj _) (rB rfl rfl rfl rfl) rfl (ah (pv 0) (ah (dD (v:=.str ".") rfl hp ⟨_,rfl⟩) aA)),.ref p,rfl,p,T,n,".",rfl,r,hT,hn,λm z=>Î m (by unfold k6;rw[z]),λl n' z=>q _ n' (by unfold k6;rw[z])⟩
def RT(K:Aa)(v:V)(x:PV)(H:Hp)(Q:VK)(E:XK):Prop:=VR K [] H v x/\K2 x=true/\((∀T,x≠.str T)->lx E H 0)/\∀T,x=.str T->T.length<=sizeLine/\(∀m,k6 T 0=.error m->lx E H m)/\
 ∀y n',k6 T 0=.ok (y,n')->(n'<T.length->lx E H n')/\(¬n'<T.length->∀u H',qb H H'->TB H'->VR K [] H' u y->Q u H')
structure RMk(P:sw)(w:wE)(K:Aa)(mg:Str->Option ce)(base:lw)(N C:db) where
 f:db
 fd:wp
 m:Mk K C f
 ok:aY P w K mg base (mj P w N) 3 f fd ["self","text"] (Vj K C)
 bi:Binds K fd ["self","text"] []
 at':mg "Reader"=al (.ref C)
def Rb(K:Aa)(a:db)(fz:O (db×Obj)):Sp:=λvs H Q E=>∃v x,vs=[v,.ref a]/\TB H/\mN H fz/\RT K v x H Q E
theorem RQ(R:QH K mg C)(NT:XO P w K mg base N)(I:RMk P w K mg base N C)(A:Ir P w K mg base N a [] [] fz 7 ["reader"] (PB K C))(F:kb K "read_all" "read_all" Nd f fd):aY P w K mg base (mj P w N) 8 f fd ["text","take"] (Rb K a fz):=by
 have nd:(["text","take","reader","told"]:O Str).Nodup:=by decide
 refine F.Ud (N:=["text","take","reader","told"]) tM (λvs H Q E h=>?_) (λbE A' outer s H vs Q E hr h=>?_)
 .obtain⟨_,_,rfl,_⟩:=h;rfl
 obtain⟨v,x,rfl,tb,z,hv,ht,b0,hT⟩:=h;refine⟨_,aJ (cV (i:=2) nd rfl (Bs rfl) (Nx I.m I.ok (hr.mono ⋯) rfl I.at' I.bi .nil (oB bR) (ah (pv 0) aA))) (aJ (cV (i:=3) nd rfl (Bs rfl) (JY A hr (Aj _) (pv 1) bR (ah (pv 2) aA)))
  (aJ (iD (ja zI (gb (pv 2) rfl) (bo (eN K rfl) (by rfl) R.len Ep (ah (pv 0) aA)) (eV _)) (aZ (kr NT.m NT.ok NT.bi (hr.mono ⋯) rfl rfl NT.at' NT.kp (gb (pv 2) rfl) bR)) cU) (aZ (cK (pv 3))))),?_⟩
 refine⟨v,rfl,λp dx np Z0 ne=>?_⟩;have ZD:dW H (upd (upd H dx (.own p)) p (.ins C dx [])):=λc o e=>by
  have n1:c≠p:=λz=>by subst z;rw[np]at e;cases e
  have n2:c≠dx:=λz=>by subst z;rw[Z0]at e;cases e
  rw[af n1,af n2];exact e
 have kn:qb H (upd (upd H dx (.own p)) p (.ins C dx [])):=⟨λc o e _=>by
  have n1:c≠p:=λz=>by subst z;rw[np]at e;cases e
  have n2:c≠dx:=λz=>by subst z;rw[Z0]at e;cases e
  rw[af n1,af n2];exact e,λc e=>by
  by_cases n1:c=p
  .subst n1;exact np
  .rw[af n1]at e;by_cases n2:c=dx
   .subst n2;exact Z0
   .rw[af n2]at e;exact e,λt=>t.same ZD⟩
 refine⟨p,dx,v,x,rfl,aw,VR.tk ZD.dM hv,ht,λT hx H1 o1 r1=>⟨rfl,?_⟩,λnT=>(b0 nT).x kn np ⟨_,_,_,aw⟩⟩;subst hx;cases hv;obtain⟨hT,Î,ok⟩:=hT T rfl;have sm:dW H H1:=λc o e=>by
  have n1:c≠p:=λz=>by subst z;rw[np]at e;cases e
  rw[o1 c n1];exact ZD c o e
 have k1:qb H H1:=⟨λc o e _=>sm c o e,(ng.same (p:=p) sm).t,λt=>t.same sm⟩;have z1:mN H1 fz:=λp hp=>let ⟨u,e⟩:=z p hp;⟨u,sm _ _ e⟩;refine⟨.ref a,rfl,rfl,z1,.ref p,rfl,.nil,z1,p,T,0,rfl,r1,hT,Bn _,λm er=>(Î m er).x k1 np (let ⟨dx,h⟩:=r1;⟨_,_,_,h⟩),λy n' er u2 H2 k2 r2 v2=>?_⟩;obtain⟨bd,ok⟩:=ok y n' er;obtain⟨OT,w4⟩:=r2;have s2:dW H H2:=λc o e=>k2.k c o (λz=>by subst z;rw[np]at e;cases e) (sm c o e);have k3:qb H H2:=⟨λc o e _=>s2 c o e,(ng.same (p:=p) s2).t,λt=>t.same s2⟩;refine⟨.ref p,rfl,p,C,OT,_,.int n',rfl,w4,R.cl,R.p,rfl,.str T,rfl,.str T,T.length,rfl,⟨hT,rfl⟩,_,_,rfl,rfl,_,rfl,?_⟩;by_cases lt:n'<T.length
 .rw[decide_eq_true ∅];refine iO ?_;exact⟨.ref p,rfl,p,C,OT,_,.int n',rfl,w4,R.cl,R.p,rfl,n',rfl,xm (by rw[<- GM];lia),Tz (p:=p) ((bd lt).x k3 np ⟨_,_,_,w4⟩)⟩
 .rw[decide_eq_false ∅];refine fe ?_;exact⟨u2,rfl,ok lt u2 H2 k3 (tb.same s2) v2⟩
def qb.bN(k:qb H H'):aW K H H':=⟨λp vs h=>k.k _ _ h rfl,λp o u h=>k.k _ _ h rfl,xk λp φ h=>k.k _ _ h rfl⟩
end
end
end My
variable{vs:O L2.V}{mD:PL.PV->PL.PV->FL.W PL.PV}{kD:Nat}
namespace My
section
variable[bj]
def XJ(b:lx E H m):∀(a:db) (H':Hp),(∀c o,H c=al o->H' c=al o)->(∀c,H' c=bn->H c=bn)->E (.int m 0) (al a) H':=λa H' k t=>b a H' ⟨λc o h _=>k c o h,t,λtb=>tb.same k⟩
structure abE(P:sw)(w:wE)(K:Aa)(mg:Str->Option ce)(base:lw)(x:Str)(k:Nat)(ps:List Str)(ks:List AK)(m:List PV->W PV) where
 f:db
 fd:wp
 ok:aY P w K mg base ip k f fd ps (mn K ks m)
 bi:Binds K fd ps []
 kp:AH K (.ref f)=true
 at':mg x=al (.ref f)
def RDt(K:Aa)(mD:PV->PV->W PV)(gv:PV)(v:V)(x:PV)(H:Hp)(Q:VK)(E:XK):Prop:=VR K [] H v x/\K2 x=true/\((∀T,x≠.str T)->lx E H 0)/\∀T,x=.str T->T.length<=sizeLine/\(∀m,k6 T 0=.error m->lx E H m)/\
 ∀y n',k6 T 0=.ok (y,n')->(n'<T.length->lx E H n')/\(¬n'<T.length->(mD gv y).run λz=>∃b,z=.bl b/\(b=false->lx E H T.length)/\(b=true->∀u H',qb H H'->VR K [] H' u y->Q u H'))
def Ra(K:Aa)(mD:PV->PV->W PV):Sp:=λvs H Q E=>∃g gv v x,vs=[g,v]/\TB H/\VR K [] H g gv/\RDt K mD gv v x H Q E
section
variable{K:Aa}{N:db}
def Qq(g:Mv n vs ks H H')(np:∀(i:Nat) ψ d,ks[i]?≠al (.p ψ d)):qb H H':=⟨λc o e nt=>g.keep c o e (λψ d ⟨i,h,_⟩=>np i ψ d h) nt,g.there,λ_=>g.tb⟩
def RZ:∀(i:Nat) ψ d,(Ar n AK.v)[i]?≠al (.p ψ d):=λi ψ d e=>by
 rw[Bu]at e
 split at e<;>cases e
theorem J7{Pt g:db}{gd:wp}(hk:kD<=8)(NT:XO P w K mg base N)(D:abE P w K mg base "is_dates" kD ["great","thing"] [.v,.v] (gN 2 mD))(hl:mg "len"=bn)(LK:uF K mg fd.code Pt)(hP:mK Pt "read_dates.<locals>.<lambda>")(bi:Binds K gd ["text","take"] [])(kp:AH K (.ref g)=true)(hm:mg "read_all"=al (.ref g))(A:∀b a fz,jN Yc [] b a [] fz->aY P w K mg b (mj P w N) 8 g gd ["text","take"] (Rb K a fz))(F:kb K "read_dates" "read_dates" sy f fd):aY P w K mg base (mj P w N) 9 f fd ["great","text"] (Ra K mD):=by
 have nd:(["great","text","dates"]:O Str).Nodup:=by decide
 refine F.ZT (N:=["great","text","dates"]) tM (λvs H Q E h=>?_) (λbE A' outer s H vs Q E ec hr h=>?_)
 .obtain⟨_,_,_,_,rfl,_⟩:=h;rfl
 obtain⟨g0,gv,v,x,rfl,tb,hg,hv,ht,b0,hT⟩:=h;refine⟨_,aJ (cV (i:=2) nd rfl (Bs rfl) (Ny Yc (ec▸LK) hP bi kp hm (pv 1) hr (Aj _) bR A (by decide +kernel)))
  (aJ (iD (lH (f9 (zH D.ok (hr.mono hk) (by rfl) D.at' D.kp D.bi .nil mq (ah (pv 0) (ah (pv 2) aA))))) (aZ (kr NT.m NT.ok NT.bi (hr.mono ⋯) rfl rfl NT.at' NT.kp (bo (eN K rfl) (by rfl) hl Ep (ah (pv 1) aA)) bR)) cU) (aZ (cK (pv 2)))),?_⟩
 refine⟨v,rfl,tb,λa fz H2 k2 X5 z2=>⟨v,x,rfl,X5,z2,VR.tk k2.bN hv,ht,λnT=>(b0 nT).kp k2,λT hx=>?_⟩⟩;obtain⟨h1,Î,ok⟩:=hT T hx;refine⟨h1,λm e=>(Î m e).kp k2,λy n' e=>⟨λl=>((ok y n' e).1 l).kp k2,λl u H3 k3 tb3 v3=>?_⟩⟩;have k03:=k2.trans k3;have r:=(ok y n' e).2 l;subst hx;cases hv;refine⟨g0,rfl,u,rfl,tb3,0,[gv,y],.v (VR.tk k03.bN hg) (.v v3 .nil),(mD gv y).mono (λz hz u' H4 g4 v4=>?_) r⟩;obtain⟨b,rfl,q0,q1⟩:=hz;cases v4;have k4:=k03.trans (Qq g4 (RZ (n:=2)));have v5:=VR.tk (Qq g4 (RZ (n:=2))).bN v3;refine⟨_,rfl,?_⟩;cases b with
 |false=>
  refine iO ?_;exact⟨.str T,rfl,.str T,T.length,rfl,⟨h1,rfl⟩,T.length,rfl,xm (by rw[<- GM];lia),XJ ((q0 rfl).kp k4)⟩
 |true=>
  refine fe ?_;exact⟨u,rfl,q1 rfl u H4 k4 v5⟩
end
end
end My
variable{gv:PL.PV}
namespace My
section
variable[bj]
abbrev Ub:wS:={kind:=.function,names:=[("_law_one",.local),("_law_other",.free),("read_dates",.globalImplicit)],isGenerator:=false,isCoroutine:=false}
abbrev Y2(p1 p2 p3 p4:Pos):o0:=.Call (.Name "read_dates" p1) [.Name "_law_other" p2,.Name "_law_one" p3] [] p4
def Z5:XT ["_law_one"] ["_law_other"] Ub:=⟨rfl,rfl,rfl,by decide +kernel,by decide +kernel,by decide +kernel,by decide +kernel,by decide +kernel⟩
def Vk(K:Aa)(mD:PV->PV->W PV)(gv:PV):Sp:=λvs H Q E=>∃v x,vs=[v]/\TB H/\RDt K mD gv v x H Q E
section
variable{K:Aa}{N:db}
def RN(G:wW P w K mg base N "read_dates" 9 ["great","text"] (Ra K mD))(L:jN ⟨q,ar,Y2 p1 p2 p3 p4,Ub⟩ ["_law_other"] base a us fz)(hu:us.length=1)(hb:∀(cl:O (Str×db)) (pm cv kd:ce) (us:O ce),us.length=1->P3 ((⟨q,ar,Y2 p1 p2 p3 p4,Ub⟩:Lm).fn cl pm cv kd) ⟨us,[]⟩=pure ((["_law_one"]:O Str).zip us)):Nonempty (Ir P w K mg base N a us [gv] fz 10 ["_law_one"] (Vk K mD gv)):=by
 refine zW L Z5 hu (λvs H Q E h=>?_) hb λcl cv A outer s H vs Q E hr rv _ h=>?_
 .obtain⟨_,_,rfl,_⟩:=h;rfl
 obtain⟨v,x,rfl,tb,h⟩:=h;cases rv with
 | @cons g _ _ _ r1 r2=>
 cases r2;exact⟨_,kA G hr (Aj _) (rB rfl rfl rfl rfl) rfl (ah (pv 1) (ah (pv 0) aA)),g,rfl,v,rfl,g,gv,v,x,rfl,tb,r1,h⟩
def Ye(mD:PV->PV->W PV)(gv:PV)(T:Str)(r:Except Nat (PV×Nat)):W PV:=match r with
 |.error m=>.ret (.int m)
 |.ok (y,n)=>if n<T.length then .ret (.int n) else .bind (mD gv y) λz=>⟨λQ=>∃b,z=.bl b/\Q (if b=true then .br else .int T.length),λh ⟨b,e,q⟩=>⟨b,e,h _ q⟩⟩
theorem VH{mD:PV->PV->W PV}:Ye mD gv T (.error m)=.ret (.int m):=rfl
theorem JO{mD:PV->PV->W PV}{y:PV}:Ye mD gv T (.ok (y,n))=if n<T.length then .ret (.int n) else .bind (mD gv y) λz=>⟨λQ=>∃b,z=.bl b/\Q (if b=true then .br else .int T.length),λh ⟨b,e,q⟩=>⟨b,e,h _ q⟩⟩:=rfl
def Sd(mD:PV->PV->W PV)(gv:PV)(x:PV):W PV:=⟨λQ=>K2 x=true/\((∀T,x≠.str T)->Q (.int 0))/\∀T,x=.str T->T.length<=sizeLine/\(Ye mD gv T (k6 T 0)).run Q,λh ⟨a,b,c⟩=>⟨a,λz=>h _ (b z),λT z=>⟨(c T z).1,(Ye mD gv T (k6 T 0)).mono h (c T z).2⟩⟩⟩
structure XK3(K:Aa)(mg:Str->Option ce)(N TE NL NW:db):Prop where
 up:O8 K N TE
 cl:Ip K N
 at_:O9 K N "place"
 te:mg "TreeError"=al (.ref TE)
 nt:mg "NoText"=al (.ref N)
 nl:mg "NoLine"=al (.ref NL)
 nw:mg "NoWay"=al (.ref NW)
 k1:Cu K (.ref N) [.ref NL,.ref NW]=al false
 k2:AG K (.ref N) (.type "ValueError")=al true
 ve:mg "ValueError"=bn
def Qr(k:qb H H')(t:TB H')(np:∀(i:Nat) ψ d,ks[i]?≠al (.p ψ d)):Mv n vs ks H H':=⟨λc o e _ nt=>k.k c o e nt,t,k.t,λa ψ d ⟨i,h,_⟩=>(np i ψ d h).elim,xk λp φ h=>k.k _ _ h rfl⟩
def Vu{v:V}{x:PV}{Qf:VK}(hv:VR K [] H v x)(m:(Sd mD gv x).run λz=>∀u' H',qb H H'->VR K [] H' u' z->Qf u' H')(Î:∀m:Nat,(∀H',qb H H'->Qf (.int m) H')->lx E H m)(ok:(∀H',qb H H'->Qf .br H')->∀u' H',qb H H'->Q u' H'):RDt K mD gv v x H Q E:=by
 obtain⟨ht,b0,hT⟩:=m;refine⟨hv,ht,λnT=>Î 0 λH' k=>b0 nT _ H' k (.int 0),λT hx=>?_⟩;obtain⟨h1,q⟩:=hT T hx;refine⟨h1,λm e=>Î m λH' k=>?_,λy n' e=>⟨λl=>Î n' λH' k=>?_,λl=>?_⟩⟩
 .rw[e,VH]at q;exact q _ H' k (.int m)
 .rw[e,JO,if_pos l]at q;exact q _ H' k (.int n')
 .rw[e,JO,if_neg l]at q;refine(mD gv y).mono (λz hz=>?_) q;obtain⟨b,rfl,q⟩:=hz;refine⟨b,rfl,λhb=>Î _ λH' k=>?_,λhb u' H' k _=>ok (λH2 k2=>?_) u' H' k⟩
  .subst hb;exact q _ H' k (.int _)
  .subst hb;exact q _ H2 k2 .br
def XH.kp{C dx:db}{n:Int}(x:XH H a C dx n)(s:dW H H'):XH H' a C dx n:=⟨s _ _ x.a,s _ _ x.d⟩
theorem V2{TE NL NW:db}(XX:XK3 K mg N TE NL NW)(hi:mg "isinstance"=bn)(hb:mg "bool"=bn)(hn:mg "int"=bn)(G:Ir P w K mg base N fa us [gv] fz k ["_law_one"] (Vk K mD gv))(F:kb K "_law_place" "_law_place" X9 f fd):aY P w K mg base ip (k+3) f fd ["_law_read","_law_text"] (mn K [.f fa us [gv] fz,.v] (gN 1 (Sd mD gv))):=by
 have nd:(["_law_read","_law_text","_law_caught","error","_law_odd"]:O Str).Nodup:=by decide
 refine F.ok (N:=["_law_read","_law_text","_law_caught","error","_law_odd"]) tM (λvs H Q E h=>?_) (λbE A' outer s H vs Q E hr h=>?_)
 .obtain⟨_,_,_,h,_⟩:=h;cases h with|f _ _ t=>cases t with|v _ t=>cases t;rfl
 obtain⟨tb,j,l,h,q⟩:=h;cases h with
 | @f _ _ _ _ _ _ l' r2 z t=>
 cases t with
 | @v u x GL ks' l' r t=>
 cases t;refine⟨_,aJ (cV (i:=2) nd rfl (Bs rfl) sL) (aJ (Rz (C:=N) (D0:=TE) (i:=2) (j:=3) rfl rfl (λ_ _ h=>h) XX.up nd rfl rfl rfl rfl rfl rfl XX.te (JM (fz:=fz) (λ_ _ h=>h) G.ok (hr.mono ∅) G.kp (pv 0) G.bi (ah (pv 1) aA)))
  (aJ (iD (ja J2 (pv 2) sL (eV _)) (aZ (cK sL)) cU)
   (aJ (cV (i:=4) nd rfl (Bs rfl) (VL (bo (Ic (K:=K) rfl) (by rfl) hi Ch (ah (pv 2) (ah (zE (ah (dD (v:=.ref NL) rfl XX.nl rfl) (ah (dD (v:=.ref NW) rfl XX.nw rfl) aA))) aA)))
     (xB (JT (bo (wH (K:=K) rfl) (by rfl) hi Ch (ah (pv 2) (ah (kB (v:=.ty "ValueError") rfl XX.ve (by rfl) rfl) aA)))))))
    (aJ (iD (PW.pt (JB (f9 (pv 4)) (xu (lH (f9 (bo (wH (K:=K) rfl) (by rfl) hi Ch (ah (pv 2) (ah (dD (v:=.ref N) rfl XX.nt rfl) aA)))))))) (aZ (cK (PZ IT iG))) cU)
     (aJ (iD (PW.pt (JB (f9 (bo fY (by rfl) hi Ch (ah (JR (K:=K) rfl (pv 2) rfl) (ah (kB (v:=.ty "bool") rfl hb boot_bool rfl) aA)))) (xu (lH (f9 (bo fY (by rfl) hi Ch (ah (JR (K:=K) rfl (pv 2) rfl) (ah (kB (v:=.ty "int") rfl hn boot_int rfl) aA)))))))) (aZ (cK (PZ IT iG))) cU)
      (aZ (cK (JR (K:=K) rfl (pv 2) rfl)))))))),?_⟩
 have np:∀(i:Nat) ψ d,([AK.f fa us [gv] fz,AK.v]:O AK)[i]?≠al (.p ψ d):=λi ψ d e=>by
  match i with
  |0=>cases e
  |1=>cases e
  |i+2=>simp at e
 refine⟨.ref fa,rfl,rfl,z,u,rfl,z,r2,z,u,x,rfl,tb,Vu (Qf:=Q) r ((Sd mD gv x).mono (λz q1 u' H' k' r'=>q1 u' H' (Qr k' (k'.tb tb) np) r') q) (λm hq a H1 k1 m' a' dx e1 e2 ha hd=>?_) λhq u' H1 k1=>?_⟩
 .cases e1;cases e2;have xh:XH H1 a N dx m:=⟨ha,hd⟩;refine⟨.ref a,rfl,rfl,false,rfl,fe ?_⟩;refine⟨.ref a,rfl,by show 2<=sizeLine;decide,λpt H2 s2 e2 n2=>?_⟩;have T6:=My.XH.kp xh s2;have k2:qb H H2:=k1.trans ⟨λc o h _=>s2 c o h,(ng.same (p:=0) s2).t,λt=>t.same s2⟩;refine⟨a,N,dx,m,pt,[NL,NW],false,rfl,T6,XX.cl,e2,XX.k1,false,rfl,fe ?_⟩;refine⟨.ref a,rfl,a,N,dx,m,.ty "ValueError",.type "ValueError",true,rfl,T6,XX.cl,λu h=>h,XX.k2,true,rfl,?_⟩;refine⟨.bl false,rfl,false,rfl,fe ?_⟩;refine⟨.ref a,rfl,a,N,dx,m,.ref N,.ref N,true,rfl,T6,XX.cl,λu h=>h,by unfold AG;simp,true,rfl,fe ?_⟩;refine⟨.ref a,rfl,a,N,dx,m,rfl,T6,XX.at_,.int m,"bool",.type "int",false,rfl,.int m,nF K m .bool,false,rfl,fe ?_⟩;refine⟨.ref a,rfl,a,N,dx,m,rfl,T6,XX.at_,.int m,"int",.type "int",true,rfl,.int m,nF K m .int,true,rfl,fe ?_⟩;exact⟨.ref a,rfl,a,N,dx,m,rfl,T6,XX.at_,hq H2 k2⟩
 .exact⟨.br,rfl,rfl,true,rfl,iO (hq H1 k1)⟩
end
structure PlK(P:sw)(w:wE)(K:Aa)(mg:Str->Option ce)(mD:PV->PV->W PV) where
 f:db
 fd:wp
 bi:Binds K fd ["_law_read","_law_text"] []
 kp:AH K (.ref f)=true
 at':mg "_law_place"=al (.ref f)
 ok:∀(b:lw) (a:db) (us:List V) (fz:List (db×Obj)) (gv:PV) {q:Str}{ar:Arguments}{p1 p2 p3 p4:Pos},jN ⟨q,ar,Y2 p1 p2 p3 p4,Ub⟩ ["_law_other"] b a us fz->us.length=1->
  (∀(cl:List (Str×db)) (pm cv kd:ce) (us:List ce),us.length=1->P3 ((⟨q,ar,Y2 p1 p2 p3 p4,Ub⟩:Lm).fn cl pm cv kd) ⟨us,[]⟩=pure ((["_law_one"]:List Str).zip us))->aY P w K mg b ip 13 f fd ["_law_read","_law_text"] (mn K [.f a us [gv] fz,.v] (gN 1 (Sd mD gv)))
end
end My
namespace FL
section
variable[bj]
section
def Vg:PV->W Str
 |.str u=>.d9 (u.length<=1000) (.ret u)
 |_=>.fail
end
end
end FL
namespace L2
section
theorem n5:∀{ss:O Str}{vs:O ce},Vals (ss.map V.str) vs->StrsAre vs ss
 |[],_,.nil=>.nil
 |x::ss,_,.cons ⟨t,e⟩ r=>by subst e;exact .cons x t (n5 r)
end
end L2
namespace FL
section
variable[bj]
variable{K:Aa}
section
def nZ:O PV->W (O Str)
 |[]=>.ret []
 |.str i::r=>.bind (nZ r) λl=>.ret (i::l)
 |_=>.fail
theorem qN:∀{l:O PV}{Q:O Str->Prop},(nZ l).run Q->∃ns:O Str,l=ns.map PV.str/\Q ns
 |[],Q,h=>⟨[],rfl,h⟩
 |.str b::r,Q,h=>by
  obtain⟨ns,e,q⟩:=qN (l:=r) (show(nZ r).run λl=>Q (b::l) from h);exact⟨b::ns,by rw[e];rfl,q⟩
 |.int _::_,_,h|.bl _::_,_,h|.br::_,_,h|.tup _::_,_,h|.ref _::_,_,h|.ty _::_,_,h|.cl _::_,_,h|.dv _ _::_,_,h|.ob _ _::_,_,h|.hand::_,_,h=>h.elim
theorem zZ:∀ns:O Str,nZ (ns.map PV.str)=.ret ns
 |[]=>(rfl)
 |x::ns=>by rw[AY,nZ,zZ ns];rfl
theorem zf:∀{ss:O Str}{vs:O V},aD K [] H vs (ss.map PV.str)->vs=ss.map V.str
 |[],_,.nil=>rfl
 |x::ss,_,.cons r t=>by cases r;rw[zf t];rfl
end
end
end FL
variable{oc1 kV1 Xr pm1 OV ct1:AZ}{od1 an1:Option AW}{VV:Array (Option AZ)}
namespace My
section
variable[bj]
structure RD(K:Aa):Prop where
 ex:∃C fi ą fs Ą ft ă,Aw K gt "Reader"=al (al (.ref C))/\kb K "__init__" "Reader.__init__" (gI 0 sR) fi ą/\Mk K C fi/\GJ K C/\ed K C "text"/\ed K C "place"/\
  kb K "stands_at" "Reader.stands_at" (gI 1 sR) fs Ą/\Meth K C "stands_at" fs/\kb K "take" "Reader.take" (gI 2 sR) ft ă/\Meth K C "take" ft
def rdx{K:Aa}{f1 f2 f3:db}{oc2 oc3:ce}{od2 an2 od3 an3:Option db}{ZR ZQ:Array (Option ce)}{kV2 abm pm2 XE ct2 kV3 abl pm3 XC ct3:ce}(a:Aw K gt "Reader"=al (al (.ref C)))(m2:Av K (.ref C) "__init__"=al (al (.ref f1)))(l1:K.lookup f1=al ⟨oc1,od1,.func (Be "__init__" "Reader.__init__" (bM (gI 0 sR)) (aN (gI 0 sR)) (ai (gI 0 sR)) .none kV1 Xr pm1 an1 OV ct1),VV⟩)(c1:BX K OV "Reader.__init__"=true)(k1:AH K (.ref f1)=true)(m1:Fg K C=true)(m3:Cz K (.ref f1)=true)(m4:AH K (.ref C)=true)(d1:CV K C Gb=true)(d2:B4 K C=true)(d3:Ey K C=true)(d4:Av K (.ref C) "__setattr__"=al (al (.builtin "object.__setattr__")))(n1:Av K (.ref C) "text"=al bn)(n2:Av K (.ref C) "place"=al bn)(g2:Av K (.ref C) "stands_at"=al (al (.ref f2)))(l2:K.lookup f2=al ⟨oc2,od2,.func (Be "stands_at" "Reader.stands_at" (bM (gI 1 sR)) (aN (gI 1 sR)) (ai (gI 1 sR)) .none kV2 abm pm2 an2 XE ct2),ZR⟩)(c2:BX K XE "Reader.stands_at"=true)(k2:AH K (.ref f2)=true)(i2:Cz K (.ref f2)=true)(g3:Av K (.ref C) "take"=al (al (.ref f3)))(l3:K.lookup f3=al ⟨oc3,od3,.func (Be "take" "Reader.take" (bM (gI 2 sR)) (aN (gI 2 sR)) (ai (gI 2 sR)) .none kV3 abl pm3 an3 XC ct3),ZQ⟩)(c3:BX K XC "Reader.take"=true)(k3:AH K (.ref f3)=true)(i3:Cz K (.ref f3)=true):RD K:=
 ⟨C,f1,_,f2,_,f3,_,a,lZ l1 c1 k1,⟨m1,m2,m3,m4⟩,⟨d1,d2,d3,d4⟩,n1,n2,lZ l2 c2 k2,⟨g2,i2,k2⟩,lZ l3 c3 k3,⟨g3,i3,k3⟩⟩
section
variable{K:Aa}{N:db}
def Wj(n:(Ao N==Ao C)=false)(c:∃cd,BF K C=al cd)(t:Ef K (.ref C)=al (.type "type"))(s:DE K (.ref N) (.ref C)=al false):AG K (.ref N) (.ref C)=al false:=by
 obtain⟨cd,c⟩:=c;unfold AG PySem.W.kitCls;rw[n];dsimp only;rw[c,t,s];rfl
def aac(s:DE K (.ref N) (.type "ValueError")=al true):AG K (.ref N) (.type "ValueError")=al true:=by
 have m:PySem.W.kitMeta "ValueError"=true:=by decide +kernel
 have n:(Ao N==Co "ValueError")=false:=rfl;unfold AG PySem.W.kitCls;rw[n];dsimp only;rw[m,s];rfl
def aad{t c1 c2:ce}(h1:AG K t c1=al false)(h2:AG K t c2=al false):Cu K t [c1,c2]=al false:=by
 unfold Cu;rw[h1];show Cu K t [c2]=_;unfold Cu;rw[h2];rfl
def Lc{TE:db}(X:K.In h)(q:FP K TE LY "ValueError.__new__"=true):OwnTail h LY (.ref TE::LY):=by
 unfold FP at q
 split at q
 .next dd cd sl ho=>
  split at q
  .simp only[AA,beq_iff_eq]at q;exact .own (X _ _ ho) (.of_isNs (PySem.W.isNs_of_in X q.1.2)) (PySem.W.nsMap_none_of_in X q.1.2 q.2) .base
  .cases q
 .cases q
end
structure XD(K:Aa):Prop where
 ex:∃N TE NL NW f fd,Aw K gt "NoText"=al (al (.ref N))/\Aw K gt "TreeError"=al (al (.ref TE))/\Aw K gt "NoLine"=al (al (.ref NL))/\Aw K gt "NoWay"=al (al (.ref NW))/\
  kb K "__init__" "NoText.__init__" (gI 0 sN) f fd/\wU K N f/\AH K (.ref N)=true/\Mg K TE N/\GH K N TE "place"/\O8 K N TE/\Ip K N/\O9 K N "place"/\Cu K (.ref N) [.ref NL,.ref NW]=al false/\AG K (.ref N) (.type "ValueError")=al true
def xdx{K:Aa}{TE NL NW:db}{nm' q':Str}{Nn Nn':db}{bs':O ce}{Qp:Bool}{sn':O Str}{Vc:O ce}{ab ab':Bool}{Xw:Option Bool}{Tp:Option db}{k2 k0' k1' k2' k3' k5':Option ce}{cd1 cd2:ClassData}(e1:Aw K gt "NoText"=al (al (.ref C)))(e2:Aw K gt "TreeError"=al (al (.ref TE)))(e3:FP K TE LY "ValueError.__new__"=true)(e4:K.lookup C=al (Os nm q C Nn bs (.ref TE::LY) lW sn sub ab col dd k0 k1 k2 k3 k5 "ValueError.__new__"))(e5:B3 K (.ref C) "__call__"=al (al (.builtin "type.__call__")))(e6:Bx K C (.ref C)=al true)(e7:Av K (.ref C) "__init__"=al (al (.ref f)))(e8:Cz K (.ref f)=true)(e9:AH K (.ref C)=true)(e10:B3 K (.ref TE) "__getattribute__"=al (al (.builtin "type.__getattribute__")))(e11:PySem.W.readsIn K TE (.type "type")=true)(e12:PySem.W.findCls K (.ref TE) (.type "type") "__init__"=al (.val (.builtin "ValueError.__init__")))(e13:Bx K C (.type "ValueError")=al true)(e14:Av K (.ref C) "__getattribute__"=al (al (.builtin "BaseException.__getattribute__")))(e15:Av K (.ref C) "__getattr__"=al bn)(e16:Bx K C (.type "BaseException")=al true)(e17:B4 K C=true)(e18:Av K (.ref C) "place"=al bn)(e19:Av K (.ref C) "__setattr__"=al (al (.builtin "object.__setattr__")))(e20:Bx K C (.type "object")=al true)(e21:K.lookup TE=al (Os nm' q' TE Nn' bs' LY Qp sn' Vc ab' Xw Tp k0' k1' k2' k3' k5' "ValueError.__new__"))(e22:Av K (.ref C) "__class__"=al (al (.builtin "object.__class__")))(e23:B3 K (.builtin "object.__class__") "__get__"=al (al (.builtin "getset_descriptor.__get__")))(e24:Fe K (.builtin "object.__class__")=al true)(e25:Aw K gt "NoLine"=al (al (.ref NL)))(e26:Aw K gt "NoWay"=al (al (.ref NW)))(e27:BF K NL=al cd1)(e28:BF K NW=al cd2)(e29:Ef K (.ref NL)=al (.type "type"))(e30:Ef K (.ref NW)=al (.type "type"))(e31:DE K (.ref C) (.ref NL)=al false)(e32:DE K (.ref C) (.ref NW)=al false)(e33:DE K (.ref C) (.type "ValueError")=al true)(e34:(Ao C==Ao NL)=false)(e35:(Ao C==Ao NW)=false)(e36:K.lookup f=al ⟨oc1,od1,.func (Be "__init__" "NoText.__init__" (bM (gI 0 sN)) (aN (gI 0 sN)) (ai (gI 0 sN)) .none kV1 Xr pm1 an1 OV ct1),VV⟩)(e37:BX K OV "NoText.__init__"=true)(e38:AH K (.ref f)=true):XD K:=by
 refine⟨C,TE,NL,NW,f,_,e1,e2,e25,e26,lZ e36 e37 e38,⟨⟨nm,q,Nn,bs,_,lW,sn,sub,ab,col,dd,k0,k1,k2,k3,k5,e4,λh X=>Lc X e3⟩,e5,e6,e7,e8⟩,e9,⟨e10,e11,e12,e13⟩,⟨e19,e20,e18,?_⟩,⟨⟨_,_,_,_,_,_,_,_,_,_,_,_,_,_,_,e4⟩,⟨_,_,_,_,_,_,_,_,_,_,_,_,_,_,_,e21⟩⟩,⟨e14,e15,e16,e17,e22,e23,e24,e20⟩,⟨e14,e15,e16,e17,e18⟩,aad (Wj e34 ⟨_,e27⟩ e29 e31) (Wj e35 ⟨_,e28⟩ e30 e32),aac e33⟩;obtain⟨cd,hc,hd⟩:=CW e17;refine⟨cd,hc,hd,?_⟩;unfold BF at hc;rw[e4]at hc;cases hc;rfl
def ok0{K:Aa}{N:db}{Vm:Sp}(F:aY P w K mg base (mj P w N) k f fd ps sp)(h:∀vs H Q E,Vm vs H Q E->sp vs H Q E0):aY P w K mg base ip k f fd ps Vm:=
 ⟨λvs H Q E q=>F.len _ _ _ _ (h _ _ _ _ q),λA outer s H args us vs Q E hr he hb hv hs=>zn (F.run A outer s H args us vs Q E0 hr he hb hv (h _ _ _ _ hs)) λr s' hq=>by
  cases r with
  |error e=>obtain⟨_,_,_,_,_,_,_,_,_,_,_,hE⟩:=hq;exact hE.elim
  |ok fl=>cases fl<;>exact hq⟩
def P9(mD:PV->PV->W PV)(gv x:PV):W PV:=⟨λQ=>∃T y n',x=.str T/\T.length<=sizeLine/\k6 T 0=.ok (y,n')/\¬n'<T.length/\(mD gv y).run λz=>z=.bl true/\Q y,λh ⟨T,y,n,a,b,c,d,q⟩=>⟨T,y,n,a,b,c,d,(mD gv y).mono (λ_ ⟨e,q⟩=>⟨e,h _ q⟩) q⟩⟩
abbrev dRD(mD:PV->PV->W PV):DF:=⟨"read_dates",sy,["great","text"],9,λK=>mn K [.v,.v] (gN 2 (P9 mD))⟩
def Wa{P:db}{t2 t3:Tok}{sD:sK}(X:v.K.In h)(G:h.Ns gt v.mg)(rd:RD v.K)(xd:XD v.K)(e1:DX v.K "take_many" zw)(e2:DX v.K "take_number" Nb)(e3:DX v.K "take_numbers" zv)(e4:DX v.K "read_all" Nd)(e5:DXc v.K "read_dates" sy P)(e6:DX v.K "_law_place" X9)(hP:mK P "read_dates.<locals>.<lambda>")(D:∀b,((⟨"is_dates",sD,["great","thing"],kD,λK=>mn K [.v,.v] (gN 2 mD)⟩:DF).C (v.at b)))(hk:kD<=8)(hf:v.mg "FIGURES"=al (.str rN t1))(hm:v.mg "MOST_FIGURES"=al (.int 4 t2))(hp:v.mg "POINT"=al (.str "." t3))(q1:v.mg "len"=bn)(q2:v.mg "isinstance"=bn)(q3:v.mg "str"=bn)(q4:v.mg "bool"=bn)(q5:v.mg "int"=bn)(q6:v.mg "ValueError"=bn)(q7:v.mg "tuple"=bn):Nonempty ((dRD mD).C v)/\Nonempty (PlK v.P v.w v.K v.mg mD):=by
 obtain⟨C,fi,ą,fs,Ą,ft,ă,a,Fi,M,cl,nt,np,Fs,Ms,Ft,Mt'⟩:=rd.ex;obtain⟨N,TE,NL,NW,fx,fxd,a1,a2,a3,a4,Fx,Mx,kx,Tx,Sx,Ux,Clx,Ax,kk1,kk2⟩:=xd.ex;have R:QH v.K v.mg C:=⟨cl,nt,np,q1⟩;obtain⟨D1⟩:=e1.wZ (d:=⟨"take_many",zw,["reader","signs","most"],4,λK=>si C⟩) X G;obtain⟨D2⟩:=e2.wZ (d:=⟨"take_number",Nb,["reader","most"],5,λK=>zl C⟩) X G;obtain⟨D3⟩:=e3.wZ (d:=⟨"take_numbers",zv,["reader","sign"],6,λK=>se K C⟩) X G;obtain⟨D4⟩:=e4.wZ (d:=⟨"read_all",Nd,["text","take"],8,λK=>mn K [] (gN 2 (P9 mD))⟩) X G;obtain⟨D5,L5⟩:=e5.mk3 (d:=dRD mD) X G;obtain⟨D6⟩:=e6.wZ (d:=⟨"_law_place",X9,["_law_read","_law_text"],13,λK=>mn K [] (gN 2 (P9 mD))⟩) X G;have NT:∀b,XO v.P v.w v.K v.mg b N:=λb=>⟨fx,fxd,Mx,V3 Tx Sx (Ba X G a2) Fx,Fx.binds λ_ _ _ _ _ _=>usN (by (repeat intro _);rfl),Ba X G a1,kx⟩;have all:∀(b:lw) (ad:db) (fz:O (db×Obj)),jN Yc [] b ad [] fz->aY v.P v.w v.K v.mg b (mj v.P v.w N) 8 D4.f D4.fd ["text","take"] (Rb v.K ad fz):=λb ad fz L=>by
  have S:XR v.P v.w v.K v.mg b C:=⟨fs,Ą,Ms,Hb R Fs,Fs.binds λ_ _ _ _ _ _=>usN (by (repeat intro _);rfl)⟩;have T:MtT v.P v.w v.K v.mg b N C:=⟨ft,ă,Mt',NM R (NT b) S Ft,Ft.binds λ_ _ _ _ _ _=>usN (by (repeat intro _);rfl)⟩;have T1:wW v.P v.w v.K v.mg b N "take_many" 4 ["reader","signs","most"] (si C):=⟨D1.f,D1.fd,NP R S T D1.fn,D1.bi,D1.fn.kp,D1.at'⟩;have T2:wW v.P v.w v.K v.mg b N "take_number" 5 ["reader","most"] (zl C):=⟨D2.f,D2.fd,RO R S T1 hf q5 D2.fn,D2.bi,D2.fn.kp,D2.at'⟩;have T3:wW v.P v.w v.K v.mg b N "take_numbers" 6 ["reader","sign"] (se v.K C):=⟨D3.f,D3.fd,NN R S T T2 hm q7 D3.fn,D3.bi,D3.fn.kp,D3.at'⟩;obtain⟨A⟩:=RP T3 hp L;exact RQ R (NT b) ⟨fi,ą,M,J6 R (NT b) q2 q3 Fi,Fi.binds λ_ _ _ _ _ _=>usN (by (repeat intro _);rfl),Ba X G a⟩ A D4.fn
 have tr:∀b,aY v.P v.w v.K v.mg b (mj v.P v.w N) 9 D5.f D5.fd ["great","text"] (Ra v.K mD):=λb=>J7 hk (NT b) ⟨(D b).f,(D b).fd,(D b).ok,(D b).bi,(D b).kp,(D b).at'⟩ q1 L5 hP D4.bi D4.fn.kp D4.at' all D5.fn;refine⟨⟨D5.c (ok0 (tr v.base) λvs H Q E ⟨tb,n,l,h,q⟩=>?_)⟩,⟨⟨D6.f,D6.fd,D6.bi,D6.fn.kp,D6.at',λb ad us fz gv {q ar p1 p2 p3 p4} LI hu hb=>?_⟩⟩⟩
 .cases h with
  | @v g gv GL ks' l' r1 t=>
  cases t with
  | @v u x GL ks' l' r t=>
  cases t;obtain⟨T,y,n',rfl,hT,hk,WJ,q⟩:=q;refine⟨g,gv,u,_,rfl,tb,r1,r,rfl,λz=>absurd rfl (z T),λT' e=>?_⟩;cases e;refine⟨hT,λm z=>(by rw[hk]at z;cases z),λy' n2 z=>?_⟩;rw[hk]at z;cases z;exact⟨λl=>absurd l WJ,λ_=>(mD gv y).mono (λz ⟨e,q⟩=>⟨true,e,λz=>(nomatch z),λ_ u' H' k' r'=>q u' H' (Qr k' (k'.tb tb) (RZ (n:=2))) r'⟩) q⟩
 .obtain⟨A⟩:=RN ⟨D5.f,D5.fd,tr b,D5.bi,D5.fn.kp,D5.at'⟩ LI hu hb (gv:=gv);exact V2 ⟨Ux,Clx,Ax,Ba X G a2,Ba X G a1,Ba X G a3,Ba X G a4,kk1,kk2,q6⟩ q2 q4 q5 A D6.fn
end
end My
namespace L2
section
def ye(Ì:Str)(ss:O Str):Nat:=ss.toArray.foldl (·+·.length+Ì.length) 0
def Rq:V->O V->Hp->VK->Prop:=λx vs H Q=>∃(Ì:Str) (l:db) (ss:O Str),x=.str Ì/\vs=[.ref l]/\H l=al (.lst (ss.map V.str))/\ss≠[]/\ye Ì ss<=sizeLine/\(Builtin.Str.glued Ì ss).length<=sizeLine/\Q (.str (Builtin.Str.glued Ì ss)) H
theorem zg:∀{ss:O Str}{ao:O ce},StrsAre ao ss->∃l:O (Str×Tok),ao=strValues l/\l.map (·.1)=ss
 |_,_,.nil=>⟨[],rfl,rfl⟩
 |_,_,.cons x t r=>by
  obtain⟨l,e1,e2⟩:=zg r;exact⟨(x,t)::l,by rw[e1];rfl,by rw[AY,e2]⟩
def Ki:GD X "str.join" Rq:=by
 intro Z s σ H x vs v us Q I rx rv h;obtain⟨Ì,l,ss,rfl,rfl,hH,h2,hz,hg,q⟩:=h;obtain⟨t,rfl⟩:=rx;obtain⟨u,rfl,ru⟩:=rv.one;cases ru;obtain⟨z,ao,n,r,hl,e⟩:=I.jX hH;obtain⟨ls,rfl,Qx⟩:=zg (n5 r);refine FB F.slot_str_join (typeIs_str _ _ _) F.entry_str_join (F.args_str_join_2 _ _) (meets_str_join_list Ì t l ls ?_) ⟨⟨_,e,rfl,_,rfl⟩,?_⟩
 .unfold Builtin.Str.tooLong;rw[Qx];simpa[ye]using hz
 .match ls,Qx with
  |a::b::ls,Qx=>
   show(Made.str (Builtin.Str.glued Ì ((a::b::ls).map (·.1)))).post _ s;rw[Qx];exact⟨hg,⟨.str _,H,I.tok _,⟨_,rfl⟩,q⟩⟩
  |[a],Qx=>
   show EP X Z σ Q (.str a.1 a.2) s;have e1:ss=[a.1]:=Qx.symm;have e2:Builtin.Str.glued Ì [a.1]=a.1:=rfl;rw[e1,e2]at q;exact⟨.str a.1,H,I,⟨a.2,rfl⟩,q⟩
  |[],Qx=>exact absurd Qx.symm h2
end
section
def Rr:V->O V->Hp->VK->Prop:=λx vs H Q=>∃(Ì:Str) (l:db) (ss:O Str),x=.str Ì/\vs=[.ref l]/\H l=al (.lst (ss.map V.str))/\ye Ì ss<=sizeLine/\(Builtin.Str.glued Ì ss).length<=sizeLine/\Q (.str (Builtin.Str.glued Ì ss)) H
def Kj:GD X "str.join" Rr:=by
 intro Z s σ H x vs v us Q I rx rv h;obtain⟨Ì,l,ss,rfl,rfl,hH,hz,hg,q⟩:=h;by_cases h2:ss=[]
 .subst h2;obtain⟨t,rfl⟩:=rx;obtain⟨u,rfl,ru⟩:=rv.one;cases ru;obtain⟨z,ao,n,r,hl,e⟩:=I.jX hH;cases r;refine FB F.slot_str_join (typeIs_str _ _ _) F.entry_str_join (F.args_str_join_2 _ _) (meets_str_join_list Ì t l [] ?_) ⟨⟨_,e,rfl,_,rfl⟩,?_⟩
  .unfold Builtin.Str.tooLong;simpa[ye]using hz
  .exact⟨hg,⟨.str _,H,I.tok _,⟨_,rfl⟩,q⟩⟩
 .exact Ki Z s σ H _ _ v us Q I rx rv ⟨Ì,l,ss,rfl,rfl,hH,h2,hz,hg,q⟩
end
end L2
namespace FL
section
variable[bj]
section
variable{K:Aa}{o:o0}{w:W PV}
def tq(Ì:Str)(l:O PV):W PV:=.bind (nZ l) λss=>.d9 (ye Ì ss<=sizeLine/\(Builtin.Str.glued Ì ss).length<=sizeLine) (.ret (.str (Builtin.Str.glued Ì ss)))
def Gs(hK:X.K=K)(ho:EF X K fs o w)(hl:LF X K fs e wl)(cD:‹sB o "join" X.env (pc o X.env)=pc o X.env›)(o7:‹UH X bD [e]›)(dP:‹Pc Á bD›)(ly:‹dX X e []›)(fg:‹fD X bD []›):EF X K fs (.Call (.Attribute o "join" Á) [e] [] bD) (.bind w λs=>.bind (Vg s) λs=>.bind wl λl=>tq s l):=
 ⟨PE.imp (oA K hK PySem.F.plainAttrs_str PySem.F.slot_str_join PySem.F.type_str_join Kj ho.p (ah hl.p aA ly) cD o7 dP ly fg) λσ H Q ⟨sr,q⟩=>⟨sr,w.mono (λx q1 u1 H1 g1 s1 v1=>by
  cases v1 with
  |str Ì=>
   refine⟨rfl,s1,wl.mono (λl q2 a vs H2 g2 s2 n2 e2 v2=>?_) q1.2⟩;obtain⟨ss,el,hC,q3⟩:=qN q2;subst el;have:=zf v2;subst this;exact⟨Ì,a,ss,rfl,rfl,e2,hC.1,hC.2,q3 _ H2 (g1.trans g2) s2 (.str _)⟩
  |_=>exact q1.elim) q⟩⟩
end
end
end FL
variable{a b:BL}{z:BJ}{pz:Cc}
namespace L2
section
def UY(i j k:Nat)(ta:TA):TS:=λD σ H=>ta σ H λvs H1=>∃u v w,vs=[u,v,w]/\D.nx (((σ.set i (al u)).set j (al v)).set k (al w)) H1
def Nm{c:o0}{ta:TA}{kt k2 u9}(hc:X.calm=true)(hN:X.N.Nodup)(hi:X.N[i]?=al x)(hj:X.N[j]?=al y)(hk:X.N[k]?=al z)(Mp:i≠j)(ô:i≠k)(ó:j≠k)(hx:X.env.scope.names.lookup x=al .local)(hy:X.env.scope.names.lookup y=al .local)(hz:X.env.scope.names.lookup z=al .local)(ha:PA X [a,b,c] ta)(hw:Db [.Tuple [.Name x px,.Name y py,.Name z pz] kt pt] (.Tuple [a,b,c] k2 u9) X.env=pure (al [x,y,z]))(hs:‹Da [.Tuple [.Name x px,.Name y py,.Name z pz] kt pt] (.Tuple [a,b,c] k2 u9) pos.line X.env=pure false›):PS X (.Assign [.Tuple [.Name x px,.Name y py,.Name z pz] kt pt] (.Tuple [a,b,c] k2 u9) pos) (UY i j k ta):=by
 intro Z s σ H D I h;refine Ab (BW ?_);refine Ab (Ae ?_);refine Ab (Tuple_ (aR (ha _ Z s σ H _ I h) λus s1 ⟨vs,H1,I1,r1,q1⟩=>?_));obtain⟨v1,v2,v3,e1,q1⟩:=q1;subst e1;obtain⟨u1,u2,u3,rfl,ra,rb,rc⟩:∃u1 u2 u3,us=[u1,u2,u3]/\RelV v1 u1/\RelV v2 u2/\RelV v3 u3:=by
  cases r1 with
  |cons p q=>cases q with
   |cons p' q'=>cases q' with
    |cons p'' q''=>cases q'';exact⟨_,_,_,rfl,p,p',p''⟩
 refine BN ?_ (by show 3<=sizeLine;decide);rw[hw];refine Ab (Ae ?_);refine Ab (Dc (Ab (unpackItems_tuple (items:=#[u1,u2,u3]) (I.ok.hd hc) (Gg s1.heap _) λh' qu=>?_)));refine Ab (BT (Du (dN ((I1.kept λb o e=>Ad _ e).kept (t':=s1.toks) λb o e=>qu b o (AB (Ai e)) e) hN hk (.inl hz) rc (λs2 I4=>?_) (.inr hz))));refine BT (Du (dN I4 hN hj (.inl hy) rb (λs3 I5=>?_) (.inr hy)));refine BT (Du (dN I5 hN hi (.inl hx) ra (λs4 I6=>assignInOrder_nil (Ae ?_)) (.inr hx)));have e:((σ.set k (al v3)).set j (al v2)).set i (al v1)=((σ.set i (al v1)).set j (al v2)).set k (al v3):=by
  rw[ES _ _ (BA ó),ES _ _ (BA ô),ES _ _ (BA Mp)]
 rw[e]at I6;exact⟨_,H1,I6,q1⟩
end
end L2
namespace FL
section
variable[bj]{K:Aa}{c:o0}{rest:O sK}{T:Type}{x:Bool}{out:T->End}
def SF.abY{t:Str}{kk:O PV->PV->PV->W T}(hc:X.calm=true)(hN:X.N.Nodup)(hi:X.N[i]?=al y)(hj:X.N[j]?=al z)(hk:X.N[k]?=al t)(Mp:i≠j)(ô:i≠k)(ó:j≠k)(hx:X.env.scope.names.lookup y=al .local)(hy:X.env.scope.names.lookup z=al .local)(hz:X.env.scope.names.lookup t=al .local)(ha:LF X K fs a wl)(hb:EF X K fs b wb)(Ov:EF X K fs c wc)(hr:∀u v w,SF X K x (((fs.set i (al (.ol bn u))).set j (al (.val v))).set k (al (.val w))) rest (kk u v w) out)(hw:‹Db [.Tuple [.Name y px,.Name z py,.Name t pz] kt pt] (.Tuple [a,b,c] k2 u9) X.env=pure (al [y,z,t])›)(hs:‹Da [.Tuple [.Name y px,.Name z py,.Name t pz] kt pt] (.Tuple [a,b,c] k2 u9) pos.line X.env=pure false›)(he:‹lf [a,b,c] X.env=(false,pc a X.env)::lf [b,c] X.env›)(Ou:‹lf [b,c] X.env=(false,pc b X.env)::lf [c] X.env›)(he3:‹dX X c []›):SF X K x fs (.Assign [.Tuple [.Name y px,.Name z py,.Name t pz] kt pt] (.Tuple [a,b,c] k2 u9) pos::rest) (.bind wl λu=>.bind wb λv=>.bind wc λw=>kk u v w) out:=
 SF.step (Nm hc hN hi hj hk Mp ô ó hx hy hz (ah ha.p (ah hb.p (ah Ov.p aA he3) Ou) he) hw hs) λD σ H ⟨sr,q⟩=>⟨sr,wl.mono (λu q1 ad vs H1 g1 s1 n1 e1 v1=>⟨s1,wb.mono (λv q2 u2 H2 g2 s2 v2=>⟨s2,wc.mono (λw q3 u3 H3 g3 s3 v3=>by
  have no:=sr.noOwn n1;have gg:=g2.trans g3;have oa:f6 K H3 ad (.ol bn u):=⟨λ_ z=>(nomatch z),vs,gg.kK e1 no,gg.za s1 v1⟩;have US:=g3.vr s2 v2;have s4:=s3.ou oa no i;have s5:=s4.fB US j;have s6:=s5.fB v3 k;exact⟨_,_,_,rfl,_,kk u v w,hr u v w,s6,(kk u v w).mono (λt q4=>q4.go (((bT.ou s3 (g1.trans gg) no n1 i).trans (bT.fB s4 _ _ j)).trans (bT.fB s5 _ _ k)) sr s6) q3⟩) q2⟩) q1⟩) q⟩
def SF.P0{k:O PV->PV->W T}(hc:X.calm=true)(hN:X.N.Nodup)(hi:X.N[i]?=al y)(hj:X.N[j]?=al z)(Mp:i≠j)(hx:X.env.scope.names.lookup y=al .local)(hy:X.env.scope.names.lookup z=al .local)(ha:LF X K fs a wl f1)(hb:EF X K f1 b wb f2)(hr:∀u v,SF X K x ((f2.set i (al (.ol bn u))).set j (al (.val v))) rest (k u v) out)(hw:‹Db [.Tuple [.Name y px,.Name z py] kt pt] (.Tuple [a,b] k2 u9) X.env=pure (al [y,z])›)(hs:‹Da [.Tuple [.Name y px,.Name z py] kt pt] (.Tuple [a,b] k2 u9) pos.line X.env=pure false›)(he:‹lf [a,b] X.env=(false,pc a X.env)::lf [b] X.env›)(Ou:‹dX X b []›):SF X K x fs (.Assign [.Tuple [.Name y px,.Name z py] kt pt] (.Tuple [a,b] k2 u9) pos::rest) (.bind wl λu=>.bind wb λv=>k u v) out:=
 SF.step (JJ hc hN hi hj Mp hx hy (ah ha.p (ah hb.p aA Ou) he) hw hs) λD σ H ⟨sr,q⟩=>⟨sr,wl.mono (λu q1 ad vs H1 g1 s1 n1 e1 v1=>⟨s1,wb.mono (λv q2 u2 H2 g2 s2 v2=>by
  have no1:¬bL σ f1 ad:=λz=>sr.noOwn n1 (g1.ev.eE z);have no2:¬bL σ f2 ad:=λz=>sr.noOwn n1 ((g1.trans g2).ev.eE z);have oa:f6 K H2 ad (.ol bn u):=⟨λ_ z=>(nomatch z),vs,g2.kK e1 no1,g2.za s1 v1⟩;have s3:=s2.ou oa no2 i;have s4:=s3.fB v2 j;exact⟨_,_,rfl,_,k u v,hr u v,s4,(k u v).mono (λt q3=>q3.go ((bT.ou s2 (g1.trans g2) no2 n1 i).trans (bT.fB s3 _ _ j)) sr s4) q2⟩) q1⟩) q⟩
end
end FL
namespace My
def eW(vi:PV)(PF:PV):W PV:=
 (PF\λx3=>am (Vg x3) λu4=>am (am (am (ap vi) bB) λl1=>cY l1 λp2=>(am (ap p2) qf)) λl5=>tq u4 l5)
def cZ(fm:PV):W PV:=
 (fm\λx1=>(.str ".")\λx2=>eW x1 x2)
def aO:Nat->PV->W (O PV)
 |0,_=>W.fail
 |n+1,bU=>
 c9 (am (am (ap bU) (da .str)) cG) (
 (bU\λx1=>ap [x1])) (
 am (HK (am (iy (am (ap bU) bB) (ap (.int 0))) λx2=>aO n x2)) λJ5=>am (HK (am (iy (am (ap bU) bB) (ap (.int 1))) λx3=>aO n x3)) λsS=>
 am (c1 fu (ap J5)) λvS=>
 am (am (am (ap sS) bB) λl8=>cY l8 λp9=>(c9 (am (am (ap p9) (da .str)) cG) (ap p9) (am (w2 addW (iy (am (ap p9) bB) (ap (.int 0))) (ap vS)) λMF=>am (w2 addW (iy (am (ap p9) bB) (ap (.int 1))) (ap vS)) λQS=>ap (.tup [MF,QS])))) λzM=>
 (am (am (am (ap J5) vt) λWg=>am (am (ap (.cl zM)) vt) λl13=>LQ Wg l13) λl17=>am (am (am (b2 xJ (ap vS) (ap (.int 1))) λQR=>am (b2 xJ (w2 addW (ap vS) (c1 fu (ap sS))) (ap (.int 1))) λIM=>ap (.tup [QR,IM])) λIL=>ap [IL]) λl18=>LQ l17 l18))
def c8(cz:PV):W PV:=
 am (cz\λx2=>aO 12 x2) λaX=>
 am (am ((.int 0)\λx3=>ap [x3]) λl4=>am (c1 fu (ap (.cl aX))) λx5=>Nh l4 x5) λg9=>(.int 0)\λyJ=>
 am (am (am (am (ap (.cl aX)) bB) λl9=>.d9 (l9.length<=sizeLine) (.ret (fV 0 l9))) λl10=>lO l10 λp11=>am (Pm p11) λX7=>Sj (am (am (ap X7.2) (da .tup)) cG) (ap X7.1)) λxV=>
 am (rS (λlD=>(lD.2.2\λl14=>ap (!l14.isEmpty))) (λlD=>(
 am (am (am (am (ap (.cl lD.2.2)) bB) λl16=>lO l16 λVQ=>Sj (MP (Wt true (iy (am (iy (am (ap (.cl aX)) bB) (ap VQ)) bB) (ap (.int 0))) (am (ap (.cl lD.2.2)) bB)) (Wt true (iy (am (iy (am (ap (.cl aX)) bB) (ap VQ)) bB) (ap (.int 1))) (am (ap (.cl lD.2.2)) bB))) (ap VQ)) Ja) λtN=>
 am (iy (am (ap (.cl tN)) bB) (am (c1 fu (ap (.cl tN))) λQO=>bW QO)) λo5=>
 am (w2 addW (w2 addW (ap lD.2.1) (ap (.int 1))) (iy ((.int 0)\λZc=>am ((.int 12)\λUQ=>bW UQ) λUP=>ap [Zc,UP]) ((.int 2)\λQN=>bW QN))) λub=>
 ub\λQM=>o5\λZb=>am (uZ lD.1 Zb QM) λjJ=>
 o5\λZa=>am (Rl lD.2.2 Za) λzO=>
 ap (jJ,ub,zO))) (g9,yJ,xV)) λlD=>
 (am (ap lD.1) IZ)
def aG:Nat->PV->PV->W PV
 |0,_,_=>W.fail
 |n+1,gs,m7=>
 c9 (am (am (ap m7) (da .tup)) cG) (
 c9 (QU (jQ (am (am (ap gs) (da .tup)) cG)) (t2 kC (c1 fu (ap gs)) (c1 fu (ap m7)))) (
 (ap (.bl false))) (
 (am (am (am (am (ap gs) bB) λl1=>am (am (ap m7) bB) λl2=>rQ l1 l2) λl3=>cY l3 λp4=>am (Pm p4) λt5=>(t5.1\λx6=>t5.2\λx7=>aG n x6 x7)) pP))) (
 c9 (t2 Kb (ap m7) (ap .br)) (
 (b2 Kb (ap gs) (ap .br))) (
 c9 (am (am (ap m7) (da .str)) cG) (
 (Ma (am (ap gs) (da .str)) (b2 iI (ap gs) (ap m7)))) (
 c9 (QU (jQ (am (am (ap gs) (da .int)) cG)) (t2 kC (am (ap gs) (da .bool)) (am (ap m7) (da .bool)))) (
 (ap (.bl false))) (
 (b2 iI (ap gs) (ap m7))))))
def cC(cz:PV)(cB:PV):W PV:=
 am (cz\λx2=>aO 12 x2) λaX=>
 c9 (t2 kC (c1 fu (ap cB)) (c1 fu (ap (.cl aX)))) (
 (ap (.bl false))) (
 am (am (am (am (ap cB) bB) λl4=>am (am (ap (.cl aX)) bB) λl5=>rQ l4 l5) λl6=>lO l6 λp7=>am (Pm p7) λt8=>Sj (am (am (ap t8.2) (da .tup)) cG) (ap t8.1)) λkO=>
 c9 (QU (t2 kC (am (am (ap (.cl kO)) vt) gP) (c1 fu (ap (.cl kO)))) (jQ (am (am (am (am (ap (.cl kO)) bB) λl9=>cY l9 λYg=>(XA oLt oLt (ap (.int 0)) (ap Yg) (ap (.int 100)))) pP) cG))) (
 (ap (.bl false))) (
 am (am (am (ap cB) bB) λWh=>am (am (ap (.cl aX)) bB) λWg=>rQ Wh Wg) λl21=>am (ir l21 () λYf lD=>am (Pm Yf) λQ6=>(
 c9 (MP (am (am (ap Q6.2) (da .str)) cG) (t2 kC (ap Q6.1) (ap (.int 0)))) (
 (.bl false)\λIL=>ap (Lp.out IL)) (
 c9 (MP (am (am (ap Q6.2) (da .tup)) cG) (t2 oLe (ap Q6.1) (am (iy (am (ap cB) bB) (iy (am (ap Q6.2) bB) (ap (.int 0)))) λQQ=>am (iy (am (ap cB) bB) (iy (am (ap Q6.2) bB) (ap (.int 1)))) λQP=>uJ L1 [QQ,QP]))) (
 (.bl false)\λQO=>ap (Lp.out QO)) (
 ap (.go ()))))) (tI (λlD=>
 (ap (.bl true))) id)))
def oP(dC:PV):W PV:=
 am (am (w2 addW (ap (.int 1)) (am (am (am (ap dC) vt) λl1=>bn\λi2=>am (am (ap (.int 16)) part) λj3=>ap (yK l1 i2 j3)) Ho)) om) λl58=>am (ir l58 () λUk s5=>(
 am (dC\λx8=>Uk\λx9=>dF x8 x9) λmG=>VG cW mG (
 am ((.int 8)\λQS=>c7 QS) λcg=>
 am (am (ap (.int 3)) om) λl46=>am (ir l46 () λMM lD=>(
 am (cg\λIL=>c8 IL) λbJ=>
 am ((.str ".")\λx20=>am (Vg x20) λu21=>am (am (am (ap bJ) bB) λl18=>cY l18 λp19=>(am (ap p19) qf)) λl22=>tq u21 l22) λkj=>
 c9 (QU (jQ (am (am (bJ\λZb=>cZ Zb) λUN=>kj\λZa=>aG 4 UN Za) cG)) (jQ (am (am (cg\λUP=>kj\λQN=>P9 aU UP QN) λUO=>bJ\λQM=>aG 4 UO QM) cG))) (
 (.bl false)\λY9=>ap (Lp.out Y9)) (
 c9 (jQ (am (am (cg\λx31=>am (bJ\λx32=>cZ x32) λx33=>P9 aU x31 x33) λx34=>bJ\λx35=>aG 4 x34 x35) cG)) (
 (.bl false)\λY8=>ap (Lp.out Y8)) (
 am (am (HK (cg\λx38=>aQ 12 x38)) λx39=>b9 x39) λeU=>
 am (c9 (am (eU\λx41=>bJ\λx42=>cC x41 x42) cG) (ap .br) (c1 fu (ap kj))) λLH=>
 c9 (t2 kC (kj\λx43=>Sd aU eU x43) (ap LH)) (
 (.bl false)\λY7=>ap (Lp.out Y7)) (
 ap (.go ())))))) (tI (λlD=>
 ap (.go ())) Lp.out)))) (tI (λs5=>
 (Ma (b2 iI (am ((.str "a")\λx50=>(.str "b")\λx51=>ap (.tup [x50,x51])) λx52=>(.str "0.0.99")\λx53=>P9 aU x52 x53) ((.int 0)\λx54=>(.int 0)\λx55=>(.int 99)\λx56=>ap (.tup [x54,x55,x56]))) (b2 iI ((.str "a")\λx47=>(.str "0")\λx48=>P9 aU x47 x48) ((.int 0)\λx49=>ap (.tup [x49]))))) id)
end My
variable{Q:O PL.PV->Prop}{t:My.Tr}{f:PL.PV->FL.W (Option PL.PV)}
namespace My
def Tr.pv:Tr->PV
 |.leaf x=>.str x
 |.node l r=>.tup [l.pv,r.pv]
def Ent.pv:Ent->PV
 |.word x=>.str x
 |.pair a b=>.tup [.int (a:Int),.int (b:Int)]
def zr{l:List α}(h:l≠[]):∃a x,l=a++[x]:=⟨l.dropLast,l.getLast h,(List.dropLast_concat_getLast h).symm⟩
def Jj{a b:O Tr}(h:gz a++b=t.post):bP a+b.length=t.size:=by
 have h1:=congrArg CU h;rw[Ah,t.iE]at h1;have h2:∀l:O Tr,(gz l).length=bP l:=by
  intro l
  induction l with
  |nil=>rfl
  |cons x l ih=>
   have e1:gz (x::l)=x.post++gz l:=rfl;have e2:bP (x::l)=x.size+bP l:=rfl;rw[e1,e2,Ah,ih,x.iE]
 rw[h2]at h1;exact h1
theorem md{x:PV}(h:l.length<1000):um l x=.ret (l++[x]):=wn (by have:=bA (Aj _);lia)
theorem J0(t:Tr)(hz:t.size<=900):(jW t.pv).le (.ret (t.post.map Tr.pv)):=λQ q=>by
 refine nR (λn s=>∃ts bs:O Tr,n=bP ts/\s=(bs.map Tr.pv,ts.map Tr.pv)/\gz ts++bs.reverse=t.post) ⟨[t],[],rfl,rfl,by rw[lI];simp⟩ ?_;rintro n s ⟨ts,bs,rfl,rfl,hp⟩;have hs:=Jj hp;rw[C2]at hs;by_cases he:ts=[]
 .subst he;have YA:bs.reverse=t.post:=hp;simp;rw[<- List.map_reverse,YA];exact q
 .obtain⟨us,u,rfl⟩:=zr he;have Oq:=lN us;rw[bt,du]at hs;simp;rw[md (by rw[Am];lia)];cases u with
  |leaf x=>
   simp[Tr.pv];refine⟨_,?_,us,rfl,bs++[.leaf x],⟨by simp[Tr.pv],rfl⟩,?_⟩
   .rw[bt,du];show bP us<bP us+1;lia
   .rw[gS,lI]at hp;rw[FN,<- hp];simp[Tr.post]
  |node c d=>
   have e1:Lb (us.map Tr.pv) [c.pv,d.pv]=.ret (us.map Tr.pv++[c.pv,d.pv]):=wn (bA (by
    simp;lia))
   simp[Tr.pv,e1];refine⟨_,?_,us++[c,d],rfl,bs++[.node c d],⟨by simp[Tr.pv],by simp⟩,?_⟩
   .have e2:bP [Tr.node c d]=c.size+d.size+1:=by rw[du];rfl
    have e3:bP [c,d]=c.size+d.size:=by simp[bP]
    rw[bt,bt,e2,e3];lia
   .rw[gS,lI]at hp;rw[FN,<- hp,gS,G4];simp[Tr.post]
def bK(l:O Nat):O PV:=l.map λ(n:Nat)=>.int (n:Int)
@[simp] theorem vk(l:O Nat):(bK l).length=l.length:=Am _
@[simp] theorem V9(a b:O Nat):bK (a++b)=bK a++bK b:=BH
@[simp] theorem Uh(a:Nat)(l:O Nat):bK (a::l)=.int (a:Int)::bK l:=rfl
@[simp] theorem V8:bK []=[]:=rfl
def HA(n:Nat):iR 0 n=bK (AN n):=by
 refine DZ λi _=>?_;rw[Fc]
theorem Kr{p:Nat->Bool}:∀{l:O Nat},(∀k∈l,f (.int ((k:Nat):Int))=.ret (if p k=true then al (.int ((k:Nat):Int)) else bn))->lO (bK l) f=.ret (bK (l.filter p))
 |[],_=>rfl
 |k::l,h=>by
  show am (f _) (λo=>am (lO (bK l) f) λm=>ap (o.toList++m))=_;rw[h k (.head _),Kr λy hy=>h y (.tail _ hy),DD];cases p k<;>rfl
theorem zN{f:PV->W PV}{g:Nat->PV}:∀{l:O Nat},(∀k∈l,f (.int ((k:Nat):Int))=.ret (g k))->cY (bK l) f=.ret (l.map g)
 |[],_=>rfl
 |k::l,h=>by
  show am (f _) (λy=>am (cY (bK l) f) λm=>ap (y::m))=_;rw[h k (.head _),zN λy hy=>h y (.tail _ hy)];rfl
def Qb(g:PV->Option PV)(h:∀x∈l,f x=.ret (g x))(q:Q (l.filterMap g)):(lO l f).run Q:=by rw[xW h];exact q
def Kq{l:O Nat}(p:Nat->Bool)(h:∀k∈l,f (.int ((k:Nat):Int))=.ret (if p k=true then al (.int ((k:Nat):Int)) else bn))(q:Q (bK (l.filter p))):(lO (bK l) f).run Q:=by rw[Kr h];exact q
def Hk{l:O Nat}{f:PV->W PV}(g:Nat->PV)(h:∀k∈l,f (.int ((k:Nat):Int))=.ret (g k))(q:Q (l.map g)):(cY (bK l) f).run Q:=by rw[zN h];exact q
theorem Kc(t:Tr)(hz:t.size<=900):(nC t.pv).le (.ret (.tup ((t.nd 0).map Ent.pv))):=λQ q=>by
 unfold nC;simp;refine W.le.use (J0 t hz) ?_;refine pj (λr s=>∃(k:O Tr) (À:O Ent) (ls:O Nat),r=k.map Tr.pv/\s=(À.map Ent.pv,bK ls.reverse)/\run k À ls=al (t.nd 0,[t.size-1])/\À.length+k.length<=900/\ls.length<=À.length) ⟨t.post,[],[],rfl,rfl,G1 t,by simp[t.iE];lia,Aj _⟩ ?_ ?_
 .rintro x r s ⟨k,À,ls,e,rfl,h,hl,WM⟩;cases k with
  |nil=>cases e
  |cons p k=>
   injection e with e1 e2;subst e1;subst e2;rw[Ap]at hl;cases p with
   |leaf x=>
    have a1:∀y,um (bK ls.reverse) y=.ret (bK ls.reverse++[y]):=λy=>md (by simp;lia);simp[Tr.pv,md (l:=À.map Ent.pv) (by simp;lia),a1];refine⟨k,rfl,À++[Ent.word x],À.length::ls,⟨by simp[Ent.pv],by simp⟩,h,by simp;lia,by simp;lia⟩
   |node c d=>
    match ls,h,WM with
    |b::a::ls,h,WM=>
     rw[Ap,Ap]at WM;have a0:bK (b::a::ls).reverse=(bK ls.reverse++[.int a])++[.int b]:=by simp
     have a1:∀y,um (bK ls.reverse) y=.ret (bK ls.reverse++[y]):=λy=>md (by simp;lia);rw[a0];simp only[Tr.pv,r9,fU,jq,aV,if_false,Lh];simp[md (l:=À.map Ent.pv) (by simp;lia),a1];refine⟨k,rfl,À++[Ent.pair a b],À.length::ls,⟨by simp[Ent.pv],by simp⟩,h,by simp;lia,by simp;lia⟩
 .rintro s ⟨k,À,ls,e,rfl,h,hl,WM⟩;cases k with
  |nil=>
   cases h;simpa using q
  |cons p k=>cases e
end My
variable{a b d:Int}
namespace My
theorem mulL(h:-1000000000<=a/\a<=1000000000):Gc a b:=Kh ∅ ∅
theorem mulR(h:-1000000000<=b/\b<=1000000000):Gc a b:=mul_r ∅ ∅
theorem xO(h0:0<=d)(h1:d<6):∃st:Int,dY [PV.int 1,PV.int 3,PV.int 5,PV.int 7,PV.int 9,PV.int 11] d=al (.int st)/\(st=1\/st=3\/st=5\/st=7\/st=9\/st=11):=by
 have:d=0\/d=1\/d=2\/d=3\/d=4\/d=5:=by omega
 rcases this with rfl|rfl|rfl|rfl|rfl|rfl
 .exact⟨1,rfl,by decide⟩
 .exact⟨3,rfl,by decide⟩
 .exact⟨5,rfl,by decide⟩
 .exact⟨7,rfl,by decide⟩
 .exact⟨9,rfl,by decide⟩
 .exact⟨11,rfl,by decide⟩
theorem gA{i j:Int}(h:-1000<=i/\i<=1000/\-1000<=j/\j<=1000)(h2:j-i<=1000):okN i j:=⟨by omega,by omega,by omega,by omega,bA ∅⟩
theorem TC{l:List α}(h:k+1<l.length):∃a x y b,l=a++x::y::b/\a.length=k:=by
 refine⟨l.take k,l[k],l[k+1],l.drop (k+2),?_,by rw[Cf];omega⟩;have e1:l.drop k=l[k]::l.drop (k+1):=Bo (by omega);have e2:=Bo (by omega);rw[<- e2,<- e1,List.take_append_drop]
end My
variable{a b:Nat}{v:Int}{ds:O Int}{left:O Nat}
namespace My
def kN:Ent->Bool
 |.word _=>false
 |.pair _ _=>true
structure Dt(t:Tr)(ds:List Int)(left:List Nat)(d:Int):Prop where
 len:ds.length=t.size
 zero:∀j,j<t.size->(kN (en t 0 j)=false\/j∈left)->ds.getD j 0=0
 up:∀j,j<t.size->j∉left->∀a b,en t 0 j=.pair a b->a∉left/\b∉left/\ds.getD a 0<ds.getD j 0/\ds.getD b 0<ds.getD j 0/\1<=ds.getD j 0/\ds.getD j 0<=d
 inj:∀i j,i<t.size->j<t.size->i∉left->j∉left->kN (en t 0 i)=true->kN (en t 0 j)=true->ds.getD i 0=ds.getD j 0->i=j
 pos:0<=d
 Uj:∀j∈left,j<t.size/\kN (en t 0 j)=true
 Yb:left.Pairwise (· < ·)
def gj{l:O Int}(h:i<l.length):(l.set i v).getD i 0=v:=by rw[AQ,CD h];rfl
def bx{l:O Int}(h:i≠j):(l.set i v).getD j 0=l.getD j 0:=by rw[AQ,B1 h,<- AQ]
def ql{l:O Nat}(h:l.Pairwise (· < ·)){x y:Nat}:y∈l.erase x↔y∈l/\y≠x:=by
 have nd:l.Nodup:=h.imp (λz=>AB z);rw[nd.mem_erase_iff];exact⟨λz=>⟨z.2,z.1⟩,λz=>⟨z.2,z.1⟩⟩
theorem ju(t:Tr)(h:j<t.size)(e:en t 0 j=.pair a b):a<j/\b<j:=by
 rcases L0 t 0 j h with⟨x,e1,_⟩|⟨a',b',e1,e2,e3,_⟩
 .rw[e1]at e;cases e
 .rw[e1]at e;injection e with h1 h2;lia
theorem Dt.next{x:Int}(D:Dt t ds left d)(hj:j∈left)(e:en t 0 j=.pair a b)(ha:a∉left)(hb:b∉left)(hx:0<=x):Dt t (ds.set j (d+1+x)) (left.erase j) (d+1+x):=by
 obtain⟨hjs,hjp⟩:=D.Uj j hj;obtain⟨haj,hbj⟩:=ju t hjs e;have KS:j<ds.length:=by rw[D.len];exact hjs
 have hm:∀y,y∈left.erase j↔y∈left/\y≠j:=λy=>ql D.Yb;have Ý:∀y,y<t.size->y∉left->ds.getD y 0<=d:=λy hy ç=>by
  cases ey:en t 0 y with
  |word w=>rw[D.zero y hy (.inl (by rw[ey];rfl))];exact D.pos
  |pair p q=>exact(D.up y hy ç p q ey).2.2.2.2.2
 refine⟨by rw[Cm];exact D.len,λy hy hc=>?_,λy hy ç p q ey=>?_,λu v hu hv hul hvl pu pv Yu=>?_,by have:=D.pos;lia,λy hy=>D.Uj y ((hm y).mp hy).1,List.Pairwise.sublist List.erase_sublist D.Yb⟩
 .have Wz:j≠y:=λz=>by
   subst z;rcases hc with hc|hc
   .rw[hjp]at hc;cases hc
   .exact((hm j).mp hc).2 rfl
  rw[bx Wz];exact D.zero y hy (hc.imp id λz=>((hm y).mp z).1)
 .by_cases Wz:j=y
  .subst Wz;rw[e]at ey;injection ey with h1 h2;subst h1 h2;have la:=Ý a ∅ ha;have lb:=Ý b ∅ hb;rw[gj KS,bx ∅,bx ∅];have:=D.pos;exact⟨λz=>ha ((hm a).mp z).1,λz=>hb ((hm b).mp z).1,by omega,by omega,by omega,by omega⟩
  .have aak:y∉left:=λz=>ç ((hm y).mpr ⟨z,BA Wz⟩);obtain⟨p1,p2,p3,p4,p5,p6⟩:=D.up y hy aak p q ey;have np:j≠p:=λz=>p1 (z▸hj);have nq:j≠q:=λz=>p2 (z▸hj);rw[bx Wz,bx np,bx nq];exact⟨λz=>p1 ((hm p).mp z).1,λz=>p2 ((hm q).mp z).1,p3,p4,p5,by omega⟩
 .by_cases c1:j=u
  .by_cases c2:j=v
   .exact c1.symm.trans c2
   .exfalso;subst c1;have SH:v∉left:=λz=>hvl ((hm v).mpr ⟨z,BA c2⟩);rw[gj KS,bx c2]at Yu;have:=Ý v hv SH;lia
  .have WB:u∉left:=λz=>hul ((hm u).mpr ⟨z,BA c1⟩);by_cases c2:j=v
   .exfalso;subst c2;rw[gj KS,bx c1]at Yu;have:=Ý u hu WB;lia
   .have SH:v∉left:=λz=>hvl ((hm v).mpr ⟨z,BA c2⟩);rw[bx c1,bx c2]at Yu;exact D.inj u v hu hv WB SH pu pv Yu
def splits(t:Tr):O Nat:=(AN t.size).filter λj=>kN (en t 0 j)
def Dt.first(t:Tr):Dt t (Ar t.size 0) (splits t) 0:=by
 have z:∀j,(Ar t.size (0:Int)).getD j 0=0:=λj=>by
  rw[AQ,Bu]
  split<;>rfl
 have mem:∀j,j∈splits t↔j<t.size/\kN (en t 0 j)=true:=λj=>by unfold splits;rw[Bz,Bj]
 exact⟨BQ,λj _ _=>z j,λj hj hn a b e=>absurd ((mem j).mpr ⟨hj,by rw[e];rfl⟩) hn,λi j hi hj hni _ pi _ _=>absurd ((mem i).mpr ⟨hi,pi⟩) hni,Gh _,λj hj=>(mem j).mp hj,List.Pairwise.filter _ Dx⟩
theorem Gn(t:Tr):fV 0 ((t.nd 0).map Ent.pv)=(AN t.size).map λj=>PV.tup [.int ((j:Nat):Int),(en t 0 j).pv]:=by
 have hl:(fV 0 ((t.nd 0).map Ent.pv)).length=t.size:=by rw[eL,Am,t.bb]
 apply CM;intro i;by_cases hi:i<t.size
 .have h1:(fV 0 ((t.nd 0).map Ent.pv))[i]?=al ((fV 0 ((t.nd 0).map Ent.pv))[i]'∅):=Af _;obtain⟨y,hy,e⟩:=jr h1;rw[An,oJ t 0 i hi]at hy;rw[h1,e,<- (Option.some.inj hy),An,C3 hi,F6];rfl
 .rw[A2 ∅,A2 (by rw[Am,EJ];lia)]
def N6:PV->Option PV
 |.tup [_,.str _]=>bn
 |.tup [k,_]=>al k
 |_=>bn
def Si(t:Tr):(fV 0 ((t.nd 0).map Ent.pv)).filterMap N6=bK (splits t):=by
 rw[Gn];unfold splits;generalize AN t.size=l
 induction l with
 |nil=>rfl
 |cons j l ih=>
  rw[AY,Bh,DD];cases e:en t 0 j with
  |word w=>exact ih
  |pair a b=>
   rw[ih];rfl
def qY(l:O Nat):bK l=(l.map λn=>((n:Nat):Int)).map PV.int:=by unfold bK;rw[BC];rfl
theorem pF(y:Nat):∀l:O Nat,(l.map λn=>((n:Nat):Int)).erase (y:Int)=(l.erase y).map λn=>((n:Nat):Int)
 |[]=>rfl
 |a::l=>by
  rw[AY,List.erase_cons,List.erase_cons,pF y l];by_cases c:a=y
  .subst c;simp
  .have c1:(a==(y:Int))=false:=by simp;lia
   have c2:(a==y)=false:=by simpa using c
   rw[c1,c2];simp
theorem zy:∀(l:O Nat) (k n:Nat),l.Pairwise (· < ·)->(∀x∈l,k<=x/\x<n)->l.length<=n-k
 |[],_,_,_,_=>Bn _
 |a::l,k,n,h,hb=>by
  have h1:=(List.pairwise_cons.mp h);have h2:=hb a Bp;have ih:=zy l (a+1) n h1.2 λx hx=>⟨h1.1 x hx,(hb x (AD _ hx)).2⟩;rw[Ap];lia
def ZE(s:Nat):Ent->Ent
 |.word x=>.word x
 |.pair p q=>.pair (p+s) (q+s)
theorem xK:∀(t:Tr) (o s:Nat),t.nd (o+s)=(t.nd o).map (ZE s)
 |.leaf _,_,_=>rfl
 |.node a b,o,s=>by
  have ha:=a.size_pos;rw[Tr.nd,Tr.nd,xK a o s,show o+s+a.size=o+a.size+s by omega,xK b (o+a.size) s,BH,BH];congr 2;congr 1<;>lia
def LP{m:O PV}(h:l.length+m.length<=1000):LQ l m=.ret (l++m):=wn (bA h)
theorem SA(k:Nat)(l:O Nat)(b:Bool):KL b (.int (k:Int)) (bK l)=.ret (if b then !decide (k∈l) else decide (k∈l)):=by
 have h1:SD (.int k) (bK l):=⟨by simp,pw.mpr λx hx=>by
  obtain⟨n,_,rfl⟩:=AR.mp hx;simp,pC λx hx=>by
  obtain⟨n,_,rfl⟩:=AR.mp hx;simp⟩
 have h2:vJ (.int (k:Int)) (bK l)=decide (k∈l):=by
  unfold vJ bK;rw[List.any_map]
  induction l with
  |nil=>simp
  |cons a l ih=>
   have ih:=ih ⟨by simp,pw.mpr λx hx=>by
    obtain⟨n,_,rfl⟩:=AR.mp hx;simp,pC λx hx=>by
    obtain⟨n,_,rfl⟩:=AR.mp hx;simp⟩
   rw[Cq,ih];by_cases c:a=k
   .subst c;simp
   .have c1:(a==(k:Int))=false:=by simp;lia
    have c2:¬k=a:=λz=>c z.symm;simp[c1,c2]
 unfold KL;rw[wn h1,h2]
def LM(l:O Nat):qD (bK l)=true:=wB.mpr λx hx=>by
 obtain⟨n,_,rfl⟩:=AR.mp hx;rw[PV.dat]<;>simp
def aP(ds:O Int):O PV:=ds.map PV.int
@[simp] theorem ff(ds:O Int):(aP ds).length=ds.length:=Am _
def KI(ds:O Int)(y:Nat)(v:Int):(aP ds).set y (.int v)=aP (ds.set y v):=by unfold aP;rw[List.map_set]
def Iv(t:Tr)(left:O Nat)(j:Nat):Bool:=match en t 0 j with
 |.pair a b=>!decide (a∈left)&&!decide (b∈left)
 |_=>false
theorem Oh(h:k<n):vH n (k:Int)=al k:=by
 unfold vH;rw[if_pos ∅,if_pos ∅];simp
def M9{v:PV}(h:k<l.length):uZ l (.int (k:Int)) v=.ret (l.set k v):=by
 unfold uZ;simp[Oh h]
def Kg(t:Tr)(h:j<t.size):dY ((t.nd 0).map Ent.pv) (j:Int)=al (en t 0 j).pv:=lj (by rw[An,oJ t 0 j h];rfl)
theorem Dt.Vt(D:Dt t ds left d)(he:left≠[]):bK (left.filter (Iv t left))≠[]:=by
 obtain⟨l0,l1,rfl⟩:∃l0 l1,left=l0::l1:=by cases left with|nil=>exact absurd rfl he|cons a l=>exact⟨a,l,rfl⟩
 have Ql:Iv t (l0::l1) l0=true:=by
  obtain⟨h1,h2⟩:=D.Uj l0 (.head _);unfold Iv;cases e:en t 0 l0 with
  |word w=>rw[e]at h2;cases h2
  |pair a b=>
   obtain⟨g1,g2⟩:=ju t h1 e;have Ý:∀y∈l0::l1,l0<=y:=λy hy=>by
    rcases Az.mp hy with rfl|hy
    .exact Aj _
    .exact Ed ((List.pairwise_cons.mp D.Yb).1 y hy)
   have na:a∉l0::l1:=λz=>by have:=Ý a z;lia
   have nb:b∉l0::l1:=λz=>by have:=Ý b z;lia
   show(!decide _&&!decide _)=true;rw[decide_eq_false na,decide_eq_false nb];rfl
 intro z;have:=congrArg CU z;rw[vk]at this;have m:=Bz.mpr ⟨show l0∈l0::l1 from .head _,Ql⟩;rw[List.length_eq_zero_iff.mp this]at m;cases m
theorem MH(h:Wd x):jd (.str x)=.ret (.bl true):=by
 unfold jd;obtain⟨h1,h2,h3⟩:=h;have c1:x.length<=sizeLine:=bA ∅;have c2:x.cps.size<=sizeLine:=c1;have c3:(1:Int)<=(x.length:Int):=by omega
 have c4:(x.length:Int)<=8:=by omega
 simp only[r9,kX,nM,aV,Bm,Aq,if_false,z9,wn c1,Ll,c3,c4,decide_true,HN,fk,Lf,wn c2];rw[jc (g:=λ_=>PV.bl true) λy hy=>?_]
 .simp only[r9];rw[all_map (λ_=>true)];congr 2;exact Bk.mpr λ_ _=>rfl
 .obtain⟨c,hc,rfl⟩:=AR.mp hy;obtain⟨k1,k2⟩:=h3 c hc;simp only[Td,yg k1 k2]
def Jo(l:O PV)(n:Int):eY (.tup l) (.int n)=.ret (.bl ((l.length:Int)==n)):=by
 unfold eY;simp only[r9,fU,tR,tT,nL,yA]
def Rj(x:Str)(n:PV):eY (.str x) n=.ret (.bl false):=by
 unfold eY;simp only[r9,kX,tS,OL]
def IP(i:Int):eX (.int i)=.ret (.bl true):=by
 unfold eX;simp
theorem K3(t:Tr)(hw:t.Ws)(b:Bool)(hd:b=true\/t.aF.Nodup)(hz:t.size<=900):(gW t.pv (.bl b)).le (.ret (.bl true)):=λQ q=>by
 unfold gW;simp only[r9,lm];refine w6 (λn s=>∃(ts:O Tr) (ay:O (Key×PV)),n=bP ts/\s=(ay,ts.map Tr.pv)/\(∀x∈ts.flatMap Tr.aF,Wd x)/\(b=true\/(ts.flatMap Tr.aF).Nodup/\∀x∈ts.flatMap Tr.aF,mZ ay (.inr x)=false)/\bP ts+ay.length<=900) (n:=bP [t]) ⟨[t],[],rfl,rfl,λx hx=>hw x (by simpa using hx),by rcases hd with h|h;exact .inl h;exact .inr ⟨by simpa using h,by simp[mZ]⟩,by rw[du];simpa using hz⟩ ?_;rintro n s ⟨ts,ay,rfl,rfl,h1,h2,h3⟩;by_cases he:ts=[]
 .subst he;exact q
 .obtain⟨us,u,rfl⟩:=zr he;have hsu:=u.size_pos;have Oq:=lN us;rw[bt,du]at h3;have ee:(!((us++[u]).map Tr.pv).isEmpty)=true:=by simp
  have em:(us++[u]).map Tr.pv=us.map Tr.pv++[u.pv]:=by simp
  simp only[r9,ut,ee,if_true,lm];rw[em];simp only[Lh,ut];cases u with
  |leaf x=>
   have wx:Wd x:=h1 x (by simp[Tr.aF]);have c1:ay.length<sizeLine:=qQ ∅;have cb:=h2.imp id λh=>h.2 x (by simp[Tr.aF]);have ct:(if (mZ ay (.inr x))=true then (ap (!b)) else ap false)=ap false:=by
    rcases cb with h|h
    .rw[h];split<;>rfl
    .rw[h];rfl
   simp only[Tr.pv,Rj,aV,ut,Aq,if_false,MH wx,Bm,r9,OG,ct,Rx,wn c1,lm];refine⟨bP us,by rw[bt,du];show bP us<bP us+1;lia,us,_,rfl,rfl,λy hy=>h1 y (by simp[hy]),?_,?_⟩
   .rcases h2 with h|⟨h,k⟩
    .exact .inl h
    .right
     rw[Ct]at h;have nx:x∉us.flatMap Tr.aF:=λz=>by
      have:=(EI.mp h).2.2 x z x (by simp[Tr.aF]);exact this rfl
     refine⟨(EI.mp h).1,λy hy=>?_⟩;have ky:=k y (by simp[hy]);have kx:=k x (by simp[Tr.aF]);have nyx:x≠y:=λz=>nx (z▸hy);unfold xv;rw[kx];show mZ (ay++[_]) _=false;unfold mZ at ky ⊢;rw[List.any_append,ky];simp[nyx]
   .have:(xv ay (.inr x) (.bl true)).length<=ay.length+1:=by
     unfold xv
     split<;>simp
    lia
  |node c d=>
   have hsz:(Tr.node c d).size=c.size+d.size+1:=rfl;have e1:Lb (us.map Tr.pv) [c.pv,d.pv]=.ret (us.map Tr.pv++[c.pv,d.pv]):=wn (bA (by simp;lia));have e2:(([c.pv,d.pv].length:Int)==2)=true:=rfl;simp only[Tr.pv,Jo,e2,aV,ut,if_true,cu,e1,lm];have e3:bP [c,d]=c.size+d.size:=by simp[bP]
   refine⟨bP (us++[c,d]),by rw[bt,bt,du,e3];lia,us++[c,d],ay,rfl,by simp,λy hy=>h1 y (by simpa[Tr.aF,Ct]using hy),?_,by rw[bt,e3];lia⟩;refine h2.imp id λ⟨h,k⟩=>⟨by simpa[Tr.aF,Ct]using h,λy hy=>k y (by simpa[Tr.aF,Ct]using hy)⟩
theorem GQ:∀ns l Q,cW ns->((gN 1 bW) l).run Q->((λlo l=>gN 1 (cJ lo) l) (ns.map PV.int) l).run λt=>Q t.1/\∃RY:O Int,t.2=RY.map PV.int/\cW RY:=by
 rintro ns l Q ⟨g,s,rfl,g0,s0,s1⟩ q
 match l,q with
 |[],q=>exact q.elim
 |_::_::_,q=>exact q.elim
 |[x],q=>
  show(cJ _ x).run _;have q:=q;cases x with
  |int m=>
   obtain⟨⟨m0,m1⟩,q⟩:=q;have q:∀d:Int,0<=d->d<m->Q (.int d):=λd h0 h1=>q _ ⟨d,rfl,h0,h1⟩;unfold cJ;generalize hA:(2305843009213693951:Int)=A;generalize hB:(6364136223846793005:Int)=B;generalize hC:(1442695040888963407:Int)=C;have A0:0<A:=by omega
   by_cases hg:0<g
   .simp[dY,vH,hg,m0,uZ,Ml];refine⟨by omega,q _ (B9 _ ∅) (BV _ m0),[g / m,s],rfl,_,_,rfl,Int.ediv_nonneg g0 ∅,s0,s1⟩
   .have e1:Gc s B:=Kh ∅ ∅;simp[dY,vH,hg,m0,uZ,aaf,e1,A0,Ml];generalize hM:(s*B+C) % A=M;have M0:0<=M:=by rw[<- hM];exact B9 _ ∅
    have M1:M<A:=by rw[<- hM];exact BV _ A0
    refine⟨Kh ∅ ∅,q _ (B9 _ ∅) (BV _ m0),[g,M],rfl,_,_,rfl,g0,M0,by omega⟩
  |_=>exact q.elim
theorem ym{k:Int}(k0:0<=k)(k1:k<=1000)(q:∀l,(∃ms:O Int,l=ms.map PV.int/\cW ms)->Q l):(dF (.cl (ns.map PV.int)) (.int k)).run Q:=by
 unfold dF;generalize hA:(2305843009213693951:Int)=A;generalize hB:(2305843009213693921:Int)=B;have A0:0<A:=by omega
 have B0:0<B:=by omega
 have fin:∀x:Int,(am (b2 iH (b2 oMod (c1 wJ (ap (.int x))) (b2 iH (b2 iH (b2 qi (ap (.int 10)) (ap (.int 60))) (b2 qi (ap (.int 10)) (ap (.int 60)))) (b2 qi (ap (.int 10)) (ap (.int 60))))) (c1 wI (b2 Yj (c1 wJ (ap (.int x))) (b2 qi (ap (.int 10)) (ap (.int 18)))))) λeI=>
 (eI\λx4=>am (b2 oMod (b2 iH (w2 addW (w2 addW (b2 oMod (ap (.int x)) (ap (.int B))) (b2 iH (b2 iH (ap (.int 104729)) (ap (.int k))) (ap (.int k)))) (ap (.int 7))) (ap (.int 48271))) (ap (.int A))) λx5=>ap [x4,x5])).run Q:=by
  intro x;have p1:Mj 10 60:=⟨by decide,by decide,by decide⟩;have p2:Mj 10 18:=⟨by decide,by decide,by decide⟩;have c1:Gc 104729 k:=mulL ∅;have c2:Gc (104729*k) k:=mulR ∅;have c3:∀y,Gc y 48271:=λy=>mulR ∅;simp only[r9,S9,wn p1,wn p2,Lj,tQ,Xh,Fl,dH,Tg,W.LO,W.Nf,ut,wn c1,wn c2,wn (c3 _),wn A0,wn B0];refine⟨Gf (by decide +kernel) (by decide +kernel),Gf (by decide +kernel) (by decide +kernel),by decide +kernel,?_,?_⟩
  .split
   .exact mulR ∅
   .exact mulR ∅
  .refine q _ ⟨[_,_],rfl,_,_,rfl,Int.mul_nonneg (B9 _ (by decide +kernel)) ?_,B9 _ ∅,by rw[hA];exact BV _ A0⟩
   split<;>first|decide|(split<;>decide)
 cases ns with
 |nil=>
  simp only[E7,r9,jo,List.isEmpty_nil,Bm,Aq,if_false];exact fin 0
 |cons n ns=>
  have l0:(0:Int)<((n::ns).map PV.int).length:=by simp
  obtain⟨v,e,e2⟩:=L8 (xs:=(n::ns).map PV.int) (B9 k ∅) (BV k l0);rw[An]at e2;obtain⟨c,rfl⟩:∃c,v=.int c:=by
   cases z:(n::ns)[(k % ((n::ns).map PV.int).length).toNat]? with
   |none=>rw[z]at e2;cases e2
   |some c=>rw[z]at e2;exact⟨c,(Option.some.inj e2).symm⟩
  have e3:(!((n::ns).map PV.int).isEmpty)=true:=rfl;simpa only[r9,jo,e3,if_true,g8,fR,tQ,wn l0,eA,e,W.bp]using fin c
theorem vp(h0:0<=d)(h1:d < 3):∃bg:Str,dY [PV.str "",PV.str "",PV.str "ab"] d=al (.str bg)/\Part bg 2:=by
 have:d=0\/d=1\/d=2:=by omega
 rcases this with rfl|rfl|rfl
 .exact⟨"",rfl,by decide +kernel,by decide +kernel⟩
 .exact⟨"",rfl,by decide +kernel,by decide +kernel⟩
 .exact⟨"ab",rfl,by decide +kernel,by decide +kernel⟩
theorem Hg(h0:0<=d)(h1:d < 4):∃bg:Str,dY [PV.str "",PV.str "a",PV.str "zz",PV.str "abcde"] d=al (.str bg)/\Part bg 5:=by
 have:d=0\/d=1\/d=2\/d=3:=by omega
 rcases this with rfl|rfl|rfl|rfl
 .exact⟨"",rfl,by decide +kernel,by decide +kernel⟩
 .exact⟨"a",rfl,by decide +kernel,by decide +kernel⟩
 .exact⟨"zz",rfl,by decide +kernel,by decide +kernel⟩
 .exact⟨"abcde",rfl,by decide +kernel,by decide +kernel⟩
theorem uU{m:Int}(m0:0<=m)(m1:m<=26)(q:∀ws:O Str,ws.length=m.toNat->(∀x∈ws,Wd x)->ws.Nodup->Q (ws.map PV.str)):(c6 (.int m)).run Q:=by
 unfold c6;simp only[r9,lm,de 26 ⋯ ⋯,de 6 ⋯ ⋯,de 3 ⋯ ⋯];refine bF λd1 a1 b1=>bF λd3 a3 b3=>?_;obtain⟨st,ly,kst⟩:=xO a3 b3;simp only[eA,ly,W.bp,ut];refine bF λd5 a5 b5=>?_;obtain⟨bg,hbg,kbg⟩:=vp a5 b5;simp only[eA,hbg,W.bp,ut,kW,wn (gA (i:=0) (j:=m) ∅ ∅)];have lb:=kbg.1;refine vP (λi s=>∃ws:O Str,s=ws.map PV.str/\ws.length=i/\(∀x∈ws,Wd x)/\(ws.map λx=>x.cps[bg.length]?)=(AN i).map λk:Nat=>al (97+((d1+st*(0+(k:Int))) % 26).toNat)) ⟨[],rfl,rfl,by simp,rfl⟩ ?_ ?_
 .rintro i s hi ⟨ws,rfl,hl,hw,hs⟩;have e0:0<=(d1+st*(0+(i:Int))) % 26:=B9 _ ⋯;have e1:(d1+st*(0+(i:Int))) % 26<26:=BV _ ⋯;have e2:(d1+st*(i:Int))=d1+st*(0+(i:Int)):=by rw[Fc]
  have c1:Gc st (i:Int):=mulL ∅;have c2:("abcdefghijklmnopqrstuvwxyz":Str).length<=sizeLine:=by decide +kernel
  have c3:bg.length+(⟨#[97+((d1+st*(0+(i:Int))) % 26).toNat]⟩:Str).length<=sizeLine:=bA (by show bg.length+1<=1000;lia);simp only[r9,lm,de 4 ⋯ ⋯];refine bF λd7 a7 b7=>?_;obtain⟨en,hen,ken⟩:=Hg a7 b7;have le:=ken.1;have c4:(bg++(⟨#[97+((d1+st*(0+(i:Int))) % 26).toNat]⟩:Str)).length+en.length<=sizeLine:=bA (by rw[B5];show bg.length+1+en.length<=1000;lia);simp only[eA,hen,W.bp,ut,r9,Lj,wn c1,dH,tQ,wn (show(0:Int)<26 by decide),e2,Tc _ _ (Hn e0 e1),wn c2,OM,wn c3,wn c4];rw[md (by rw[Am,hl];lia)];refine⟨ws++[bg++⟨#[97+((d1+st*(0+(i:Int))) % 26).toNat]⟩++en],by rw[BH];rfl,by rw[Ah,hl];rfl,?_,by rw[BH,hs,List.range_succ,BH,List.map_singleton,List.map_singleton,GK]⟩;intro x hx;rcases C7.mp hx with z|z
  .exact hw x z
  .rw[Ci.mp z];exact MJ kbg ken ∅ ∅
 .rintro s ⟨ws,rfl,hl,hw,hs⟩;have nd:(ws.map λx=>x.cps[bg.length]?).Nodup:=by rw[hs];exact qq kst ∅
  exact q ws hl hw (sT (g:=λx:Str=>x.cps[bg.length]?) nd)
end My
variable{P:AW}{iA qM ml zd:PySem.Tok}
namespace My
section
instance adI:bj:=⟨[(209,"read_dates.<locals>.<lambda>"),(285,"law.<locals>.<lambda>")]⟩
def top(i:Nat):sK:=BZ.main.body.getD i (.Pass ⟨0,0,0,0⟩)
abbrev dV(i k:Nat)(ks:O AK)(n:Nat)(m:rP PV n):DF:=⟨dnm (top i),top i,nu (top i),k,λK=>mn K ks (gN n m)⟩
abbrev dL(i k:Nat)(ks:O AK)(n:Nat)(m:rP (O PV) n):DF:=⟨dnm (top i),top i,nu (top i),k,λK=>mQ K ks (gN n m)⟩
abbrev dv(i k n:Nat)(m:rP PV n):DF:=dV i k (Ar n .v) n m
abbrev qm:wS:=Hm [("sign",lo),("LETTERS",gi)]
def kI:LS (top 6) qm:=lcs
abbrev kG:wS:=Hm [("house",lo),("date",lo),("isinstance",gi),("str",gi)]
def dw:LS (top 13) kG:=lcs
abbrev qo:wS:=Hm [("half",lo),("dates",fr)]
def kJ:LS (top 14) qo:=lcs
abbrev oS:wS:=Hm [("date",lo),("is_whole",gi)]
abbrev oQ:wS:=Hm [("house",lo),("is_date",gi),("houses",fr),("thing",fr)]
def jG:LS (top 15) oS:=lcs
def jF:LS (top 15) oQ:=lcs
abbrev jY:wS:=Hm [("number",lo),("str",gi)]
def fK:LS (top 23) jY:=lcs
def gQ:bu (p8 (top 36)) (nu (top 36)) (ai (top 36)):=tM
def og:bu (p8 (top 40)) (nu (top 40)) (ai (top 40)):=tM
def eD:bu (p8 (top 41)) (nu (top 41)) (ai (top 41)):=tM
abbrev mU:wS:=Hm [("_law_node",lo),("isinstance",gi),("str",gi),("_law_far",fr)]
def iM:LS (top 41) mU:=lcs
abbrev lL:wS:=Hm [("_law_house",lo),("_law_told",lo),("isinstance",gi),("tuple",gi)]
abbrev lK:wS:=Hm [("_law_house",lo),("_law_left",fr),("_law_rows_here",fr)]
def d6:LS (top 42) lL:=lcs
def il:LS (top 42) lK:=lcs
def su:bu (p8 (top 43)) (nu (top 43)) (ai (top 43)):=tM
abbrev mT:wS:=Hm [("_law_one",lo),("_law_other",lo),("_law_same",gi)]
def fb:LS (top 43) mT:=lcs
abbrev iL:wS:=Hm [("_law_date",lo),("_law_told",lo),("isinstance",gi),("tuple",gi)]
abbrev iK:wS:=Hm [("_law_date",lo)]
def cH:LS (top 45) iL:=lcs
def eg:LS (top 45) iK:=lcs
abbrev Hl:wS:=Hm [("_law_date",lo),("str",gi)]
def vA:LS (top 46) Hl:=lcs
structure NB(v:EV):Prop where
 isinstance:v.mg "isinstance"=bn
 bool:v.mg "bool"=bn
 int:v.mg "int"=bn
 len:v.mg "len"=bn
 tuple:v.mg "tuple"=bn
 str:v.mg "str"=bn
 all:v.mg "all"=bn
 list:v.mg "list"=bn
 reversed:v.mg "reversed"=bn
 zip:v.mg "zip"=bn
 max:v.mg "max"=bn
 set:v.mg "set"=bn
 range:v.mg "range"=bn
 abs:v.mg "abs"=bn
 enumerate:v.mg "enumerate"=bn
variable{v:EV}
abbrev hU:DF:=dv 1 1 1 eX
def ya(D:DI v hU)(q:NB v):D.O:=
 IA D λhr nd bh=>
 (SF.df (wd (cF rfl .int rfl q.isinstance (ae 0) rfl q.int boot_int) (vZ (Xm (cF rfl .bool rfl q.isinstance (ae 0) rfl q.bool boot_bool)))) λ_=>rfl)
abbrev iY:DF:=dv 2 1 2 eY
def Ky(D:DI v iY)(q:NB v):D.O:=
 IA D λhr nd bh gD=>
 (SF.df (wd (cF rfl .tup rfl q.isinstance (ae 0) rfl q.tuple Ix) (vZ (iX (oW rfl (bI hr)) (dS rfl rfl q.len (ae 0)) (ae 1)))) λ_=>rfl)
abbrev eM:DF:=dv 6 1 1 jd
def rj(D:DI v eM)(q:NB v)(bS:v.mg "LONGEST_WORD"=al (.int 8 iA))(eO:v.mg "LETTERS"=al (.str "abcdefghijklmnopqrstuvwxyz" qM)):D.O:=
 IA D λhr nd bh=>
 (SF.uK (uz.t (nW (eS (bO rfl (cF rfl .str rfl q.isinstance (ae 0) rfl q.str FS) (λ_=>rfl))) (jP (eS (MR vG vG au (dS rfl rfl q.len (ae 0)) (LB bS rfl))))))
 (SF.df iw λ_=>rfl)
 (SF.df (wg rfl rfl rfl q.all (f7 (j5 rfl kI (Sy (ae 0)) (λ_ _ _ _ _=>(nv 0 kI.nd)) (λ_ _ _ _ _ p2=>(iX (Su rfl) (ae 0) (LA eO rfl))) rfl))) λ_=>rfl))
abbrev hV(fj:db):DF:=dV 7 2 [.v,.f fj [] [] [],.v] 2 gW
theorem yb{fj:db}(D:DI v (hV fj))(yp:T5 v.P v.w v.K v.mg v.base fj [] [] [] eM.k eM.ps (eM.sp v.K))(pe:iY.C v):D.O:=
 IA D λhr nd bh xG=>
 (SF.ZH (i:=3) nd rfl (Bs rfl)
 (sl 4 nd (cj (n:=1) (av 0 az) rfl) λdr=>
 (SF.nS (hd:=(λ(s4:O (Key×PV)×O PV)=>([al (.val bh),al (.adr fj [] [] []),al (.val xG),al (.od s4.1),al (.ol bn s4.2),bn]:aM))) (s0:=([],dr)) (inj:=id) BO (.refl _) (λs4=>(Pp rfl (fH 4) (λ_=>rfl))) (λ_=>trivial) (λs4=>
 (SF.sH 4 5 rfl ⋯ rfl rfl (.inl rfl) nd rfl (Bs rfl) λt7=>
 (SF.Wu (bO rfl (eC pe hr (av 5 (ak au az))) (λ_=>rfl))
 (SF.extend 4 rfl rfl rfl (.inl rfl) (bQ (ae 5)) λeQ=>
 (SF.oH rfl (.m 32)))
 (SF.Wu (uz.t (nW (eS (bO rfl (OQ 1 yp rfl hr (by first|exact BE rfl|lia) rfl (av 5 az) rfl) (λ_=>rfl))) (jP (uz.t (rV (UU 3 rfl (bI hr) (ae 5)) (nk (eS (bO rfl (ae 2) (λ_=>rfl)))))))))
 (SF.ret (k:=λIM=>(Lp.out IM)) iw λ_=>rfl)
 (SF.putD 3 rfl (bI hr) rfl (.inl rfl) iw (ae 5) λzu=>
 (SF.oH rfl (.m 32))))))) λs4=>
 (SF.df iw λ_=>rfl))))
abbrev hX:DF:=dv 8 3 1 gX
def yc(D:DI v hX){pD:db}(Ik:v.mg "is_word"=al (.ref pD))(yu:(hV pD).C v):D.O:=
 IA D λhr nd bh=>
 (SF.df (eC yu hr (av 0 (abu rfl Ik (ak iw az)))) λ_=>rfl)
abbrev hO:DF:=dL 9 1 [.v] 1 jW
def xZ(D:DI v hO)(q:NB v):D.O:=
 Ym D λhr nd bU=>
 (sl 1 nd (cj (n:=0) az rfl) λka=>
 (sl 2 nd (cj (n:=1) (av 0 az) rfl) λdr=>
 (SF.Pj (hd:=(λ(s4:O PV×O PV)=>([al (.val bU),al (.ol bn s4.1),al (.ol bn s4.2),bn]:aM))) (s0:=(ka,dr)) BO (.refl _) (λs4=>(Pp rfl (fH 2) (λ_=>rfl))) (λs4=>
 (SF.sH 2 3 rfl ⋯ rfl rfl (.inl rfl) nd rfl (Bs rfl) λt7=>
 (SF.append 1 rfl rfl rfl (.inl rfl) (ae 3) λj9=>
 (SF.Wu (eS (bO rfl (cF rfl .str rfl q.isinstance (ae 3) rfl q.str FS) (λ_=>rfl)))
 (SF.extend 2 rfl rfl rfl (.inl rfl) (bQ (ae 3)) λeQ=>
 (SF.oH rfl (.m 8)))
 (SF.oH rfl (.m 8)))))) λs4=>
 (SF.oo (Wb rfl rfl rfl q.list rfl q.reversed (JA 1)) λ_=>rfl))))
abbrev nN:DF:=dv 10 2 1 nC
def Od(D:DI v nN)(q:NB v)(yr:hO.C v):D.O:=
 IA D λhr nd bU=>
 (sl 1 nd (cj (n:=0) az rfl) λxg=>
 (sl 2 nd (cj (n:=0) az rfl) λsW=>
 (SF.S2 (hd:=(λ(s4:O PV×O PV)=>([al (.val bU),al (.ol bn s4.1),al (.ol bn s4.2),bn,bn,bn]:aM))) (s0:=(xg,sW)) BO rfl (iP rfl (Wv (lC yr hr (av 0 az)))) (.refl _) (nv 3 nd) (λs4 sP=>
 (SF.ifS (out1:=λ(Ri:O PV×O PV)=>.nx ([al (.val bU),al (.ol bn Ri.1),al (.ol bn Ri.2),al (.val sP),bn,bn]:aM)) (bO rfl (cF rfl .str rfl q.isinstance (ae 3) rfl q.str FS) (λ_=>rfl))
 (SF.append 1 rfl rfl rfl (.inl rfl) (ae 3) λzc=>
 (SF.nil rfl (.refl _)))
 (SF.sH 2 4 rfl ⋯ rfl rfl (.inl rfl) nd rfl (Bs rfl) λZA=>
 (SF.sH 2 5 rfl ⋯ rfl rfl (.inl rfl) nd rfl (Bs rfl) λZz=>
 (SF.append 1 rfl rfl rfl (.inl rfl) (j6 (n:=2) (av 5 (av 4 az)) rfl) λzb=>
 (SF.nil rfl (.m 48)))))
 λRi=>(SF.append 2 rfl rfl rfl (.inl rfl) (vY (yE rfl rfl q.len (fH 1)) au) λvv=>
 (SF.oH rfl (.m 8))))) λs4=>
 (SF.df (Gp rfl rfl q.tuple (fH 1)) λ_=>rfl))))
abbrev dI:DF:=dL 13 1 [.v,.v] 2 dE
def qr(D:DI v dI)(q:NB v):D.O:=
 Ym D λhr nd jl fm=>
 (SF.oo (Qh rfl dw (tw rfl rfl q.zip (dj (ae 0)) (dj (ae 1))) (λ_ _ _ _ _=>(W0 rfl (oy rfl (cI (nv 0 dw.nd) (cI (nv 1 dw.nd) ku))))) (λ_ _ _ _ _ t5=>(eS (bO rfl (cF rfl .str rfl q.isinstance (ae 0) rfl q.str FS) (λ_=>rfl)))) (λ_ _ _ _ _ t5=>(ae 1)) (N9 rfl rfl ⋯) ⋯) λ_=>rfl)
abbrev jv:DF:=dv 14 1 3 je
def Hu(D:DI v jv)(q:NB v)(dU:v.mg "LAST_DATE"=al (.int 99 ml)):D.O:=
 IA D λhr nd jl fm lU=>
 (SF.uK (bO rfl (cF rfl .str rfl q.isinstance (cx rfl (bQ (ae 0)) (ae 2)) rfl q.str FS) (λ_=>rfl))
 (SF.df (iX (oW rfl (bI hr)) (cx rfl (bQ (ae 1)) (ae 2)) au) λ_=>rfl)
 (sv 3 nd (Th rfl rfl rfl q.max (f7 (j5 rfl kJ (iP rfl (dj (cx rfl (bQ (ae 0)) (ae 2)))) (λ_ _ _ _ _=>(nv 0 kJ.nd)) (λ_ _ _ _ _ p3=>(cx rfl (bQ (ae 1)) (ae 0))) rfl))) λbelow_1=>
 (SF.df (wd (iX KA (ae 3) (cx rfl (bQ (ae 1)) (ae 2))) (vZ (Gu vG vG au (cx rfl (bQ (ae 1)) (ae 2)) (LB dU rfl)))) λ_=>rfl)))
abbrev j7:DF:=dv 15 4 2 aU
def yd(D:DI v j7)(q:NB v)(yw:hX.C v)(Oz:nN.C v)(yt:hU.C v)(pe:iY.C v)(qx:dI.C v)(HJ:jv.C v):D.O:=
 IA D λhr nd yn bh=>
 (SF.uK (eS (bO rfl (eC yw hr (av 0 az)) (λ_=>rfl)))
 (SF.df iw λ_=>rfl)
 (sv 2 nd (eC Oz hr (av 0 az)) λiT=>
 (SF.uK (uz.t (nW (eS (bO rfl (eC pe hr (av 1 (ak (dS rfl rfl q.len (ae 2)) az))) (λ_=>rfl))) (jP (eS (bO rfl (wg rfl rfl rfl q.all (f7 (j5 rfl jG (iP rfl (dj (ae 1))) (λ_ _ _ _ _=>(nv 0 jG.nd)) (λ_ _ _ _ _ p5=>(eC yt hr (av 0 az))) rfl))) (λ_=>rfl))))))
 (SF.df iw λ_=>rfl)
 (sl 3 nd (lC qx hr (av 2 (av 1 az))) λn8=>
 SF.cE 3 rfl (SF.uK (jE (oV rfl (bI hr)) (v8 rfl rfl rfl q.len rfl q.set (lE (ae 3))) (dS rfl rfl q.len (ae 3)))
 (SF.df iw λ_=>rfl)
 (SF.df (wg rfl rfl rfl q.all (f7 (j5 rfl jF (kM rfl q.range (dS rfl rfl q.len (ae 2))) (λ_ _ _ _ _=>(nv 0 jF.nd)) (λ_ _ _ _ _ Yf=>(eC HJ hr (av 1 (av 2 (av 0 az))))) rfl))) λ_=>rfl))))))
abbrev fo:DF:=dv 23 1 2 eW
def oU(D:DI v fo)(q:NB v):D.O:=
 IA D λhr nd vi PF=>
 (SF.df (Gs rfl (ae 1) (j5 rfl fK (iP rfl (dj (ae 0))) (λ_ _ _ _ _=>(nv 0 fK.nd)) (λ_ _ _ _ _ p2=>(Lw rfl hr rfl q.str (ae 0))) rfl)) λ_=>rfl)
abbrev hJ:DF:=dv 24 2 1 cZ
def sZ(D:DI v hJ)(jw:v.mg "POINT"=al (.str "." zd))(o9:fo.C v):D.O:=
 IA D λhr nd fm=>
 (SF.df (eC o9 hr (av 0 (ak (LA jw rfl) az))) λ_=>rfl)
abbrev uc:DF:=(dRD aU)
abbrev i4:DF:=dL 35 1 [.v,.v] 2 dF
def vE(D:DI v i4)(q:NB v):D.O:=
 Ym D λhr nd dC k_=>
 (sv 2 nd (Ti (Pq rfl (bI hr) (lE (ae 0))) (cx rfl (bQ (ae 0)) (jI (ae 1) (dS rfl rfl q.len (ae 0)))) au) λuf=>
 (sv 3 nd (kY (jI (Qy rfl q.abs (ae 2)) (kY (kY (Gr au au) (Gr au au)) (Gr au au))) (Gq rfl q.int (iX Wq (Qy rfl q.abs (ae 2)) (Gr au au)))) λeI=>
 (SF.oo (cj (n:=2) (av 3 (ak (jI (kY (cm rfl (cm rfl (jI (ae 2) au) (kY (kY au (ae 1)) (ae 1))) au) au) au) az)) rfl) λ_=>rfl)))
abbrev cO:DF:=dV 36 1 [.p (m9 λ_=>cW) 0,.v] 1 bW
def vD(D:DI v cO):D.O:=
 RB (n:=1) (fnO (n:=1) (m:=cJ) D.fn gQ rfl λad bZ l hl=>match l,hl with|[gD],_=>λ_ _ _ _ _ _ hr=>show SF _ _ _ [al (.ol (al ad) bZ),al (.val gD),bn,bn] _ (cJ bZ gD) _ from
 (SF.uK (jE Wo (cx rfl (fH 0) au) au)
 (sv 2 gQ.nd (jI (cx rfl (fH 0) au) (ae 1)) λGv=>
 (SF.Rg 0 rfl rfl (.inl rfl) (LC (cx rfl (fH 0) au) (ae 1)) au λiU=>
 (SF.Vs 0 (k:=λx5=>(x5,iU)) rfl (ae 2) λ_=>rfl)))
 (SF.Rg 0 rfl rfl (.inl rfl) (jI (cm rfl (kY (cx rfl (fH 0) au) au) au) au) au λfN=>
 (sv 3 gQ.nd (LC (cx rfl (fH 0) au) au) λsU=>
 (SF.Vs 0 (k:=λMF=>(MF,fN)) rfl (jI (LC (jI (kY (ae 3) (ae 3)) au) au) (ae 1)) λ_=>rfl))))) (λ_ ns l Q h _=>GQ ns l Q h)
abbrev hZ:DF:=dL 37 2 [.p (m9 λ_=>cW) 0,.v] 1 c6
def s9(D:DI v hZ)(q:NB v)(aL:cO.C v):D.O:=
 Z3 D λj hr nd gD=>
 (sv 2 nd fW λlM=>
 (SF.par (i:=3) (j:=4) rfl nd rfl rfl ⋯ rfl rfl (eP 0 aL hr (ak au az)) (cx rfl (oq (cj (n:=6) (ak au (ak au (ak au (ak au (ak au (ak au az)))))) rfl)) (eP 0 aL hr (ak au az))) λpB rZ=>
 (sv 5 nd (cx rfl (oq (cj (n:=3) (ak fW (ak fW (ak fW az))) rfl)) (eP 0 aL hr (ak au az))) λpN=>
 (sl 6 nd (cj (n:=0) az rfl) λph=>
 (SF.S2 (hd:=(λ(Rh:O PV)=>([al (.cR (m9 λ_=>cW) (j+0) (j+0)),al (.val gD),al (.val lM),al (.val pB),al (.val rZ),al (.val pN),al (.ol bn Rh),bn,bn]:aM))) (s0:=ph) BO rfl (kM rfl q.range (ae 1)) (.refl _) (nv 7 nd) (λRh Wn=>
 (sv 8 nd (cx rfl (oq (cj (n:=4) (ak fW (ak fW (ak fW (ak fW az)))) rfl)) (eP 0 aL hr (ak au az))) λLs=>
 (SF.append 6 rfl rfl rfl (.inl rfl) (cm rfl (cm rfl (ae 5) (Xp (ae 2) (jI (cm rfl (ae 3) (kY (ae 4) (ae 7))) au) (λ_ _=>rfl))) (ae 8)) λvO=>
 (SF.oH rfl (.m 384))))) λRh=>
 (SF.ZK 6 rfl rfl))))))
abbrev dJ:DF:=dV 38 2 [.p (m9 λ_=>cW) 0,.v] 1 b9
def qt(D:DI v dJ)(q:NB v)(aL:cO.C v):D.O:=
 Sa D λj hr nd zp=>
 (SF.P0 (i:=2) (j:=3) rfl nd rfl rfl ⋯ rfl rfl (Sm rfl rfl q.list (bQ (ae 1))) (eP 0 aL hr (ak au az)) λJp rY=>
 (SF.S2 (hd:=(λ(s5:O PV)=>([al (.cR (m9 λ_=>cW) (j+0) (j+0)),al (.val zp),al (.ol bn s5),al (.val rY),bn,bn,bn]:aM))) (s0:=Jp) BO rfl (kM rfl q.range (vY (dS rfl rfl q.len (ae 1)) au)) (.refl _) (nv 4 nd) (λs5 Uk=>
 (sv 5 nd (vY (yE rfl rfl q.len (fH 2)) au) λvR=>
 (sv 6 nd (cx rfl (oq (cj (n:=5) (ak au (av 5 (ak (jI (ae 4) (cm rfl (ae 5) au)) (ak (eP 0 aL hr (ak (cm rfl (ae 5) au) az)) (ak (eP 0 aL hr (ak (cm rfl (ae 5) au) az)) az))))) rfl)) (ae 3)) λL7=>
 (SF.Vn 2 rfl rfl (.inl rfl) (cj (n:=1) (ak (j6 (n:=2) (ak (cx rfl (fH 2) (ae 6)) (ak (cx rfl (fH 2) (cm rfl (ae 6) au)) az)) rfl) az) rfl) (ae 6) (cm rfl (ae 6) au) λJq=>
 (SF.oH rfl (.m 112)))))) λs5=>
 (SF.df (cx rfl (fH 2) au) λ_=>rfl)))
abbrev ic:DF:=dV 39 3 [.p (m9 λ_=>cW) 0,.v] 1 c7
def tj(D:DI v ic)(q:NB v)(aL:cO.C v)(gk:dJ.C v)(tJ:hZ.C v):D.O:=
 Sa D λj hr nd P7=>
 (sv 2 nd (cm rfl au (eP 0 aL hr (ak (cx rfl (oq (cj (n:=2) (ak au (av 1 az)) rfl)) (Gq rfl q.int (iX (oW rfl (bI hr)) (eP 0 aL hr (ak au az)) au))) az))) λKl=>
 (SF.df (eP 0 gk hr (ak (v9 (lP 0 tJ hr (av 2 az))) az)) λ_=>rfl))
abbrev gm:DF:=dL 40 12 [.v] 1 (aQ 12)
theorem jH(D:DI v gm)(q:NB v):∀n,aY v.P v.w v.K v.mg v.base ip (n+0) D.f D.fd (nu (top 40)) (mQ v.K [.v] (gN 1 (aQ n)))
 |0=>K7 (zm λl Q hl=>match l,hl with|[bU],_=>λh=>h.elim)
 |n+1=>have dG:=D.cN (jH D q n)
  fnL (k:=n+0) (n:=1) (m:=aQ (n+1)) D.fn og rfl (vg nA) λ_ l hl=>match l,hl with|[bU],_=>λ_ _ _ _ _ _ hr=>show SF _ _ _ [al (.val bU)] _ (aQ (n+1) bU) _ from
 (SF.uK (bO rfl (cF rfl .str rfl q.isinstance (ae 0) rfl q.str FS) (λ_=>rfl))
 (SF.oo (cj (n:=1) (av 0 az) rfl) λ_=>rfl)
 (SF.oo (Kt rfl (f7 (lC dG hr (ak (cx rfl (bQ (ae 0)) au) az))) (f7 (lC dG hr (ak (cx rfl (bQ (ae 0)) au) az)))) λ_=>rfl))
abbrev fX:DF:=dL 41 12 [.v] 1 (aO 12)
theorem mC(D:DI v fX)(q:NB v):∀n,aY v.P v.w v.K v.mg v.base ip (n+0) D.f D.fd (nu (top 41)) (mQ v.K [.v] (gN 1 (aO n)))
 |0=>K7 (zm λl Q hl=>match l,hl with|[bU],_=>λh=>h.elim)
 |n+1=>have cM:=D.cN (mC D q n)
  fnL (k:=n+0) (n:=1) (m:=aO (n+1)) D.fn eD rfl (vg nA) λ_ l hl=>match l,hl with|[bU],_=>λ_ _ _ _ _ _ hr=>show SF _ _ _ [al (.val bU),bn,bn,bn,bn] _ (aO (n+1) bU) _ from
 (SF.uK (bO rfl (cF rfl .str rfl q.isinstance (ae 0) rfl q.str FS) (λ_=>rfl))
 (SF.oo (cj (n:=1) (av 0 az) rfl) λ_=>rfl)
 (SF.par (i:=1) (j:=2) rfl eD.nd rfl rfl ⋯ rfl rfl (v9 (lC cM hr (ak (cx rfl (bQ (ae 0)) au) az))) (v9 (lC cM hr (ak (cx rfl (bQ (ae 0)) au) az))) λJ5 sS=>
 (sv 3 eD.nd (dS rfl rfl q.len (ae 1)) λvS=>
 (SF.M8 (i:=4) rfl eD.nd rfl rfl iM (iP rfl (dj (ae 2))) (λ_ _ _ _ _=>(nv 0 iM.nd)) (λ_ _ _ _ _ p9=>(Ti (bO rfl (cF rfl .str rfl q.isinstance (ae 0) rfl q.str FS) (λ_=>rfl)) (ae 0) (j6 (n:=2) (ak (cm rfl (cx rfl (bQ (ae 0)) au) (ae 1)) (ak (cm rfl (cx rfl (bQ (ae 0)) au) (ae 1)) az)) rfl))) rfl λzM=>
 SF.cE 4 rfl (SF.oo (Kt rfl (f7 (Kt rfl (lE (ae 1)) (lE (ae 4)))) (f7 (cj (n:=1) (ak (j6 (n:=2) (ak (vY (ae 3) au) (ak (vY (cm rfl (ae 3) (dS rfl rfl q.len (ae 2))) au) az)) rfl) az) rfl))) λ_=>rfl)))))
abbrev ig:DF:=dV 42 13 [.p (m9 λ_=>cW) 0,.v] 1 c8
def tm(D:DI v ig)(q:NB v)(cM:fX.C v)(aL:cO.C v):D.O:=
 Sa D λj hr nd cz=>
 (sl 2 nd (lC cM hr (av 1 az)) λaX=>
 SF.cE 2 rfl (SF.P0 (i:=3) (j:=4) rfl nd rfl rfl ⋯ rfl rfl (Wc (cj (n:=1) (ak au az) rfl) (dS rfl rfl q.len (ae 2))) au λg9 yJ=>
 (sl 6 nd (Qh rfl d6 (Oi rfl rfl q.enumerate (dj (ae 2))) (λ_ _ _ _ _=>(W0 rfl (oy rfl (cI (nv 0 d6.nd) (cI (nv 1 d6.nd) ku))))) (λ_ _ _ _ _ X7=>(bO rfl (cF rfl .tup rfl q.isinstance (ae 1) rfl q.tuple Ix) (λ_=>rfl))) (λ_ _ _ _ _ X7=>(ae 0)) (N9 rfl rfl ⋯) ⋯) λxV=>
 (SF.Pj (hd:=(λ(lD:O PV×PV×O PV)=>([al (.cR (m9 λ_=>cW) (j+0) (j+0)),al (.val cz),al (.val (.cl aX)),al (.ol bn lD.1),al (.val lD.2.1),bn,al (.ol bn lD.2.2),bn]:aM))) (s0:=(g9,yJ,xV)) BO (.refl _) (λlD=>(Pq rfl (bI hr) (JA 6))) (λlD=>
 (SF.as (TK 6 rfl (TJ (i:=7) rfl nd rfl rfl il (iP rfl (dj (ae 6))) (λ_ _ _ _ _=>(nv 0 il.nd)) (λ_ _ _ _ _ VQ=>(uz.t (rV (Jc rfl (bI hr) (cx rfl (bQ (cx rfl (bQ (ae 2)) (ae 0))) au) (bQ (ae 1))) (nk (Jc rfl (bI hr) (cx rfl (bQ (cx rfl (bQ (ae 2)) (ae 0))) au) (bQ (ae 1))))))) (λ_ _ _ _ _ VQ=>(ae 0)) rfl)) λtN=>
 SF.cE 7 rfl (sv 5 nd (cx rfl (bQ (ae 7)) (eP 0 aL hr (ak (dS rfl rfl q.len (ae 7)) az))) λo5=>
 (sv 4 nd (cm rfl (cm rfl (ae 4) au) (cx rfl (oq (cj (n:=2) (ak au (ak (eP 0 aL hr (ak au az)) az)) rfl)) (eP 0 aL hr (ak au az)))) λub=>
 (SF.Rg 3 rfl rfl (.inl rfl) (ae 4) (ae 5) λjJ=>
 (SF.remove 6 rfl rfl rfl (.inr (.inl rfl)) (ae 5) λzO=>
 (SF.oH rfl (.m 160)))))))) λlD=>
 (SF.df (Gp rfl rfl q.tuple (fH 3)) λ_=>rfl)))))
abbrev iZ:DF:=dv 43 4 2 (aG 4)
theorem mB(D:DI v iZ)(q:NB v):∀n,aY v.P v.w v.K v.mg v.base ip (n+0) D.f D.fd (nu (top 43)) (mn v.K [.v,.v] (gN 2 (aG n)))
 |0=>K7 (Rc λl Q hl=>match l,hl with|[gs,m7],_=>λh=>h.elim)
 |n+1=>have dR:=D.cN (mB D q n)
  fnV (k:=n+0) (n:=2) (m:=aG (n+1)) D.fn su rfl (vg (vg nA)) λ_ l hl=>match l,hl with|[gs,m7],_=>λ_ _ _ _ _ _ hr=>show SF _ _ _ [al (.val gs),al (.val m7)] _ (aG (n+1) gs m7) _ from
 (SF.uK (bO rfl (cF rfl .tup rfl q.isinstance (ae 1) rfl q.tuple Ix) (λ_=>rfl))
 (SF.uK (uz.t (nW (eS (bO rfl (cF rfl .tup rfl q.isinstance (ae 0) rfl q.tuple Ix) (λ_=>rfl))) (jP (jE (oV rfl (bI hr)) (dS rfl rfl q.len (ae 0)) (dS rfl rfl q.len (ae 1))))))
 (SF.df iw λ_=>rfl)
 (SF.df (wg rfl rfl rfl q.all (f7 (Sl rfl fb (tw rfl rfl q.zip (dj (ae 0)) (dj (ae 1))) (λ_ _ _ _ _=>(W0 rfl (oy rfl (cI (nv 0 fb.nd) (cI (nv 1 fb.nd) ku))))) (λ_ _ _ _ _ t5=>(eC dR hr (av 0 (av 1 az)))) (N9 rfl rfl ⋯) ⋯))) λ_=>rfl))
 (SF.uK (jE KC (ae 1) Ly)
 (SF.df (iX KC (ae 0) Ly) λ_=>rfl)
 (SF.uK (bO rfl (cF rfl .str rfl q.isinstance (ae 1) rfl q.str FS) (λ_=>rfl))
 (SF.df (wd (cF rfl .str rfl q.isinstance (ae 0) rfl q.str FS) (vZ (iX (oW rfl (bI hr)) (ae 0) (ae 1)))) λ_=>rfl)
 (SF.uK (uz.t (nW (eS (bO rfl (cF rfl .int rfl q.isinstance (ae 0) rfl q.int boot_int) (λ_=>rfl))) (jP (jE (oV rfl (bI hr)) (cF rfl .bool rfl q.isinstance (ae 0) rfl q.bool boot_bool) (cF rfl .bool rfl q.isinstance (ae 1) rfl q.bool boot_bool)))))
 (SF.df iw λ_=>rfl)
 (SF.df (iX (oW rfl (bI hr)) (ae 0) (ae 1)) λ_=>rfl)))))
abbrev dA:DF:=dv 45 13 2 cC
def lR(D:DI v dA)(q:NB v)(cM:fX.C v):D.O:=
 IA D λhr nd cz cB=>
 (sl 2 nd (lC cM hr (av 0 az)) λaX=>
 SF.cE 2 rfl (SF.uK (jE (oV rfl (bI hr)) (dS rfl rfl q.len (ae 1)) (dS rfl rfl q.len (ae 2)))
 (SF.df iw λ_=>rfl)
 (SF.Rf (i:=5) rfl nd rfl rfl cH (tw rfl rfl q.zip (dj (ae 1)) (dj (ae 2))) (λ_ _ _ _ _=>(W0 rfl (oy rfl (cI (nv 0 cH.nd) (cI (nv 1 cH.nd) ku))))) (λ_ _ _ _ _ t8=>(bO rfl (cF rfl .tup rfl q.isinstance (ae 1) rfl q.tuple Ix) (λ_=>rfl))) (λ_ _ _ _ _ t8=>(ae 0)) (N9 rfl rfl ⋯) ⋯ λkO=>
 SF.cE 5 rfl (SF.uK (uz.t (nW (jE (oV rfl (bI hr)) (v8 rfl rfl rfl q.len rfl q.set (lE (ae 5))) (dS rfl rfl q.len (ae 5))) (jP (eS (bO rfl (wg rfl rfl rfl q.all (f7 (j5 rfl eg (iP rfl (dj (ae 5))) (λ_ _ _ _ _=>(nv 0 eg.nd)) (λ_ _ _ _ _ Yg=>(Gu KA KA au (ae 0) au)) rfl))) (λ_=>rfl))))))
 (SF.df iw λ_=>rfl)
 (SF.W9 (hd:=(λ(lD:Unit)=>([al (.val cz),al (.val cB),al (.val (.cl aX)),bn,bn,al (.val (.cl kO))]:aM))) (s0:=()) (inj:=id) BO rfl (tw rfl rfl q.zip (dj (ae 1)) (dj (ae 2))) (.refl _) (λ_=>(W0 rfl (oy rfl (cI (nv 3 nd) (cI (nv 4 nd) ku))))) (λ_=>trivial) (λlD Q6=>
 (SF.uK (uz.t (rV (bO rfl (cF rfl .str rfl q.isinstance (ae 4) rfl q.str FS) (λ_=>rfl)) (nk (jE (oV rfl (bI hr)) (ae 3) au))))
 (SF.ret (k:=λIL=>(Lp.out IL)) iw λ_=>rfl)
 (SF.Wu (uz.t (rV (bO rfl (cF rfl .tup rfl q.isinstance (ae 4) rfl q.tuple Ix) (λ_=>rfl)) (nk (jE vG (ae 3) (Xn rfl rfl q.max (cx rfl (bQ (ae 1)) (cx rfl (bQ (ae 4)) au)) (cx rfl (bQ (ae 1)) (cx rfl (bQ (ae 4)) au)))))))
 (SF.ret (k:=λQO=>(Lp.out QO)) iw λ_=>rfl)
 (SF.oH rfl (.m 24))))) λlD=>
 (SF.df iw λ_=>rfl))))))
def rg:Pa (p8 (top 46)) (ai (top 46)) Ub [8] ["_law_other"]:=by decide +kernel
abbrev Qz:DF:=dv 46 14 1 oP
def Wm(D:DI v Qz)(hc:uF v.K v.mg D.fd.code P)(hP:mK P "law.<locals>.<lambda>")(eG:PlK v.P v.w v.K v.mg aU)(q:NB v)(vM:i4.C v)(tK:ic.C v)(tL:ig.C v)(dR:iZ.C v)(eJ:uc.C v)(kR:hJ.C v)(gk:dJ.C v)(dG:gm.C v)(lY:dA.C v):D.O:=
 Z2 D hc λhL hr nd dC=>
 (SF.Qs (hd:=(λ(s5:Unit)=>([al (.val dC),bn,bn,bn,bn,bn,bn,bn,bn]:aM))) (s0:=()) (inj:=id) BO rfl (kM rfl q.range (cm rfl au (yE rfl rfl q.len (oq (Z8 rfl (lE (ae 0)) RX (RV au)))))) (.refl _) (nv 1 nd) (λ_=>trivial) (λs5 Uk=>
 (sl 2 nd (lC vM hr (av 0 (av 1 az))) λmG=>SF.cR (G:=(λ_=>cW)) 2 0 rfl
 (sv 3 nd (eP 2 tK hr (ak au az)) λcg=>
 (SF.Qs (hd:=(λ(lD:Unit)=>([al (.val dC),al (.val Uk),al (.cR (m9 λ_=>cW) (0+0) 0),al (.val cg),bn,bn,bn,bn,bn]:aM))) (s0:=()) (inj:=Lp.out) BO rfl (kM rfl q.range au) (.refl _) (nv 4 nd) (λ_=>trivial) (λlD MM=>
 (sv 5 nd (eP 2 tL hr (av 3 az)) λbJ=>
 (sv 6 nd (Gs rfl fW (j5 rfl vA (iP rfl (dj (ae 5))) (λ_ _ _ _ _=>(nv 0 vA.nd)) (λ_ _ _ _ _ p19=>(Lw rfl hr rfl q.str (ae 0))) rfl)) λkj=>
 (SF.uK (uz.t (nW (eS (bO rfl (eC dR hr (ak (eC kR hr (av 5 az)) (av 6 az))) (λ_=>rfl))) (jP (eS (bO rfl (eC dR hr (ak (eC eJ hr (av 3 (av 6 az))) (av 5 az))) (λ_=>rfl))))))
 (SF.ret (k:=λY9=>(Lp.out Y9)) iw λ_=>rfl)
 (SF.uK (eS (bO rfl (eC dR hr (ak (eC eJ hr (av 3 (ak (eC kR hr (av 5 az)) az))) (av 5 az))) (λ_=>rfl)))
 (SF.ret (k:=λY8=>(Lp.out Y8)) iw λ_=>rfl)
 (sv 8 nd (eP 2 gk hr (ak (v9 (lC dG hr (av 3 az))) az)) λeU=>
 (sv 7 nd (Ti (bO rfl (eC lY hr (av 8 (av 5 az))) (λ_=>rfl)) Ly (dS rfl rfl q.len (ae 6))) λLH=>
 (SF.Wu (jE (oV rfl (bI hr)) (HW (qs:=[eU]) (k1:=[]) (k2:=[.v]) (m:=gN 1 (Sd aU eU)) (ys:=["_law_other"]) eG.bi eG.kp eG.at' (λb a us fz LI hl=>eG.ok b a us fz eU LI hl (λ_ _ _ _=>usN (by (repeat intro _);rfl))) (λ_=>rfl) rg rfl hr (TL (is:=[8]) (qs:=[eU]) "law.<locals>.<lambda>" ["_law_other"] hL hP rg (av 6 az))) (ae 7))
 (SF.ret (k:=λY7=>(Lp.out Y7)) iw λ_=>rfl)
 (SF.oH rfl (.m 496)))))))))) λlD=>
 (SF.oH rfl (.m 14)))))) λs5=>
 (SF.df (wd (iX (oW rfl (bI hr)) (eC eJ hr (ak (j6 (n:=2) (ak fW (ak fW az)) rfl) (ak fW az))) (j6 (n:=3) (ak au (ak au (ak au az))) rfl)) (vZ (iX (oW rfl (bI hr)) (eC eJ hr (ak fW (ak fW az))) (j6 (n:=1) (ak au az) rfl)))) λ_=>rfl))
end
end My
namespace FL
section
variable[bj]
structure QJ(K:Aa)(mg:Str->Option ce)(d:DF)(P:db):Prop where
 f:∀v:EV,v.K=K->v.mg=mg->∀D:DI v d,uF v.K v.mg D.fd.code P->D.O
def mkAllC{l:PySem.W.OpenLaw}{K:Aa}{st:sK}{m:PV->W PV}(ok:∀ns:O Int,ns.length<=63->(m (.cl (ns.map PV.int))).run (·=.bl true))(X:K.In h)(G:h.Ns gt mg)(hfa:mg "law"=al (.ref fa))(Xo:DXc K "law" st P)(hb:∀(kV Ç pm:ce) (an:Option db) (bE ct:ce) (us:O ce),us.length=1->P3 (Be "law" "law" (bM st) (aN st) (ai st) .none kV Ç pm an bE ct) ⟨us,[]⟩=pure (([("_law_script":Str)]:O Str).zip us))(F:QJ K mg ⟨"law",st,["_law_script"],k,λK=>mn K [.v] (gN 1 m)⟩ P):∃fd:wp,(∀(s:gl) (v:ce),BindsTo s fd ⟨[v],[]⟩ [("_law_script",v)])/\∀base:lw,K.In base->base.Ns gt mg->aY l.prog w K mg base ip k fa fd ["_law_script"] (Jf K):=by
 obtain⟨f,fd,a,F',c,hc,hd,_⟩:=Xo.ex;have e:=hfa.symm.trans (Ba X G a);cases e;obtain⟨oc,od,kV,Ç,pm,an,bE,ct,G9,rfl,_⟩:=id F'.ex;exact⟨Be "law" "law" (bM st) (aN st) (ai st) .none kV Ç pm an bE ct,λs v=>.of_eq (hb kV Ç pm an bE ct [v] rfl),λbase _ _=>(F.f ⟨l.prog,w,K,mg,base⟩ rfl rfl ⟨_,_,F',(F'.binds (ps:=["_law_script"]) hb),hfa⟩ ⟨⟨c,hc,hd⟩⟩).imp (Oa ok)⟩
end
end FL
namespace My
def Iz(t:Tr)(ds:O Int)(j:Nat):Bool:=match en t 0 j with
 |.word _=>ds.getD j 0==0
 |.pair a b=>decide (ds.getD a 0<ds.getD j 0)&&decide (ds.getD b 0<ds.getD j 0)&&decide (1<=ds.getD j 0)&&decide (ds.getD j 0<=99)
def iB(t:Tr)(ds:O Int):O Int:=(splits t).map (ds.getD · 0)
def d8(t:Tr)(ds:O Int):Bool:=decide (ds.length=t.size)&&(decide (iB t ds).Nodup&&(AN t.size).all (Iz t ds))
def int_at(h:j<ds.length):dY (aP ds) (j:Int)=al (.int (ds.getD j 0)):=lj (by
 unfold aP;rw[An,Af h,AQ,Af h];rfl)
theorem QK(t:Tr)(ds:O Int)(h:ds.length=t.size):jy ((t.nd 0).map Ent.pv) (aP ds)=(AN t.size).map λj=>PV.tup [(en t 0 j).pv,.int (ds.getD j 0)]:=by
 refine CM λj=>?_;by_cases hj:j<t.size
 .have hl:j<(jy ((t.nd 0).map Ent.pv) (aP ds)).length:=by rw[gK];simp[t.bb,h];exact hj
  obtain⟨x,y,hx,hy,e⟩:=ke (Af hl);rw[An,oJ t 0 j hj]at hx;have KS:j<ds.length:=by omega
  unfold aP at hy;rw[An,Af KS]at hy;rw[Af hl,e,<- (Option.some.inj hx),<- (Option.some.inj hy),An,C3 hj];show _=al (PV.tup [_,.int (ds.getD j 0)]);rw[AQ,Af KS];rfl
 .rw[A2 (by rw[gK];simp[t.bb,h];lia),A2 (by simp;lia)]
theorem split_le(t:Tr)(ds:O Int)(h:ds.length=t.size)(hz:t.size<=900):dE (.tup ((t.nd 0).map Ent.pv)) (.tup (aP ds))=.ret (aP (iB t ds)):=by
 unfold dE;have c:((t.nd 0).map Ent.pv).length<=sizeLine:=bA (by rw[Am,t.bb];lia);simp only[r9,cu,rQ,wn c,QK t ds h];rw[xW (g:=λx=>match x with|.tup [.str _,_]=>bn|.tup [_,y]=>al y|_=>bn) λx hx=>?_]
 .congr 1;unfold iB splits aP;generalize AN t.size=l
  induction l with
  |nil=>rfl
  |cons j l ih=>
   rw[AY,Bh,DD,ih];cases e:en t 0 j with
   |word w=>rfl
   |pair a b=>rfl
 .obtain⟨j,hj,rfl⟩:=AR.mp hx;cases en t 0 j with
  |word w=>simp[Ent.pv]
  |pair a b=>simp[Ent.pv]
theorem OU(t:Tr)(ds:O Int)(h:ds.length=t.size)(j:Nat)(hj:j<t.size):je (.tup ((t.nd 0).map Ent.pv)) (.tup (aP ds)) (.int (j:Int))=.ret (.bl (Iz t ds j)):=by
 unfold je Iz;simp only[r9,cu,eA,Kg t hj,int_at (ds:=ds) (j:=j) ∅,W.bp];cases e:en t 0 j with
 |word w=>simp[Ent.pv]
 |pair a b=>
  obtain⟨ha,hb⟩:=ju t hj e;have ia:dY (aP ds) a=al (.int (ds.getD a 0)):=int_at ∅;have ib:dY (aP ds) b=al (.int (ds.getD b 0)):=int_at ∅;have em:cY [PV.int (a:Int),PV.int (b:Int)] (λp=>Yp (aP ds) p)=.ret ([ds.getD a 0,ds.getD b 0].map PV.int):=by
   show am _ _=_;simp only[eA,ia,W.bp,r9];show am (am _ _) _=_;simp only[eA,ib,W.bp,r9];rfl
  have e2:vq ([ds.getD a 0,ds.getD b 0].map PV.int)=.ret (.int (max (ds.getD a 0) (ds.getD b 0))):=by
   unfold vq;rw[gF];show W.d9 _ _=_;rw[wn (by simp)];rfl
  simp only[Ent.pv,fU,jq,aV,r9,if_false,cu,em,e2,Qw,Ll,vV,Tf];generalize ds.getD a 0=x;generalize ds.getD b 0=y;generalize ds.getD j 0=z;by_cases c1:x<z<;>by_cases c2:y<z<;>by_cases c3:1<=z<;>by_cases c4:z<=99<;>simp[c1,c2,c3,c4]<;>lia
theorem Dt.isD(D:Dt t ds [] d)(h:d<=99):d8 t ds=true:=by
 unfold d8;rw[AA,AA,decide_eq_true_iff,decide_eq_true_iff];refine⟨D.len,?_,Bk.mpr λj hj=>?_⟩
 .unfold iB;have hp:(splits t).Pairwise (· < ·):=by unfold splits;exact List.Pairwise.filter _ Dx
  rw[List.nodup_iff_pairwise_ne,EH];refine List.Pairwise.imp_of_mem (λ{x y} hx hy lt e=>?_) hp;obtain⟨x1,x2⟩:=Bz.mp hx;obtain⟨y1,y2⟩:=Bz.mp hy;have:=D.inj x y (Bj.mp x1) (Bj.mp y1) (by simp) (by simp) x2 y2 e;lia
 .have hj':=Bj.mp hj;unfold Iz;cases e:en t 0 j with
  |word w=>
   rw[D.zero j hj' (.inl (by rw[e];rfl))];rfl
  |pair a b=>
   obtain⟨_,_,h1,h2,h3,h4⟩:=D.up j hj' (by simp) a b e;show(decide (ds.getD a 0<ds.getD j 0)&&decide (ds.getD b 0<ds.getD j 0)&&decide (1<=ds.getD j 0)&&decide (ds.getD j 0<=99))=true;rw[decide_eq_true h1,decide_eq_true h2,decide_eq_true h3,decide_eq_true ∅];rfl
theorem Oj(h:d8 t ds=true):∀x∈ds,0<=x:=λx hx=>by
 unfold d8 at h;rw[AA,AA,decide_eq_true_iff,decide_eq_true_iff]at h;obtain⟨h1,_,h3⟩:=h;obtain⟨j,hj,rfl⟩:=FO hx;have:=Bk.mp h3 j (Bj.mpr ∅);have e:ds.getD j 0=ds[j]:=by rw[AQ,Af hj];rfl
 unfold Iz at this;rw[<- e];cases e:en t 0 j with
 |word w=>
  rw[e]at this;rw[eq_of_beq this];exact Gh _
 |pair a b=>
  rw[e]at this;have this:=this;rw[AA,AA,AA,decide_eq_true_iff,decide_eq_true_iff,decide_eq_true_iff,decide_eq_true_iff]at this;lia
theorem pM:∀(t:Tr) (o:Nat),(t.nd o).countP kN+1=t.aF.length
 |.leaf _,_=>rfl
 |.node l r,o=>by
  have h1:=pM l o;have h2:=pM r (o+l.size);rw[Tr.nd,List.countP_append,List.countP_append];show _+(List.countP kN [Ent.pair _ _])+1=(l.aF++r.aF).length;simp[kN];lia
theorem R7(t:Tr):t.nd 0=(AN t.size).map (en t 0):=by
 refine CM λj=>?_;by_cases h:j<t.size
 .rw[oJ t 0 j h,An,C3 h];rfl
 .rw[A2 (by rw[t.bb];lia),A2 (by simp;lia)]
def xl(t:Tr):(splits t).length+1=t.aF.length:=by
 rw[<- pM t 0,R7 t,List.countP_map];unfold splits;rw[<- List.countP_eq_length_filter];rfl
end My
variable{Q:PL.PV->Prop}
namespace My
theorem kL{ws:O Str}(hw:ws≠[])(h8:ws.length<=100)(q:∀t:Tr,t.aF=ws->Q t.pv):(b9 (.cl (ws.map PV.str))).run Q:=by
 have wl:0<ws.length:=Ca.mpr hw;unfold b9;simp only[r9,lm,g8,ut,de 5 ⋯ ⋯,fR,yz,Am,kW];refine bF λw w0 w1=>?_;simp only[wn (gA (i:=0) (j:=(ws.length:Int)-1) ∅ ∅),ut];refine vP (λi s=>∃ts:O Tr,s=ts.map Tr.pv/\ts.length+i=ws.length/\ts.flatMap Tr.aF=ws) ⟨ws.map Tr.leaf,by simp[Tr.pv],by simp,by simp[List.flatMap_map,Tr.aF,List.flatMap_singleton']⟩ ?_ ?_
 .rintro i s hi ⟨ts,rfl,hl,hp⟩;have h2:2<=ts.length:=by lia
  have f0:(0:Int)<(ts.length:Int)-2+1:=by lia
  simp only[r9,lm,Lk,Am,yz,ut,dH,tQ,wn f0,de ((ts.length:Int)-2+1) f0 ∅];refine bF λd d0 d1=>bF λe e0 e1=>?_;have m0:=B9 ((i:Int)) (show(ts.length:Int)-2+1≠0 by lia);have m1:=BV ((i:Int)) f0;obtain⟨a,ha,a1⟩:∃a:Nat,dY [PV.int 0,PV.int ((ts.length:Int)-2),PV.int (((i:Int)) % ((ts.length:Int)-2+1)),PV.int d,PV.int e] w=al (.int (a:Int))/\a+1<ts.length:=by
   have:w=0\/w=1\/w=2\/w=3\/w=4:=by lia
   rcases this with rfl|rfl|rfl|rfl|rfl
   .exact⟨0,rfl,by lia⟩
   .exact⟨ts.length-2,by show al (PV.int ((ts.length:Int)-2))=_;congr 2;lia,by lia⟩
   .exact⟨(((i:Int)) % ((ts.length:Int)-2+1)).toNat,by show al (PV.int _)=_;rw[D7 m0],by lia⟩
   .exact⟨d.toNat,by show al (PV.int d)=_;rw[D7 d0],by lia⟩
   .exact⟨e.toNat,by show al (PV.int e)=_;rw[D7 e0],by lia⟩
  obtain⟨as,x,y,bs,rfl,hk⟩:=TC a1;have i0:dY ((as++x::y::bs).map Tr.pv) (a:Int)=al x.pv:=lj (by rw[An,A1 ∅];simp[hk]);have i1:dY ((as++x::y::bs).map Tr.pv) ((a:Int)+1)=al y.pv:=by
   have:((a:Int)+1)=((a+1:Nat):Int):=by push_cast;rfl
   rw[this];exact lj (by rw[An,A1 ∅];simp[hk])
  simp only[eA,ha,W.bp,ut,i0,i1,dH,r9];rw[Ah,Ap,Ap]at hl;refine⟨⟨by lia,by lia,?_,bA ?_⟩,?_⟩
  .rw[Am,Ah,Ap,Ap];push_cast;lia
  .rw[Am,Ah,Ap,Ap];simp;lia
  .have e:((as++x::y::bs).map Tr.pv).take (a:Int).toNat++[.tup [x.pv,y.pv]]++((as++x::y::bs).map Tr.pv).drop ((a:Int)+2).toNat=(as++.node x y::bs).map Tr.pv:=by
    have t1:(a:Int).toNat=as.length:=by lia
    have t2:((a:Int)+2).toNat=as.length+2:=by lia
    rw[t1,t2,<- List.map_take,<- List.map_drop,List.take_left' rfl];have:(as++x::y::bs).drop (as.length+2)=bs:=by
     rw[show as++x::y::bs=(as++[x,y])++bs by simp,List.drop_left' (by simp)]
    rw[this];simp[Tr.pv]
   refine⟨as++.node x y::bs,e,by simp;lia,?_⟩;rw[<- hp];simp[Ct,List.flatMap_cons,Tr.aF]
 .rintro s ⟨ts,rfl,hl,hp⟩;have h1:ts.length=1:=by lia
  match ts,h1 with
  |[t],_=>
   have:t.aF=ws:=by simpa using hp
   exact q t this
structure GG(t:Tr):Prop where
 ws:t.Ws
 nd:t.aF.Nodup
 Uw:t.aF.length<=8
def Hq(t:Tr):t.aF≠[]:=by have:=t.jZ;intro z;rw[z]at this;simp at this
theorem vK(q:∀t:Tr,GG t->Q t.pv):(c7 (.int 8)).run Q:=by
 unfold c7;simp only[r9,lm,de 8 ⋯ ⋯];refine bF λd d0 d1=>?_;obtain⟨n,hn,n0,n1⟩:∃n:Int,dY [PV.int 5,PV.int 8] (if (d==0)=true then 1 else 0)=al (.int n)/\0<n/\n<=8:=by
  by_cases h:d=0
  .subst h;exact⟨8,rfl,by decide,by decide⟩
  .have e:(d==0)=false:=by simpa using h
   rw[e];exact⟨5,rfl,by decide,by decide⟩
 simp only[yA,ut,Fl,eA,hn,W.bp,de n n0 ∅];refine bF λk k0 k1=>?_;simp only[dH,ut];refine uU ∅ ∅ λws hl hw hd=>?_;refine kL (λz=>by rw[z]at hl;simp at hl;lia) ∅ λt ht=>q t ⟨λx hx=>hw x (ht▸hx),by rw[ht];exact hd,by rw[ht,hl];lia⟩
theorem xS:∀(n:Nat) (t:Tr),t.depth<n->t.aF.length<=900->(aQ n t.pv).le (.ret (t.aF.map PV.str))
 |0,_,h,_=>absurd h (Nat.not_lt_zero _)
 |n+1,.leaf x,_,_=>λQ q=>by
  unfold aQ;simp only[Tr.pv,r9,kX,nM,aV,if_true,ut];exact q
 |n+1,.node a b,h,hl=>λQ q=>by
  have hd:(Tr.node a b).depth=max a.depth b.depth+1:=rfl;have e:(Tr.node a b).aF=a.aF++b.aF:=rfl;rw[e,Ah]at hl;unfold aQ;simp only[Tr.pv,r9,fU,jq,aV,Aq,if_false,cu,eA,show dY [a.pv,b.pv] 0=al a.pv from rfl,show dY [a.pv,b.pv] 1=al b.pv from rfl,W.bp,lm];refine xS n a ∅ ∅ _ ?_;show(W.run _ _);refine xS n b ∅ ∅ _ ?_;refine⟨bA (by simp;lia),?_⟩;rw[e,BH]at q;exact q
theorem GG.size(g:GG t):t.size<=15:=by have:=t.size_eq;have:=g.Uw;lia
theorem GG.depth(g:GG t):t.depth<8:=by have:=t.pL;have:=g.Uw;lia
theorem kH:∀(n:Nat) (t:Tr),t.depth<n->t.size<=400->(aO n t.pv).le (.ret ((t.nd 0).map Ent.pv))
 |0,_,h,_=>by lia
 |n+1,.leaf w,_,_=>λQ q=>by
  unfold aO;simp[Tr.pv];exact q
 |n+1,.node a b,h,hz=>λQ q=>by
  have hs:(Tr.node a b).size=a.size+b.size+1:=rfl;have hpa:=a.size_pos;have hpb:=b.size_pos;have hd:a.depth<n/\b.depth<n:=by simp[Tr.depth]at h;lia
  unfold aO;have i0:dY [a.pv,b.pv] 0=al a.pv:=rfl;have i1:dY [a.pv,b.pv] 1=al b.pv:=rfl;simp only[Tr.pv,r9,lm,fU,jq,aV,Aq,if_false,cu,eA,i0,i1,W.bp,HK];refine W.le.use (kH n a hd.1 ∅) ?_;simp only[ut];refine W.le.use (kH n b hd.2 ∅) ?_;simp only[ut,g8,fR,Am,a.bb,b.bb];rw[jc (g:=λx=>match x with|.tup [.int u,.int v]=>.tup [.int (u+a.size),.int (v+a.size)]|x=>x) λx hx=>?_]
  .have e5:(((b.nd 0).map Ent.pv).map λx=>match x with|.tup [.int u,.int v]=>PV.tup [.int (u+a.size),.int (v+a.size)]|x=>x)=(b.nd a.size).map Ent.pv:=by
    have es:(b.nd 0).map (ZE a.size)=b.nd a.size:=by rw[<- xK b 0 a.size,F6]
    rw[<- es,BC,BC];refine DZ λe _=>?_;cases e with
    |word w=>rfl
    |pair u v=>simp[ZE,Ent.pv]
   rw[e5];simp only[ut,r9,lm,jo,yz,dH,LP (l:=(a.nd 0).map Ent.pv) (m:=(b.nd a.size).map Ent.pv) (by simp[a.bb,b.bb];lia)];rw[LP (by simp[a.bb,b.bb];lia)];have e:(Tr.node a b).nd 0=a.nd 0++b.nd a.size++[.pair (a.size-1) (a.size+b.size-1)]:=by rw[Tr.nd];simp
   rw[e]at q;have e1:((a.size:Int)-1)=((a.size-1:Nat):Int):=by lia
   have e2:((a.size:Int)+(b.size:Int)-1)=((a.size+b.size-1:Nat):Int):=by lia
   rw[e1,e2];simpa[Ent.pv]using q
  .obtain⟨e,_,rfl⟩:=AR.mp hx;cases e with
   |word w=>simp[Ent.pv]
   |pair u v=>
    have j0:dY [PV.int (u:Int),PV.int (v:Int)] 0=al (.int u):=rfl;have j1:dY [PV.int (u:Int),PV.int (v:Int)] 1=al (.int v):=rfl;simp only[Ent.pv,r9,fU,jq,aV,Aq,if_false,cu,eA,j0,j1,W.bp,dH]
theorem wA(g:GG t)(q:∀ds d,Dt t ds [] d->d<=13*((splits t).length:Int)->Q (.tup (aP ds))):(c8 t.pv).run Q:=by
 have hz:=g.size;have hd:=g.depth;unfold c8;simp only[r9,lm];refine W.le.use (kH 12 t ∅ ∅) ?_;have e1:Nh [PV.int 0] (.int ((t.nd 0).map Ent.pv).length)=.ret (aP (Ar t.size 0)):=by
  rw[S8,wn ⟨by lia,by rw[Am,t.bb];lia,bA (by simp[t.bb];lia)⟩];congr 1;rw[Am,t.bb,CO]
  induction t.size with
  |zero=>rfl
  |succ n ih=>rw[C1,EL,ih];rfl
 have e3:((t.nd 0).map Ent.pv).length<=sizeLine:=bA (by rw[Am,t.bb];lia);simp only[ut,r9,fR,e1,g8,wn e3,lm];refine Qb N6 (λx hx=>?_) ?_
 .rw[Gn]at hx;obtain⟨j,hj,rfl⟩:=AR.mp hx;cases en t 0 j with
  |word w=>simp[Ent.pv,N6]
  |pair u v=>simp[Ent.pv,N6]
 rw[Si t];refine nR (λn s=>∃(ds:O Int) (left:O Nat) (d:Int),s=(aP ds,PV.int d,bK left)/\n=left.length/\Dt t ds left d/\d+13*left.length<=13*((splits t).length:Int)) ⟨_,_,0,rfl,rfl,Dt.first t,by lia⟩ ?_;rintro n s ⟨ds,left,d,rfl,rfl,D,hd⟩;by_cases he:left=[]
 .subst he;simp;exact q ds d D (by simpa using hd)
 .have ee:(!(bK left).isEmpty)=true:=by cases left with|nil=>exact absurd rfl he|cons a l=>rfl
  have WM:left.length<=t.size:=by
   have:=zy left 0 t.size D.Yb λx hx=>⟨Bn _,(D.Uj x hx).1⟩;lia
  have e5:Ja (bK (left.filter (Iv t left)))=.ret (bK (left.filter (Iv t left))):=wn (LM _);simp only[ut,ee,if_true,r9,lm];refine Kq (Iv t left) (λk hk=>?_) ?_
  .obtain⟨h1,h2⟩:=D.Uj k hk;unfold Iv;cases e:en t 0 k with
   |word w=>rw[e]at h2;cases h2
   |pair a b=>
    have j0:dY [PV.int a,PV.int b] 0=al (.int a):=rfl;have j1:dY [PV.int (a:Int),PV.int (b:Int)] 1=al (.int b):=rfl;simp only[r9,g8,eA,Kg t h1,e,Ent.pv,W.bp,cu,j0,j1,SA,if_true];by_cases ca:a∈left
    .simp[ca]
    .simp[ca];by_cases cb:b∈left
     .simp[cb]
     .simp[cb]
  rw[e5];have fl:=DB (Iv t left) left;have fn:0<(bK (left.filter (Iv t left))).length:=Ca.mpr (D.Vt he);simp only[ut,fR,de ((bK (left.filter (Iv t left))).length:Int) ∅ (by rw[vk];lia)];refine bF λz z0 z1=>?_;obtain⟨x,WA,è⟩:=L8 (xs:=bK (left.filter (Iv t left))) z0 z1;have hx:=A9 è;obtain⟨j,hj,rfl⟩:=AR.mp hx;obtain⟨SN,WO⟩:=Bz.mp hj;obtain⟨js,jp⟩:=D.Uj j SN;cases ej:en t 0 j with
  |word w=>rw[ej]at jp;cases jp
  |pair a b=>
  unfold Iv at WO;rw[ej]at WO;simp at WO;simp only[eA,WA,W.bp,dH,ut,de 12 ⋯ ⋯];refine bF λy y0 y1=>?_;rw[de 2 ⋯ ⋯];refine bF λu u0 u1=>?_;obtain⟨m,hm,m0,m1⟩:∃m:Int,dY [PV.int 0,PV.int y] u=al (.int m)/\0<=m/\m<=12:=by
   have:u=0\/u=1:=by lia
   rcases this with rfl|rfl
   .exact⟨0,rfl,by decide,by decide⟩
   .exact⟨y,rfl,y0,by lia⟩
  simp only[eA,hm,W.bp,ut];have è:Rl (bK left) (.int (j:Int))=.ret (bK (left.erase j)):=by
   show am (mF (bK left)) _=_;rw[qY,gF];show W.d9 _ _=_;rw[wn (AR.mpr ⟨j,SN,rfl⟩),pF,<- qY]
  simp only[dH,ut,M9 (k:=j) (by rw[ff,D.len];exact js),è,KI];refine⟨(left.erase j).length,by rw[ET SN];have:=E8 SN;lia,_,_,_,rfl,rfl,D.next SN ej WO.1 WO.2 m0,?_⟩;rw[ET SN];have:=E8 SN;lia
theorem HH(g:GG t):(gX t.pv).le (.ret (.bl true)):=by
 unfold gX;simp only[r9];exact K3 t g.ws false (.inr g.nd) (by have:=g.size;lia)
theorem mE(g:GG t)(ds:O Int)(hl:ds.length<=1000):(aU t.pv (.tup (aP ds))).le (.ret (.bl (d8 t ds))):=λQ q=>by
 have hz:=g.size;unfold aU;simp only[r9,lm];refine W.le.use (HH g) ?_;simp only[aV,ut,Bm,Aq,if_false,lm];refine W.le.use (Kc t ∅) ?_;simp only[nL,ut,Am,t.bb,Jo,ff,aV,r9];have em:cY (aP ds) (λx=>eX x)=.ret ((aP ds).map λ_=>PV.bl true):=jc λx hx=>by
  obtain⟨i,_,rfl⟩:=AR.mp hx;exact IP i
 by_cases hs:ds.length=t.size
 .have e1:(ds.length==(t.size:Int))=true:=by simp[hs]
  have ea:pP ((aP ds).map λ_=>PV.bl true)=.ret (.bl true):=by
   rw[all_map (λ_=>true)];congr 2;exact Bk.mpr λ_ _=>rfl
  simp only[e1,Bm,Aq,if_false,cu,r9,em,ea,aV,ut,lm,split_le t ds hs ∅,jo,fR,ff];have es:gP (aP (iB t ds))=.ret (.int (dZ (iB t ds))):=by
   unfold gP aP;rw[gF];show W.d9 _ _=_;rw[wn];have:(iB t ds).length<=t.size:=by
    unfold iB splits;rw[Am];have:=DB (λj=>kN (en t 0 j)) (AN t.size);rw[EJ]at this;exact this
   unfold scanBound;lia
  simp only[es,ut,pE,fk];by_cases hn:(iB t ds).Nodup
  .have e2:((dZ (iB t ds):Int)==((iB t ds).length:Int))=true:=by rw[(i9 _).mpr hn];simp
   have c:okN 0 (t.size:Int):=gA ∅ ∅;simp only[e2,Bm,Aq,if_false,lm,kW,wn c,ut,CO,HA];refine Hk (λj=>.bl (Iz t ds j)) (λj hj=>OU t ds hs j (Bj.mp hj)) ?_;have e3:((AN t.size).map λj=>PV.bl (Iz t ds j))=((AN t.size).map (Iz t ds)).map PV.bl:=by rw[BC];rfl
   rw[e3,uo];have e4:d8 t ds=(((AN t.size).map (Iz t ds)).all id):=by
    unfold d8;rw[Fb,decide_eq_true hs,decide_eq_true hn];rfl
   rw[<- e4];exact q
  .have e2:((dZ (iB t ds):Int)==((iB t ds).length:Int))=false:=by
    have h5:dZ (iB t ds)≠(iB t ds).length:=λz=>hn ((i9 _).mp z);simp;lia
   have e4:d8 t ds=false:=by
    unfold d8;rw[decide_eq_false hn];simp
   simp only[e2,Cw,if_true,ut];rw[<- e4];exact q
 .have e1:((ds.length:Int)==(t.size:Int))=false:=by simp;lia
  have e4:d8 t ds=false:=by
   unfold d8;rw[decide_eq_false hs];simp
  simp only[e1,Cw,if_true,ut];rw[<- e4];exact q
theorem IJ(t:Tr)(ds:O Int)(h:ds.length=t.size):jy (aP ds) ((t.nd 0).map Ent.pv)=(AN t.size).map λj=>PV.tup [.int (ds.getD j 0),(en t 0 j).pv]:=by
 refine CM λj=>?_;by_cases hj:j<t.size
 .have hl:j<(jy (aP ds) ((t.nd 0).map Ent.pv)).length:=by rw[gK];simp[t.bb,h];exact hj
  obtain⟨x,y,hx,hy,e⟩:=ke (Af hl);rw[An,oJ t 0 j hj]at hy;have KS:j<ds.length:=by lia
  unfold aP at hx;rw[An,Af KS]at hx;rw[Af hl,e,<- (Option.some.inj hx),<- (Option.some.inj hy),An,C3 hj];show _=al (PV.tup [.int (ds.getD j 0),_]);rw[AQ,Af KS];rfl
 .rw[A2 (by rw[gK];simp[t.bb,h];lia),A2 (by simp;lia)]
def Tu(d:Int):XA oLt oLt (ap (.int 0)) (ap (.int d)) (ap (.int 100))=.ret (.bl (decide (0<d/\d<100))):=by
 unfold XA;simp only[r9,Qw,vV];by_cases c:0<d
 .simp[c]
 .simp[c]
def Iy(t:Tr)(ds:O Int)(j:Nat):Bool:=match en t 0 j with
 |.word _=>ds.getD j 0==0
 |.pair a b=>decide (max (ds.getD a 0) (ds.getD b 0)<ds.getD j 0)
theorem KG(t:Tr)(ds:O Int)(hs:ds.length=t.size):d8 t ds=(decide (iB t ds).Nodup&&((iB t ds).all λd=>decide (0<d/\d<100))&&(AN t.size).all (Iy t ds)):=by
 unfold d8;rw[decide_eq_true hs,DH,Bool.and_assoc];congr 1;rw[Bool.eq_iff_iff,AA,Bk,Bk,Bk];have å:∀j,j<t.size->(Iz t ds j=true↔((kN (en t 0 j)=true->0<ds.getD j 0/\ds.getD j 0<100)/\Iy t ds j=true)):=λj hj=>by
  unfold Iz Iy;cases e:en t 0 j with
  |word w=>simp[kN]
  |pair a b=>simp[kN];lia
 constructor
 .intro h;refine⟨λd hd=>?_,λj hj=>((å j (Bj.mp hj)).mp (h j hj)).2⟩;obtain⟨j,hj,rfl⟩:=AR.mp hd;obtain⟨h1,h2⟩:=Bz.mp hj;simpa using ((å j (Bj.mp h1)).mp (h j h1)).1 h2
 .rintro⟨h1,h2⟩ j hj;refine(å j (Bj.mp hj)).mpr ⟨λhp=>?_,h2 j hj⟩;simpa using h1 _ (AR.mpr ⟨j,Bz.mpr ⟨hj,hp⟩,rfl⟩)
theorem wL(g:GG t)(ds:O Int)(hl:ds.length<=1000):(cC t.pv (.tup (aP ds))).le (.ret (.bl (d8 t ds))):=λQ q=>by
 have hz:=g.size;have hd:=g.depth;have q:Q (.bl (d8 t ds)):=q;unfold cC;simp only[r9,lm];refine W.le.use (kH 12 t ∅ ∅) ?_;simp only[ut,nL,fR,ff,Am,t.bb,pE,fk,r9];by_cases hs:ds.length=t.size
 .have e1:((ds.length:Int)==(t.size:Int))=true:=by simp[hs]
  rw[KG t ds hs]at q;have c:(aP ds).length<=sizeLine:=bA (by rw[ff];lia);simp only[e1,Bm,Aq,if_false,cu,g8,r9,rQ,wn c,IJ t ds hs,lm,ut];refine Qb (λx=>match x with|.tup [_,.str _]=>bn|.tup [y,_]=>al y|_=>bn) (λx hx=>?_) ?_
  .obtain⟨j,hj,rfl⟩:=AR.mp hx;cases en t 0 j with
   |word w=>simp[Ent.pv]
   |pair a b=>simp[Ent.pv]
  have ei:(((AN t.size).map λj=>PV.tup [.int (ds.getD j 0),(en t 0 j).pv]).filterMap λx=>match x with|.tup [_,.str _]=>bn|.tup [y,_]=>al y|_=>bn)=aP (iB t ds):=by
   unfold iB splits aP;generalize AN t.size=l
   induction l with
   |nil=>rfl
   |cons j l ih=>
    rw[AY,Bh,DD,ih];cases e:en t 0 j with
    |word w=>rfl
    |pair a b=>rfl
  rw[ei];have es:gP (aP (iB t ds))=.ret (.int (dZ (iB t ds))):=by
   unfold gP aP;rw[gF];show W.d9 _ _=_;rw[wn];have:(iB t ds).length<=t.size:=by
    unfold iB splits;rw[Am];have:=DB (λj=>kN (en t 0 j)) (AN t.size);rw[EJ]at this;exact this
   unfold scanBound;lia
  have ea:(am (am (ap (aP (iB t ds))) λl9=>cY l9 λYg=>XA oLt oLt (ap (.int 0)) (ap Yg) (ap (.int 100))) pP)=.ret (.bl ((iB t ds).all λd=>decide (0<d/\d<100))):=by
   rw[r9,jc (g:=λx=>match x with|.int d=>.bl (decide (0<d/\d<100))|x=>x) λx hx=>?_]
   .unfold aP;rw[r9,BC];have e9:((iB t ds).map ((λx=>match x with|.int d=>PV.bl (decide (0<d/\d<100))|x=>x)∘PV.int))=((iB t ds).map λd=>decide (0<d/\d<100)).map PV.bl:=by rw[BC];rfl
    rw[e9,uo,Fb];rfl
   .obtain⟨d,_,rfl⟩:=AR.mp hx;exact Tu d
  simp only[r9]at ea;simp only[jo,g8,r9,ut,es,fR,ff,pE,fk,ea,aV];by_cases hn:(iB t ds).Nodup
  .have e2:((dZ (iB t ds):Int)==((iB t ds).length:Int))=true:=by rw[(i9 _).mpr hn];simp
   rw[decide_eq_true hn,DH]at q;cases ha:((iB t ds).all λd=>decide (0<d/\d<100)) with
   |false=>
    rw[ha]at q;simp only[e2,Bm,Cw,Aq,if_false,if_true,r9,ut];exact q
   |true=>
    rw[ha,DH]at q;simp only[e2,Bm,Cw,Aq,if_false,if_true,r9,ut,lm,rQ,wn c,IJ t ds hs];refine pq (λrest s=>∃pre l:O Nat,pre++l=AN t.size/\rest=(l.map λj=>PV.tup [.int (ds.getD j 0),(en t 0 j).pv])/\pre.all (Iy t ds)=true) ⟨[],_,rfl,rfl,rfl⟩ ?_ ?_
    .rintro x rest s ⟨pre,l,hl,e,hp⟩;cases l with
     |nil=>cases e
     |cons j l=>
     injection e with e1 e2;subst e1;have hj:j<t.size:=Bj.mp (hl▸(by simp));have nx:Iy t ds j=true->∃pre l:O Nat,pre++l=AN t.size/\rest=(l.map λj=>PV.tup [.int (ds.getD j 0),(en t 0 j).pv])/\pre.all (Iy t ds)=true:=λh=>⟨pre++[j],l,by rw[<- hl];simp,e2,by rw[List.all_append,hp];simp[h]⟩;have no:Iy t ds j=false->(AN t.size).all (Iy t ds)=false:=λh=>by rw[<- hl,List.all_append,List.all_cons,h];simp
     simp only[Ld,ut,lm];cases en':en t 0 j with
     |word w=>
      have eo:Iy t ds j=(ds.getD j 0==0):=by unfold Iy;rw[en']
      rw[eo]at nx no;simp only[Ent.pv,r9,kX,nM,tS,aV,if_true,pE,fk,Aq,if_false];cases hk:(ds.getD j 0==0) with
      |true=>
       simp only[Bm,Aq,if_false,r9,ut];exact nx hk
      |false=>
       rw[no hk]at q;simp only[Cw,if_true,r9,ut];exact q
     |pair a b=>
      have eo:Iy t ds j=decide (max (ds.getD a 0) (ds.getD b 0)<ds.getD j 0):=by unfold Iy;rw[en']
      rw[eo]at nx no;obtain⟨ha,hb⟩:=ju t hj en';have ia:dY (aP ds) a=al (.int (ds.getD a 0)):=int_at ∅;have ib:dY (aP ds) b=al (.int (ds.getD b 0)):=int_at ∅;have j0:dY [PV.int (a:Int),PV.int (b:Int)] 0=al (.int a):=rfl;have j1:dY [PV.int (a:Int),PV.int (b:Int)] 1=al (.int b):=rfl;simp only[Ent.pv,r9,fU,jq,tR,aV,Aq,if_false,if_true,cu,eA,j0,j1,ia,ib,W.bp,Tb,Ll,fk];have em:(if ds.getD b 0 > ds.getD a 0 then ds.getD b 0 else ds.getD a 0)=max (ds.getD a 0) (ds.getD b 0):=by split<;>lia
      rw[em];by_cases hk:max (ds.getD a 0) (ds.getD b 0)<ds.getD j 0
      .rw[decide_eq_false ∅,if_neg ⋯];simp only[ut];exact nx (decide_eq_true hk)
      .rw[no (decide_eq_false hk)]at q;rw[decide_eq_true ∅,if_pos rfl];simp only[r9,ut];exact q
    .rintro s ⟨pre,l,hl,e,hp⟩;cases l with
     |cons=>cases e
     |nil=>
     rw[A3]at hl;rw[<- hl,hp]at q;simp only[yo,ut];exact q
  .have e2:((dZ (iB t ds):Int)==((iB t ds).length:Int))=false:=by
    have h5:dZ (iB t ds)≠(iB t ds).length:=λz=>hn ((i9 _).mp z);simp;lia
   rw[decide_eq_false hn]at q;simp only[e2,Cw,if_true,r9,ut];exact q
 .have e1:((ds.length:Int)==(t.size:Int))=false:=by simp;lia
  have e4:d8 t ds=false:=by
   unfold d8;rw[decide_eq_false hs];simp
  rw[e4]at q;simp only[e1,Cw,if_true,ut];exact q
end My
variable{pre:O Nat}
namespace My
def dg(c:Nat):Bool:=decide (48<=c/\c<=57)
def gp:O Nat->Nat->O Nat->Option Nat
 |[],i,w=>if w=[] then al i else bn
 |c::r,i,w=>if dg c=true/\w≠[48]/\w.length<4 then gp r (i+1) (w++[c]) else if c=46/\w≠[] then gp r (i+1) [] else al i
theorem L4(i:Nat)(w:O Nat):gp [] i w=if w=[] then al i else bn:=rfl
theorem uj(c:Nat)(r:O Nat)(i:Nat)(w:O Nat):gp (c::r) i w=if dg c=true/\w≠[48]/\w.length<4 then gp r (i+1) (w++[c]) else if c=46/\w≠[] then gp r (i+1) [] else al i:=rfl
def J9(s:Str)(c:Nat):wY s c=decide (c∈s.cps.toList):=EU s c
theorem xI(c:Nat):wY rN c=dg c:=by
 rw[J9];unfold dg;have e2:rN.cps.toList=[48,49,50,51,52,53,54,55,56,57]:=by decide +kernel
 have:(c∈rN.cps.toList)↔(48<=c/\c<=57):=by
  rw[e2];simp only[Az,Cv,or_false];omega
 simp[this]
def p46:(".":Str)=⟨#[46]⟩:=by decide +kernel
def z48:("0":Str)=⟨#[48]⟩:=by decide +kernel
def RU(c:Nat):wY "." c=decide (c=46):=by rw[p46,J9];simp
def RS(c:Nat):wY "0" c=decide (c=48):=by rw[z48,J9];simp
def O1{r:O Nat}(h:T.cps.toList=pre++c::r)(s:Str):jD T pre.length s=wY s c:=pO (by rw[h];simp)
def L6(h:T.cps.toList=pre)(s:Str):jD T pre.length s=false:=by unfold jD;rw[h];simp
def Kp{l:O Nat}(h:T.cps.toList=l):T.length=l.length:=by rw[<- h];simp[CA]
theorem ui:∀(u rest:O Nat) (i:Nat) (w:O Nat),(∀c∈u,dg c=true)->(w++u).length<=4->(∀k,k<u.length->w++u.take k≠[48])->gp (u++rest) i w=gp rest (i+u.length) (w++u)
 |[],rest,i,w,_,_,_=>by rw[A3];rfl
 |c::u,rest,i,w,h,hl,hk=>by
  have h0:=hk 0 (by simp);rw[List.take_zero,A3]at h0;rw[Ah,Ap]at hl;show gp (c::(u++rest)) i w=_;rw[uj,if_pos ⟨h c (.head _),h0,by lia⟩,ui u rest (i+1) (w++[c]) (λd hd=>h d (.tail _ hd)) (by simp;lia) (λk hkk=>by
   have:=hk (k+1) (by simp;lia);rw[DY]at this
   rwa [CN,Fo]),Ap,CN,Fo]
  congr 1;lia
def gE:O (O Nat)->O Nat
 |[]=>[]
 |[p]=>p
 |p::q::ps=>p++46::gE (q::ps)
def jt(ps:O (O Nat)):O Nat:=if ps=[] then [] else 46::gE ps
def nG(p:O Nat)(ps:O (O Nat)):gE (p::ps)=p++jt ps:=by
 cases ps with
 |nil=>simp[gE,jt]
 |cons q ps=>simp[gE,jt]
def rE(T:Str)(k:Nat)(acc:O Nat)(n:Nat):Except Nat (O Nat×Nat):=match qj T n 4 with
 |.error m=>.error m
 |.ok (v,n1)=>Mm T "." k (acc++[v]) n1
theorem UT(T:Str)(k:Nat)(acc:O Nat)(n:Nat):Mm T "." (k+1) acc n=if jD T n "."=true then rE T k acc (n+1) else .ok (acc,n):=rfl
def abz(ps:O (O Nat)):Prop:=ps≠[]/\∀p∈ps,p≠[]/\p.length<=4/\∀c∈p,dg c=true
def y6(T:Str)(r:O Nat)(n:Nat)(acc:O Nat):Except Nat (O Nat×Nat)->Prop
 |.error e=>gp r n []=al e
 |.ok (l,n')=>n'<=T.length/\(n'<T.length->gp r n []=al n')/\(n'=T.length->gp r n []=bn/\∃ps,abz ps/\l=acc++ps.map IE/\r=gE ps)
theorem NZ:∀(m:Nat) (r:O Nat),r.length<=m->∀pre,T.cps.toList=pre++r->∀k acc,r.length<k->y6 T r pre.length acc (rE T k acc pre.length):=by
 intro m
 induction m with
 |zero=>
  intro r hr pre hT k acc hk;have:r=[]:=B2 ∅;subst this;rw[A3]at hT;have u0:gc T pre.length 4=[]:=Jr (L6 hT _);unfold rE qj;rw[if_pos u0];rfl
 |succ m ih=>
  intro r hr pre hT k acc hk;have hl:=Kp hT;rw[Ah]at hl;by_cases u0:gc T pre.length 4=[]
  .unfold rE qj;rw[if_pos u0];show gp r pre.length []=al pre.length;cases r with
   |nil=>rfl
   |cons c r=>
    have m0:0 < (if jD T pre.length "0"=true then 1 else 4):=by split <;> decide
    have hb:jD T pre.length rN=false:=by
     cases z:jD T pre.length rN with
     |false=>rfl
     |true=>exact absurd u0 (PM m0 z)
    rw[O1 hT,xI]at hb;rw[uj,if_neg (by rw[hb];simp),if_neg (by simp)]
  .have n0:qj T pre.length 4=.ok (IE (gc T pre.length 4),pre.length+(gc T pre.length 4).length):=if_neg u0;have u1:(gc T pre.length 4).length<=(if jD T pre.length "0"=true then 1 else 4):=sA;have u3:∀d∈gc T pre.length 4,dg d=true:=λd hd=>by rw[<- xI];exact sC hd
   have u4:(gc T pre.length 4).length < (if jD T pre.length "0"=true then 1 else 4)->jD T (pre.length+(gc T pre.length 4).length) rN=false:=λh=>xt h;obtain⟨rest,WS⟩:∃rest,r=gc T pre.length 4++rest:=by
    have hp:(gc T pre.length 4) <+: (T.cps.toList.drop pre.length):=(List.takeWhile_prefix _).trans (List.take_prefix _ _);rw[hT,List.drop_left]at hp;obtain⟨rest,h⟩:=hp;exact⟨rest,h.symm⟩
   unfold rE;rw[n0];generalize gc T pre.length 4=u at u0 u1 u3 u4 WS;subst WS;have ul:0<u.length:=Ca.mpr u0;rw[Ah]at hl hr hk;have SX:T.cps.toList=(pre++u)++rest:=by rw[hT];simp
   have lu:(pre++u).length=pre.length+u.length:=by simp
   have hz:jD T pre.length "0"=decide (u.head?=al 48):=by
    cases u with
    |nil=>exact absurd rfl u0
    |cons c u=>rw[O1 hT,RS];simp
   have T8:u.length<=4:=by split at u1<;>lia
   have hw:gp (u++rest) pre.length []=gp rest (pre.length+u.length) u:=by
    have:=ui u rest pre.length [] u3 (by simpa using T8) (λk hk=>by
     rw[C6];intro z;cases u with
     |nil=>exact absurd rfl u0
     |cons c u=>
      cases k with
      |zero=>cases z
      |succ k=>
       rw[DY]at z;injection z with z1 z2;subst z1;rw[hz]at u1;simp at u1;subst u1;simp at hk)
    rwa [C6]at this
   have á:∀c r',rest=c::r'->¬(dg c=true/\u≠[48]/\u.length<4):=λc r' e=>by
    rintro⟨h1,h2,h3⟩;rw[e]at SX;by_cases hc:u.head?=al 48
    .rw[hz,decide_eq_true hc,if_pos rfl]at u1;cases u with
     |nil=>exact absurd rfl u0
     |cons d u=>
      have:u=[]:=B2 (by simp at u1;exact u1▸rfl);subst this;simp at hc;exact h2 (by rw[hc])
    .rw[hz,decide_eq_false hc,if_neg ⋯]at u4;have:=u4 h3;rw[<- lu,O1 SX,xI,h1]at this;cases this
   cases k with
   |zero=>lia
   |succ k=>
   show y6 T (u++rest) pre.length acc (Mm T "." (k+1) (acc++[IE u]) (pre.length+u.length));rw[UT];cases rest with
   |nil=>
    rw[A3]at SX;have Oq:=Kp SX;have a1:=L6 SX ".";rw[lu]at a1 Oq;rw[a1,if_neg ⋯];refine⟨by lia,λh=>by lia,λ_=>⟨?_,[u],⟨by simp,λp hp=>?_⟩,rfl,by rw[A3];rfl⟩⟩
    .rw[hw,L4,if_neg u0]
    .rw[Ci.mp hp];exact⟨u0,T8,u3⟩
   |cons c r'=>
    rw[Ap]at hl hr hk;have a1:=O1 SX ".";rw[lu,RU]at a1;have hc:gp (c::r') (pre.length+u.length) u=if c=46 then gp r' (pre.length+u.length+1) [] else al (pre.length+u.length):=by
     rw[uj,if_neg (á c r' rfl)];by_cases QC:c=46
     .rw[if_pos ⟨QC,u0⟩,if_pos QC]
     .rw[if_neg (λh=>QC h.1),if_neg QC]
    by_cases QC:c=46
    .subst QC;rw[if_pos rfl]at hc;rw[a1,decide_eq_true rfl,if_pos rfl];have hT3:T.cps.toList=(pre++u++[46])++r':=by rw[SX];simp
     have h3:=ih r' ∅ (pre++u++[46]) hT3 k (acc++[IE u]) ∅;have l3:(pre++u++[46]).length=pre.length+u.length+1:=by simp;lia
     rw[l3]at h3;cases WE:rE T k (acc++[IE u]) (pre.length+u.length+1) with
     |error e=>
      rw[WE]at h3;show gp _ _ _=_;rw[hw,hc];exact h3
     |ok p=>
      obtain⟨l,n'⟩:=p;rw[WE]at h3;obtain⟨g1,g2,g3⟩:=h3;refine⟨g1,λh=>by rw[hw,hc];exact g2 h,λh=>?_⟩;obtain⟨k1,ps,⟨p1,p2⟩,k2,k3⟩:=g3 h;refine⟨by rw[hw,hc];exact k1,u::ps,⟨by simp,λp hp=>?_⟩,by rw[k2];simp,?_⟩
      .rcases Az.mp hp with rfl|hp
       .exact⟨u0,T8,u3⟩
       .exact p2 p hp
      .rw[nG,jt,if_neg p1,k3]
    .rw[if_neg QC]at hc;rw[a1,decide_eq_false QC,if_neg ⋯];exact⟨by lia,λ_=>by rw[hw,hc],λh=>by lia⟩
theorem Tq(T:Str):y6 T T.cps.toList 0 [] (mr T "." 0):=by
 have hl:T.cps.toList.length=T.length:=by simp[CA]
 have:=NZ (T:=T) _ T.cps.toList (Aj _) [] rfl (T.length+1) [] ∅;exact this
def asc(T:Str):Prop:=∀c∈T.cps.toList,c<128
def Te(s t:Str):of2 iI (.str s) (.str t)=.ret (.bl (s==t)):=by rw[vU,wn ⟨by simp,by simp,by simp⟩,Xc]
def Pn(p:O Nat)(ps:O (O Nat))(h:46∉p):(p++jt ps).takeWhile (· != 46)=p:=by
 have hp:∀c∈p,(c != 46)=true:=λc hc=>by simp;exact λz=>h (z▸hc)
 rw[List.takeWhile_append_of_pos hp];unfold jt
 split
 .simp
 .simp
theorem rk:∀(ps qs:O (O Nat)),ps≠[]->qs≠[]->(∀p∈ps,46∉p)->(∀p∈qs,46∉p)->gE ps=gE qs->ps=qs
 |[],_,h,_,_,_,_=>absurd rfl h
 |_,[],_,h,_,_,_=>absurd rfl h
 |p::ps,q::qs,_,_,hp,hq,e=>by
  rw[nG,nG]at e;have e1:p=q:=by rw[<- Pn p ps (hp p (.head _)),e,Pn q qs (hq q (.head _))]
  subst e1;have e2:=List.append_cancel_left e;unfold jt at e2;by_cases h1:ps=[]<;>by_cases h2:qs=[]
  .rw[h1,h2]
  .rw[if_pos h1,if_neg h2]at e2;cases e2
  .rw[if_neg h1,if_pos h2]at e2;cases e2
  .rw[if_neg h1,if_neg h2]at e2;injection e2 with _ e2;rw[rk ps qs h1 h2 (λx hx=>hp x (.tail _ hx)) (λx hx=>hq x (.tail _ hx)) e2]
theorem vF:∀ss:O Str,(Str.join "." ss).cps.toList=gE (ss.map λs=>s.cps.toList)
 |[]=>rfl
 |[s]=>rfl
 |s::u::ss=>by
  show(s++"."++Str.join "." (u::ss)).cps.toList=_;rw[Fy,Fy,D8,D8,vF (u::ss)];have:(".":Str).cps.toList=[46]:=by decide +kernel
  rw[this];simp[gE]
def same_int(n:Nat)(v:Int):aG (n+1) (.int v) (.int v)=.ret (.bl true):=by
 show c9 _ _ _=_;have c1:Kd.is .str (.int v)=false:=rfl;simp only[r9,OK,OH,aV,Aq,if_false,Ln,PV.rq,fk,c1,OI,Bm,Ta,beq_self_eq_true,yA,OJ]
theorem uS:∀l:O PV,jy l l=l.map λx=>PV.tup [x,x]
 |[]=>rfl
 |x::l=>by rw[AY,<- uS l];rfl
def ne_int(n:Int):of2 kC (.int n) (.int n)=.ret (.bl false):=by simp
def G5(k:Nat)(s:Str):Prop:=asc s/\s.length<=k
def O2(h:s.cps.toList.all (λc=>decide (c<128))=true):asc s:=λc hc=>by simpa using Bk.mp h c hc
def n9:∀n:Nat,n<100->G5 2 (Ea (.int (n:Int))):=by
 intro n hn;simp only[Ea];have:∀n,n<100->((((toString ((n:Nat):Int):String):Str).cps.toList.all (λc=>decide (c<128)))&&decide (((toString ((n:Nat):Int):String):Str).length<=2))=true:=by decide +kernel
 have h:=this n hn;rw[AA]at h;exact⟨O2 h.1,by simpa using h.2⟩
theorem Vp{i:Int}(h0:0<=i)(h1:i<100):∃s,qf (.int i)=.ret (.str s)/\G5 2 s:=by
 obtain⟨n,rfl⟩:∃n:Nat,i=(n:Int):=⟨i.toNat,by lia⟩;have sg:=n9 n ∅;refine⟨(PV.pd (.int (n:Int))).shown,wn ⟨by simp,?_,?_,?_⟩,by rw[PV.pd];exact sg⟩
 .simp only[PV.pd,PyData.showable,decide_eq_true_iff];have:∀n:Nat,n<100->((n:Nat):Int).natAbs.log2<1920:=by decide +kernel
  exact this n ∅
 .simp[PV.pd,PyData.depth]
 .rw[PV.pd];exact bA (by have:=sg.2;lia)
theorem Jd:∀{ss:O Str},(∀s∈ss,s.length<=k)->(ss.map (·.length)).sum<=k*ss.length
 |[],_=>by simp
 |s::ss,h=>by
  have:=Jd λx hx=>h x (AD s hx);have h1:=h s (.head _);rw[AY,List.sum_cons,Ap,Nat.mul_succ];lia
end My
variable{ps:O (O Nat)}
namespace My
def Wr(p:O Nat):Prop:=p≠[]/\p.length<=4/\(∀c∈p,dg c=true)/\(p=[48]\/p.head?≠al 48)
theorem L3:∀(ps:O (O Nat)) (i:Nat),ps≠[]->(∀p∈ps,Wr p)->gp (gE ps) i []=bn
 |[],_,h,_=>absurd rfl h
 |p::ps,i,_,h=>by
  obtain⟨h1,h2,h3,h4⟩:=h p (.head _);have hw:=ui p (jt ps) i [] h3 (by simpa using h2) (λk hk=>by
   rw[C6];rcases h4 with rfl|h4
   .have:k=0:=by simp at hk;exact hk
    subst this;simp
   .intro z;cases p with
    |nil=>exact absurd rfl h1
    |cons c p=>
     cases k with
     |zero=>cases z
     |succ k=>
      rw[DY]at z;injection z with z1 z2;subst z1;simp at h4)
  rw[nG,hw,C6];unfold jt;by_cases hp:ps=[]
  .rw[if_pos hp,L4,if_neg h1]
  .rw[if_neg hp,uj,if_neg (by rintro⟨z,_⟩;revert z;decide),if_pos ⟨rfl,h1⟩];exact L3 ps _ hp λq hq=>h q (.tail _ hq)
def Ph(h:∀p∈ps,∀c∈p,dg c=true):∀p∈ps,46∉p:=λp hp z=>by have:=h p hp 46 z;revert this;decide
theorem Ts(h0:ps≠[])(h:∀p∈ps,Wr p)(e:T.cps.toList=gE ps):k6 T 0=.ok (.tup (Ul (ps.map IE)),T.length):=by
 have hA:gp T.cps.toList 0 []=bn:=by rw[e];exact L3 ps 0 h0 h
 have hd:=Tq T;unfold k6;cases hn:mr T "." 0 with
 |error m=>
  rw[hn]at hd;have hd:gp T.cps.toList 0 []=al m:=hd;rw[hA]at hd;cases hd
 |ok r=>
  obtain⟨l,n'⟩:=r;rw[hn]at hd;obtain⟨g1,g2,g3⟩:=hd;have en:n'=T.length:=by
   rcases Ec n' T.length with c|c
   .rw[hA]at g2;cases g2 c
   .omega
  obtain⟨_,ps',hps,hl,he⟩:=g3 en;have:ps'=ps:=rk ps' ps hps.1 h0 (Ph λp hp=>(hps.2 p hp).2.2) (Ph λp hp=>(h p hp).2.2.1) (by rw[<- he,e]);subst this;rw[en,hl];rfl
def sh(d:Int):Str:=Ea (.int d)
theorem PJ(h0:0<=d)(h1:d<100):Wr (sh d).cps.toList/\(IE (sh d).cps.toList:Int)=d:=by
 obtain⟨n,rfl⟩:∃n:Nat,d=(n:Int):=⟨d.toNat,by lia⟩;unfold sh;simp only[Ea];have:∀n,n<100->(decide (((toString ((n:Nat):Int):String):Str).cps.toList≠[])&&decide (((toString ((n:Nat):Int):String):Str).cps.toList.length<=4)&&((toString ((n:Nat):Int):String):Str).cps.toList.all (λc=>dg c)&&(decide (((toString ((n:Nat):Int):String):Str).cps.toList=[48])||decide (((toString ((n:Nat):Int):String):Str).cps.toList.head?≠al 48))&&decide (IE ((toString ((n:Nat):Int):String):Str).cps.toList=n))=true:=by decide +kernel
 have h:=this n ∅;simp only[AA,Bool.or_eq_true,decide_eq_true_eq,Bk]at h;obtain⟨⟨⟨⟨a,b⟩,c⟩,e⟩,f⟩:=h;exact⟨⟨a,b,c,e⟩,by rw[f]⟩
theorem jR:∀ds:O Int,(∀d∈ds,0<=d/\d<100)->cY (aP ds) (λp=>qf p)=.ret ((ds.map sh).map PV.str)
 |[],_=>rfl
 |d::ds,h=>by
  have e:=jR ds λx hx=>h x (.tail _ hx);have e2:qf (.int d)=.ret (.str (sh d)):=by
   obtain⟨s,e,_⟩:=Vp (h d (.head _)).1 (h d (.head _)).2;have e3:qf (.int d)=.d9 (xo (.int d)) (.ret (.str (PV.pd (.int d)).shown)):=rfl;have hk:xo (.int d):=by
    have q:(qf (.int d)).run λ_=>True:=by rw[e];exact trivial
    rw[e3]at q;exact q.1
   rw[e3,wn hk];show ap (PV.str (PV.pd (.int d)).shown)=_;rw[PV.pd];rfl
  show am (qf (.int d)) (λy=>am (cY (aP ds) λp=>qf p) λm=>ap (y::m))=_;rw[e2,r9,e,r9];rfl
def txt(ds:O Int):Str:=Str.join "." (ds.map sh)
def MK(ds:O Int):(txt ds).cps.toList=gE (ds.map λd=>(sh d).cps.toList):=by unfold txt;rw[vF,BC];rfl
theorem nj(h1:ds.length<=30)(hb:∀d∈ds,0<=d/\d < 100):ye "." (ds.map sh)<=90/\(txt ds).length<=90:=by
 have hs:((ds.map sh).map (·.length)).sum<=2*(ds.map sh).length:=Jd λs hs=>by
  obtain⟨d,hd,rfl⟩:=AR.mp hs;obtain⟨n,rfl⟩:∃n:Nat,d=(n:Int):=⟨d.toNat,by have:=(hb d hd).1;lia⟩;exact(n9 n (by have:=(hb _ hd).2;lia)).2
 have p1:(".":Str).length=1:=by decide +kernel
 rw[Am]at hs
 constructor
 .unfold ye;rw[StrLaws.joinTotal,p1,Am];lia
 .have:=StrLaws.join_length_le "." (ds.map sh);rw[p1,Am]at this;unfold txt;lia
theorem join_eq(h1:ds.length<=30)(hb:∀d∈ds,0<=d/\d < 100):tq "." ((ds.map sh).map PV.str)=.ret (.str (txt ds)):=by
 obtain⟨a,b⟩:=nj h1 hb;show am (nZ _) _=_;rw[zZ,r9];have e:Builtin.Str.glued "." (ds.map sh)=txt ds:=StrLaws.glued_eq_join _ _;rw[e];exact wn ⟨bA ∅,bA ∅⟩
def Gw(h0:0<ds.length)(hb:∀d∈ds,0<=d/\d<100):k6 (txt ds) 0=.ok (.tup (aP ds),(txt ds).length):=by
 have:=Ts (T:=txt ds) (ps:=ds.map λd=>(sh d).cps.toList) (by intro z;have:=congrArg CU z;simp at this;rw[this]at h0;simp at h0) (λp hp=>by
  obtain⟨d,hd,rfl⟩:=AR.mp hp;exact(PJ (hb d hd).1 (hb d hd).2).1) (MK ds)
 rw[this];have e:Ul ((ds.map λd=>(sh d).cps.toList).map IE)=aP ds:=by
  unfold Ul aP;rw[BC,BC];refine DZ λd hd=>?_;show PV.int (IE (sh d).cps.toList:Nat)=_;rw[(PJ (hb d hd).1 (hb d hd).2).2]
 rw[e]
theorem sE(g:GG t)(h0:0<ds.length)(h1:ds.length<=30)(hb:∀d∈ds,0<=d/\d<100)(hd:d8 t ds=true):(P9 aU t.pv (.str (txt ds))).le (.ret (.tup (aP ds))):=λQ q=>by
 have im:=mE g ds ∅;rw[hd]at im;exact⟨txt ds,.tup (aP ds),(txt ds).length,rfl,bA (by have:=(nj h1 hb).2;lia),Gw h0 hb,AM _,im _ ⟨rfl,q⟩⟩
theorem JN(g:GG t)(h0:0<ds.length)(h1:ds.length<=30)(hb:∀d∈ds,0<=d/\d<100):(Sd aU t.pv (.str (txt ds))).le (.ret (if d8 t ds=true then .br else .int (txt ds).length)):=λQ q=>by
 have im:=mE g ds ∅;refine⟨rfl,λz=>absurd rfl (z (txt ds)),λT' e=>?_⟩;cases e;refine⟨bA (by have:=(nj h1 hb).2;lia),?_⟩;rw[Gw h0 hb,JO,if_neg (AM _)];refine im _ ⟨_,rfl,?_⟩;have q:Q (if d8 t ds=true then .br else .int (txt ds).length):=q;generalize d8 t ds=b at q;exact q
def same_str(n:Nat)(s:Str):aG (n+1) (.str s) (.str s)=.ret (.bl true):=by
 show c9 _ _ _=_;simp only[r9,kX,tS,aV,Aq,if_false,Ln,PV.rq,fk,nM,if_true,tT,Te,beq_self_eq_true]
theorem GY(n:Nat)(l:O Int)(hl:l.length<=900):aG (n+2) (.tup (aP l)) (.tup (aP l))=.ret (.bl true):=by
 show c9 _ _ _=_;have c:(aP l).length<=sizeLine:=bA (by rw[ff];lia);simp only[r9,fU,tR,aV,if_true,Bm,Aq,if_false,nL,pE,beq_self_eq_true,fk,cu,rQ,wn c,uS];rw[jc (g:=λ_=>PV.bl true) λx hx=>?_]
 .simp only[r9];rw[all_map (λ_=>true)];congr 2;exact Bk.mpr λ_ _=>rfl
 .obtain⟨y,hy,rfl⟩:=AR.mp hx;obtain⟨v,_,rfl⟩:=AR.mp hy;simp only[Ld,r9];exact same_int n v
theorem KH(P5:d8 t ds=true):∀x∈ds,0<=x/\x<100:=λx hx=>by
 refine⟨Oj P5 x hx,?_⟩;have ok2:=P5;obtain⟨j,hj,rfl⟩:=FO hx;unfold d8 at P5;rw[AA,AA,decide_eq_true_iff]at P5;have:=Bk.mp P5.2.2 j (Bj.mpr ∅);have e:ds.getD j 0=ds[j]:=by rw[AQ,Af hj];rfl
 unfold Iz at this;rw[<- e];cases e:en t 0 j with
 |word w=>
  rw[e]at this;have this:(ds.getD j 0==0)=true:=this;rw[eq_of_beq this];decide
 |pair a b=>
  rw[e]at this;have this:(decide (ds.getD a 0<ds.getD j 0)&&decide (ds.getD b 0<ds.getD j 0)&&decide (1<=ds.getD j 0)&&decide (ds.getD j 0<=99))=true:=this;rw[AA,decide_eq_true_iff]at this;lia
def M6(h1:ds.length<=30)(hb:∀d∈ds,0<=d/\d<100):cZ (.tup (aP ds))=.ret (.str (txt ds)):=by
 have sd:Vg (.str ".")=.ret ".":=wn (by decide +kernel);unfold cZ eW;simp only[r9,sd,cu,jR ds hb,join_eq h1 hb]
def Pk:Wd "a":=⟨by decide +kernel,by decide +kernel,by decide +kernel⟩
def UR:Wd "b":=⟨by decide +kernel,by decide +kernel,by decide +kernel⟩
def XM:GG (.node (.leaf "a") (.leaf "b")):=by
 refine⟨λx hx=>?_,?_,?_⟩
 .have hx:x∈(["a","b"]:O Str):=hx;simp only[Az,Cv,or_false]at hx;rcases hx with rfl | rfl
  .exact Pk
  .exact UR
 .show(["a","b"]:O Str).Nodup;decide +kernel
 .show 2<=8;decide
def abt:GG (.leaf "a"):=by
 refine⟨λx hx=>?_,?_,?_⟩
 .have hx:x∈(["a"]:O Str):=hx;rw[Ci.mp hx];exact Pk
 .show(["a"]:O Str).Nodup;decide +kernel
 .show 1<=8;decide
theorem law75_ok:∀ns:O Int,ns.length<=63->(oP (.cl (ns.map PV.int))).run (·=.bl true):=by
 intro ns hn;unfold oP;have hl:(yK (ns.map PV.int) bn (al 16)).length<=16:=by
  unfold yK;rw[HT.Jm,show(al (16:Int))=al ((16:Nat):Int) from rfl,HT.Nc];simp only[Cf,CZ];lia
 generalize hm:(yK (ns.map PV.int) bn (al 16)).length=m at hl;simp only[r9,lm,jo,OE,Lk,hm,dH,kW,wn (gA (i:=0) (j:=1+(m:Int)) ∅ ∅),ut];refine vQ (λ_ s=>s=()) rfl (λk s hk hs=>?_) (λs hs=>?_)
 .refine ym ∅ ∅ λl hl=>?_;refine⟨hl,?_⟩;simp only[r9,lm,ut];refine vK λt g=>?_;have hz:=g.size;have hp:=t.size_pos;simp only[r9,lm,ut,kW,wn (gA (i:=0) (j:=3) ∅ ∅)];refine vQ (λ_ s=>s=()) rfl (λk s hk hs=>?_) (λs hs=>?_)
  .simp only[r9,lm];refine wA g λds d D ae5=>?_;have hdl:ds.length=t.size:=D.len;have uL:(splits t).length<=7:=by have:=xl t;have:=g.Uw;lia
   have P5:d8 t ds=true:=D.isD ∅;have UC:=KH P5;have sd:Vg (.str ".")=.ret ".":=wn (by decide +kernel);have so:=M6 (ds:=ds) ∅ UC;have s1:aG 4 (.str (txt ds)) (.str (txt ds))=.ret (.bl true):=same_str 3 _;have s2:aG 4 (.tup (aP ds)) (.tup (aP ds))=.ret (.bl true):=GY 2 ds ∅;have rd:=sE g (ds:=ds) ∅ ∅ UC P5;simp only[cu,r9,lm,sd,jR ds UC,join_eq (ds:=ds) ∅ UC,so,s1,ut,aV,Bm,Aq,if_false];refine rd.use ?_;simp only[s2,ut,aV,Bm,Aq,if_false,lm];refine rd.use ?_;simp only[s2,ut,aV,Bm,Aq,if_false,lm,HK];have gd:=g.depth;have gf:=g.Uw;refine(xS 12 t ∅ ∅).use ?_;refine kL (Hq t) ∅ λu hu=>?_;have gu:GG u:=⟨λx hx=>g.ws x (hu▸hx),hu▸g.nd,by rw[hu];exact g.Uw⟩;have po:=JN gu (ds:=ds) ∅ ∅ UC;refine(wL gu ds ∅).use ?_;have cT:(txt ds).length<=sizeLine:=bA (by have:=(nj (ds:=ds) ∅ UC).2;lia);cases hb:d8 u ds with
   |true=>
    rw[hb,if_pos rfl]at po;simp only[ut,aV,if_true,lm];refine po.use ?_;have nn:of2 kC .br .br=.ret (.bl false):=by rw[Li,wn ⟨by simp,by simp,by simp⟩,kU _ (by simp)];rfl
    simp only[ut,nn,fk,r9,Aq,if_false]
   |false=>
    rw[hb,if_neg ⋯]at po;simp only[ut,aV,Aq,if_false,lm,z9,wn cT];refine po.use ?_;simp only[ut,ne_int,fk,r9,Aq,if_false]
  .simp only[yo,ut]
 .simp only[yo,lm,r9,ut];have b1:∀d∈([0,0,99]:O Int),0<=d/\d<100:=by decide
  have b2:∀d∈([0]:O Int),0<=d/\d<100:=by decide
  have r1:=sE XM (ds:=[0,0,99]) ⋯ ⋯ b1 (by decide +kernel);have r2:=sE abt (ds:=[0]) ⋯ ⋯ b2 (by decide +kernel);have t1:txt [0,0,99]="0.0.99":=by decide +kernel
  have t2:txt [0]="0":=by decide +kernel
  rw[t1]at r1;rw[t2]at r2;refine r1.use ?_;have e1:of2 iI (.tup (aP [0,0,99])) (.tup [.int 0,.int 0,.int 99])=.ret (.bl true):=by
   show of2 iI (.tup (aP [0,0,99])) (.tup (aP [0,0,99]))=_;rw[vU,wn ⟨by simp[aP],by simp[aP],by simp[aP]⟩,kU _ (by simp[aP])]
  have e2:of2 iI (.tup (aP [0])) (.tup [.int 0])=.ret (.bl true):=by
   show of2 iI (.tup (aP [0])) (.tup (aP [0]))=_;rw[vU,wn ⟨by simp[aP],by simp[aP],by simp[aP]⟩,kU _ (by simp[aP])]
  simp only[ut,e1,r9,tT,lm];refine r2.use ?_;simp only[ut,e2]
def all_d{K:Aa}(X:K.In h)(G:h.Ns gt mg)(yF:DX K "is_whole" (top 1))(Lz:DX K "is_row" (top 2))(HS:DX K "is_word" (top 6))(yG:DX K "is_grown" (top 7))(yH:DX K "is_great" (top 8))(yD:DX K "parts_of" (top 9))(OO:DX K "nodes" (top 10))(qA:DX K "split_dates" (top 13))(HU:DX K "is_date" (top 14))(yI:DX K "is_dates" (top 15))(pK:DX K "show_numbers" (top 23))(tV:DX K "show_dates" (top 24))(wu:DX K "_law_hand" (top 35))(wj:DX K "_law_take" (top 36))(tX:DX K "_law_words" (top 37))(qC:DX K "_law_joined" (top 38))(tZ:DX K "_law_great" (top 39))(qB:DX K "_law_leaves" (top 40))(wq:DX K "_law_rows" (top 41))(t4:DX K "_law_dates" (top 42))(wo:DX K "_law_same" (top 43))(l7:DX K "_law_are_dates" (top 45))(abk:RD K)(e_xd:XD K)(vX:DX K "take_many" zw)(qz:DX K "take_number" Nb)(pJ:DX K "take_numbers" zv)(yC:DX K "read_all" Nd)(tY:DX K "_law_place" X9)(e_read_dates:DXc K "read_dates" (top 33) 209)(bS:Aw K gt "LONGEST_WORD"=al (al (.int 8 iA)))(eO:Aw K gt "LETTERS"=al (al (.str "abcdefghijklmnopqrstuvwxyz" qM)))(dU:Aw K gt "LAST_DATE"=al (al (.int 99 ml)))(jw:Aw K gt "POINT"=al (al (.str "." zd))){GR:Tok}(ma:Aw K gt "FIGURES"=al (al (.str "0123456789" GR))){nY:Tok}(fq:Aw K gt "MOST_FIGURES"=al (al (.int 4 nY)))(kf:Aw K gt "isinstance"=al bn)(IK:Aw K gt "bool"=al bn)(Pf:Aw K gt "int"=al bn)(Pe:Aw K gt "len"=al bn)(y9:Aw K gt "tuple"=al bn)(Pd:Aw K gt "str"=al bn)(UL:Aw K gt "all"=al bn)(QL:Aw K gt "list"=al bn)(w5:Aw K gt "reversed"=al bn)(UI:Aw K gt "zip"=al bn)(UK:Aw K gt "max"=al bn)(UJ:Aw K gt "set"=al bn)(Mz:Aw K gt "range"=al bn)(UM:Aw K gt "abs"=al bn)(uT:Aw K gt "enumerate"=al bn)(rR:Aw K gt "ValueError"=al bn):QJ K mg Qz 285:=by
 constructor
 rintro v rfl rfl D XU;have XN:mK 285 "law.<locals>.<lambda>":=⟨by decide +kernel,by decide +kernel⟩;have q:∀b,NB (v.at b):=λb=>⟨Ay X G kf,Ay X G IK,Ay X G Pf,Ay X G Pe,Ay X G y9,Ay X G Pd,Ay X G UL,Ay X G QL,Ay X G w5,Ay X G UI,Ay X G UK,Ay X G UJ,Ay X G Mz,Ay X G UM,Ay X G uT⟩;replace bS:=Ba X G bS;replace eO:=Ba X G eO;replace dU:=Ba X G dU;replace jw:=Ba X G jw;replace ma:=Ba X G ma;replace fq:=Ba X G fq;have p:=q v.base;obtain⟨pX⟩:=yF.wZ (d:=hU) X G;have yV:∀b,hU.C (v.at b):=λb=>(pX.at b).c (ya (pX.at b) (q b));obtain⟨wV⟩:=Lz.wZ (d:=iY) X G;have wN:∀b,iY.C (v.at b):=λb=>(wV.at b).c (Ky (wV.at b) (q b));obtain⟨dB⟩:=HS.wZ (d:=eM) X G;have UE:∀b,eM.C (v.at b):=λb=>(dB.at b).c (rj (dB.at b) (q b) bS eO);obtain⟨pY⟩:=yG.wZ (d:=(hV dB.f)) X G;have yW:∀b,(hV dB.f).C (v.at b):=λb=>(pY.at b).c (yb (pY.at b) ((dB.at b).cA (rj (dB.at b) (q b) bS eO)) (wN b));obtain⟨pZ⟩:=yH.wZ (d:=hX) X G;have yX:∀b,hX.C (v.at b):=λb=>(pZ.at b).c (yc (pZ.at b) dB.at' (yW b));obtain⟨pW⟩:=yD.wZ (d:=hO) X G;have yU:∀b,hO.C (v.at b):=λb=>(pW.at b).c (xZ (pW.at b) (q b));obtain⟨GI⟩:=OO.wZ (d:=nN) X G;have O4:∀b,nN.C (v.at b):=λb=>(GI.at b).c (Od (GI.at b) (q b) (yU b));obtain⟨jO⟩:=qA.wZ (d:=dI) X G;have qG:∀b,dI.C (v.at b):=λb=>(jO.at b).c (qr (jO.at b) (q b));obtain⟨rO⟩:=HU.wZ (d:=jv) X G;have Il:∀b,jv.C (v.at b):=λb=>(rO.at b).c (Hu (rO.at b) (q b) dU);obtain⟨p0⟩:=yI.wZ (d:=j7) X G;have yY:∀b,j7.C (v.at b):=λb=>(p0.at b).c (yd (p0.at b) (q b) (yX b) (O4 b) (yV b) (wN b) (qG b) (Il b));have uC:mK 209 "read_dates.<locals>.<lambda>":=⟨by decide +kernel,by decide +kernel⟩;obtain⟨⟨uu⟩,⟨uw⟩⟩:=Wa (v:=v) (mD:=aU) (kD:=4) (sD:=top 15) X G abk e_xd vX qz pJ yC e_read_dates tY uC yY ⋯ ma fq jw (Ay X G Pe) (Ay X G kf) (Ay X G Pd) (Ay X G IK) (Ay X G Pf) (Ay X G rR) (Ay X G y9);refine pK.go (d:=fo) X G (λD=>oU D p) λpR=>?_;refine tV.go (d:=hJ) X G (λD=>sZ D jw pR) λur=>?_;refine wu.go (d:=i4) X G (λD=>vE D p) λwQ=>?_;refine wj.go (d:=cO) X G (λD=>vD D) λfZ=>?_;refine tX.go (d:=hZ) X G (λD=>s9 D p fZ) λuv=>?_;refine qC.go (d:=dJ) X G (λD=>qt D p fZ) λjL=>?_;refine tZ.go (d:=ic) X G (λD=>tj D p fZ jL uv) λux=>?_;refine qB.go (d:=gm) X G (λD=>jH D p 12) λqH=>?_;refine wq.go (d:=fX) X G (λD=>mC D p 12) λmL=>?_;refine t4.go (d:=ig) X G (λD=>tm D p mL fZ) λuy=>?_;refine wo.go (d:=iZ) X G (λD=>mB D p 4) λwO=>?_;refine l7.go (d:=dA) X G (λD=>lR D p mL) λme=>?_;exact Wm D XU XN uw p wQ ux uy wO uu ur jL qH me
end My
end
open PySem PySem.W PyProof.Rows
structure PySem.W.Fast:Prop where(tw4673004344415651651 tw8162503775896036802 tw11224157942982483646 tw7861329058381687458 tw15979268673455169399 tw630802738328775011 tw13042272995581824473 tw17960313788312090202 tw15438038716905535945 tw14201547052911149201 tw13661689163648917560 tw4373916833867640273 tw12918896597799511456 tw5253156801307841041 tw16186917593041521411 tw17649197553385732044 tw1588281481893036951 tw10800163820253413392 tw3714356363016490005 tw12301488407120091973 tw7133870932935279566 tw9768790360909807759 tw13346911391671392328 tw9462244024056499994 tw16868554902373506840 tw11449440009325100000 tw14680691531567181991 tw2196753507573009415 tw17749757736098677875 tw646258305722313859 tw7510334345150089332 tw2454601281412766454 tw16851790420223134447 tw6383040286757016767 tw12979385775690795694 tw18052011481710379349 tw3906848256428886880 tw1599833828892326175 tw6689216734553791015 tw1213167150889316806 tw6575057918067973359 tw3051515455858711264 tw4480661433817731623 tw13958235037280336480 tw13180857900984424983 tw4197238481117477642 tw11269905387871790215 tw2313953052730117693 tw11499845543811883741 tw9888987934303497254 tw13388903419427024695 tw3161825821833464174 tw4952445280573714063 tw10721913864508540412 tw7736308416402831377 tw3851687373231795845 tw12842853017951503735 tw10605130590680416463 tw9809960945562213151 tw1509052627833889038 tw13208143937271715404 tw11985750332917360378 tw10608833539301677060 tw5025061178077128190 tw3101253182276738515 tw3065185448876187086 tw18300134559616361733 tw13953102574815424300 tw15789084645109131292 tw11481368551813011501 tw1610863207309050713 tw3324924713333690531 tw2669448695354888202 tw9738027302477323258 tw15557066769970037424 tw16551999876102419386 tw14547037360882717472 tw4346206593779000909 tw45524104097183775 tw10294215919013441436 tw12597651341911812700 tw3540715934951468614 tw15051726058893977825 tw587376520043392408 tw8617807841034454931 tw18196947221868349440 tw1897038206475166123 tw10790910326218081527 tw7920338865136171029 tw7505551546685554123 tw10603822058860880 tw1386553489107804173 tw16965085414411414408 tw1427423528275526734 tw5056412764864192979 tw15886540819005802028 tw14643991143696360537 tw11030337414892865138 tw10582850149566856910 tw5560829991059538622 tw1014531850266404610 tw15873818243128038635 tw913831897776444788 tw14921095112472743131 tw3388204518229947910 tw5555310515457354885 tw4191920216751274956 tw15291047562573711119 tw10512337856929977248 tw2560460424144078454 tw14512375597795065553 tw13445016572088123812 tw2581386334239334104 tw14264590442623144409 tw3184374714126860334 tw9546241924480236690 tw196272448528197639 tw6889835575170555363 tw16639208777293419537 tw6790043929773259546 tw1042130758084095022 tw13344001406140428698 tw4307218229840441882 tw10541658803361643918 tw12513856429966415292 tw6561718046761630312 tw17724302546572765740 tw15484620308423621449 tw10569817359084653728 tw7642511394234485392 tw12275670375602311520 tw6004540319684197495 tw17188110547740452683 tw13421099645290844681 tw2467985263730218852 tw5963766418635588226 tw4026382574650638344 tw807442598839169071 tw7131477619085991446 tw2571484908866947309 tw13935985030387161901 tw4168908470916038885 tw2347252677627563045 tw851466600074236837 tw747023290395189148 tw10574563051504512883 tw10175599725402463959 tw7754902102510512572 tw11543437026105774119 tw3927407867806368437 tw3869576098970470983 tw3946708818476970770 tw5638672103796476816 tw17165804061531977623 tw11462750679098130285 tw6657632193096359849 tw6066228378148560668 tw714072779724053422 tw8065604847120924507 tw262584539301280352 tw14659740978746285558 tw1050068683115536411 tw10658067623369224150 tw1257138063321956622 tw9916535304042224347 tw12265130974981047508 tw12169967591073395522 tw11009936774189624304 tw10126055394383879760 tw7709714099544755352 tw2733890218763417520 tw6833820744828276901 tw14660752973858258299 tw10693035367914573001 tw11008185946449112314 tw3235657594054020422 tw6859965155641168195 tw11957827029440856761 tw4089332513427711081 tw10266687360015650778 tw17765140493744322925 tw13746327676615779232 tw6307480576804663407 tw6291409176455973069 tw18276572945114706940 tw9944169986541759237 tw7356705050975413628 tw8188238590302827174 tw7013525574609480965 tw1018476895764117633 tw6120608390020497866 tw8279291433129765089 tw6168920973335633913 tw13145823590868546582 tw10061756107258253779 tw13437678066909134837 tw3772266537538350036 tw12562751729048362977 tw9404008495588772256 tw3382224944801650769 tw14292812285217326720 tw4180100748141568399 tw14062785038995092630 tw13522848755313930190 tw12572597980193526501 tw4848491559489548639 tw9492313495533689117 tw3172094162525848531 tw2584813912373359078 tw4295780645822750057 tw6900451167575723649 tw3750118013425113992 tw1064643317249095630 tw8607542242911332270 tw8081712864441891269 tw8525559533458316017 tw13775872674456388657 tw7591522304310972392 tw12354155977002856026 tw10855816482405094359 tw8232848803289270317 tw5092264818318004915 tw7263333750416105209 tw10351482997532978866 tw5647607108836488150 tw13965088103146968078 tw15531078827347555314 tw12810299413291592135 tw10318797549000349891 tw5276202866922721495 tw10394187161064658639 tw16510455876499436198 tw10577532354084953376 tw7430709711792876430 tw10134317207983902591 tw1189910826112040355 tw11338011753976835013 tw14988138736381653463 tw4387398207609900018 tw15897982950260264213 tw10429803301060176089 tw8454001161292948009 tw8882128879832130932 tw11718421734261544837 tw3321196005668853713 tw1489611179474021419 tw14611467858351674963 tw18219805635910993690 tw17542161966731465603 tw16845213676424849280 tw15164060359426725195 tw13020068995256023649 tw3173448798186745004 tw15919112172572679858 tw1962844779790976527 tw3573499049643320440 tw6047288976430599508 tw2683596642058239645 tw12756655863323649303 tw13206087004395257224 tw17348418944477775311 tw16708086033807013126 tw10751130072648259660 tw13113061782824640427 tw3714776044751964466 tw10004575185454661543 tw11231101720415207479 tw488457309270125749 tw17330992323339405131:True)
def PySem.W.Fast.tw7983821892832526378:=PySem.Challenge.pw_treewithin_k75_dates_written_and_read
theorem PySem.W.Fast.te7983821892832526378:PySem.Challenge.pw_treewithin_k75_dates_written_and_read=PySem.W.Fast.tw7983821892832526378:=rfl
set_option maxRecDepth 100000 in
set_option maxHeartbeats 0 in
theorem PySem.Challenge.cw_treewithin_k75_dates_written_and_read_holds : PySem.Challenge.rw_treewithin_k75_dates_written_and_read.Holds := by
 w_on;o_law;k_head;(case hw=>w_witness2)
 k_fill
 refine FL.walkT (l:=PySem.Challenge.rw_treewithin_k75_dates_written_and_read) (k:=14) rfl rfl ⟨rfl,by decide,by decide,rfl⟩ (fun w h Y=>⟨PySem.W.km_in_of Y,PySem.W.km_tabs_of Y⟩) ?K ?C ?F
 case K=>
  intro w P hP;have hP:P∈[209,285]:=hP;simp only[List.mem_cons,List.not_mem_nil,or_false]at hP;rcases hP with rfl|rfl
  all_goals first|rfl|k_is
 case C=>
  intro w h hK P hP;have hP:P∈[209,285]:=hP;simp only[List.mem_cons,List.not_mem_nil,or_false]at hP;rcases hP with rfl|rfl
  ·(refine' FL.DXc.tab (x:="read_dates") (st:=My.top 33) (FL.dxc ?a ?l ?h ?k ?e ?z) hK;(case a=>k_is);(case l=>k_is);(case h=>k_is);(case k=>k_is);(case e=>k_is);(case z=>exact⟨_,_,_,_,_,_,_,rfl,rfl,rfl,rfl,rfl,rfl,by decide⟩))
  ·(refine' FL.DXc.tab (x:="law") (st:=My.top 46) (FL.dxc ?a ?l ?h ?k ?e ?z) hK;(case a=>k_is);(case l=>k_is);(case h=>k_is);(case k=>k_is);(case e=>k_is);(case z=>exact⟨_,_,_,_,_,_,_,rfl,rfl,rfl,rfl,rfl,rfl,by decide⟩))
 case F=>
  intro w mg fa h KX G hmg;have e8_xd:=FL.forK (fun K=>My.XD K) KX (by
   show My.XD _;refine' My.xdx ?e1 ?e2 ?e3 ?e4 ?e5 ?e6 ?e7 ?e8 ?e9 ?e10 ?e11 ?e12 ?e13 ?e14 ?e15 ?e16 ?e17 ?e18 ?e19 ?e20 ?e21 ?e22 ?e23 ?e24 ?e25 ?e26 ?e27 ?e28 ?e29 ?e30 ?e31 ?e32 ?e33 ?e34 ?e35 ?e36 ?e37 ?e38
   case e1=>k_is
   case e2=>k_is
   case e3=>show FP _ _ [.type "ValueError",.type "Exception",.type "BaseException",.type "object"] _=true;k_exc
   case e4=>k_is
   case e7=>k_is
   case e21=>k_is
   case e25=>k_is
   case e26=>k_is
   case e5=>k_is
   case e6=>k_is
   case e8=>k_is
   case e9=>k_is
   case e10=>k_is
   case e11=>k_is
   case e12=>k_is
   case e13=>k_is
   case e14=>k_is
   case e15=>k_is
   case e16=>k_is
   case e17=>k_is
   case e18=>k_is
   case e19=>k_is
   case e20=>k_is
   case e22=>k_is
   case e23=>k_is
   case e24=>k_is
   case e27=>k_is
   case e28=>k_is
   case e29=>k_is
   case e30=>k_is
   case e31=>k_is
   case e32=>k_is
   case e33=>k_is
   case e34=>rfl
   case e35=>rfl
   case e36=>k_is
   case e37=>k_is
   case e38=>k_is
   )
  have e8_read_dates:=FL.forK (fun K=>FL.DXc K "read_dates" (My.top 33) 209) KX (by
   show FL.DXc _ _ _ _;refine' FL.dxc ?a ?l ?h ?k ?e ?z
   case a=>k_is
   case l=>k_is
   case h=>k_is
   case k=>k_is
   case e=>k_is
   case z=>exact⟨_,_,_,_,_,_,_,rfl,rfl,rfl,rfl,rfl,rfl,by decide⟩)
  have e8_law:=FL.forK (fun K=>FL.DXc K "law" (My.top 46) 285) KX (by
   show FL.DXc _ _ _ _;refine' FL.dxc ?a ?l ?h ?k ?e ?z
   case a=>k_is
   case l=>k_is
   case h=>k_is
   case k=>k_is
   case e=>k_is
   case z=>exact⟨_,_,_,_,_,_,_,rfl,rfl,rfl,rfl,rfl,rfl,by decide⟩)
  refine' FL.mkAllC (st:=My.top 46) (P:=285) (k:=14) My.law75_ok KX G hmg e8_law (fun _ _ _ _ _ _=>FL.usN fun _=>rfl) (My.all_d KX G (e_xd:=e8_xd) (e_read_dates:=e8_read_dates) ..)
  all_goals try first|(refine' FL.dx ?a ?l ?c ?k;(case a=>k_is);(case l=>k_is);(case c=>k_is);(case k=>k_is))|(refine' My.rdx ?a ?m2 ?l1 ?c1 ?k1 ?m1 ?m3 ?m4 ?d1 ?d2 ?d3 ?d4 ?n1 ?n2 ?g2 ?l2 ?c2 ?k2 ?i2 ?g3 ?l3 ?c3 ?k3 ?i3;(case a=>k_is);(case m2=>k_is);(case l1=>k_is);(case c1=>k_is);(case k1=>k_is);(case m1=>k_is);(case m3=>k_is);(case m4=>k_is);(case d1=>k_is);(case d2=>k_is);(case d3=>k_is);(case d4=>k_is);(case n1=>k_is);(case n2=>k_is);(case g2=>k_is);(case l2=>k_is);(case c2=>k_is);(case k2=>k_is);(case i2=>k_is);(case g3=>k_is);(case l3=>k_is);(case c3=>k_is);(case k3=>k_is);(case i3=>k_is))|k_is
#print axioms PySem.Challenge.cw_treewithin_k75_dates_written_and_read_holds
