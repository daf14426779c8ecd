import PyProof.Rows.All
import Wide.All
import OpenK.AllK
import Wide.FinOn
import Lean
import PyProof.EqAt
import PyProof.EqKinds
import PyProof.TupleCall
import PyProof.NeKinds
import PyProof.FactsAll.tuple_2
import PyProof.FactsAll.str_0
import PyProof.FactsAll.str_1
import PyProof.FactsAll.str_2
import PyProof.FactsAll.str_3
import PyProof.Rows.MinMaxN
import PyProof.Rows.SumAny
import PyProof.Rows.SetFrom
import PyProof.ReprRoads
import PyProof.Rows.StrKeys3
import PyProof.CallFns
import KE.KSortTup
import KE.KDictSum
import KE.IntBitsLaws
import PyProof.Rows.CallKwBuiltin
import KE.KMinBuiltin
import KE.KDictList
import PySem.Challenge.RW_treewithin_k66_rings_of_anything
open PySem renaming wpAny_bind -> Aa, wpAny_pure -> Ae, wpAny_field -> AL, wpAny_callSpecial?_slot -> AM, wpAny_newObj_type -> AR, wpAny_call_entry -> AU, Value -> AV, wpAny_holding -> AZ, wpAny_setField_rec -> Bc, Addr -> Bi, wpAny_seqItems -> Bj, wpAny_ite_split -> Bp, wpAny_setState_of -> Bs, wpAny_Call_Name_kw -> Bv, mem_of_lookup -> BD, wpAny_loadPart' -> BF, wpAny_isInstance -> BH, wpAny_truthy_bool -> BK, wpAny_of_eq -> BW, Str -> B0, Expr -> B6, wpAny_setField -> B7, wpAny_newTuple -> B8, wpAny_mono -> B9, wpAny_specialOf -> Cf, wpAny_passesOwn -> Cg, wpAny_attempt -> Cq, wpAny_setEntries_of -> Cs, Pos -> Cu, wpAny_askSetting -> Cv, wpAny_typeOf -> CF, wpAny_pyIter_list -> CW, Shared -> C2, wpAny_forIn_list -> C3, wpAny_updateSeq -> Dc, wpAny_rule -> Df, wpAny_pyIter_tuple -> Dg, wpAny_pyIter_enum -> Dn, wpAny_execs_nil -> DJ, Heap -> D9, wpAny_load -> Ea, wpAny_letOwnedTupleGo_enum -> Eb, wpAny_fieldsOf -> Ec, wpAny_pyIter_slot -> El, wpAny_standAt -> Er, wpAny_comprehension_free -> Es, Obj -> Ez, wpAny_runValue -> E9, wpAny_letGo -> Fb, wpAny_onRaise -> Fj, wpAny_handled -> Fm, Fin -> FH
open PySem.W renaming Frag -> Ab, mg_none_of -> AQ, nsIn -> AY, kia_one -> Bd, kitOne -> Bt, fnOf -> BS, mg_of -> CM, kat_cons -> Dz, kat_yes -> DE, KatTups -> DG, KasT -> DS, keepIn -> DW, kat_no -> DY, kat_go -> DZ, codeIn -> D1, methodObj -> Ei, kitx_list -> Ej, kitx_dict -> Ek, cellsFrom_some -> EH, kat_one -> ER, instObj -> ES, tabObj -> E3, lookIn -> E4, findIn -> E5, kitx_tuple -> Fp, plainGet -> FC, kat_kind -> FE, kas_sort -> FG
open PySem.Heap renaming get?_push_of_some -> Af, lt_size -> Ak, get?_push_size -> Al, size_push -> A1, get?_update_self -> A3, SameBut -> A9, get?_update_other -> Bz, ExtBut -> E6
open List renaming length_append -> Ag, size_toArray -> Ah, getElem?_eq_getElem -> Ai, getElem?_eq_some_iff -> Aj, mem_of_getElem? -> Ao, getElem?_map -> Ap, length_map -> Aq, mem_singleton -> Au, replicate -> Av, mem_cons -> Aw, range -> Ax, length_cons -> Ay, mem_append -> AD, all_eq_true -> AG, mem_cons_of_mem -> AN, lookup_cons -> AO, getElem?_eq_none -> AW, mem_filter -> AX, append_assoc -> A2, mem_append_right -> A4, getElem?_append_left -> A8, length_take -> Bb, mem_map -> Bf, filterMap_cons -> Bh, not_mem_nil -> Bk, mem_range -> Bl, getElem?_append_right -> Bm, mem_cons_self -> Bo, map_cons -> Bq, length_drop -> Br, getElem?_append -> Bw, forIn_cons -> Bx, getElem?_of_mem -> BI, map_append -> BL, drop_eq_getElem_cons -> BM, length_singleton -> BN, mem_flatMap -> BQ, map_map -> BV, map_congr_left -> B2, length_replicate -> Cd, mem_of_mem_drop -> Co, flatMap_cons -> Cp, length_reverse -> Ct, getElem?_replicate -> Cy, filter_cons -> Cz, flatMap_singleton -> CH, range_succ -> CI, length_set -> CJ, append_nil -> CK, elem_iff -> CO, any_cons -> CP, perm_append_singleton -> CZ, getElem?_set_ne -> C0, mem_map_of_mem -> C6, flatMap_append -> C7, nodup_cons -> Dd, mem_filterMap -> Di, length -> Dl, take_of_length_le -> Dq, reverse_cons -> Dr, range_succ_eq_map -> Ds, map_nil -> Dt, length_range -> Du, replicate_append_replicate -> Dx, eraseIdxIfInBounds_toArray -> Dy, mem_of_mem_take -> DC, mem_append_left -> DD, length_nil -> DL, reverse_append -> DQ, length_pos_iff -> DR, length_eraseIdx_of_lt -> Ed, getElem?_drop -> Ee, getD_eq_getElem?_getD -> Ef, nodup_append -> En, ext_getElem? -> Eo, all_cons -> Et, take_length -> EA, length_eq_zero_iff -> EB, getElem_mem -> EC, eraseIdx_cons_succ -> ED, drop_length -> EE, cons_append -> EG, getElem?_set_self -> EM, drop_eq_nil_of_le -> EN, of_mem_zip -> ET, take_succ -> Fc, findIdx_getElem -> Fd, getElem?_range -> Fh, all_map -> Fz, map -> FO
open Nat renaming le_refl -> Am, ne_of_lt -> Ar, lt_of_lt_of_le -> Az, le_trans -> AI, lt_irrefl -> A0, zero_le -> A7, lt_succ_of_lt -> Be, le_add_right -> BA, zero_add -> Cn, add_assoc -> Cr, add_right_comm -> CG, le_of_ble_eq_true -> CT, lt_succ_self -> C4, lt_of_le_of_lt -> Dh, le_of_lt -> Dp, min_eq_left -> DK, ne_of_gt -> DU, le_succ -> Em, sub_zero -> Fy
open Bool renaming false_eq_true -> An, and_eq_true -> AH, false_ne_true -> A6, not_true -> BJ, not_false -> CA, and_false -> CB, false_and -> Dv, eq_iff_iff -> DN, and_true -> Eu, or_false -> Fo
open Array renaming getElem?_toList -> AA, length_toList -> AB, getElem?_eq_getElem -> AE, forIn_toList -> Cb, getD_eq_getD_getElem? -> CY, toList_push -> Dw, perm_iff_toList_perm -> Eg, getElem?_eq_none -> EO, filterMap -> EU, size_map -> Fe
open PySem.F renaming called_set -> AJ, plainAttrs_list -> BX, slot_tuple_iterator_next -> B5, slot_enumerate_next -> CS, slot_tuple_hash -> CU, args_tuple_add_2 -> C8, slot_zip_next -> C9, entry_tuple_add -> Dk, slot_tuple_add -> Dm, args_list_extend_2 -> DA, args_tuple_iterator_next_1 -> DH, entry_list_extend -> DP, entry_tuple_iterator_next -> DT, slot_list_extend -> D6, slot_dict_eq -> D7, plain_extend_loop -> Eh, plain_list_iadd -> Ew, entry_type_call -> Ex, args_enumerate_next_1 -> Ey, typeCall_set_1 -> EI, entry_set_init -> EJ, entry_enumerate_next -> EK, type_list_pop -> EW, slot_set_iter -> EX, slot_list_pop -> EY, plain_set_new -> EZ
open PySem.PassesOwn renaming never -> A5
open PyProof.Rows renaming callWith_type1 -> Ba, slot_tuple_getitem -> Bg, callWith_builtin1 -> Cw, lt_int -> Fg
open PySem.NameKind renaming free -> Bn, cell -> CN
open PySem.Obj renaming data_mapFields -> Bu, mapSeq -> BC, isFreed_of_fields -> Cc, putSet -> De, mapFields -> Ep
open PyProof.Rows.F renaming plain_set_update_loop -> BE, entry_set_update_loop -> C5
open PySem.Calls renaming spliced_cons -> BG, spliced_nil -> BZ, Name_function_global -> D8, callWith_builtin -> EL
open PySem.AutoSeq1 renaming wpAny_loadPart' -> BO, sub_list_tuple -> DB
open False renaming elim -> BR
open Ne renaming symm -> BU
open Int renaming toNat_natCast -> B1, emod_lt_of_pos -> Dj, emod_nonneg -> DM, zero_add -> FA
open Or renaming inr -> B3, inl -> Ca
open True renaming intro -> B4
open Classical renaming byContradiction -> Ce
open Option renaming map_some -> Ci
open ForInStep renaming yield -> Cj
open PySem.Around renaming under_plainId -> Cm, under_plain -> Fv
open PySem.SeqAt renaming EqAt -> CD
open PySem.EqBoolInt renaming of_rcne -> CV
open PySem.Str renaming ofString -> C1
open And renaming right -> DV
open PySem.SetFound renaming there -> D2
open PySem.SeqAt.RcNeAt renaming lists_lengths -> D3, tuples -> Ff, lists -> Fq
open PySem.SeqAt.EqAt renaming str_str -> D4, int_int -> D5, str_int -> Fs, of_refs -> Ft, int_str -> Fu
open PySem.Flow renaming ret -> E7
open PySem.Fin renaming done -> E8
open PySem.Shared renaming TypeIs -> Fi
open PySem.SeqAt.RcAt renaming tuples -> Fw
open PySem.Data renaming seq -> Fx
open PyProof.Rows.IsTup renaming new -> FI
open Sum renaming inr -> FJ, inl -> FK
open PySem.Walks renaming list -> FN
set_option compiler.extract_closed false
set_option Elab.async false
set_option linter.all false
set_option maxRecDepth 100000
set_option maxHeartbeats 1000000
open Option renaming some→bn,none→cr
open PyProof.Rows renaming seqObj→wP,envOfC→FM,AllBare→IR
open PySem renaming Value→db,Shared→em,Addr→f8,wpAny→ga,model→ge,mainGlobals→gt,starEach→ii,Heap→im,Expr→lc,cLine→nn,Builtin→o0,rawInt→pc,bootBuiltins→pi,Program→pr,compareOp→re,eval→r6,sizeLine_eq→r9,swapsWith→sn,call_meets→ss,Around→sB,attributeBase→sK,cellsFrom→tz,World→t0,Scope→ul,binaryOp→ut,Stmt→u8,NameKind→v0,codeAny_mono→wf,letOwnedTupleGo→wn,codeAny_builtin→wv,setSearchFrom→ww,behindInMarks→wE,isSubtype_type→wS,PassesOwn→wT,plainId_quiet→xz,sysModules→xL,isSubtype_stop→zn,pyNext→BT,assignEach→Ch,IsPair→Da,DictEntry→Db,holding→EQ,sliceBounds→Fa,IntMulOk→Fk,codeAny→FB,builtinsNs→FS,swapsWithSole→Gt,swappedStores→GE,assign→GM,pickOrder→Ix,builtinLookup_eq_fast→KB
set_option genSizeOf false
local macro_rules | `(command|def $i:declId $s:optDeclSig $v:declVal)=>`(command|noncomputable def $i:declId $s:optDeclSig $v:declVal)
local macro_rules | `(command|abbrev $i:declId $s:optDeclSig $v:declVal)=>`(command|noncomputable abbrev $i:declId $s:optDeclSig $v:declVal)
theorem rTq9(h:0=0:=by rfl):0=0:=h
local macro_rules | `(‹$p›)=>`(autoParam $p rTq9._auto_1)
local macro_rules | `(‹_›)=>`(by assumption)
theorem dTq9(h:0=0:=by decide):0=0:=h
local macro_rules | `(~~~$p)=>`(autoParam $p dTq9._auto_1)
local macro_rules | `(∅)=>`(by lia)
local macro_rules | `(⋯)=>`(by decide)
open PySem PySem.Spec PyProof.Rows
abbrev O.{u}(α:Type u):=List α
namespace L2
end L2
namespace My
end My
namespace PL
end PL
namespace FL
end FL
open L2 My PL FL
namespace L2
abbrev Key:=Sum Int Str
def qP:Key->db->Bool
 |.inl k,v=>Value.isInt k v
 |.inr x,v=>Value.isStrOf x v
def abe(w:t0):Key->Int
 |.inl k=>hashInt k
 |.inr x=>hashStr w x
def bE:∀{k:Key}{v:db},qP k v=true->(∃i t,k=FK i/\v=Value.int i t)\/(∃x t,k=FJ x/\v=Value.str x t)
 |.inl i,v,h=>by
  obtain⟨t,e⟩:=Value.isInt_shape h;exact .inl ⟨i,t,rfl,e⟩
 |.inr x,v,h=>by
  obtain⟨t,e⟩:=Value.isStrOf_shape (v:=v) h;exact .inr ⟨x,t,rfl,e⟩
def GP(i:Int)(t:Tok):qP (.inl i) (.int i t)=true:=by simp[qP,Value.isInt]
def GO(x:Str)(t:Tok):qP (.inr x) (.str x t)=true:=by simp[qP,Value.isStrOf]
def Sa(a b:Int):decide ((FK a:Key)=FK b)=(a==b):=by
 by_cases e:a=b
 .subst e;simp
 .rw[decide_eq_false (λq=>e (FK.inj q))];exact(beq_eq_false_iff_ne.mpr e).symm
def R6(a b:Str):decide ((FJ a:Key)=FJ b)=decide (a=b):=by
 by_cases e:a=b
 .simp
 .rw[decide_eq_false (λq=>e (FJ.inj q)),decide_eq_false e]
def R9(a:Int)(b:Str):decide ((FK a:Key)=FJ b)=false:=decide_eq_false (λq=>nomatch q)
def R7(a:Str)(b:Int):decide ((FJ a:Key)=FK b)=false:=decide_eq_false (λq=>nomatch q)
def bp(prog:pr)(w:t0):PySem.KeyKind prog w Key where
 is:=qP
 hash:=abe w
 inj:=λv a b ha hb=>by
  rcases bE ha with⟨i,t,rfl,rfl⟩|⟨x,t,rfl,rfl⟩
  .rcases bE hb with⟨j,u,rfl,e⟩|⟨y,u,rfl,e⟩
   .injection e with e1 _;rw[e1]
   .exact nomatch e
  .rcases bE hb with⟨j,u,rfl,e⟩|⟨y,u,rfl,e⟩
   .exact nomatch e
   .injection e with e1 _;rw[e1]
 byValue:=λk v h=>by
  rcases bE h with⟨i,t,rfl,rfl⟩|⟨x,t,rfl,rfl⟩<;>rfl
 pyHash:=λhv h=>by
  rcases bE hv with⟨i,t,rfl,rfl⟩|⟨x,t,rfl,rfl⟩
  .exact wpAny_pyHash_int h
  .exact wpAny_pyHash_str h
 eqBool:=λhu hv h=>by
  rcases bE hu with⟨i,t,rfl,rfl⟩|⟨x,t,rfl,rfl⟩
  .rcases bE hv with⟨j,u,rfl,rfl⟩|⟨y,u,rfl,rfl⟩
   .rw[Sa]at h;exact wpAny_eqBool_int h
   .rw[R9]at h;exact Fu i t y u _ _ _ _ h
  .rcases bE hv with⟨j,u,rfl,rfl⟩|⟨y,u,rfl,rfl⟩
   .rw[R7]at h;exact Fs x t j u _ _ _ _ h
   .rw[R6]at h;exact wpAny_eqBool_str h
 «strs»:=λk x t v h=>by
  rcases bE h with⟨i,u,rfl,e⟩|⟨y,u,rfl,e⟩
  .exact nomatch e
  .injection e with e1 _;subst e1;cases v<;>rfl
def mq(prog:pr)(w:t0)(i:Int)(t:Tok):(bp prog w).is (.inl i) (.int i t)=true:=GP i t
def mn(prog:pr)(w:t0)(x:Str)(t:Tok):(bp prog w).is (.inr x) (.str x t)=true:=GO x t
end L2
variable{us:O AV}{u:AV}{κ α β:Type}{a b e:Bi}{P:PySem.Program}{w:PySem.World}{h h':D9}{ob:Ez}
namespace L2
inductive V where
 |az|bl (b:Bool)|int (i:Int)|str (x:Str)|HI (b:Array UInt8)|Ui (b:UInt64)|ref (a:f8)|ty (n:String)
 deriving DecidableEq
def RelV:V->db->Prop
 |.az,u=>u=Value.none
 |.bl b,u=>u=Value.bool b
 |.int i,u=>∃t,u=Value.int i t
 |.str x,u=>∃t,u=Value.str x t
 |.HI b,u=>∃t,u=Value.bytes b t
 |.Ui b,u=>∃t,u=Value.float b t
 |.ref a,u=>u=Value.ref a
 |.ty n,u=>u=Value.type n
abbrev Vals:O V->O db->Prop:=Paired RelV
def Vals.length{xs:O V}(r:Vals xs us):xs.length=us.length:=Paired.length r
theorem Vals.get:∀{xs:O V}{us:O db}{i:Nat}{x:V},Vals xs us->xs[i]?=bn x->∃u,us[i]?=bn u/\RelV x u
 |_,_,_,_,.nil,e=>by simp at e
 |_,_,0,_,.cons r _,e=>by simp at e;subst e;exact⟨_,rfl,r⟩
 |_,_,i+1,x,.cons _ t,e=>by
  obtain⟨u,h1,h2⟩:=Vals.get t (by simpa using e);exact⟨u,by simpa using h1,h2⟩
theorem Vals.set{x:V}(r:RelV x u):∀{xs:O V}{us:O db} (i:Nat),Vals xs us->Vals (xs.set i x) (us.set i u)
 |_,_,_,.nil=>.nil
 |_,_,0,.cons _ t=>.cons r t
 |_,_,i+1,.cons q t=>.cons q (Vals.set r i t)
theorem Vals.append:∀{xs ys:O V}{us ws:O db},Vals xs us->Vals ys ws->Vals (xs++ys) (us++ws)
 |_,_,_,_,.nil,s=>s
 |_,_,_,_,.cons r t,s=>.cons r (Vals.append t s)
theorem Vals.take:∀{xs:O V}{us:O db} (n:Nat),Vals xs us->Vals (xs.take n) (us.take n)
 |_,_,0,_=>.nil
 |_,_,_+1,.nil=>.nil
 |_,_,n+1,.cons r t=>.cons r (Vals.take n t)
theorem Vals.drop:∀{xs:O V}{us:O db} (n:Nat),Vals xs us->Vals (xs.drop n) (us.drop n)
 |_,_,0,r=>r
 |_,_,_+1,.nil=>.nil
 |_,_,n+1,.cons _ t=>Vals.drop n t
def Ts:Option V->Option db->Prop
 |some v,bn u=>RelV v u
 |none,cr=>True
 |_,_=>False
def KV:O (κ×V)->O (κ×db)->Prop:=Paired λ(p:κ×V) (q:κ×db)=>p.1=q.1/\RelV p.2 q.2
def kV:Key->V
 |.inl i=>.int i
 |.inr x=>.str x
inductive HO where
 |lst (xs:List V)
 |tup (xs:List V)
 |dK (aD:List (Key×V))|dT (aD:List (List Key×V))
 |set (S:Int->Bool) (n:Nat)
 |ins (C dx:f8) (fs:List (Str×V))
 |own (x:f8)
 |xd (fs:List (Str×V))
 |met (f x:f8)
 |rng (lo hi:Int)
 |dj (o:Obj) (u:HO)
 |uu (ps:Array db)
 |ext (φ:im->Prop)
abbrev Hp:=f8->Option HO
def upd(H:Hp)(a:f8)(o:HO):Hp:=λb=>if b=a then bn o else H b
def aM{H:Hp}{o:HO}:upd H a o a=bn o:=by unfold upd;rw[if_pos rfl]
def aw{H:Hp}{o:HO}(h:b≠a):upd H a o b=H b:=by unfold upd;rw[if_neg h]
def zl{H:Hp}{o u:HO}(h:H a=bn o)(h':H b=bn u)(d:o≠u):a≠b:=by
 intro e;subst e;rw[h]at h';exact d (Option.some.inj h')
def bj{H:Hp}{o:HO}(h:H a=bn o)(h':H b=cr):a≠b:=by
 intro e;subst e;rw[h]at h';cases h'
section
variable(P:pr)(w:t0)
def bA(H:Hp)(h:im)(a:f8):HO->Prop
 |.lst xs=>xs.length<=sizeLine/\∃(aj:O db) (n:Nat),Vals xs aj/\h.get? a=bn {cls:=.type "list",data:=.seq aj.toArray n}
 |.tup xs=>xs.length<=sizeLine/\∃aj:O db,Vals xs aj/\IsTup h a aj.toArray/\∃o,h.get? a=bn o/\o.dict=cr
 |.dK aD=>aD.length<=sizeLine/\(a==xL)=false/\∃vs,KV aD vs/\h.DictOf (bp P w) a vs
 |.dT aD=>aD.length<=sizeLine/\(a==xL)=false/\∃xs:O (O Key×f8×db),
   Paired (λ(p:O Key×V) (q:O Key×f8×db)=>p.1=q.1/\H q.2.1=bn (.tup (p.1.map kV))/\RelV p.2 q.2.2) aD xs/\
   ∃o es ep,h.get? a=bn o/\o.ExactDict/\o.data=.dict es ep/\es.toList=xs.map (entryOfKey (tupleKind (bp P w)))/\(xs.map (·.1)).Nodup
 |.set S n=>h.SetOf (intKind P w) a S n
 |.ins C dx fs=>H dx=bn (.own a)/\fs.length<=1000/\dx≠a/\h.get? a=bn (ES C dx)/\
   ∃mA,h.Ns1 dx mA/\(∀f,Ts (fs.lookup f) (mA f))/\PySem.Within mA (fs.map (·.1))
 |.own _=>∃o,h.get? a=bn o
 |.xd fs=>∃mA,h.Ns1 a mA/\∀f,Ts (fs.lookup f) (mA f)
 |.rng lo hi=>∃t u v,h.get? a=bn {cls:=.type "range",data:=.fields #[.int lo t,.int hi u,.int 1 v]}
 |.dj o u=>h.get? a=bn o/\bA H h a u
 |.uu ps=>h.get? a=bn {cls:=.none,data:=.fields ps}
 |.met f x=>h.get? a=bn (Ei (.ref f) (.ref x))
 |.ext φ=>φ h/\(∃o,h.get? a=bn o)/\∀h1 h2:im,φ h1->(∀o,h1.get? a=bn o->h2.get? a=bn o)->φ h2
def lg(H:Hp)(h:im):Prop:=∀a o,H a=bn o->bA P w H h a o
end
section
variable{H H':Hp}{o:HO}
def bA.lt(x:bA P w H h a o):a<h.objs.size:=by
 cases o with
 |lst xs=>obtain⟨_,_,_,_,e⟩:=x;exact Ak e
 |tup xs=>obtain⟨_,_,_,p,_⟩:=x;exact p.lt
 |dK aD=>obtain⟨_,_,_,_,o,_,_,e,_⟩:=x;exact Ak e
 |dT aD=>obtain⟨_,_,_,_,o,_,_,e,_⟩:=x;exact Ak e
 |set S n=>obtain⟨o,_,_,_,e,_⟩:=x;exact Ak e
 |ins C dx fs=>obtain⟨_,_,_,e,_⟩:=x;exact Ak e
 |own y=>obtain⟨_,e⟩:=x;exact Ak e
 |xd fs=>obtain⟨_,⟨_,_,_,e,_⟩,_⟩:=x;exact Ak e
 |rng lo hi=>obtain⟨_,_,_,e⟩:=x;exact Ak e
 |dj ob u=>obtain⟨e,_⟩:=x;exact Ak e
 |uu ps=>exact Ak (x)
 |met f y=>exact Ak (show h.get? a=bn _ from x)
 |ext φ=>obtain⟨_,⟨_,e⟩,_⟩:=x;exact Ak e
theorem Paired.RP{F G:α->β->Prop}:∀{l₁:List α}{l₂:List β},Paired F l₁ l₂->(∀a b,F a b->G a b)->Paired G l₁ l₂
 |_,_,.nil,_=>.nil
 |_,_,.cons r t,f=>.cons (f _ _ r) (Paired.RP t f)
def bA.wJ(x:bA P w H h a o)(k:∀b u,(b=a\/H b=bn (.own a))->h.get? b=bn u->h'.get? b=bn u)(ho:∀b,H b=bn (.own a)->H' b=bn (.own a))(ht:∀b xs,H b=bn (.tup xs)->H' b=bn (.tup xs)):bA P w H' h' a o:=by
 induction o with
 |lst xs=>obtain⟨z,aj,n,r,e⟩:=x;exact⟨z,aj,n,r,k _ _ (.inl rfl) e⟩
 |tup xs=>obtain⟨z,aj,r,⟨ob,e,c⟩,od,e2,d⟩:=x;exact⟨z,aj,r,⟨ob,k _ _ (.inl rfl) e,c⟩,od,k _ _ (.inl rfl) e2,d⟩
 |dK aD=>obtain⟨z,y,vs,r,ob,es,ep,e,c⟩:=x;exact⟨z,y,vs,r,ob,es,ep,k _ _ (.inl rfl) e,c⟩
 |dT aD=>
  obtain⟨z,y,xs,r,ob,es,ep,e,c⟩:=x;exact⟨z,y,xs,Paired.RP r λp q z=>⟨z.1,ht _ _ z.2.1,z.2.2⟩,ob,es,ep,k _ _ (.inl rfl) e,c⟩
 |set S n=>obtain⟨ob,es,ep,t,e,c⟩:=x;exact⟨ob,es,ep,t,k _ _ (.inl rfl) e,c⟩
 |ins C dx fs=>
  obtain⟨d,z,ne,e,mA,⟨od,es,ep,e2,c⟩,r⟩:=x;exact⟨ho _ d,z,ne,k _ _ (.inl rfl) e,mA,⟨od,es,ep,k _ _ (.inr d) e2,c⟩,r⟩
 |own y=>obtain⟨ob,e⟩:=x;exact⟨ob,k _ _ (.inl rfl) e⟩
 |xd fs=>obtain⟨mA,⟨od,es,ep,e,c⟩,r⟩:=x;exact⟨mA,⟨od,es,ep,k _ _ (.inl rfl) e,c⟩,r⟩
 |rng lo hi=>obtain⟨t,u,v,e⟩:=x;exact⟨t,u,v,k _ _ (.inl rfl) e⟩
 |dj ob u ih=>obtain⟨e,q⟩:=x;exact⟨k _ _ (.inl rfl) e,ih q⟩
 |uu ps=>
  have e:h.get? a=bn {cls:=.none,data:=.fields ps}:=x;show h'.get? a=bn {cls:=.none,data:=.fields ps};exact k a _ (.inl rfl) e
 |met f y=>
  have e:h.get? a=bn (Ei (.ref f) (.ref y)):=x;show h'.get? a=bn (Ei (.ref f) (.ref y));exact k a _ (.inl rfl) e
 |ext φ=>obtain⟨p,⟨o,e⟩,st⟩:=x;exact⟨st _ _ p λo q=>k _ _ (.inl rfl) q,⟨o,k _ _ (.inl rfl) e⟩,st⟩
def lg.lt(x:lg P w H h)(e:H a=bn o):a<h.objs.size:=(x a o e).lt
def lg.fresh(x:lg P w H h)(e:h.objs.size<=a):H a=cr:=by
 cases q:H a with
 |none=>rfl
 |some u=>exact absurd (Az (x.lt q) e) (A0 _)
def lg.kept(x:lg P w H h)(k:∀b u,h.get? b=bn u->h'.get? b=bn u):lg P w H h':=λa o e=>
 (x a o e).wJ (λb u _ q=>k b u q) (λ_ q=>q) λ_ _ q=>q
def lg.laid(x:lg P w H h)(k:∀b u,h.get? b=bn u->h'.get? b=bn u)(hp:h.objs.size<=a)(new:bA P w (upd H a o) h' a o):lg P w (upd H a o) h':=λb u e=>by
 have hn:=x.fresh hp;by_cases hb:b=a
 .subst hb;rw[aM]at e;cases e;exact new
 .rw[aw hb]at e;exact(x b u e).wJ (λc v _ q=>k c v q) (λc q=>by rw[aw (bj q hn)];exact q) λc xs q=>by rw[aw (bj q hn)];exact q
end
def Rd(H:Hp)(a:f8)(u:HO):Prop:=H a=bn u\/∃o,H a=bn (.dj o u)
def Rd.ok{H:Hp}{u:HO}(r:Rd H a u)(x:lg P w H h):bA P w H h a u:=by
 rcases r with r|⟨o,r⟩
 .exact x a u r
 .obtain⟨_,q⟩:=x a _ r;exact q
def X4:Option HO->Prop
 |some (.lst _)=>True
 |some (.dK _)=>True
 |some (.dT _)=>True
 |some (.set _ _)=>True
 |some (.ins _ _ _)=>True
 |some (.ext _)=>True
 |_=>False
section
variable{H:Hp}{x:f8}{o':HO}
def lg.write(ok:lg P w H h)(mu:X4 (H x))(he:e=x\/H e=bn (.own x))(k:∀b u,b≠e->h.get? b=bn u->h'.get? b=bn u)(T9:∃u,h'.get? e=bn u)(new:bA P w (upd H x o') h' x o'):lg P w (upd H x o') h':=λb u q=>by
 have Nf:∀c y,H c=bn (.own y)->c≠x:=λc y r z=>by subst z;rw[r]at mu;exact mu
 have aaS:∀c xs,H c=bn (.tup xs)->c≠x:=λc xs r z=>by subst z;rw[r]at mu;exact mu
 by_cases hb:b=x
 .subst hb;rw[aM]at q;cases q;exact new
 .rw[aw hb]at q;by_cases SM:b=e
  .have q':H b=bn (.own x):=by
    rcases he with z|z
    .exact absurd (SM.trans z) hb
    .rw[SM];exact z
   rw[q]at q';cases q';obtain⟨v,hv⟩:=T9;exact⟨v,by rw[SM];exact hv⟩
  .refine(ok b u q).wJ (λc v hc r=>k c v ?_ r) (λc r=>by rw[aw (Nf c b r)];exact r) λc xs r=>by rw[aw (aaS c xs r)];exact r
   rcases hc with rfl|hc
   .exact SM
   .rintro rfl;rcases he with z|z
    .exact Nf c b hc z
    .rw[hc]at z;cases z;exact hb rfl
end
structure Un(fs ex:List f8)(H H':Hp)(h h':im):Prop where
 keep:∀b o,h.get? b=bn o->H b=cr->b∉fs->b∉ex->h'.get? b=bn o
 slot:∀b o,h.get? b=bn o->H b=cr->b∈fs->b∉ex->∃sl,h'.get? b=bn {o with slots:=sl}
 free:∀b o,h.get? b=bn o->H b=cr->b∉ex->H' b=cr
 there:∀b o,h.get? b=bn o->b∉ex->∃o',h'.get? b=bn o'
 dn:∀b xs,H b=bn (.tup xs)->H' b=bn (.tup xs)
 tG:∀b o u,H b=bn (.dj o u)->H' b=bn (.dj o u)
 rN:∀b ps,H b=bn (.uu ps)->∃more,H' b=bn (.uu (ps++more))
section
variable{fs ex:O f8}{H H1:Hp}{h1:im}{x:f8}{o:HO}
def Un.any(u:Un fs ex H H1 h h1)(q:h.get? b=bn ob)(n:H b=cr)(hx:b∉ex):∃sl,h1.get? b=bn {ob with slots:=sl}:=by
 by_cases hb:b∈fs
 .exact u.slot b ob q n hb hx
 .exact⟨ob.slots,u.keep b ob q n hb hx⟩
def Un.kept(k:∀b u,h.get? b=bn u->h'.get? b=bn u):Un fs ex H H h h':=
 ⟨λb ob q _ _ _=>k b ob q,λb ob q _ _ _=>⟨ob.slots,k b ob q⟩,λ_ _ _ n _=>n,λb ob q _=>⟨ob,k b ob q⟩,λ_ _ q=>q,λ_ _ _ q=>q,λ_ ps q=>⟨#[],by rw[q];simp⟩⟩
def Un.refl:Un fs ex H H h h:=Un.kept λ_ _ q=>q
def Un.laid(k:∀b u,h.get? b=bn u->h'.get? b=bn u)(hp:h.objs.size<=a)(hn:H a=cr):Un fs ex H (upd H a o) h h' where
 keep:=λb u q _ _ _=>k b u q
 slot:=λb u q _ _ _=>⟨u.slots,k b u q⟩
 free:=λb u q n _=>by rw[aw (Ar (Az (Ak q) hp))];exact n
 there:=λb u q _=>⟨u,k b u q⟩
 dn:=λb xs q=>by rw[aw (bj q hn)];exact q
 tG:=λb u xs q=>by rw[aw (bj q hn)];exact q
 rN:=λb ps q=>⟨#[],by rw[aw (bj q hn),q];simp⟩
def Un.write(mu:X4 (H x))(he:e=x\/H e=bn (.own x))(k:∀b u,b≠e->h.get? b=bn u->h'.get? b=bn u)(T9:∃u,h'.get? e=bn u):Un fs ex H (upd H x o) h h':=by
 have hx:∀b,H b=cr->b≠x:=λb n z=>by subst z;rw[n]at mu;exact mu
 have hb:∀b,H b=cr->b≠e:=λb n z=>by
  subst z;rcases he with r|r
  .exact hx b n r
  .rw[n]at r;cases r
 have hm:∀b u,H b=bn u->¬X4 (bn u)->b≠x:=λb u q nm z=>by subst z;rw[q]at mu;exact nm mu
 refine⟨λb u q n _ _=>k b u (hb b n) q,λb u q n _ _=>⟨u.slots,k b u (hb b n) q⟩,λb u q n _=>by rw[aw (hx b n)];exact n,λb u q _=>?_,
  λb xs q=>by rw[aw (hm b _ q λz=>z)];exact q,λb u xs q=>by rw[aw (hm b _ q λz=>z)];exact q,λb ps q=>⟨#[],by rw[aw (hm b _ q λz=>z),q];simp⟩⟩
 by_cases SM:b=e
 .subst SM;exact T9
 .exact⟨u,k b u SM q⟩
end
def trk(h:im)(H:Hp):O f8:=(Ax h.objs.size).filter λa=>(H a).isSome
def tq(h:im)(H:Hp):im:=PySem.W.hideAll h (trk h H)
def Ha(h:im)(H:Hp):(tq h H).objs.size=h.objs.size:=PySem.W.hideAll_size _ _
def Kj{H:Hp}{o:Obj}(e:h.get? b=bn o)(n:H b=cr):(tq h H).get? b=bn o:=
 PySem.W.hideAll_get _ e λhm=>by
  have q:=(AX.mp hm).2;rw[n]at q;simp at q
def M8{H:Hp}{o:Obj}(e:(tq h H).get? b=bn o):h.get? b=bn o/\H b=cr:=by
 have e':=PySem.W.of_hideAll (trk h H) e;refine⟨e',?_⟩;cases q:H b with
 |none=>rfl
 |some x=>
  have z:(tq h H).get? b=cr:=PySem.W.hideAll_none (trk h H) (AX.mpr ⟨Bl.mpr (Ak e'),by simp[q]⟩);rw[z]at e;cases e
def Oy(g h:im)(L:f8):O (f8×Obj):=(Ax h.objs.size).filterMap λa=>if a=L\/(g.get? a).isSome=true then cr else (h.get? a).map λo=>(a,o)
def rest(g h:im)(L d:f8):O (f8×Obj):=(Oy g h L).filter λp=>decide (p.1≠d)
end L2
variable{H H':L2.Hp}{o:Ez}{U:O (Bi×Ez)}{s s':C2}{g':Array PySem.GenState}{ch:O Bi}{it:Bi}{i j:Nat}{M:PySem.Model}{A:PySem.Around}{E:AV->C2->Prop}{v:L2.V}{Q:Unit->C2->Prop}
namespace L2
structure Mod(K:Ab)(mg:Str->Option db)(base:im):Prop where
 YL:K.In base
 glob:base.Ns gt mg
 blt:∃mb,base.Ns FS mb/\∀x:Str,x≠"__name__"->mb x=pi x
 nolimit:base.NoLimit
 bm:∃bm ob,mg "__builtins__"=bn (.ref bm)/\bm≠FS/\base.get? bm=bn ob/\ob.cls=.type "module"/\ob.dict=bn FS/\ob.data=.plain
structure Cx where
 prog:pr
 w:t0
 K:Ab
 mg:Str->Option db
 base:im
 A:sB
 N:List Str
 s₀:em
 H₀:Hp
 env:Env
 outer:List Env
 stack:List Env
 ex:List f8
 fn:Str->Bool
 calm:Bool
 pn:List (f8×Obj)
 xe:db->em->Prop
abbrev iM(x:Str):Prop:=(x==("__debug__":Str))=false
abbrev HQ(x:Str):Prop:=(x==("__classdict__":Str))=false
abbrev hV(X:Cx)(e:lc)(es:O lc):Prop:=ii (e::es) X.env=(false,r6 e X.env)::ii es X.env
abbrev kb(X:Cx)(p:Pos)(es:O lc):Prop:=(backTo p (ii es X.env)).any (·.1)=false
abbrev ph(X:Cx)(e:lc):Prop:=∀x,foldedSetIterable e X.env x=pure x
abbrev Ya(X:Cx)(p:Pos)(l:O lc):Prop:=((backTo p (ii l X.env)).all (λx=>!x.1)&&(backToKw p (keywordEach [] X.env)).all (λx=>x.1.isSome)&&decide (l.length+([]:O Keyword).length+(if ([]:O Keyword).isEmpty then 0 else 1)<30))=true
abbrev OP(p q:Pos):Prop:=(p.endLine==q.line)=true
abbrev LX(X:Cx)(y:Str):Prop:=X.fn y=true\/X.env.scope.names.lookup y=bn .local
def Ib(l:O Env):O f8:=l.filterMap (·.frame)
abbrev Cx.fs(X:Cx):O f8:=Ib X.outer
def FV(sc:ul)(x:Str):Prop:=sc.names.lookup x=bn .local\/sc.names.lookup x=bn .cell\/sc.names.lookup x=bn .free
def Loc(sc:ul)(x:Str):Prop:=sc.names.lookup x=bn .local\/sc.names.lookup x=bn .cell
def Look(env:Env)(h:im)(m:Str->Option db)(x:Str)(u:db):Prop:=
 (env.kindOf x=bn .local/\m x=bn u)\/((env.kindOf x=bn .cell\/env.kindOf x=bn .free)/\∃c,env.cells.lookup x=bn c/\h.IsCell c (bn u))
structure Cx.Ok(X:Cx):Prop where
 mod:Mod X.K X.mg X.base
 kind:X.env.scope.kind=.function
 glob:X.env.globals=gt
 blt:X.env.builtins=FS
 above:X.s₀.heap.objs.size<=X.env.locals
 inj:∀x y c,X.env.cells.lookup x=bn c->X.env.cells.lookup y=bn c->x=y
 has:∀x,(X.env.kindOf x=bn .cell\/X.env.kindOf x=bn .free)->∃c,X.env.cells.lookup x=bn c
 XY:∀x c,X.fn x=true->X.env.cells.lookup x=bn c->X.s₀.heap.objs.size<=c
 hd:X.calm=true->X.A.handled=cr
 frames:X.A.frames=bn X.stack
 Yl:X.stack=X.outer\/(X.stack=X.env::X.outer/\X.env.frame=bn X.env.locals)
 exf:∀b∈X.ex,b≠X.env.locals/\∀x c,X.env.cells.lookup x=bn c->c≠b
 bs:∀b o,X.base.get? b=bn o->X.s₀.heap.get? b=bn o/\X.H₀ b=cr
 P7:X.base.objs.size<=X.s₀.heap.objs.size
 JA:∀b o,X.base.get? b=bn o->b∉X.ex
 KI:∀b∈X.ex,b∉X.fs
 oJ:X.s₀.heap.FunFrames X.base X.outer
 Ue:∀b∈X.fs,X.H₀ b=cr
structure Inv(X:Cx)(U:List (f8×Obj))(σ:List (Option V))(H:Hp)(s:em):Prop where
 ok:X.Ok
 os:s.os=X.s₀.os
 bare:IR s.gens
 base:Un X.fs X.ex X.H₀ H X.s₀.heap s.heap
 loc:∃m,s.heap.Ns X.env.locals m/\∀(i:Nat) (x:Str) (v:V),X.N[i]?=bn x->σ[i]?=bn (bn v)->FV X.env.scope x->∃u,RelV v u/\Look X.env s.heap m x u
 cell:∀x c,X.env.cells.lookup x=bn c->∃v,s.heap.IsCell c v
 free:H X.env.locals=cr
 iE:∀x c,X.env.cells.lookup x=bn c->H c=cr
 pin:∀p∈X.pn++U,s.heap.get? p.1=bn p.2/\H p.1=cr/\p.1≠X.env.locals/\p.1∉X.fs/\∀v,p.2.data≠.cell v
 bC:lg X.prog X.w H s.heap
 len:σ.length=X.N.length
section
variable{X:Cx}{σ:O (Option V)}
def Cx.Ok.aaW(ok:X.Ok)(e:X.base.get? b=bn o):b∉X.fs:=λhb=>by
 have:=(ok.oJ.mem hb).1;rw[e]at this;cases this
def Inv.bs(I:Inv X U σ H s):∀b o,X.base.get? b=bn o->s.heap.get? b=bn o/\H b=cr:=λb o e=>
 ⟨I.base.keep b o (I.ok.bs b o e).1 (I.ok.bs b o e).2 (I.ok.aaW e) (I.ok.JA b o e),I.base.free b o (I.ok.bs b o e).1 (I.ok.bs b o e).2 (I.ok.JA b o e)⟩
def Inv.bk(I:Inv X U σ H s):∀b o,X.base.get? b=bn o->s.heap.get? b=bn o:=λb o e=>(I.bs b o e).1
def Inv.mod(I:Inv X U σ H s):Mod X.K X.mg X.base:=I.ok.mod
def Inv.qQ(I:Inv X U σ H s):X.K.In s.heap:=I.ok.mod.YL.keeps I.bk
def Inv.lt(I:Inv X U σ H s):X.env.locals<s.heap.objs.size:=let ⟨_,hn,_⟩:=I.loc;hn.lt
def Inv.sz(I:Inv X U σ H s):X.s₀.heap.objs.size<=s.heap.objs.size:=AI I.ok.above (Dp I.lt)
def Inv.aaV(I:Inv X U σ H s)(h:s.heap.objs.size<=a):a∉X.fs:=λhb=>by
 obtain⟨_,o,ho,_⟩:=I.ok.oJ.mem hb;exact absurd (Az (Ak ho) (AI I.sz h)) (A0 _)
def Inv.Tc(I:Inv X U σ H s):∀x c,X.env.cells.lookup x=bn c->c≠X.env.locals:=λx c e z=>by
 obtain⟨v,o,ho,hd⟩:=I.cell x c e;obtain⟨m,⟨o',es,ep,Sr,YZ,_⟩,_⟩:=I.loc;rw[z,Sr]at ho;cases ho;rw[YZ]at hd;cases hd
def Inv.oJ(I:Inv X U σ H s):s.heap.FunFrames X.base X.outer:=by
 have all:∀l,(∀b∈Ib l,b∈X.fs)->X.s₀.heap.FunFrames X.base l->s.heap.FunFrames X.base l:=by
  intro l
  induction l with
  |nil=>intro _ _;trivial
  |cons env r ih=>
   intro hs hl;obtain⟨hk,⟨L,o,hf,hn,ho,hd⟩,hr⟩:=hl;have hL:=hs L (by unfold Ib;rw[Bh,hf];exact Bo);obtain⟨sl,e⟩:=I.base.slot L o ho (I.ok.Ue L hL) hL λz=>I.ok.KI L z hL;exact⟨hk,⟨L,_,hf,hn,e,hd⟩,ih (λb hb=>hs b (by unfold Ib;rw[Bh,hf];exact AN _ hb)) hr⟩
 exact all X.outer (λ_ hb=>hb) I.ok.oJ
def Inv.stack(I:Inv X U σ H s):s.heap.FunFrames X.base X.stack:=by
 rcases I.ok.Yl with e|⟨e,hf⟩
 .rw[e];exact I.oJ
 .rw[e];obtain⟨m,hn,_⟩:=I.loc;refine .cons (by rw[I.ok.kind];decide) hf hn ?_ I.oJ;exact Heap.get?_none_of_le (AI I.ok.P7 I.ok.above)
def Inv.wI(I:Inv X U σ H s):∀b∈Ib X.stack,b∈X.env.locals::X.fs:=λb hb=>by
 rcases I.ok.Yl with e|⟨e,hf⟩
 .rw[e]at hb;exact AN _ hb
 .rw[e]at hb;unfold Ib at hb;rw[Bh,hf]at hb;exact hb
def Inv.yP(I:Inv X U σ H s):∀b∈Ib X.stack,H b=cr:=λb hb=>by
 rcases Aw.mp (I.wI b hb) with e|hb
 .rw[e];exact I.free
 .obtain⟨_,o,ho,_⟩:=I.ok.oJ.mem hb;exact I.base.free b o ho (I.ok.Ue b hb) λz=>I.ok.KI b z hb
def Inv.step{t':Nat}{d':Drawn}(I:Inv X U σ H s)(LO:∀b∈ch,(b∈X.ex\/X.s₀.heap.objs.size<=b)/\b≠X.env.locals/\(∀x c,X.env.cells.lookup x=bn c->c≠b)/\∀p∈X.pn++U,p.1≠b)(keep:∀b o,b≠X.env.locals->b∉X.fs->b∉ch->s.heap.get? b=bn o->H b=cr->h'.get? b=bn o)(slot:∀b o,b≠X.env.locals->b∈X.fs->b∉ch->s.heap.get? b=bn o->H b=cr->∃sl,h'.get? b=bn {o with slots:=sl})(free:∀b o,b∉ch->s.heap.get? b=bn o->H b=cr->H' b=cr)(there:∀b o,b∉ch->s.heap.get? b=bn o->∃o',h'.get? b=bn o')(dn:∀b xs,H b=bn (.tup xs)->H' b=bn (.tup xs))(tG:∀b o u,H b=bn (.dj o u)->H' b=bn (.dj o u))(rN:∀b ps,H b=bn (.uu ps)->∃more,H' b=bn (.uu (ps++more)))(ns:∀m,s.heap.Ns X.env.locals m->h'.Ns X.env.locals m)(bC:lg X.prog X.w H' h')(hg:IR g'):Inv X U σ H' {s with heap:=h',gens:=g',drawn:=d',toks:=t'}:=by
 have neL:∀b o,X.s₀.heap.get? b=bn o->b≠X.env.locals:=λb o e=>Ar (Az (Ak e) I.ok.above);have YI:∀b o,X.s₀.heap.get? b=bn o->b∉X.ex->b∉ch:=λb o e hx hb=>by
  rcases (LO b hb).1 with z|z
  .exact hx z
  .exact absurd (Az (Ak e) z) (A0 _)
 have Ù:∀x c,X.env.cells.lookup x=bn c->∀v,s.heap.IsCell c v->h'.IsCell c v:=λx c e v ⟨o,ho,hd⟩=>by
  have Wh:c∉ch:=λz=>(LO c z).2.2.1 x c e rfl;by_cases hc:c∈X.fs
  .obtain⟨sl,q⟩:=slot c o (I.Tc x c e) hc Wh ho (I.iE x c e);exact⟨_,q,hd⟩
  .exact⟨o,keep c o (I.Tc x c e) hc Wh ho (I.iE x c e),hd⟩
 refine⟨I.ok,I.os,hg,⟨λb o e n hb hx=>?_,λb o e n hb hx=>?_,λb o e n hx=>?_,λb o e hx=>?_,λb xs e=>dn b xs (I.base.dn b xs e),λb o xs e=>tG b o xs (I.base.tG b o xs e),λb ps e=>?_⟩,?_,λx c e=>?_,?_,λx c e=>?_,λp hp=>?_,bC,I.len⟩
 .exact keep b o (neL b o e) hb (YI b o e hx) (I.base.keep b o e n hb hx) (I.base.free b o e n hx)
 .obtain⟨sl,e1⟩:=I.base.slot b o e n hb hx;obtain⟨sl',e2⟩:=slot b _ (neL b o e) hb (YI b o e hx) e1 (I.base.free b o e n hx);exact⟨sl',e2⟩
 .obtain⟨o',e1⟩:=I.base.there b o e hx;exact free b o' (YI b o e hx) e1 (I.base.free b o e n hx)
 .obtain⟨o',e1⟩:=I.base.there b o e hx;exact there b o' (YI b o e hx) e1
 .obtain⟨m1,e1⟩:=I.base.rN b ps e;obtain⟨m2,e2⟩:=rN b _ e1;exact⟨m1++m2,by rw[e2,Array.append_assoc]⟩
 .obtain⟨m,hn,hl⟩:=I.loc;refine⟨m,ns m hn,λi x v e1 e2 e3=>?_⟩;obtain⟨u,r,l⟩:=hl i x v e1 e2 e3;refine⟨u,r,?_⟩;rcases l with l|⟨k,c,e,z⟩
  .exact .inl l
  .exact .inr ⟨k,c,e,Ù x c e _ z⟩
 .obtain⟨v,z⟩:=I.cell x c e;exact⟨v,Ù x c e v z⟩
 .obtain⟨m,⟨o,_,_,ho,_⟩,_⟩:=I.loc;exact free _ o (λz=>(LO _ z).2.1 rfl) ho I.free
 .obtain⟨v,o,ho,hd⟩:=I.cell x c e;exact free c o (λz=>(LO c z).2.2.1 x c e rfl) ho (I.iE x c e)
 .obtain⟨e,n,ne,nf,d⟩:=I.pin p hp;have Wh:p.1∉ch:=λz=>(LO p.1 z).2.2.2 p hp rfl;exact⟨keep p.1 p.2 ne nf Wh e n,free p.1 p.2 Wh e n,ne,nf,d⟩
def Inv.un{t':Nat}(I:Inv X U σ H s)(u:Un X.fs [] H H' s.heap h')(bC:lg X.prog X.w H' h'):Inv X U σ H' {s with heap:=h',toks:=t'}:=by
 obtain⟨m,⟨o,es,ep,ho,r⟩,_⟩:=id I.loc;obtain⟨sl,hL⟩:=u.any ho I.free (by simp);exact I.step (g':=s.gens) (d':=s.drawn) (ch:=[]) (λ_ z=>nomatch z) (λb o _ hb _ e n=>u.keep b o e n hb (by simp)) (λb o _ hb _ e n=>u.slot b o e n hb (by simp)) (λb o _ e n=>u.free b o e n (by simp)) (λb o _ e=>u.there b o e (by simp)) u.dn u.tG u.rN (λm' hm=>by
  obtain⟨o',Ā,Up,Sr,r'⟩:=hm;rw[ho]at Sr;cases Sr;exact⟨_,Ā,Up,hL,r'⟩) bC I.bare
def Inv.call{t':Nat}{d':Drawn}(I:Inv X U σ H s)(u:Un (Ib X.stack) ch H H' s.heap h')(bC:lg X.prog X.w H' h')(hg:IR g')(LO:∀b∈ch,(b∈X.ex\/X.s₀.heap.objs.size<=b)/\b≠X.env.locals/\(∀x c,X.env.cells.lookup x=bn c->c≠b)/\∀p∈X.pn++U,p.1≠b):Inv X U σ H' {s with heap:=h',gens:=g',drawn:=d',toks:=t'}:=by
 obtain⟨m,⟨o,es,ep,ho,r⟩,_⟩:=id I.loc;obtain⟨sl,hL⟩:=u.any ho I.free λz=>(LO _ z).2.1 rfl;exact I.step (ch:=ch) LO (λb o hL hb hc e n=>u.keep b o e n (λz=>(Aw.mp (I.wI b z)).elim hL hb) hc) (λb o _ _ hc e n=>u.any e n hc) (λb o hc e n=>u.free b o e n hc) (λb o hc e=>u.there b o e hc) u.dn u.tG u.rN (λm' hm=>by
  obtain⟨o',Ā,Up,Sr,r'⟩:=hm;rw[ho]at Sr;cases Sr;exact⟨_,Ā,Up,hL,r'⟩) bC hg
def Inv.turned{t':Nat}(I:Inv X U σ H s)(k:∀b o,b≠it->s.heap.get? b=bn o->h'.get? b=bn o)(hn:H it=cr)(hL:it≠X.env.locals)(h1:it∈X.ex\/X.s₀.heap.objs.size<=it)(h2:∀x c,X.env.cells.lookup x=bn c->c≠it)(h3:∀p∈X.pn++U,p.1≠it):Inv X U σ H {s with heap:=h',toks:=t'}:=by
 have Pc:∀b u,H b=bn u->b≠it:=λb u e z=>by rw[z,hn]at e;cases e
 refine I.step (g':=s.gens) (d':=s.drawn) (ch:=[it]) (λb hb=>?_) (λb o _ _ hc e _=>k b o (λz=>hc (by simp[z])) e) (λb o _ _ hc e _=>⟨o.slots,k b o (λz=>hc (by simp[z])) e⟩) (λ_ _ _ _ n=>n)
  (λb o hc e=>⟨o,k b o (λz=>hc (by simp[z])) e⟩) (λ_ _ e=>e) (λ_ _ _ e=>e) (λb ps e=>⟨#[],by rw[e];simp⟩) (λm hm=>?_) (λb u e=>?_) I.bare
 .have e:b=it:=by simpa using hb
  subst e;exact⟨h1,hL,h2,h3⟩
 .obtain⟨o,es,ep,ho,r⟩:=hm;exact⟨o,es,ep,k _ o (BU hL) ho,r⟩
 .refine(I.bC b u e).wJ (λc v hc q=>k c v ?_ q) (λ_ q=>q) λ_ _ q=>q;rcases hc with z|z
  .rw[z];exact Pc b u e
  .exact Pc c _ z
def Inv.tok(I:Inv X U σ H s)(t:Nat):Inv X U σ H {s with toks:=t}:=I.un Un.refl I.bC
def Inv.kept{t':Nat}(I:Inv X U σ H s)(k:∀b u,s.heap.get? b=bn u->h'.get? b=bn u):Inv X U σ H {s with heap:=h',toks:=t'}:=I.un (Un.kept k) (I.bC.kept k)
def Inv.laid{o:HO}{t':Nat}(I:Inv X U σ H s)(k:∀b u,s.heap.get? b=bn u->h'.get? b=bn u)(hp:s.heap.objs.size<=a)(new:bA X.prog X.w (upd H a o) h' a o):Inv X U σ (upd H a o) {s with heap:=h',toks:=t'}:=I.un (Un.laid k hp (I.bC.fresh hp)) (I.bC.laid k hp new)
def Inv.write{x:f8}{o:HO}{t':Nat}(I:Inv X U σ H s)(mu:X4 (H x))(he:e=x\/H e=bn (.own x))(k:∀b u,b≠e->s.heap.get? b=bn u->h'.get? b=bn u)(T9:∃u,h'.get? e=bn u)(new:bA X.prog X.w (upd H x o) h' x o):Inv X U σ (upd H x o) {s with heap:=h',toks:=t'}:=I.un (Un.write mu he k T9) (I.bC.write mu he k T9 new)
def Inv.y8{uG:O (f8×Obj)}(I:Inv X U σ H s)(h:∀p∈uG,s.heap.get? p.1=bn p.2/\H p.1=cr/\p.1≠X.env.locals/\p.1∉X.fs/\∀v,p.2.data≠.cell v):Inv X uG σ H s:=
 ⟨I.ok,I.os,I.bare,I.base,I.loc,I.cell,I.free,I.iE,λp hp=>(AD.mp hp).elim (λz=>I.pin p (DD _ z)) (h p),I.bC,I.len⟩
def uX{N:O Str}(hN:N.Nodup){x:Str}(a:N[i]?=bn x)(b:N[j]?=bn x):i=j:=by
 obtain⟨h1,e1⟩:=Aj.mp a;obtain⟨h2,e2⟩:=Aj.mp b;exact(List.getElem_inj hN).mp (e1.trans e2.symm)
def qt{x:Str}(I:Inv X U σ H s)(hN:X.N.Nodup)(hi:X.N[i]?=bn x)(hx:Loc X.env.scope x)(r:RelV v u)(h:∀s',Inv X U (σ.set i (bn v)) H s'->(∃a,A9 a s.heap s'.heap/\(a=X.env.locals\/X.env.cells.lookup x=bn a))->Q () s')(hf:LX X x:=by first|exact .inl rfl|exact .inr rfl|assumption):ga M A (storeName X.env x u) Q E s:=by
 obtain⟨m,hn,hl⟩:=id I.loc;have abL:(X.env.scope.kind==.class||(X.env.scope.kind==.module&&X.env.locals != X.env.globals))=false:=by rw[I.ok.kind];rfl
 have WX:i < σ.length:=by rw[I.len];exact(Aj.mp hi).1
 have Tc:=I.Tc;have Ò:∀{a:f8}{h':im},(∃o,s.heap.get? a=bn o/\H a=cr)->A9 a s.heap h'->lg X.prog X.w H h':=λ{a h'} ha hs b ob e=>by
  obtain⟨_,_,Py⟩:=ha;refine(I.bC b ob e).wJ (λc w' hc q=>(hs.2 c ?_).trans q) (λ_ q=>q) λ_ _ q=>q;rintro rfl;rcases hc with rfl|hc
  .rw[Py]at e;cases e
  .rw[Py]at hc;cases hc
 rcases hx with hk|hk
 .refine wpAny_storeName_local hk hn (λh' YU hs=>?_) abL;obtain⟨oL,_,_,WQ,_⟩:=id hn;refine h _ ⟨I.ok,I.os,I.bare,⟨λb o e n hb hx=>?_,λb o e n hb hx=>?_,I.base.free,λb o e hx=>?_,I.base.dn,I.base.tG,I.base.rN⟩,⟨_,YU,λj y v' e1 e2 e3=>?_⟩,λy c e=>?_,I.free,I.iE,λp hp=>?_,Ò ⟨oL,WQ,I.free⟩ hs,by simpa using I.len⟩ ⟨_,hs,.inl rfl⟩
  .exact(hs.2 b (Ar (Az (Ak e) I.ok.above))).trans (I.base.keep b o e n hb hx)
  .obtain⟨sl,e1⟩:=I.base.slot b o e n hb hx;exact⟨sl,(hs.2 b (Ar (Az (Ak e) I.ok.above))).trans e1⟩
  .obtain⟨o',e1⟩:=I.base.there b o e hx;exact⟨o',(hs.2 b (Ar (Az (Ak e) I.ok.above))).trans e1⟩
  .by_cases hj:j=i
   .subst hj;rw[hi]at e1;cases e1;rw[EM WX]at e2;cases e2;exact⟨u,r,.inl ⟨hk,by simp⟩⟩
   .rw[C0 (BU hj)]at e2;obtain⟨u',r',q⟩:=hl j y v' e1 e2 e3;refine⟨u',r',?_⟩;rcases q with⟨k,e⟩|⟨k,c,e,z⟩
    .refine .inl ⟨k,?_⟩;have:y≠x:=λe=>hj (uX hN e1 (e▸hi));simp[this,e]
    .exact .inr ⟨k,c,e,z.sameBut hs (Tc y c e)⟩
  .obtain⟨w',z⟩:=I.cell y c e;exact⟨w',z.sameBut hs (Tc y c e)⟩
  .obtain⟨e,n,ne,nf,d⟩:=I.pin p hp;exact⟨(hs.2 p.1 ne).trans e,n,ne,nf,d⟩
 .have W0:X.fn x=true:=by
   rcases hf with z|z
   .exact z
   .rw[z]at hk;cases hk
  obtain⟨c,hc⟩:=I.ok.has x (.inl hk);obtain⟨w',z⟩:=I.cell x c hc;refine wpAny_storeName_cell I.ok.kind hk hc z (λh' SJ hs=>?_);obtain⟨oc,hoc,abx⟩:=id z;refine h {s with heap:=h'} ⟨I.ok,I.os,I.bare,⟨λb o e n hb hx=>?_,λb o e n hb hx=>?_,I.base.free,λb o e hx=>?_,I.base.dn,I.base.tG,I.base.rN⟩,⟨m,hn.sameBut hs (BU (Tc x c hc)),λj y v' e1 e2 e3=>?_⟩,λy c' e=>?_,I.free,I.iE,λp hp=>?_,Ò ⟨oc,hoc,I.iE x c hc⟩ hs,by simpa using I.len⟩ ⟨c,hs,.inr hc⟩
  .exact(hs.2 b (Ar (Az (Ak e) (I.ok.XY x c W0 hc)))).trans (I.base.keep b o e n hb hx)
  .obtain⟨sl,e1⟩:=I.base.slot b o e n hb hx;exact⟨sl,(hs.2 b (Ar (Az (Ak e) (I.ok.XY x c W0 hc)))).trans e1⟩
  .obtain⟨o',e1⟩:=I.base.there b o e hx;exact⟨o',(hs.2 b (Ar (Az (Ak e) (I.ok.XY x c W0 hc)))).trans e1⟩
  .by_cases hj:j=i
   .subst hj;rw[hi]at e1;cases e1;rw[EM WX]at e2;cases e2;exact⟨u,r,.inr ⟨.inl hk,c,hc,SJ⟩⟩
   .rw[C0 (BU hj)]at e2;obtain⟨u',r',q⟩:=hl j y v' e1 e2 e3;refine⟨u',r',?_⟩;rcases q with q|⟨k,c',e,z'⟩
    .exact .inl q
    .refine .inr ⟨k,c',e,z'.sameBut hs ?_⟩;rintro rfl;exact hj (uX hN e1 (I.ok.inj _ _ _ e hc▸hi))
  .by_cases SI:c'=c
   .subst SI;exact⟨_,SJ⟩
   .obtain⟨w2,z2⟩:=I.cell y c' e;exact⟨w2,z2.sameBut hs SI⟩
  .obtain⟨e,n,ne,nf,d⟩:=I.pin p hp;refine⟨(hs.2 p.1 ?_).trans e,n,ne,nf,d⟩;intro q;rw[q,hoc]at e;have q':oc=p.2:=Option.some.inj e;exact d w' (by rw[<- q'];exact abx)
def kg{x:Str}(I:Inv X U σ H s)(hN:X.N.Nodup)(hi:X.N[i]?=bn x)(hx:Loc X.env.scope x)(r:RelV v u)(h:∀s',Inv X U (σ.set i (bn v)) H s'->Q () s')(hf:LX X x:=by first|exact .inl rfl|exact .inr rfl|assumption):ga M A (storeName X.env x u) Q E s:=
 qt I hN hi hx r (λs' I' _=>h s' I') hf
def Inv.XX(I:Inv X U σ H s)(ho:s'.os=s.os)(u:Un (Ib X.stack) ch H H' s.heap s'.heap)(bC:lg X.prog X.w H' s'.heap)(hg:IR s'.gens)(LO:∀b∈ch,(b∈X.ex\/X.s₀.heap.objs.size<=b)/\b≠X.env.locals/\(∀x c,X.env.cells.lookup x=bn c->c≠b)/\∀p∈X.pn++U,p.1≠b):Inv X U σ H' s':=by
 obtain⟨h',g',d',t',o'⟩:=s';have e:o'=s.os:=ho;subst e;exact I.call (g':=g') (t':=t') (d':=d') u bC hg LO
end
abbrev XK:=db->Option f8->Hp->Prop
abbrev St:=O (Option V)
abbrev VK:=V->Hp->Prop
abbrev TE:=St->Hp->VK->Prop
abbrev TT:=St->Hp->(Bool->Hp->Prop)->Prop
abbrev TA:=St->Hp->(O V->Hp->Prop)->Prop
structure Ends where
 nx:St->Hp->Prop
 rt:VK
 bk:St->Hp->Prop:=λ_ _=>False
 ct:St->Hp->Prop:=λ_ _=>False
abbrev TS:=Ends->St->Hp->Prop
def EP(X:Cx)(U:O (f8×Obj))(σ:St)(Q:VK)(u:db)(s':em):Prop:=∃v H',Inv X U σ H' s'/\RelV v u/\Q v H'
def TP(X:Cx)(U:O (f8×Obj))(σ:St)(Q:Bool->Hp->Prop)(b:Bool)(s':em):Prop:=∃H',Inv X U σ H' s'/\Q b H'
def AP(X:Cx)(U:O (f8×Obj))(σ:St)(Q:O V->Hp->Prop)(us:O db)(s':em):Prop:=∃vs H',Inv X U σ H' s'/\Vals vs us/\Q vs H'
def SP(X:Cx)(U:O (f8×Obj))(D:Ends)(f:Flow)(s':em):Prop:=
 match f with
 |.next=>∃σ' H',Inv X U σ' H' s'/\D.nx σ' H'
 |.brk=>∃σ' H',Inv X U σ' H' s'/\D.bk σ' H'
 |.cont=>∃σ' H',Inv X U σ' H' s'/\D.ct σ' H'
 |.ret u=>∃v σ' H',Inv X U σ' H' s'/\RelV v u/\D.rt v H'
def PE(X:Cx)(e:lc)(t:TE):Prop:=
 ∀(U:O (f8×Obj)) (s:em) (σ:St) (H:Hp) (Q:VK),Inv X U σ H s->t σ H Q->ga (ge X.prog X.w) X.A (r6 e X.env) (EP X U σ Q) X.xe s
def PT(X:Cx)(e:lc)(t:TT):Prop:=
 ∀(U:O (f8×Obj)) (s:em) (σ:St) (H:Hp) (Q:Bool->Hp->Prop),Inv X U σ H s->t σ H Q->ga (ge X.prog X.w) X.A (isTrue e X.env (r6 e X.env)) (TP X U σ Q) X.xe s
def PW(X:Cx)(e:lc)(t:TT):Prop:=
 ∀(Ä:Sem db) (U:O (f8×Obj)) (s:em) (σ:St) (H:Hp) (Q:Bool->Hp->Prop),Inv X U σ H s->t σ H Q->ga (ge X.prog X.w) X.A (isTrue e X.env Ä) (TP X U σ Q) X.xe s
def PW.pt{X:Cx}{e:lc}{t:TT}(h:PW X e t):PT X e t:=h _
def PA(X:Cx)(es:O lc)(t:TA):Prop:=
 ∀(pos:Pos) (U:O (f8×Obj)) (s:em) (σ:St) (H:Hp) (Q:O V->Hp->Prop),Inv X U σ H s->t σ H Q->ga (ge X.prog X.w) X.A (spliced (backTo pos (ii es X.env))) (AP X U σ Q) X.xe s
def PS(X:Cx)(st:u8)(t:TS):Prop:=
 ∀(U:O (f8×Obj)) (s:em) (σ:St) (H:Hp) (D:Ends),Inv X U σ H s->t D σ H->ga (ge X.prog X.w) X.A (exec st X.env) (SP X U D) X.xe s
def lh(X:Cx)(st:O u8)(t:TS):Prop:=
 ∀(U:O (f8×Obj)) (s:em) (σ:St) (H:Hp) (D:Ends),Inv X U σ H s->t D σ H->ga (ge X.prog X.w) X.A (execs st X.env) (SP X U D) X.xe s
def bS{t:Sem α}{Q Q':α->em->Prop}(h:ga M A t Q E s)(hQ:∀a s,Q a s->Q' a s):ga M A t Q' E s:=B9 h hQ λ_ _ x=>x
end L2
variable{x:B0}{a:B6}{X:L2.Cx}{σ:L2.St}{Q:AV->C2->Prop}{ta tb:L2.TE}{R:L2.V->L2.V->L2.Hp->Prop}{pos:Cu}
namespace L2
section
def bin{b:lc}(ha:PE X a ta)(hb:PE X b tb)(I:Inv X U σ H s)(h:ta σ H λx H1=>tb σ H1 λy H2=>R x y H2){Q:α->em->Prop}{f:db->db->Sem α}(hf:∀v u s2 x y H2,Inv X U σ H2 s2->RelV x v->RelV y u->R x y H2->ga (ge X.prog X.w) X.A (f v u) Q X.xe s2):ga (ge X.prog X.w) X.A (r6 a X.env) (λv s₁=>ga (ge X.prog X.w) X.A (r6 b X.env) (λu s₂=>ga (ge X.prog X.w) X.A (f v u) Q X.xe s₂) X.xe s₁) X.xe s:=by
 refine bS (ha U s σ H _ I h) λv s1 ⟨x,H1,I1,r1,q1⟩=>?_;refine bS (hb U s1 σ H1 _ I1 q1) λu s2 ⟨y,H2,I2,r2,q2⟩=>?_;exact hf v u s2 x y H2 I2 r1 r2 q2
def Qx(i:Nat):TE:=λσ H Q=>∃v,σ[i]?=bn (bn v)/\Q v H
def tC(v:V):TE:=λ_ H Q=>Q v H
def fF(hN:X.N[i]?=bn x)(hv:FV X.env.scope x)(hd: ~~~(iM x))(iC: ~~~(HQ x)):PE X (.Name x pos) (Qx i):=by
 intro U s σ H Q I h;obtain⟨v,e,h⟩:=h;obtain⟨m,hn,hl⟩:=I.loc;obtain⟨u,r,l⟩:=hl i x v hN e hv;have fin:EP X U σ Q u s:=⟨v,H,I,r,h⟩;rcases l with⟨hk,hm⟩|⟨hk,c,hc,Pz⟩
 .exact wpAny_Name (wpAny_loadName_local I.ok.kind hk hn hm fin) hd
 .rcases hk with hk|hk
  .exact wpAny_Name (wpAny_loadName_cell I.ok.kind hk hc Pz fin) hd
  .exact wpAny_Name (wpAny_loadName_free I.ok.kind hk hc Pz fin iC) hd
def aW{i j pos}:PE X (.Constant (.int i) j pos) (tC (.int i)):=λ_ _ _ H _ I h=>wpAny_Constant_int ⟨.int i,H,I.tok _,⟨_,rfl⟩,h⟩
def VT{b j pos}:PE X (.Constant (.bool b) j pos) (tC (.bl b)):=λ_ _ _ H _ I h=>Constant_bool ⟨.bl b,H,I,rfl,h⟩
def Rm{j pos}:PE X (.Constant .none j pos) (tC .az):=λ_ _ _ H _ I h=>Constant_none ⟨.az,H,I,rfl,h⟩
def Rj{x j pos}:PE X (.Constant (.str x) j pos) (tC (.str x)):=λ_ _ _ H _ I h=>Calls.Constant_str ⟨.str x,H,I.tok _,⟨_,rfl⟩,h⟩
def Gl(X:Cx)(x:Str):Prop:=X.env.kindOf x=bn .globalImplicit
def zA(I:Inv X U σ H s)(hg:Gl X x)(hm:X.mg x=bn u)(h:Q u s)(hd: ~~~(iM x)):ga (ge X.prog X.w) X.A (r6 (.Name x pos) X.env) Q E s:=
 D8 I.ok.kind hg (Calls.loadGlobal_global (by rw[I.ok.glob];exact I.mod.glob.keeps I.bk) hm h) hd
def eD(I:Inv X U σ H s)(hg:Gl X x)(hm:X.mg x=cr)(hv:pi x=bn u)(h:Q u s)(hn: ~~~(x≠"__name__"))(hd: ~~~(iM x)):ga (ge X.prog X.w) X.A (r6 (.Name x pos) X.env) Q E s:=by
 obtain⟨mb,h1,h2⟩:=I.mod.blt;exact D8 I.ok.kind hg (Calls.loadGlobal_builtin (by rw[I.ok.glob];exact I.mod.glob.keeps I.bk) hm (by rw[I.ok.blt];exact h1.keeps I.bk) ((h2 x hn).trans hv) h) hd
def MU(hg:Gl X x)(hm:X.mg x=bn u)(r:RelV v u)(hd: ~~~(iM x)):PE X (.Name x pos) (tC v):=
 λ_ _ _ H _ I h=>zA I hg hm ⟨v,H,I,r,h⟩ hd
def MW(hg:Gl X x)(hm:X.mg x=cr)(hv:pi x=bn u)(r:RelV v u)(hn: ~~~(x≠"__name__"))(hd: ~~~(iM x)):PE X (.Name x pos) (tC v):=
 λ_ _ _ H _ I h=>eD I hg hm hv ⟨v,H,I,r,h⟩ hn hd
variable{b:lc}
variable{tA QB:TT}{rest:O lc}
def Vi(t u:TT):TT:=λσ H Q=>t σ H λc H1=>if c=true then u σ H1 Q else Q false H1
def tOr(t u:TT):TT:=λσ H Q=>t σ H λc H1=>if c=true then Q true H1 else u σ H1 Q
def aah(t:TT):TT:=λσ H Q=>t σ H λc H1=>Q (!c) H1
def yZ(ha:PT X a tA):PW X (.BoolOp .And [a] pos) tA:=by
 intro wh U s σ H Q I h;refine isTrue_and (bS (ha U s σ H Q I h) λc s1 e=>?_);cases c with
 |true=>exact isTrue_and_nil e
 |false=>exact e
def Ra(ha:PT X a tA):PW X (.BoolOp .Or [a] pos) tA:=by
 intro wh U s σ H Q I h;refine isTrue_or (bS (ha U s σ H Q I h) λc s1 e=>?_);cases c with
 |false=>exact isTrue_or_nil e
 |true=>exact e
def Je(ha:PT X a tA)(hb:PW X (.BoolOp .And (b::rest) pos) QB):PW X (.BoolOp .And (a::b::rest) pos) (Vi tA QB):=by
 intro wh U s σ H Q I h;refine isTrue_and (bS (ha U s σ H _ I h) λc s1 ⟨H1,I1,q1⟩=>?_);cases c with
 |true=>exact hb wh U s1 σ H1 Q I1 q1
 |false=>exact⟨H1,I1,q1⟩
def VO(ha:PT X a tA)(hb:PW X (.BoolOp .Or (b::rest) pos) QB):PW X (.BoolOp .Or (a::b::rest) pos) (tOr tA QB):=by
 intro wh U s σ H Q I h;refine isTrue_or (bS (ha U s σ H _ I h) λc s1 ⟨H1,I1,q1⟩=>?_);cases c with
 |true=>exact⟨H1,I1,q1⟩
 |false=>exact hb wh U s1 σ H1 Q I1 q1
def Rb(ha:PT X a tA):PT X (.UnaryOp .Not a pos) (aah tA):=by
 intro U s σ H Q I h;exact isTrue_not (ha U s σ H (λc H1=>Q (!c) H1) I h)
def Vh(ta tb:TE):TE:=λσ H Q=>ta σ H λx H1=>∃c,x=.bl c/\if c=true then tb σ H1 Q else Q (.bl false) H1
def Va(ta:TE):TE:=λσ H Q=>ta σ H λx H1=>∃c,x=.bl c/\Q (.bl (!c)) H1
def Rk{op}{t:TE}(h:PE X a t):PE X (.BoolOp op [a] pos) t:=λU s σ H Q I hw=>BoolOp_one (h U s σ H Q I hw)
def Ro(ha:PE X a ta)(hb:PE X (.BoolOp .And (b::rest) pos) tb):PE X (.BoolOp .And (a::b::rest) pos) (Vh ta tb):=by
 intro U s σ H Q I h;refine BoolOp_and (bS (ha U s σ H _ I h) λv s1 ⟨x,H1,I1,r1,q1⟩=>?_);obtain⟨c,rfl,q1⟩:=q1;cases r1;refine BK ?_;cases c with
 |true=>exact hb U s1 σ H1 Q I1 q1
 |false=>exact⟨.bl false,H1,I1,rfl,q1⟩
def Rl(ha:PE X a ta):PE X (.UnaryOp .Not a pos) (Va ta):=by
 intro U s σ H Q I h;refine UnaryOp_ (bS (ha U s σ H _ I h) λv s1 ⟨x,H1,I1,r1,q1⟩=>?_);obtain⟨c,rfl,q1⟩:=q1;cases r1;exact not_of (BK ⟨.bl (!c),H1,I1,rfl,q1⟩)
def tIf(t:TT)(ta tb:TE):TE:=λσ H Q=>t σ H λc H1=>if c=true then ta σ H1 Q else tb σ H1 Q
def uJ{c:lc}(hc:PT X c tA)(ha:PE X a ta)(hb:PE X b tb):PE X (.IfExp c a b pos) (tIf tA ta tb):=by
 intro U s σ H Q I h;refine wpAny_IfExp (bS (hc U s σ H _ I h) λd s1 ⟨H1,I1,q1⟩=>?_);cases d with
 |true=>exact ha U s1 σ H1 Q I1 q1
 |false=>exact hb U s1 σ H1 Q I1 q1
end
end L2
variable{xs ys:O L2.V}{e tg:B6}{y:L2.V}{D:L2.Ends}{te to:L2.TE}{es:O B6}{k n:Nat}{px py pt:Cu}{body:O PySem.Stmt}
namespace L2
def bO(K:Ab)(H:Hp)(a:f8)(xs:O V):Prop:=
 Rd H a (.lst xs)\/
  ∃(o:Obj) (aj:Array db) (n:Nat),K.lookup a=bn o/\o.cls=.type "list"/\o.dict=cr/\o.data=.seq aj n/\aj.size<=sizeLine/\Vals xs aj.toList
def cG(K:Ab)(H:Hp)(a:f8)(xs:O V):Prop:=
 Rd H a (.tup xs)\/
  ∃(o:Obj) (aj:Array db) (n:Nat),K.lookup a=bn o/\o.cls=.type "tuple"/\o.data=.seq aj n/\aj.size<=sizeLine/\Vals xs aj.toList
def acv:db->Option V
 |.none=>bn .az
 |.bool b=>bn (.bl b)
 |.int i _=>bn (.int i)
 |.str x _=>bn (.str x)
 |.bytes b _=>bn (.HI b)
 |.float b _=>bn (.Ui b)
 |.ref a=>bn (.ref a)
 |.type n=>bn (.ty n)
 |_=>cr
def RelV.abs{x:V}(r:RelV x u):acv u=bn x:=by
 cases x with
 |az=>cases r;rfl
 |bl _=>cases r;rfl
 |int _=>obtain⟨t,rfl⟩:=r;rfl
 |str _=>obtain⟨t,rfl⟩:=r;rfl
 |HI _=>obtain⟨t,rfl⟩:=r;rfl
 |Ui _=>obtain⟨t,rfl⟩:=r;rfl
 |ref _=>cases r;rfl
 |ty _=>cases r;rfl
def RelV.inj{x:V}(r:RelV x u)(q:RelV y u):x=y:=Option.some.inj (r.abs.symm.trans q.abs)
theorem Vals.inj:∀{xs ys:O V}{us:O db},Vals xs us->Vals ys us->xs=ys
 |_,_,_,.nil,.nil=>rfl
 |_,_,_,.cons r t,.cons r' t'=>by rw[r.inj r',Vals.inj t t']
section
variable{a:f8}
def bO.of{K:Ab}(h:H a=bn (.lst xs)):bO K H a xs:=.inl (.inl h)
def cG.of{K:Ab}(h:H a=bn (.tup xs)):cG K H a xs:=.inl (.inl h)
theorem Inv.list(I:Inv X U σ H s)(h:bO X.K H a xs):∃aj:O db,Vals xs aj/\PlainL s.heap a aj.toArray/\xs.length<=sizeLine:=by
 rcases h with h|⟨o,aj,n,hk,hc,hd,hs,hz,r⟩
 .obtain⟨z,aj,n,r,e⟩:=h.ok I.bC;exact⟨aj,r,⟨_,n,e,rfl,rfl,rfl⟩,z⟩
 .refine⟨aj.toList,r,⟨o,n,I.qQ a o hk,hc,hd,by simpa using hs⟩,?_⟩;have e:=r.length;simp at e;lia
theorem Inv.tuple(I:Inv X U σ H s)(h:cG X.K H a xs):∃aj:O db,Vals xs aj/\IsTup s.heap a aj.toArray/\xs.length<=sizeLine:=by
 rcases h with h|⟨o,aj,n,hk,hc,hs,hz,r⟩
 .obtain⟨z,aj,r,p,_⟩:=h.ok I.bC;exact⟨aj,r,p,z⟩
 .refine⟨aj.toList,r,⟨o,I.qQ a o hk,hc,n,by simpa using hs⟩,?_⟩;have e:=r.length;simp at e;lia
def Inv.vd(I:Inv X U σ H s)(h:bO X.K H a xs)(h':bO X.K H a ys):xs=ys:=by
 obtain⟨aj,r,⟨o,n,e,_,_,d⟩,_⟩:=I.list h;obtain⟨dc,r',⟨o',n',e',_,_,d'⟩,_⟩:=I.list h';rw[e]at e';cases e';rw[d]at d';injection d' with d1 _;have:aj=dc:=by simpa using congrArg Array.toList d1
 subst this;exact r.inj r'
def Inv.iO(I:Inv X U σ H s)(h:cG X.K H a xs)(h':cG X.K H a ys):xs=ys:=by
 obtain⟨aj,r,⟨o,e,_,n,d⟩,_⟩:=I.tuple h;obtain⟨dc,r',⟨o',e',_,n',d'⟩,_⟩:=I.tuple h';rw[e]at e';cases e';rw[d]at d';injection d' with d1 _;have:aj=dc:=by simpa using congrArg Array.toList d1
 subst this;exact r.inj r'
end
abbrev Cx.pj(X:Cx)(E:db->em->Prop):Cx:={X with xe:=E}
abbrev Cx.Pb(X:Cx):Cx:=X.pj λ_ _=>False
def Cx.Ok.pj(ok:X.Ok)(E:db->em->Prop):(X.pj E).Ok:=
 ⟨ok.mod,ok.kind,ok.glob,ok.blt,ok.above,ok.inj,ok.has,ok.XY,ok.hd,ok.frames,ok.Yl,ok.exf,ok.bs,ok.P7,ok.JA,ok.KI,ok.oJ,ok.Ue⟩
def Cx.Ok.ic(ok:(X.pj E).Ok):X.Ok:=
 ⟨ok.mod,ok.kind,ok.glob,ok.blt,ok.above,ok.inj,ok.has,ok.XY,ok.hd,ok.frames,ok.Yl,ok.exf,ok.bs,ok.P7,ok.JA,ok.KI,ok.oJ,ok.Ue⟩
section
def Inv.pj(I:Inv X U σ H s)(E:db->em->Prop):Inv (X.pj E) U σ H s:=⟨I.ok.pj E,I.os,I.bare,I.base,I.loc,I.cell,I.free,I.iE,I.pin,I.bC,I.len⟩
def Inv.ic(I:Inv (X.pj E) U σ H s):Inv X U σ H s:=⟨I.ok.ic,I.os,I.bare,I.base,I.loc,I.cell,I.free,I.iE,I.pin,I.bC,I.len⟩
def SP.ic{f:Flow}(h:SP (X.pj E) U D f s'):SP X U D f s':=by
 cases f with
 |next=>obtain⟨σ',H',I,q⟩:=h;exact⟨σ',H',I.ic,q⟩
 |brk=>obtain⟨σ',H',I,q⟩:=h;exact⟨σ',H',I.ic,q⟩
 |cont=>obtain⟨σ',H',I,q⟩:=h;exact⟨σ',H',I.ic,q⟩
 |ret u=>obtain⟨v,σ',H',I,r,q⟩:=h;exact⟨v,σ',H',I.ic,r,q⟩
def lh.Pb{st:O u8}{t:TS}(h:lh X.Pb st t):lh X st t:=λU s σ H D I hw=>
 B9 (h U s σ H D (I.pj _) hw) (λ_ _ q=>q.ic) λ_ _ z=>BR z
end
section
variable{st:u8}{rest:O u8}{t u:TS}
def OW:TS:=λD σ H=>D.nx σ H
def U7(t u:TS):TS:=λD σ H=>t {D with nx:=u D} σ H
def m7:lh X [] OW:=λ_ _ σ H _ I h=>DJ ⟨σ,H,I,h⟩
def c9(h1:PS X st t)(h2:lh X rest u):lh X (st::rest) (U7 t u):=by
 intro U s σ H D I h;refine wpAny_execs_cons (bS (h1 U s σ H {D with nx:=u D} I h) λf s1 q=>?_);cases f with
 |next=>
  obtain⟨σ',H',I',q⟩:=q;exact h2 U s1 σ' H' D I' q
 |ret v=>exact q
 |brk=>exact q
 |cont=>exact q
def m6(h1:PS X st t):lh X [st] t:=by
 intro U s σ H D I h;refine wpAny_execs_cons (bS (h1 U s σ H D I h) λf s1 q=>?_);cases f with
 |next=>exact DJ q
 |ret v=>exact q
 |brk=>exact q
 |cont=>exact q
def Ve:TS:=λD σ H=>D.ct σ H
def uE:PS X (.Continue pos) Ve:=λ_ _ σ H _ I h=>wpAny_Continue ⟨σ,H,I,h⟩
def Inv.quiet(I:Inv X U σ H s):interactive X.env=false:=by simp[interactive,I.ok.kind]
def OY(te:TE):TS:=λD σ H=>te σ H λ_ H1=>D.nx σ H1
def m8(he:PE X e te)(hs:‹sn e cr pos.line X.env=pure false›):PS X (.Expr e pos) (OY te):=by
 intro U s σ H D I h;exact wpAny_Expr_any (bS (he U s σ H _ I h) λv s1 ⟨x,H1,I1,r1,q1⟩=>⟨σ,H1,I1,q1⟩) I.quiet hs
def U8(te:TE):TS:=λD σ H=>te σ H D.rt
def nP(he:PE X e te):PS X (.Return (bn e) pos) (U8 te):=by
 intro U s σ H D I h;exact wpAny_Return_some (bS (he U s σ H _ I h) λv s1 ⟨x,H1,I1,r1,q1⟩=>⟨x,σ,H1,I1,r1,q1⟩)
def Vc(c:TT)(t u:TS):TS:=λD σ H=>c σ H λb H1=>if b=true then t D σ H1 else u D σ H1
def y6{c:lc}{a b:O u8}{tc:TT}(hc:PT X c tc)(ha:lh X a t)(hb:lh X b u):PS X (.If c a b pos) (Vc tc t u):=by
 intro U s σ H D I h;refine wpAny_If (bS (hc U s σ H _ I h) λd s1 ⟨H1,I1,q1⟩=>?_);cases d with
 |true=>exact ha U s1 σ H1 D I1 q1
 |false=>exact hb U s1 σ H1 D I1 q1
def Qy:TS:=λ_ _ _=>False
end
abbrev TG:=V->St->Hp->(St->Hp->Prop)->Prop
abbrev Tp:=O V->St->Hp->(St->Hp->Prop)->Prop
def PG(X:Cx)(Ì:lc)(t:TG):Prop:=
 ∀(U:O (f8×Obj)) (s:em) (σ:St) (H:Hp) (v:V) (u:db) (Q:St->Hp->Prop),Inv X U σ H s->RelV v u->t v σ H Q->
  ga (ge X.prog X.w) X.A (GM Ì X.env u) (λ_ s'=>∃σ' H',Inv X U σ' H' s'/\Q σ' H') X.xe s
def ZE(X:Cx)(ts:O lc)(t:Tp):Prop:=
 ∀(U:O (f8×Obj)) (s:em) (σ:St) (H:Hp) (vs:O V) (us:O db) (Q:St->Hp->Prop),Inv X U σ H s->Vals vs us->t vs σ H Q->
  ga (ge X.prog X.w) X.A (assignInOrder ((Ch ts X.env).map (·.2)) us) (λ_ s'=>∃σ' H',Inv X U σ' H' s'/\Q σ' H') X.xe s
abbrev HN:=V->V->V->Hp->(Hp->Prop)->Prop
def HP(X:Cx)(t:HN):Prop:=
 ∀(U:O (f8×Obj)) (s:em) (σ:St) (H:Hp) (o i v:V) (ov iv u:db) (Q:Hp->Prop),Inv X U σ H s->RelV o ov->RelV i iv->RelV v u->t o i v H Q->
  ga (ge X.prog X.w) X.A (setItem ov iv u) (λ_ s'=>∃H',Inv X U σ H' s'/\Q H') X.xe s
section
def cD(i:Nat):TG:=λv σ H Q=>Q (σ.set i (bn v)) H
def MK(hN:X.N.Nodup)(hi:X.N[i]?=bn x)(hx:Loc X.env.scope x)(hf:LX X x:=by first|exact .inl rfl|exact .inr rfl|assumption):PG X (.Name x pos) (cD i):=by
 intro U s σ H v u Q I r h;exact wpAny_assign_Name (kg I hN hi hx r (λs' I'=>⟨_,H,I',h⟩) hf)
def NZ:Tp:=λvs σ H Q=>vs=[]/\Q σ H
def jC(t:TG)(u:Tp):Tp:=λvs σ H Q=>∃v r,vs=v::r/\t v σ H λσ' H'=>u r σ' H' Q
def dJ:ZE X [] NZ:=by
 intro U s σ H vs us Q I r h;obtain⟨e,h⟩:=h;subst e;cases r;exact assignInOrder_nil ⟨σ,H,I,h⟩
def aP{t:TG}{u:Tp}(h1:PG X e t)(h2:ZE X es u)(hs:‹(Ch (e::es) X.env).map (·.2)=GM e X.env::(Ch es X.env).map (·.2)›):ZE X (e::es) (jC t u):=by
 intro U s σ H vs us Q I r h;obtain⟨v,vr,e1,h⟩:=h;subst e1;cases r with
 |cons r rr=>
  rw[hs];exact assignInOrder_cons (bS (h1 U s σ H _ _ _ I r h) λ_ s1 ⟨σ1,H1,I1,q1⟩=>h2 U s1 σ1 H1 _ _ Q I1 rr q1)
def NY(K:Ab)(n:Nat)(t:Tp):TG:=λv σ H Q=>∃a xs,v=.ref a/\cG K H a xs/\xs.length=n/\t xs σ H Q
def fD{t:Tp}(hc:X.calm=true)(h:ZE X es t)(hn:‹(Ch es X.env).length=n›)(wc:‹(Ch es X.env).findIdx? (·.1)=cr›):PG X (.Tuple es k pos) (NY X.K n t):=by
 intro U s σ H v u Q I r hw;obtain⟨a,xs,e1,hq,hl,hw⟩:=hw;subst e1;cases r;obtain⟨aj,rv,ht,hz⟩:=I.tuple hq;exact assign_Tuple_tuple (I.ok.hd hc) ht (by simp[hn,<- hl,rv.length]) wc λh' hx=>h U _ σ H xs _ Q (I.kept λb o e=>hx b o (Ar (Ak e)) e) (by simpa using rv) hw
def Xc(to ti:TE)(t:HN):TG:=λv σ H Q=>to σ H λo H1=>ti σ H1 λi H2=>t o i v H2 λH3=>Q σ H3
def wV{o i:lc}{ti:TE}{t:HN}(ho:PE X o to)(hi:PE X i ti)(hs:HP X t)(ha:∀v,GM (.Subscript o i pos) X.env v=(do
   let ov <- EQ [v] (r6 o X.env)
   let iv <- EQ [v,ov] (r6 i X.env)
   standAt pos
   EQ [v,ov,iv] (setItem ov iv v)
   release [v,ov,iv] []):=by intro _;rfl):PG X (.Subscript o i pos) (Xc to ti t):=by
 intro U s σ H v u Q I r h;exact Aa (AZ (bS (ho U s σ H _ I h) λov s1 ⟨x,H1,I1,r1,q1⟩=>Aa (AZ (bS (hi U s1 σ H1 _ I1 q1) λiv s2 ⟨y,H2,I2,r2,q2⟩=>Aa (Er (Aa (AZ (bS (hs U s2 σ H2 x y v ov iv u _ I2 r1 r2 r q2) λ_ s3 ⟨H3,I3,q3⟩=>wpAny_release ⟨σ,H3,I3,q3⟩))))))))
def Mf(te:TE)(g:TG):TS:=λD σ H=>te σ H λx H1=>g x σ H1 D.nx
def rY{g:TG}(he:PE X e te)(hg:PG X tg g)(hs:‹Gt [tg] e pos.line X.env=pure false›)(hw:‹GE [tg] e X.env=pure cr›)(h1:‹(Ch [tg] X.env).map (·.2)=[GM tg X.env]›):PS X (.Assign [tg] e pos) (Mf te g):=by
 intro U s σ H D I h;refine wpAny_Assign_stores (bS (he U s σ H _ I h) λv s1 ⟨x,H1,I1,r1,q1⟩=>?_) hs hw;rw[h1];exact bS (hg U s1 σ H1 x v _ I1 r1 q1) λ_ s2 q=>q
def lA{à:Pos}(hN:X.N.Nodup)(hi:X.N[i]?=bn x)(hx:Loc X.env.scope x)(he:PE X e te)(hs:‹sn e (bn (.Name x à)) pos.line X.env=pure false›)(hf:LX X x:=by first|exact .inl rfl|exact .inr rfl|assumption):PS X (.Assign [.Name x à] e pos) (Mf te (cD i)):=by
 intro U s σ H D I h;refine wpAny_Assign_Name (bS (he U s σ H _ I h) λv s1 ⟨y,H1,I1,r1,q1⟩=>?_) hs;exact kg I1 hN hi hx r1 (λs2 I2=>⟨_,H1,I2,q1⟩) hf
def aag(i j:Nat)(ta:TA):TS:=λD σ H=>ta σ H λvs H1=>∃v w,vs=[v,w]/\D.nx ((σ.set i (bn v)).set j (bn w)) H1
def Rf{y:Str}{b:lc}{ta:TA}{kt k2 Rc}(hc:X.calm=true)(hN:X.N.Nodup)(hi:X.N[i]?=bn x)(hj:X.N[j]?=bn y)(YW:i≠j)(hx:X.env.scope.names.lookup x=bn .local)(hy:X.env.scope.names.lookup y=bn .local)(ha:PA X [a,b] ta)(hw:GE [.Tuple [.Name x px,.Name y py] kt pt] (.Tuple [a,b] k2 Rc) X.env=pure (bn [x,y]))(hs:‹Gt [.Tuple [.Name x px,.Name y py] kt pt] (.Tuple [a,b] k2 Rc) pos.line X.env=pure false›):PS X (.Assign [.Tuple [.Name x px,.Name y py] kt pt] (.Tuple [a,b] k2 Rc) pos) (aag i j ta):=by
 intro U s σ H D I h;refine Aa (Er ?_);refine Aa (Ae ?_);refine Aa (Tuple_ (bS (ha _ U s σ H _ I h) λus s1 ⟨vs,H1,I1,r1,q1⟩=>?_));obtain⟨v,w,e1,q1⟩:=q1;subst e1;obtain⟨u1,u2,rfl,rv,yW⟩:∃u1 u2,us=[u1,u2]/\RelV v u1/\RelV w u2:=by
  cases r1 with
  |cons p q=>
   cases q with
   |cons p' q'=>
    cases q';exact⟨_,_,rfl,p,p'⟩
 refine AR ?_ (by show 2<=sizeLine;decide);rw[hw];refine Aa (Ae ?_);refine Aa (Df (Aa (unpackItems_tuple (items:=#[u1,u2]) (I.ok.hd hc) (FI s1.heap _) λh' vt=>?_)));refine Aa (assignInOrder_cons (wpAny_bindName (kg ((I1.kept λb o e=>Af _ e).kept (t':=s1.toks) λb o e=>vt b o (Ar (Ak e)) e) hN hj (.inl hy) yW (λs2 I4=>?_) (.inr hy))));refine assignInOrder_cons (wpAny_bindName (kg I4 hN hi (.inl hx) rv (λs3 I5=>assignInOrder_nil (Ae ?_)) (.inr hx)));rw[List.set_comm _ _ (BU YW)]at I5;exact⟨_,H1,I5,q1⟩
end
section
def Qw(c:TT)(tb:TS):TS:=λD σ H=>∃W:Nat->St->Hp->Prop,(∃m,W m σ H)/\∀m σ H,W m σ H->
 c σ H λb H1=>if b=true then ∃N:St->Hp->Prop,(∀σ' H',N σ' H'->∃m',m'<m/\W m' σ' H')/\tb {D with nx:=N,ct:=N,bk:=D.nx} σ H1 else D.nx σ H1
def uD{c:lc}{tc:TT}{tb:TS}(hp:wT (ge X.prog X.w) X.A X.env X.xe)(hc:PT X c tc)(hb:lh X body tb):PS X (.While c body [] pos) (Qw tc tb):=by
 intro U s σ H D I h;obtain⟨W,⟨m0,w0⟩,turn⟩:=h;refine wpAny_While (codeAny_whileLoop (λn s'=>∃σ' H',Inv X U σ' H' s'/\W n σ' H') ?_ m0 ⟨σ,H,I,w0⟩);rintro n s1 ⟨σ1,H1,I1,w1⟩;refine Cg hp (bS (hc U s1 σ1 H1 _ I1 (turn n σ1 H1 w1)) λb s2 ⟨H2,I2,q2⟩=>?_);cases b with
 |true=>
  obtain⟨N,hN,q2⟩:=q2;refine Cg hp (bS (hb U s2 σ1 H2 _ I2 q2) λf s3 q3=>?_);cases f with
  |next=>
   obtain⟨σ3,H3,I3,n3⟩:=q3;obtain⟨m',hm,w3⟩:=hN σ3 H3 n3;exact⟨m',hm,σ3,H3,I3,w3⟩
  |cont=>
   obtain⟨σ3,H3,I3,n3⟩:=q3;obtain⟨m',hm,w3⟩:=hN σ3 H3 n3;exact⟨m',hm,σ3,H3,I3,w3⟩
  |brk=>exact q3
  |ret v=>exact q3
 |false=>
  exact DJ ⟨σ1,H2,I2,q2⟩
end
structure It where
 go:Nat->Hp->Prop
 Ij:Nat->Hp->V->Hp->Prop
 stop:Nat->Hp->Prop
def qm(X:Cx)(U:O (f8×Obj))(H:Hp)(b:f8):Prop:=
 H b=cr/\b≠X.env.locals/\b∉X.fs/\(b∈X.ex\/X.s₀.heap.objs.size<=b)/\(∀x c,X.env.cells.lookup x=bn c->c≠b)/\∀p∈X.pn++U,p.1≠b
def Inv.Hk(I:Inv X U σ H s)(hb:s.heap.objs.size<=b)(hn:H' b=cr):qm X U H' b:=by
 refine⟨hn,DU (Az I.lt hb),I.aaV hb,.inr (AI I.sz hb),λx c e z=>?_,λp hp z=>?_⟩
 .obtain⟨v,q⟩:=I.cell x c e;exact absurd (Az q.lt (by rw[z];exact hb)) (A0 _)
 .exact absurd (Az (Ak (I.pin p hp).1) (by rw[z];exact hb)) (A0 _)
structure Turn(P:pr)(w:t0)(K:Ab)(tg:lc)(J:It)(fp:List f8)(it:f8)(tn:Nat->im->Prop):Prop where
 mem:it∈fp
 obj:∀i h,tn i h->∀b∈fp,∃o,h.get? b=bn o/\∀v,o.data≠.cell v
 keep:∀i h h',tn i h->(∀b∈fp,∀o,h.get? b=bn o->h'.get? b=bn o)->tn i h'
 item:∀(X:Cx),X.prog=P->X.w=w->X.K=K->X.calm=true->∀(i:Nat) (U:List (f8×Obj)) (s:em) (σ:St) (H:Hp) (E:db->em->Prop),Inv X U σ H s->(∀b∈fp,qm X U H b)->tn i s.heap->J.go i H->
  ga (ge P w) X.A (BT (.ref it)) (λr s1=>∃u,r=bn u/\
   ga (ge P w) X.A (wn tg (.ref it) u) (λ_ s2=>∃x H',Inv X U σ H' s2/\RelV x u/\J.Ij i H x H'/\tn (i+1) s2.heap/\∀b∈fp,H' b=cr) E s1) E s
 done:∀(X:Cx),X.prog=P->X.w=w->X.K=K->X.calm=true->∀(i:Nat) (U:List (f8×Obj)) (s:em) (σ:St) (H:Hp) (E:db->em->Prop),Inv X U σ H s->(∀b∈fp,qm X U H b)->tn i s.heap->J.stop i H->
  ga (ge P w) X.A (BT (.ref it)) (λr s1=>r=cr/\Inv X U σ H s1) E s
 self:∀(A:sB) (i:Nat) (s:em) (Q:db->em->Prop) (E:db->em->Prop),tn i s.heap->Q (.ref it) s->ga (ge P w) A (pyIter (.ref it)) Q E s
abbrev TI:=St->Hp->(It->Hp->Prop)->Prop
def PIE(X:Cx)(U:O (f8×Obj))(σ:St)(tg:lc)(R:It->Hp->Prop)(YM:db)(s2:em):Prop:=
 ∃(it:f8) (fp:O f8) (tn:Nat->im->Prop) (J:It) (H':Hp),YM=.ref it/\Inv X U σ H' s2/\Turn X.prog X.w X.K tg J fp it tn/\tn 0 s2.heap/\(∀b∈fp,qm X U H' b)/\R J H'
def PI(X:Cx)(tg iter:lc)(wi:TI):Prop:=
 ∀(U:O (f8×Obj)) (s:em) (σ:St) (H:Hp) (R:It->Hp->Prop),Inv X U σ H s->wi σ H R->
  ga (ge X.prog X.w) X.A (r6 iter X.env) (λv s1=>ga (ge X.prog X.w) X.A (pyIter v) (PIE X U σ tg R) X.xe s1) X.xe s
def Kt{n:String}{vs:Array db}{Q:Unit->em->Prop}(ho:s.heap.get? it=bn o)(hc:o.cls=.type n)(hd:o.data=.fields vs)(hn:["enumerate","zip","dict_itemiterator","dict_reverseitemiterator","odict_iterator","itertools.zip_longest","itertools.pairwise"].contains n=false)(hQ:Q () s):ga M A (wn tg (.ref it) u) Q E s:=by
 unfold wn;cases tg<;>first
  |exact Ae hQ
  |(cases u<;>first
    |exact Ae hQ
    |(
      refine Aa (Ea ho ?_);rw[hc,hd];show ga M A (if (["enumerate","zip","dict_itemiterator","dict_reverseitemiterator","odict_iterator","itertools.zip_longest","itertools.pairwise"].contains n&&vs[0]?==bn (pc _))=true then _ else _) Q E s;rw[if_neg (by intro h;rw[hn,Dv]at h;cases h)];exact Ae hQ))
def Itl(K:Ab)(a:f8):It:=
 ⟨λi H=>∃xs x,bO K H a xs/\xs[i]?=bn x,λi H x H'=>H'=H/\∀xs,bO K H a xs->xs[i]?=bn x,λi H=>∃xs,bO K H a xs/\xs.length<=i⟩
def Itt(K:Ab)(a:f8):It:=
 ⟨λi H=>∃xs x,cG K H a xs/\xs[i]?=bn x,λi H x H'=>H'=H/\∀xs,cG K H a xs->xs[i]?=bn x,λi H=>∃xs,cG K H a xs/\xs.length<=i⟩
def ZG(lo:Int)(n:Nat):It:=⟨λi _=>i<n,λi H x H'=>H'=H/\x=.int (lo+i),λi _=>n<=i⟩
theorem F3{K:Ab}(a it:f8):Turn P w K tg (Itl K a) [it] it (λi h=>h.IsListIter it a i) where
 mem:=by simp
 obj:=λi h st b hb=>by
  have e:b=it:=by simpa using hb
  subst e;obtain⟨o,e,c,d⟩:=st;exact⟨o,e,λv z=>by rw[d]at z;cases z⟩
 keep:=λi h h' st k=>st.at λo e=>k it (by simp) o e
 item:=by
  intro X hP hw hK hc i U s σ H E I hf st hg;subst hP hw hK;obtain⟨xs,x,hq,hx⟩:=hg;obtain⟨aj,rv,p,hz⟩:=I.list hq;obtain⟨u,hu,ru⟩:=rv.get hx;obtain⟨f0,f1,f2,f3,f4,f5⟩:=hf it (by simp);refine wpAny_pyNext_list_item st p.isList (by simpa using hu) λh' F8 sb=>?_;obtain⟨o,e,c,d⟩:=id F8;exact⟨u,rfl,Kt e c d ⋯ ⟨x,H,(I.turned (λb o hb e=>(sb.2 b hb).trans e) f0 f1 f3 f4 f5),ru,⟨rfl,λys hy=>by rw[I.vd hy hq];exact hx⟩,F8,λb hb=>(hf b hb).1⟩⟩
 done:=by
  intro X hP hw hK hc i U s σ H E I hf st hg;subst hP hw hK;obtain⟨xs,hq,hx⟩:=hg;obtain⟨aj,rv,p,hz⟩:=I.list hq;obtain⟨f0,f1,f2,f3,f4,f5⟩:=hf it (by simp);have hl:=rv.length;exact wpAny_pyNext_list_end (I.ok.hd hc) st p.isList (by simp;lia) λh' eb=>⟨rfl,I.turned (t':=s.toks) (λb o hb e=>eb b o hb e) f0 f1 f3 f4 f5⟩
 self:=λ_ _ _ _ _ st h=>wpAny_pyIter_listiter st h
theorem wz{K:Ab}(a it:f8):Turn P w K tg (Itt K a) [it] it (λi h=>h.IsTupleIter it a i) where
 mem:=by simp
 obj:=λi h st b hb=>by
  have e:b=it:=by simpa using hb
  subst e;obtain⟨o,e,c,d⟩:=st;exact⟨o,e,λv z=>by rw[d]at z;cases z⟩
 keep:=λi h h' st k=>st.at λo e=>k it (by simp) o e
 item:=by
  intro X hP hw hK hc i U s σ H E I hf st hg;subst hP hw hK;obtain⟨xs,x,hq,hx⟩:=hg;obtain⟨aj,rv,p,hz⟩:=I.tuple hq;obtain⟨u,hu,ru⟩:=rv.get hx;obtain⟨f0,f1,f2,f3,f4,f5⟩:=hf it (by simp);refine wpAny_pyNext_tuple_item st (p) (by simpa using hu) λh' F8 sb=>?_;obtain⟨o,e,c,d⟩:=id F8;exact⟨u,rfl,Kt e c d ⋯ ⟨x,H,(I.turned (λb o hb e=>(sb.2 b hb).trans e) f0 f1 f3 f4 f5),ru,⟨rfl,λys hy=>by rw[I.iO hy hq];exact hx⟩,F8,λb hb=>(hf b hb).1⟩⟩
 done:=by
  intro X hP hw hK hc i U s σ H E I hf st hg;subst hP hw hK;obtain⟨xs,hq,hx⟩:=hg;obtain⟨aj,rv,p,hz⟩:=I.tuple hq;obtain⟨f0,f1,f2,f3,f4,f5⟩:=hf it (by simp);have hl:=rv.length;exact wpAny_pyNext_tuple_end (I.ok.hd hc) st (show s.heap.IsTuple a aj.toArray from p) (by simp;lia) λh' eb=>⟨rfl,I.turned (t':=s.toks) (λb o hb e=>eb b o hb e) f0 f1 f3 f4 f5⟩
 self:=λ_ _ _ _ _ st h=>wpAny_pyIter_tupleiter st h
theorem wA{K:Ab}(it:f8)(lo:Int)(n:Nat):Turn P w K tg (ZG lo n) [it] it (λi h=>IsRangeIter h it (lo+(i:Nat)*1) ((n:Int)-(i:Nat)) 1) where
 mem:=by simp
 obj:=λi h st b hb=>by
  have e:b=it:=by simpa using hb
  subst e;exact⟨_,st,λv z=>by
   have z':=z;cases z'⟩
 keep:=λi h h' st k=>k it (by simp) _ st
 item:=by
  intro X hP hw hK hc i U s σ H E I hf st hg;subst hP hw hK;obtain⟨f0,f1,f2,f3,f4,f5⟩:=hf it (by simp);refine(Walks.range (prog:=X.prog) (I.ok.hd hc) it lo 1 n).item i s _ _ hg st λv h' tk hv F8 kk=>?_;obtain⟨t,rfl⟩:=hv;refine⟨_,rfl,Kt F8 rfl rfl ⋯ ⟨.int (lo+i),H,(I.turned (λb o hb e=>kk b o (by simpa using hb) e) f0 f1 f3 f4 f5),⟨t,?_⟩,⟨rfl,rfl⟩,F8,λb hb=>(hf b hb).1⟩⟩;rw[Int.mul_one]
 done:=by
  intro X hP hw hK hc i U s σ H E I hf st hg;obtain⟨f0,f1,f2,f3,f4,f5⟩:=hf it (by simp);exact wpAny_pyNext_range_end (I.ok.hd hc) st (by have:n<=i:=hg;lia) λh' eb=>⟨rfl,I.turned (λb o hb e=>eb b o hb e) f0 f1 f3 f4 f5⟩
 self:=λ_ _ _ _ _ st h=>wpAny_pyIter_rangeiter st h
end L2
variable{p:Cu}{fp:O Bi}{iter:B6}
namespace L2
section
theorem IX{R:It->Hp->Prop}{lo hi:Int}{t u v:Tok}{tk:Nat}(I:Inv X U σ H s)(h1:-(2 ^ 62)<=lo)(h2:lo < 2 ^ 62)(h3:-(2 ^ 62)<=hi)(h4:hi < 2 ^ 62)(q:R (ZG lo (hi-lo).toNat) H):ga (ge X.prog X.w) X.A (pyIter (.ref s.heap.objs.size)) (PIE X U σ tg R) E {s with heap:=s.heap.push {cls:=.type "range",data:=.fields #[.int lo t,.int hi u,.int 1 v]},toks:=tk}:=by
 refine wpAny_pyIter_range (IsRange.new ..) (small_one h1 h2 h3 h4) ?_;have I1:Inv X U σ H {s with heap:=s.heap.push {cls:=.type "range",data:=.fields #[.int lo t,.int hi u,.int 1 v]},toks:=tk}:=I.kept λb o e=>Af _ e;refine⟨(s.heap.push {cls:=.type "range",data:=.fields #[.int lo t,.int hi u,.int 1 v]}).objs.size,[(s.heap.push {cls:=.type "range",data:=.fields #[.int lo t,.int hi u,.int 1 v]}).objs.size],_,_,H,rfl,
  I1.kept (t':=tk) λb o e=>Af _ e,wA _ lo (hi-lo).toNat,?_,λb hb=>?_,q⟩
 .have e1:lo+((0:Nat):Int)*1=lo:=by simp
  have e2:(((hi-lo).toNat:Nat):Int)-((0:Nat):Int)=Builtin.Range.rangeSize lo hi 1:=by rw[rangeSize_one];split<;>lia
  show IsRangeIter _ _ (lo+((0:Nat):Int)*1) ((((hi-lo).toNat:Nat):Int)-((0:Nat):Int)) 1;rw[e1,e2];exact Al _ rfl
 .have e:b=(s.heap.push {cls:=.type "range",data:=.fields #[.int lo t,.int hi u,.int 1 v]}).objs.size:=by simpa using hb
  subst e;exact I1.Hk (Am _) (I1.bC.fresh (Am _))
def WD(ta:TA):TI:=λσ H R=>ta σ H λvs H1=>∃j:Int,vs=[.int j]/\-(2 ^ 62)<=j/\j<2 ^ 62/\R (ZG 0 j.toNat) H1
theorem Gv{ta:TA}(hg:Gl X "range")(hm:X.mg "range"=cr)(ha:PA X [a] ta)(hs:‹ii [a] X.env=[(false,r6 a X.env)]›):PI X tg (.Call (.Name "range" p) [a] [] pos) (WD ta):=by
 intro U s σ H R I h;refine Call_ (eD I hg hm boot_range (Ba (bS (ha pos U s σ H _ I h) λus s1 ⟨vs,H1,I1,r1,q1⟩=>?_) hs rfl));obtain⟨j,e,q1,q2,q⟩:=q1;subst e;cases r1 with
 |cons r rr=>
  cases rr;obtain⟨t,rfl⟩:=r;exact call_range_1 (IX I1 ∅ ∅ q1 q2 (by simpa using q))
def aaj(wi:TI)(g:TG)(tb:TS):TS:=λD σ H=>wi σ H λJ H1=>∃W:Nat->Nat->St->Hp->Prop,(∃m,W 0 m σ H1)/\∀i m σ H,W i m σ H->
 (J.stop i H/\D.nx σ H)\/(J.go i H/\∃N:St->Hp->Prop,(∀σ' H',N σ' H'->∃m',m'<m/\W (i+1) m' σ' H')/\∀x H',J.Ij i H x H'->g x σ H' λσ2 H2=>tb {D with nx:=N,ct:=N,bk:=D.nx} σ2 H2)
def lD(fp:O f8)(h:im):O (f8×Obj):=fp.filterMap λb=>(h.get? b).map λo=>(b,o)
def gI(hb:b∈fp)(e:h.get? b=bn o):(b,o)∈lD fp h:=Di.mpr ⟨b,hb,by rw[e];rfl⟩
def Gx{p:f8×Obj}(hp:p∈lD fp h):p.1∈fp/\h.get? p.1=bn p.2:=by
 obtain⟨b,hb,e⟩:=Di.mp hp;cases q:h.get? b with
 |none=>rw[q]at e;cases e
 |some o=>
  rw[q]at e;have e':=Option.some.inj e;subst e';exact⟨hb,q⟩
def Inv.pinned(I:Inv X U σ H s)(hf:∀b∈fp,qm X U H b)(ho:∀b∈fp,∃o,s.heap.get? b=bn o/\∀v,o.data≠.cell v):Inv X (U++lD fp s.heap) σ H s:=
 I.y8 λp hp=>(AD.mp hp).elim (λz=>I.pin p (A4 _ z)) λz=>by
  obtain⟨hb,e⟩:=Gx z;obtain⟨f0,f1,f2,_⟩:=hf p.1 hb;obtain⟨o,e',d⟩:=ho p.1 hb;rw[e]at e';cases e';exact⟨e,f0,f1,f2,d⟩
def Inv.ig{pl:O (f8×Obj)}(I:Inv X (U++pl) σ H s):Inv X U σ H s:=I.y8 λp hp=>I.pin p (A4 _ (DD _ hp))
def Jj{wi:TI}{g:TG}{tb:TS}(hp:wT (ge X.prog X.w) X.A X.env X.xe)(hc:X.calm=true)(hi:PI X tg iter wi)(hg:PG X tg g)(hb:lh X body tb)(hs:ph X iter:=by intro _;rfl):PS X (.For tg iter body [] pos) (aaj wi g tb):=by
 intro U s σ H D I h;refine wpAny_For (bS (hi U s σ H _ I h) λv s1 h1=>bS h1 λYM s2 h2=>?_) hs;obtain⟨it,fp,tn,J,H2,e,I2,T,HX,f2,W,⟨m0,w0⟩,turn⟩:=h2;subst e;have QE:∀{H':Hp},(∀b∈fp,H' b=cr)->∀b∈fp,qm X U H' b:=λhn b hb=>⟨hn b hb,(f2 b hb).2⟩;refine codeAny_forLoop_any (λn s'=>∃i σ' H',Inv X U σ' H' s'/\tn i s'.heap/\(∀b∈fp,H' b=cr)/\W i n σ' H') ?_ m0 ⟨0,σ,H2,I2,HX,λb hb=>(f2 b hb).1,w0⟩;rintro n s3 ⟨i,σ3,H3,I3,Vl,Xe,w3⟩;rcases turn i n σ3 H3 w3 with⟨stop,qn⟩|⟨go,N,hN,step⟩
 .refine Cg hp (bS (T.done X rfl rfl rfl hc i U s3 σ3 H3 X.xe I3 (QE Xe) Vl stop) λr s4 ⟨hr,I4⟩=>?_);subst hr;exact DJ ⟨σ3,H3,I4,qn⟩
 .refine Cg hp (bS (T.item X rfl rfl rfl hc i U s3 σ3 H3 X.xe I3 (QE Xe) Vl go) λr s4 ⟨u,hr,h4⟩=>?_);subst hr;refine Cg hp (bS h4 λ_ s5 ⟨x,H5,I5,r5,y5,QG,ü⟩=>?_);refine Cg hp (bS (hg _ s5 σ3 H5 x u _ (I5.pinned (QE ü) (T.obj _ _ QG)) r5 (step x H5 y5)) λ_ s6 ⟨σ6,H6,I6,q6⟩=>?_);refine Cg hp (bS (hb _ s6 σ6 H6 _ I6 q6) λf s7 q7=>?_);have again:∀{σ7:St}{H7:Hp},Inv X (U++lD fp s5.heap) σ7 H7 s7->N σ7 H7->∃m,m<n/\∃i σ' H',Inv X U σ' H' s7/\tn i s7.heap/\(∀b∈fp,H' b=cr)/\W i m σ' H':=λ{σ7 H7} I7 n7=>by
   obtain⟨m',hm,w7⟩:=hN σ7 H7 n7;refine⟨m',hm,i+1,σ7,H7,I7.ig,T.keep _ _ _ QG λb hb o e=>(I7.pin (b,o) (A4 _ (A4 _ (gI hb e)))).1,λb hb=>?_,w7⟩;obtain⟨o,e,d⟩:=T.obj _ _ QG b hb;exact(I7.pin (b,o) (A4 _ (A4 _ (gI hb e)))).2.1
  cases f with
  |next=>obtain⟨σ7,H7,I7,n7⟩:=q7;exact again I7 n7
  |cont=>obtain⟨σ7,H7,I7,n7⟩:=q7;exact again I7 n7
  |brk=>obtain⟨σ7,H7,I7,q7⟩:=q7;exact⟨σ7,H7,I7.ig,q7⟩
  |ret v=>obtain⟨x7,σ7,H7,I7,r7,q7⟩:=q7;exact⟨x7,σ7,H7,I7.ig,r7,q7⟩
end
end L2
variable{i:Int}{g:Int->Int->Int}{aj:O AV}
namespace L2
abbrev R2:=V->V->Hp->VK->Prop
def gp(X:Cx)(f:db->db->Sem db)(r:R2):Prop:=
 ∀(U:O (f8×Obj)) (s:em) (σ:St) (H:Hp) (x y:V) (v u:db) (Q:VK),Inv X U σ H s->RelV x v->RelV y u->r x y H Q->
  ga (ge X.prog X.w) X.A (f v u) (EP X U σ Q) X.xe s
def UnR(X:Cx)(f:db->Sem db)(r:V->Hp->VK->Prop):Prop:=
 ∀(U:O (f8×Obj)) (s:em) (σ:St) (H:Hp) (x:V) (v:db) (Q:VK),Inv X U σ H s->RelV x v->r x H Q->
  ga (ge X.prog X.w) X.A (f v) (EP X U σ Q) X.xe s
def cq(X:Cx)(f:db)(r:O V->Hp->VK->Prop):Prop:=
 ∀(U:O (f8×Obj)) (s:em) (σ:St) (H:Hp) (xs:O V) (us:O db) (Q:VK),Inv X U σ H s->Vals xs us->r xs H Q->
  ga (ge X.prog X.w) X.A (call f us) (EP X U σ Q) X.xe s
def acA(X:Cx)(r:V->Hp->(Bool->Hp->Prop)->Prop):Prop:=
 ∀(U:O (f8×Obj)) (s:em) (σ:St) (H:Hp) (x:V) (v:db) (Q:Bool->Hp->Prop),Inv X U σ H s->RelV x v->r x H Q->
  ga (ge X.prog X.w) X.A (truthy v) (TP X U σ Q) X.xe s
def OV(r:R2)(ta tb:TE):TE:=λσ H Q=>ta σ H λx H1=>tb σ H1 λy H2=>r x y H2 Q
def tUn(r:V->Hp->VK->Prop)(ta:TE):TE:=λσ H Q=>ta σ H λx H1=>r x H1 Q
def rI(C:Int->Int->Prop)(g:Int->Int->V):R2:=λx y H Q=>∃i j,x=.int i/\y=.int j/\C i j/\Q (g i j) H
def Q9(g:Int->Int->V):R2:=λx y H Q=>∃i j,x=.int i/\y=.int j/\Q (g i j) H
def rU(g:Int->V):V->Hp->VK->Prop:=λx H Q=>∃i,x=.int i/\Q (g i) H
section
variable{b:lc}
def Tf(ha:PE X a ta)(hb:PE X b tb)(I:Inv X U σ H s)(h:ta σ H λx H1=>tb σ H1 λy H2=>R x y H2){f:db->db->Sem db}(hf:∀v u s2 x y H2,Inv X U σ H2 s2->RelV x v->RelV y u->R x y H2->ga (ge X.prog X.w) X.A (f v u) Q X.xe s2):ga (ge X.prog X.w) X.A (r6 a X.env) (λv s₁=>ga (ge X.prog X.w) X.A (r6 b X.env) (λu s₂=>ga (ge X.prog X.w) X.A (f v u) Q X.xe s₂) X.xe s₁) X.xe s:=by
 exact bS (ha U s σ H _ I h) λv s1 ⟨x,H1,I1,r1,q1⟩=>bS (hb U s1 σ H1 _ I1 q1) λu s2 ⟨y,H2,I2,r2,q2⟩=>hf v u s2 x y H2 I2 r1 r2 q2
def cH{op:Operator}{r:R2}(ho:gp X (ut op) r)(ha:PE X a ta)(hb:PE X b tb):PE X (.BinOp a op b pos) (OV r ta tb):=by
 intro U s σ H Q I h;exact wpAny_BinOp (Tf ha hb I h λv u s2 x y H2 I2 rx ry q=>ho U s2 σ H2 x y v u Q I2 rx ry q)
def VP{op:UnaryOp}{r:V->Hp->VK->Prop}(ho:UnR X (unaryOp op) r)(ha:PE X a ta):PE X (.UnaryOp op a pos) (tUn r ta):=by
 intro U s σ H Q I h;exact UnaryOp_ (bS (ha U s σ H _ I h) λv s1 ⟨x,H1,I1,r1,q1⟩=>ho U s1 σ H1 x v Q I1 r1 q1)
def YD{f:db->db->Sem db}{C:Int->Int->Prop}(rule:∀(i j:Int) (t u:Tok) (s:em) (Q:db->em->Prop) (E:db->em->Prop),C i j->Q (.int (g i j) s.toks) {s with toks:=s.toks+1}->ga (ge X.prog X.w) X.A (f (.int i t) (.int j u)) Q E s):gp X f (rI C λi j=>.int (g i j)):=by
 intro U s σ H x y v u Q I rx ry h;obtain⟨i,j,rfl,rfl,hc,q⟩:=h;obtain⟨t,rfl⟩:=rx;obtain⟨t',rfl⟩:=ry;exact rule i j t t' s _ _ hc ⟨.int (g i j),H,I.tok _,⟨_,rfl⟩,q⟩
def V2{f:db->db->Sem db}(rule:∀(i j:Int) (t u:Tok) (s:em) (Q:db->em->Prop) (E:db->em->Prop),Q (.int (g i j) s.toks) {s with toks:=s.toks+1}->ga (ge X.prog X.w) X.A (f (.int i t) (.int j u)) Q E s):gp X f (Q9 λi j=>.int (g i j)):=by
 intro U s σ H x y v u Q I rx ry h;obtain⟨i,j,rfl,rfl,q⟩:=h;obtain⟨t,rfl⟩:=rx;obtain⟨t',rfl⟩:=ry;exact rule i j t t' s _ _ ⟨.int (g i j),H,I.tok _,⟨_,rfl⟩,q⟩
def V3{f:db->db->Sem db}{g:Int->Int->Bool}(rule:∀(i j:Int) (t u:Tok) (s:em) (Q:db->em->Prop) (E:db->em->Prop),Q (.bool (g i j)) s->ga (ge X.prog X.w) X.A (f (.int i t) (.int j u)) Q E s):gp X f (Q9 λi j=>.bl (g i j)):=by
 intro U s σ H x y v u Q I rx ry h;obtain⟨i,j,rfl,rfl,q⟩:=h;obtain⟨t,rfl⟩:=rx;obtain⟨t',rfl⟩:=ry;exact rule i j t t' s _ _ ⟨.bl (g i j),H,I,rfl,q⟩
def acF(i j:Int):Prop:=0<j/\j<1073741824
def LB(i j:Int):Prop:=0<=j/\j<=1000000/\i.natAbs<2 ^ 64
def OO(i j:Int):Prop:=(-(2 ^ 64)<i/\i<2 ^ 64)\/(-(2 ^ 64)<j/\j<2 ^ 64)
def OO.ok{j:Int}(h:OO i j):Fk i j:=by
 rcases h with⟨h1,h2⟩|⟨h1,h2⟩
 .exact .of_left (intBits_le_64 h1 h2)
 .exact .of_right (intBits_le_64 h1 h2)
def Ry:gp X (ut .Add) (Q9 λi j=>.int (i+j)):=V2 λ_ _ _ _ _ _ _ q=>add_int q
def Rp:gp X (ut .Sub) (Q9 λi j=>.int (i-j)):=V2 λ_ _ _ _ _ _ _ q=>sub_int q
theorem sk:gp X (ut .FloorDiv) (rI acF λi j=>.int (i / j)):=YD λi j _ _ _ _ _ hc q=>by
 have h1:(0:Int)<j:=hc.1;have h2:j<1073741824:=hc.2;exact floordiv_int ∅ (by rw[Int.fdiv_eq_ediv_of_nonneg i ∅];exact q) (.inl (PyProof.noPylong_small ∅))
theorem lE:gp X (ut .Mod) (rI (λ_ j=>0<j) λi j=>.int (i % j)):=YD λi j _ _ _ _ _ hc q=>by
 have h1:(0:Int)<j:=hc;exact mod_int' ∅ (by rw[Int.fmod_eq_emod_of_nonneg i ∅];exact q)
def Rq:gp X (ut .Pow) (rI LB λi j=>.int (i ^ j.toNat)):=YD λ_ _ _ _ _ _ _ hc q=>pow_int_small hc.1 hc.2.1 hc.2.2 q
def unI{f:db->Sem db}{g:Int->Int}(rule:∀(i:Int) (t:Tok) (s:em) (Q:db->em->Prop) (E:db->em->Prop),Q (.int (g i) s.toks) {s with toks:=s.toks+1}->ga (ge X.prog X.w) X.A (f (.int i t)) Q E s):UnR X f (rU λi=>.int (g i)):=by
 intro U s σ H x v Q I rx h;obtain⟨i,rfl,q⟩:=h;obtain⟨t,rfl⟩:=rx;exact rule i t s _ _ ⟨.int (g i),H,I.tok _,⟨_,rfl⟩,q⟩
def Qo:UnR X (unaryOp .USub) (rU λi=>.int (-i)):=unI λ_ _ _ _ _ q=>neg_int q
end
def aas:V->V->Bool
 |.az,.az=>true|.az,.int _=>true|.int _,.az=>true|.az,.bl _=>true|.bl _,.az=>true|.az,.str _=>true|.str _,.az=>true
 |.int _,.int _=>true|.bl _,.bl _=>true|.str _,.str _=>true|.HI _,.HI _=>true
 |.int _,.str _=>true|.str _,.int _=>true|.bl _,.str _=>true|.str _,.bl _=>true
 |_,_=>false
def rEq:R2:=λx y H Q=>aas x y=true/\Q (.bl (decide (x=y))) H
def zZ{j:Int}:decide (V.int i=V.int j)=(i==j):=by
 rw[DN];simp
def S9{i j:Bool}:decide (V.bl i=V.bl j)=(i==j):=by
 rw[DN];simp
def Oh{i j:Str}:decide (V.str i=V.str j)=(i==j):=by
 rw[DN];simp
def Oi{i j:Array UInt8}:decide (V.HI i=V.HI j)=(i.toList==j.toList):=by
 rw[DN];cases i;cases j;simp
section
variable{b c:lc}
def cy{Q:VK}{k k':Bool}(I:Inv X U σ H s)(q:Q (.bl k) H)(e:k=k'):EP X U σ Q (.bool k') s:=by
 subst e;exact⟨.bl k,H,I,rfl,q⟩
def V1:gp X (re .Eq) rEq:=by
 intro U s σ H x y v u Q I rx ry h;obtain⟨hs,q⟩:=h;cases x with
 |az=>
  cases rx;cases y with
  |az=>cases ry;exact PySem.EqNone.eq_none_none (cy I q (by simp))
  |bl j=>cases ry;exact PySem.EqNone.eq_none_bool (cy I q (by simp))
  |int j=>obtain⟨t',rfl⟩:=ry;exact PySem.EqNone.eq_none_int (cy I q (by simp))
  |str j=>obtain⟨t',rfl⟩:=ry;exact PySem.EqNone.eq_none_str (cy I q (by simp))
  |_=>exact absurd (hs) A6
 |bl i=>
  cases rx;cases y with
  |az=>cases ry;exact PySem.EqNone.eq_bool_none (cy I q (by simp))
  |bl j=>cases ry;exact eq_bool (cy I q S9)
  |str j=>obtain⟨t',rfl⟩:=ry;exact PySem.EqMixed.eq_bool_str (cy I q (by simp))
  |_=>exact absurd (show false=true from hs) A6
 |int i=>
  obtain⟨t,rfl⟩:=rx;cases y with
  |az=>cases ry;exact PySem.EqNone.eq_int_none (cy I q (by simp))
  |int j=>obtain⟨t',rfl⟩:=ry;exact eq_int (cy I q zZ)
  |str j=>obtain⟨t',rfl⟩:=ry;exact PySem.EqMixed.eq_int_str (cy I q (by simp))
  |_=>exact absurd (show false=true from hs) A6
 |str i=>
  obtain⟨t,rfl⟩:=rx;cases y with
  |az=>cases ry;exact PySem.EqNone.eq_str_none (cy I q (by simp))
  |bl j=>cases ry;exact PySem.EqMixed.eq_str_bool (cy I q (by simp))
  |int j=>obtain⟨t',rfl⟩:=ry;exact PySem.EqMixed.eq_str_int (cy I q (by simp))
  |str j=>obtain⟨t',rfl⟩:=ry;exact eq_str (cy I q Oh)
  |_=>exact absurd (show false=true from hs) A6
 |HI i=>
  obtain⟨t,rfl⟩:=rx;cases y with
  |HI j=>obtain⟨t',rfl⟩:=ry;exact PySem.W.eq_bytes (cy I q Oi)
  |_=>exact absurd (show false=true from hs) A6
 |_=>cases y<;>exact absurd (show false=true from hs) A6
def VZ:gp X (re .Lt) (Q9 λi j=>.bl (decide (i<j))):=V3 λ_ _ _ _ _ _ _ q=>lt_int q
def V0:gp X (re .GtE) (Q9 λi j=>.bl (decide (j<=i))):=V3 λ_ _ _ _ _ _ _ q=>ge_int q
def Ru:gp X (re .Is) (λx y H Q=>y=.az/\Q (.bl (decide (x=.az))) H):=by
 intro U s σ H x y v u Q I rx ry h;obtain⟨rfl,q⟩:=h;cases ry;refine is_none_gen (cy I q ?_);cases x<;>first
  |(cases rx;rfl)
  |(obtain⟨t,rfl⟩:=rx;rfl)
def M1:gp X (re .IsNot) (λx y H Q=>y=.az/\Q (.bl (!decide (x=.az))) H):=by
 intro U s σ H x y v u Q I rx ry h;obtain⟨rfl,q⟩:=h;cases ry;refine isnot_none_gen (cy I q ?_);cases x<;>first
  |(cases rx;rfl)
  |(obtain⟨t,rfl⟩:=rx;rfl)
def gp.or{f:db->db->Sem db}{r r':R2}(h:gp X f r)(h':gp X f r'):gp X f (λx y H Q=>r x y H Q\/r' x y H Q):=by
 intro U s σ H x y v u Q I rx ry q;rcases q with q|q
 .exact h U s σ H x y v u Q I rx ry q
 .exact h' U s σ H x y v u Q I rx ry q
def fg(b:lc){op:CmpOp}(h: ~~~(op≠.In))(h2: ~~~(op≠.NotIn)):wE op b=false:=by
 have e1:(op==CmpOp.In)=false:=by cases op<;>first|rfl|exact absurd rfl h
 have e2:(op==CmpOp.NotIn)=false:=by cases op<;>first|rfl|exact absurd rfl h2
 cases b<;>simp[wE,e1,e2]
def zb{op:CmpOp}{r:R2}(ho:gp X (re op) r)(ha:PE X a ta)(hb:PE X b tb)(hm:wE op b=false):PE X (.Compare a [op] [b] pos) (OV r ta tb):=by
 intro U s σ H Q I h;exact wpAny_Compare1 (Tf ha hb I h λv u s2 x y H2 I2 rx ry q=>ho U s2 σ H2 x y v u Q I2 rx ry q) hm
def OU(t:TE):TT:=λσ H Q=>t σ H λx H'=>∃k,x=.bl k/\Q k H'
def iP{op:CmpOp}{r:R2}(ho:gp X (re op) r)(ha:PE X a ta)(hb:PE X b tb)(hm:wE op b=false):PT X (.Compare a [op] [b] pos) (OU (OV r ta tb)):=by
 intro U s σ H Q I h;refine wpAny_isTrue_Compare1 (bS (ha U s σ H _ I h) λv s1 ⟨x,H1,I1,r1,q1⟩=>bS (hb U s1 σ H1 _ I1 q1) λu s2 ⟨y,H2,I2,r2,q2⟩=>
  bS (ho U s2 σ H2 x y v u _ I2 r1 r2 q2) λc s3 ⟨z,H3,I3,r3,k,e,q3⟩=>?_) hm
 subst e;cases r3;exact BK ⟨H3,I3,q3⟩
def Tn(K:Ab)(x:V)(H:Hp)(k:Bool):Prop:=
 match x with
 |.az=>k=false
 |.bl b=>k=b
 |.int i=>k=(i != 0)
 |.str y=>y.length<=sizeLine/\k=((y.length:Int) != 0)
 |.HI y=>y.size<=sizeLine/\k=((y.size:Int) != 0)
 |.ref p=>(∃xs,bO K H p xs/\k=!xs.isEmpty)\/(∃xs,cG K H p xs/\k=!xs.isEmpty)\/∃aD,H p=bn (.dK aD)/\k=!aD.isEmpty
 |_=>False
def xy{aD:O (κ×V)}{vs:O (κ×db)}(r:KV aD vs):(!vs.isEmpty)=!aD.isEmpty:=by
 cases r<;>rfl
def oE(r:Vals xs aj):(!aj.toArray.isEmpty)=!xs.isEmpty:=by
 cases r<;>simp
def sL:(sizeLine:Nat)<2 ^ 63:=by rw[r9];decide
theorem Qr:acA X (λx H Q=>∃k,Tn X.K x H k/\Q k H):=by
 intro U s σ H x v Q I rx h;obtain⟨k,e,q⟩:=h;have hs:=r9;cases x with
 |az=>
  cases rx;have e':=e;subst e';exact truthy_none ⟨H,I,q⟩
 |bl b=>
  cases rx;have e':=e;subst e';exact BK ⟨H,I,q⟩
 |int i=>
  obtain⟨t,rfl⟩:=rx;have e':=e;subst e';exact PySem.P.truthy_int ⟨H,I,q⟩
 |str y=>
  obtain⟨t,rfl⟩:=rx;obtain⟨hy,e'⟩:y.length<=sizeLine/\k=((y.length:Int) != 0):=e;subst e';exact PySem.P.truthy_str ∅ ⟨H,I.tok _,q⟩
 |HI y=>
  obtain⟨t,rfl⟩:=rx;obtain⟨hy,e'⟩:y.size<=sizeLine/\k=((y.size:Int) != 0):=e;subst e';exact PySem.W.truthy_bytes ∅ ⟨H,I.tok _,q⟩
 |ref p=>
  cases rx;have e':=e;rcases e' with⟨xs,hx,e'⟩|⟨xs,hx,e'⟩|⟨aD,hx,e'⟩
  .subst e';obtain⟨aj,r,pl,hz⟩:=I.list hx;have À:=r.length;exact wpAny_truthy_list pl.isList (by simp;lia) ⟨H,I.tok _,by rw[oE r];exact q⟩
  .subst e';obtain⟨aj,r,pl,hz⟩:=I.tuple hx;have À:=r.length;exact truthy_tuple pl (by simp only[Ah];lia) ⟨H,I.tok _,by rw[oE r];exact q⟩
  .subst e';obtain⟨hz,hS,vs,r,m⟩:aD.length<=sizeLine/\(p==xL)=false/\∃vs,KV aD vs/\s.heap.DictOf (bp X.prog X.w) p vs:=I.bC p _ hx;have À:=Paired.length r;exact wpAny_truthy_dict hS m ∅ ⟨H,I.tok _,by rw[xy r];exact q⟩
 |_=>exact(e).elim
def Jh(ha:PE X a ta)(he:∀Ä,isTrue a X.env Ä=(do let v <- Ä;standAt a.pos;EQ [v] (truthy v))):PT X a (λσ H Q=>ta σ H λx H'=>∃k,Tn X.K x H' k/\Q k H'):=by
 intro U s σ H Q I h;exact isTrue_plain (bS (ha U s σ H _ I h) λv s1 ⟨x,H1,I1,r1,q1⟩=>Qr U s1 σ H1 x v Q I1 r1 q1) (he _)
def w9:gp X (ut .Add) (λx y H Q=>∃i j,x=.str i/\y=.str j/\i.length+j.length<=sizeLine/\Q (.str (i++j)) H):=by
 intro U s σ H x y v u Q I rx ry h;obtain⟨i,j,rfl,rfl,hz,q⟩:=h;obtain⟨t,rfl⟩:=rx;obtain⟨t',rfl⟩:=ry;exact add_str (λt' tk=>⟨.str (i++j),H,I.tok _,⟨_,rfl⟩,q⟩) hz
def vals1{x:V}(r:Vals [x] us):∃u,us=[u]/\RelV x u:=by
 cases r with
 |cons r1 r2=>cases r2;exact⟨_,rfl,r1⟩
def vals2{x:V}(r:Vals [x,y] us):∃u w',us=[u,w']/\RelV x u/\RelV y w':=by
 cases r with
 |cons r1 r2=>
  cases r2 with
  |cons r3 r4=>cases r4;exact⟨_,_,rfl,r1,r3⟩
def X7(K:Ab)(x:V)(H:Hp)(n:Nat):Prop:=
 match x with
 |.str y=>y.length<=sizeLine/\n=y.length
 |.HI y=>y.size<=sizeLine/\n=y.size
 |.ref p=>(∃xs,bO K H p xs/\n=xs.length)\/∃xs,cG K H p xs/\n=xs.length
 |_=>False
theorem Ld:cq X (.builtin "len") (λxs H Q=>∃x n,xs=[x]/\X7 X.K x H n/\Q (.int n) H):=by
 intro U s σ H xs us Q I r h;obtain⟨x,n,rfl,e,q⟩:=h;obtain⟨u,rfl,rx⟩:=vals1 r;have hs:=r9;cases x with
 |str y=>
  obtain⟨t,rfl⟩:=rx;obtain⟨hy,e'⟩:y.length<=sizeLine/\n=y.length:=e;subst e';exact len_str ∅ ⟨.int _,H,I.tok _,⟨_,rfl⟩,q⟩
 |HI y=>
  obtain⟨t,rfl⟩:=rx;obtain⟨hy,e'⟩:y.size<=sizeLine/\n=y.size:=e;subst e';exact PySem.W.len_bytes ∅ ⟨.int _,H,I.tok _,⟨_,rfl⟩,q⟩
 |ref p=>
  cases rx;have e':=e;rcases e' with⟨xs,hx,e'⟩|⟨xs,hx,e'⟩
  .subst e';obtain⟨aj,r',pl,hz⟩:=I.list hx;have À:=r'.length;exact Calls.call_len_list pl.isList (by simp;lia) ⟨.int xs.length,H,I.tok _,⟨_,by simp only[Ah];rw[À]⟩,q⟩
  .subst e';obtain⟨aj,r',pl,hz⟩:=I.tuple hx;have À:=r'.length;exact len_tuple pl (by simp only[Ah];lia) ⟨.int xs.length,H,I.tok _,⟨_,by simp only[Ah];rw[À]⟩,q⟩
 |_=>exact(e).elim
end
end L2
variable{a:Bi}{mA:B0->Option AV}
namespace L2
structure Tt(h:im)(x dx C:f8)(mA:Str->Option db):Prop where
 obj:h.get? x=bn (ES C dx)
 ns:h.Ns1 dx mA
 ne:dx≠x
def GK{dx:f8}(n:h.Ns1 dx mA):∃od,h.get? dx=bn od/\∀name,E4 name od=bn (mA name):=by
 obtain⟨o,es,ep,ho,hd,hk,_,hm⟩:=n;refine⟨o,ho,λname=>?_⟩;have e:=hm name;unfold nsFind findBy at e;rw[<- Array.find?_toList]at e;unfold E4;rw[hd];dsimp only
 split
 .rename_i y q;rw[q]at e;exact congrArg bn e
 .rename_i q;rw[q]at e;have a:es.toList.any (·.refKey)=false:=by
   rw[List.any_eq_false];intro y hy;obtain⟨z,t,abE⟩:=hk y (Array.mem_toList_iff.mp hy);simp[DictEntry.refKey,abE]
  have a':¬es.toList.any (·.refKey)=true:=by rw[a];exact A6
  rw[if_neg a'];exact congrArg bn e
def Tt.look{x dx C:f8}(I:Tt h x dx C mA):∃od,PySem.W.InstAt h x (ES C dx) C (bn od)/\∀name,E4 name od=bn (mA name):=
 let ⟨od,ho,hl⟩:=GK I.ns
 ⟨od,⟨I.obj,rfl,rfl,ho⟩,hl⟩
section
variable{C dx:f8}{fs:O (Str×V)}
def NQ(bC:lg P w H h)(e:H a=bn (.ins C dx fs)):∃mA,Tt h a dx C mA/\(∀f,Ts (fs.lookup f) (mA f))/\PySem.Within mA (fs.map (·.1))/\fs.length<=1000/\H dx=bn (.own a):=by
 obtain⟨d,z,ne,ob,mA,n,r,q⟩:=(bC a _ e);exact⟨mA,⟨ob,n,ne⟩,r,q,z,d⟩
end
structure Ye(K:Ab)(C:f8):Prop where
 pg:FC K C Str.empty=true
 hd:PySem.W.hasDictIn K C=true
 po:PySem.W.plainOver K C=true
 sa:E5 K (.ref C) "__setattr__"=bn (bn (.builtin "object.__setattr__"))
def Ye.get{K:Ab}{C:f8}(c:Ye K C)(f:Str):FC K C f=true:=c.pg
def Lw(K:Ab)(C:f8)(f:Str):Prop:=E5 K (.ref C) f=bn cr
section
variable{c:db}{b:Bool}
inductive jr(K:Ab)(H:Hp):V->db->Prop where
 |az:jr K H .az (.type "NoneType")
 |bl (x:Bool):jr K H (.bl x) (.type "bool")
 |int (i:Int):jr K H (.int i) (.type "int")
 |str (x:Str):jr K H (.str x) (.type "str")
 |Ui (x:UInt64):jr K H (.Ui x) (.type "float")
 |lst {a:f8}{xs:List V} (e:H a=bn (.lst xs)):jr K H (.ref a) (.type "list")
 |dj {a:f8}{o:Obj}{xs:List V} (e:H a=bn (.dj o (.lst xs))):jr K H (.ref a) (.type "list")
 |tup {a:f8}{xs:List V} (e:H a=bn (.tup xs)):jr K H (.ref a) (.type "tuple")
 |dK {a:f8}{aD:List (Key×V)} (e:H a=bn (.dK aD)):jr K H (.ref a) (.type "dict")
 |dT {a:f8}{aD:List (List Key×V)} (e:H a=bn (.dT aD)):jr K H (.ref a) (.type "dict")
 |ins {a C dx:f8}{fs:List (Str×V)} (e:H a=bn (.ins C dx fs)) (cl:Ye K C) (ha:E5 K (.ref C) "__class__"=bn (bn (.builtin "object.__class__")))
   (hn:PySem.W.specialIn K (.builtin "object.__class__") "__get__"=bn (bn (.builtin "getset_descriptor.__get__"))) (Sm:PySem.W.takesIn K (.builtin "object.__class__")=bn true)
   (hm:PySem.W.mroIn K C (.type "object")=bn true):jr K H (.ref a) (.ref C)
def GX{x:V}{t:db}(I:Inv X U σ H s)(rx:RelV x u)(ty:jr X.K H x t)(e:Bt X.K t c=bn b)(h:∀tk,Q (.bool b) {s with toks:=tk}):ga (ge X.prog X.w) A (call (.builtin "isinstance") [u,c]) Q E s:=by
 cases ty with
 |az=>cases (show u=Value.none from rx);exact Bd PySem.W.kitx_none I.qQ B4 e (λz=>nomatch z) h
 |bl y=>cases (show u=Value.bool y from rx);exact Bd PySem.W.kitx_bool I.qQ B4 e (λz=>nomatch z) h
 |int i=>obtain⟨t,q⟩:=(show ∃t,u=Value.int i t from rx);cases q;exact Bd PySem.W.kitx_int I.qQ B4 e (λz=>nomatch z) h
 |str y=>obtain⟨t,q⟩:=(show ∃t,u=Value.str y t from rx);cases q;exact Bd PySem.W.kitx_str I.qQ B4 e (λz=>nomatch z) h
 |Ui y=>obtain⟨t,q⟩:=(show ∃t,u=Value.float y t from rx);cases q;exact Bd PySem.W.kitx_float I.qQ B4 e (λz=>nomatch z) h
 | @lst a xs ea=>
  cases (show u=Value.ref a from rx);obtain⟨_,_,n,_,h1⟩:=(show bA X.prog X.w H s.heap a (.lst xs) from I.bC a _ ea);exact Bd Ej I.qQ ⟨_,h1,rfl⟩ e (λz=>nomatch z) h
 | @dj a ob xs ea=>
  cases (show u=Value.ref a from rx);obtain⟨_,_,_,n,_,h1⟩:=(show bA X.prog X.w H s.heap a (.dj ob (.lst xs)) from I.bC a _ ea);exact Bd Ej I.qQ ⟨_,h1,rfl⟩ e (λz=>nomatch z) h
 | @tup a xs ea=>
  cases (show u=Value.ref a from rx);obtain⟨_,_,_,p,_⟩:=(show bA X.prog X.w H s.heap a (.tup xs) from I.bC a _ ea);obtain⟨o,h1,h2,_⟩:=p;exact Bd Fp I.qQ ⟨o,h1,h2⟩ e (λz=>nomatch z) h
 | @dK a aD ea=>
  cases (show u=Value.ref a from rx);obtain⟨_,_,vs,_,p⟩:=(show bA X.prog X.w H s.heap a (.dK aD) from I.bC a _ ea);obtain⟨o,es,ep,h1,h2,_⟩:=p;exact Bd Ek I.qQ ⟨o,h1,h2.1⟩ e (λz=>nomatch z) h
 | @dT a aD ea=>
  cases (show u=Value.ref a from rx);obtain⟨_,_,xs,_,o,es,ep,h1,h2,_⟩:=(show bA X.prog X.w H s.heap a (.dT aD) from I.bC a _ ea);exact Bd Ek I.qQ ⟨o,h1,h2.1⟩ e (λz=>nomatch z) h
 | @ins a C dx fs ea cl ha hn Sm hm=>
  cases (show u=Value.ref a from rx);obtain⟨mA,O_,_⟩:=NQ I.bC ea;obtain⟨od,J,_⟩:=O_.look;exact Bd (PySem.W.kitx_own (cl.get _) cl.hd ha hn Sm hm) I.qQ J e (λz=>nomatch z) h
end
end L2
variable{v Ç pm ek ct oc:AV}{vs:O L2.V}{mg:B0->Option AV}{base:D9}{fd:PySem.FuncData}{ps:O B0}{Â:Cu}{sc scope:PySem.Scope}{qual:B0}{an od:Option Bi}{M0:Array (Option AV)}
namespace L2
structure cY(k:Nat)(A:sB):Prop where
 hd:A.handled=cr
 dp:A.depth+3*k+5<recursionLimit
 un:A.units+16*k+200<nn
 gd:A.guards=bn []
theorem cY.mono(r:cY k A)(h:j<=k):cY j A:=⟨r.hd,by have:=r.dp;lia,by have:=r.un;lia,r.gd⟩
theorem cY.deeper(r:cY (k+1) A)(env:Env):cY k (A.deeper env):=
 ⟨r.hd,by have:=r.dp;show A.depth+1+3*k+5<_;lia,by have:=r.un;show A.units+3+16*k+200<_;lia,r.gd⟩
theorem cY.depth(r:cY k A):A.depth<recursionLimit:=by have:=r.dp;lia
theorem cY.Iq(r:cY k A):A.units<nn:=by have:=r.un;lia
def Vb:TA:=λ_ H Q=>Q [] H
def OZ(ta:TE)(tr:TA):TA:=λσ H Q=>ta σ H λx H1=>tr σ H1 λxs H2=>Q (x::xs) H2
section
variable{t:TA}
def cf:PA X [] Vb:=λ_ _ _ _ H Q I h=>BZ ⟨[],H,I,.nil,h⟩
def bo(ha:PE X e te)(hr:PA X es t)(hs:‹hV X e es›):PA X (e::es) (OZ te t):=by
 intro pos U s σ H Q I h;rw[hs];exact BG (bS (ha U s σ H _ I h) λu s1 ⟨x,H1,I1,r1,q1⟩=>bS (hr pos U s1 σ H1 _ I1 q1) λus s2 ⟨xs,H2,I2,r2,q2⟩=>⟨x::xs,H2,I2,.cons r1 r2,q2⟩)
end
abbrev Sp:=O V->Hp->VK->XK->Prop
abbrev OM:=O Env->Hp->em->XK->db->em->Prop
structure OK(P:pr)(w:t0)(K:Ab)(mg:Str->Option db)(base:im)(A:sB)(outer:List Env)(s:em)(H:Hp):Prop where
 frames:A.frames=bn outer
 mod:Mod K mg base
 bs:∀b o,base.get? b=bn o->s.heap.get? b=bn o/\H b=cr
 P7:base.objs.size<=s.heap.objs.size
 oJ:s.heap.FunFrames base outer
 Ue:∀b∈Ib outer,H b=cr
 bC:lg P w H s.heap
 bare:IR s.gens
def CE(outer:O Env)(P:pr)(w:t0)(H:Hp)(s:em)(Q:VK)(u:db)(s':em):Prop:=
 ∃v H',s'.os=s.os/\IR s'.gens/\Un (Ib outer) [] H H' s.heap s'.heap/\lg P w H' s'.heap/\RelV v u/\Q v H'
def CR(CX:OM)(outer:O Env)(P:pr)(w:t0)(H:Hp)(s:em)(Q:VK)(E:XK)(r:Result)(s':em):Prop:=
 match r with
 |.ok (.ret u)=>CE outer P w H s Q u s'
 |.ok _=>False
 |.error e=>CX outer H s E e s'
structure js(P:pr)(w:t0)(K:Ab)(mg:Str->Option db)(base:im)(CX:OM)(k:Nat)(f:f8)(fd:FuncData)(ps:List Str)(sp:Sp):Prop where
 len:∀vs H Q E,sp vs H Q E->vs.length=ps.length
 run:∀(A:sB) (outer:List Env) (s:em) (H:Hp) (args:Args) (us:List db) (vs:List V) (Q:VK) (E:XK),cY k A->OK P w K mg base A outer s H->BindsTo s fd args (ps.zip us)->Vals vs us->sp vs H Q E->
  FB (ge P w) A (.call (.ref f) args) (CR CX outer P w H s Q E) s
def js.imp{K:Ab}{CX:OM}{f:f8}{sp sp':Sp}(F:js P w K mg base CX k f fd ps sp)(h:∀vs H Q E,sp' vs H Q E->sp vs H Q E):js P w K mg base CX k f fd ps sp':=
 ⟨λvs H Q E q=>F.len vs H Q E (h _ _ _ _ q),λA outer s H args us vs Q E hr he hb hv hs=>F.run A outer s H args us vs Q E hr he hb hv (h _ _ _ _ hs)⟩
section
def Inv.acr(I:Inv X U σ H s):OK X.prog X.w X.K X.mg X.base X.A X.stack s H:=
 ⟨I.ok.frames,I.ok.mod,I.bs,AI I.ok.P7 I.sz,I.stack,I.yP,I.bC,I.bare⟩
def Inv.after{Q:VK}(I:Inv X U σ H s)(h:CE X.stack X.prog X.w H s Q u s'):EP X U σ Q u s':=by
 obtain⟨v,H',os,bare,un,bC,r,q⟩:=h;obtain⟨hh,g,d,t,VY⟩:=s';obtain rfl:VY=s.os:=os;exact⟨v,H',I.call (h':=hh) (g':=g) (d':=d) (t':=t) (ch:=[]) un bC bare (λb z=>absurd z (by simp)),r,q⟩
end
def Binds(K:Ab)(fd:FuncData)(ps:O Str)(ds:O db):Prop:=
 ∀(s:em) (us:O db),K.In s.heap->(us++ds).length=ps.length->BindsTo s fd ⟨us,[]⟩ (ps.zip (us++ds))
def Binds.all{K:Ab}(h:∀us:O db,us.length=ps.length->bindArgs fd ⟨us,[]⟩=pure (ps.zip us)):Binds K fd ps []:=λs us _ hl=>by
 rw[CK]at hl ⊢;exact .of_eq (h us hl)
def Passes(CX:OM)(X:Cx)(E:XK):Prop:=∀(U:O (f8×Obj)) (σ:St) (H:Hp) (s:em) (e:db) (s':em),Inv X U σ H s->CX X.stack H s E e s'->X.xe e s'
section
variable{CX:OM}{f:f8}{sp:Sp}{Zy:O V}{ds:O db}{E:XK}
def QO{Q:VK}(F:js X.prog X.w X.K X.mg X.base CX k f fd ps sp)(hr:cY k X.A)(hb:Binds X.K fd ps ds)(hd:Vals Zy ds)(hx:Passes CX X E)(I:Inv X U σ H s)(r:Vals vs us)(h:sp (vs++Zy) H Q E):ga (ge X.prog X.w) X.A (call (.ref f) us) (EP X U σ Q) X.xe s:=by
 have r2:Vals (vs++Zy) (us++ds):=r.append hd;have hl:(us++ds).length=ps.length:=by rw[<- r2.length];exact F.len _ _ _ _ h
 refine wpAny_call (wf (F.run X.A X.stack s H ⟨us,[]⟩ (us++ds) (vs++Zy) Q E hr I.acr (hb s us I.qQ hl) r2 h) λr s' hq=>?_);cases r with
 |error e=>exact hx U σ H s e s' I hq
 |ok fl=>
  cases fl with
  |ret u=>exact I.after hq
  |next=>exact BR hq
  |brk=>exact BR hq
  |cont=>exact BR hq
end
structure dZ(N P:List Str)(sc:ul):Prop where
 kind:sc.kind=.function
 co:sc.isCoroutine=false
 gen:sc.isGenerator=false
 nd:N.Nodup
 pre:N.take P.length=P
 par:∀x∈P,sc.names.lookup x=bn .local\/sc.names.lookup x=bn .cell
 RF:∀y∈sc.names,y.2≠.free
theorem q9{kindOf:Str->Option v0}:∀{binds:O (Str×db)}{m:Str->Option db},(∀v,(x,v)∉binds)->bindL kindOf binds m x=m x
 |[],_,_=>rfl
 |(n,v)::r,m,h=>by
  unfold bindL;rw[q9 λw hw=>h w (AN _ hw)]
  split
  .have:x≠n:=by rintro rfl;exact h v Bo
   simp[this]
  .rfl
theorem rg{kindOf:Str->Option v0}:∀{binds:O (Str×db)}{m:Str->Option db},(∀v,(x,v)∉binds)->bindC kindOf binds m x=m x
 |[],_,_=>rfl
 |(n,v)::r,m,h=>by
  unfold bindC;rw[rg λw hw=>h w (AN _ hw)]
  split
  .rfl
  .have:x≠n:=by rintro rfl;exact h v Bo
   simp[this]
theorem rf{kindOf:Str->Option v0}:∀{P:O Str}{vs:O db}{i:Nat}{m:Str->Option db},P.Nodup->P[i]?=bn x->vs[i]?=bn v->kindOf x=bn .local->bindL kindOf (P.zip vs) m x=bn v
 |[],_,_,_,_,h,_,_=>by simp at h
 |_::_,[],_,_,_,_,h,_=>by simp at h
 |p::P,w::vs,0,m,nd,h1,h2,hk=>by
  simp at h1 h2;subst h1;subst h2;show bindL kindOf ((p,w)::P.zip vs) m p=_;unfold bindL;rw[q9 λv hv=>(Dd.mp nd).1 (ET hv).1,if_pos hk];simp
 |p::P,w::vs,i+1,m,nd,h1,h2,hk=>by
  unfold bindL;exact rf (Dd.mp nd).2 (by simpa using h1) (by simpa using h2) hk
theorem rh{kindOf:Str->Option v0}:∀{P:O Str}{vs:O db}{i:Nat}{m:Str->Option db},P.Nodup->P[i]?=bn x->vs[i]?=bn v->kindOf x≠bn .local->bindC kindOf (P.zip vs) m x=bn v
 |[],_,_,_,_,h,_,_=>by simp at h
 |_::_,[],_,_,_,_,h,_=>by simp at h
 |p::P,w::vs,0,m,nd,h1,h2,hk=>by
  simp at h1 h2;subst h1;subst h2;show bindC kindOf ((p,w)::P.zip vs) m p=_;unfold bindC;rw[rg λv hv=>(Dd.mp nd).1 (ET hv).1,if_neg hk];simp
 |p::P,w::vs,i+1,m,nd,h1,h2,hk=>by
  unfold bindC;exact rh (Dd.mp nd).2 (by simpa using h1) (by simpa using h2) hk
def start(N:O Str)(vs:O V):St:=vs.map bn++Av (N.length-vs.length) cr
def qb(CX:OM)(P:pr)(w:t0)(K:Ab)(mg:Str->Option db)(base:im)(N:O Str)(qual:Str)(scope:ul)(f:f8)(cd:db)(A:sB)(outer:O Env)(s:em)(H:Hp)(E:XK):Cx where
 prog:=P
 w:=w
 K:=K
 mg:=mg
 base:=base
 A:=A.deeper (FM qual scope s.heap.objs.size f cd)
 N:=N
 s₀:=s
 H₀:=H
 env:=FM qual scope s.heap.objs.size f cd
 outer:=outer
 stack:=FM qual scope s.heap.objs.size f cd::outer
 ex:=[]
 calm:=true
 fn:=λ_=>true
 pn:=[]
 xe:=λe s'=>ga (ge P w) (A.deeper (FM qual scope s.heap.objs.size f cd)) (leaving (FM qual scope s.heap.objs.size f cd) e) (λ_ Mo=>CX outer H s E e Mo) (λe' Mo=>CX outer H s E e' Mo) s'
def vR(h:sc.names.lookup x=bn .cell):∃c,(tz n sc.names []).lookup x=bn c:=by
 exact Option.isSome_iff_exists.mp (EH sc.names n [] (.inl h))
theorem GY{CX:OM}{K:Ab}{N:O Str}{f:f8}{cd:db}{outer:O Env}{s1:em}{E:XK}(S:dZ N ps scope)(hd:A.handled=cr)(e0:OK P w K mg base A outer s H)(hl:vs.length=ps.length)(r:Vals vs us)(x:InCallC s s.heap.objs.size (bindL (FM qual scope s.heap.objs.size f cd).kindOf (ps.zip us) λ_=>cr) (tz (s.heap.objs.size+1) scope.names []) (bindC (FM qual scope s.heap.objs.size f cd).kindOf (ps.zip us) λ_=>cr) s1):Inv (qb CX P w K mg base N qual scope f cd A outer s H E) [] (start N vs) H s1:=by
 have cX:ps.length<=N.length:=by have:=congrArg Dl S.pre;rw[Bb]at this;lia
 obtain⟨h1,tk,rfl,hk⟩:=x.done;have Wf:∀b:f8,b∉(qb CX P w K mg base N qual scope f cd A outer s H E).ex:=λb z=>absurd (show b∈([]) from z) (by simp);refine⟨⟨e0.mod,S.kind,rfl,rfl,Am _,λy z c h1 h2=>?_,λy hy=>?_,λy c _ h=>?_,λ_=>hd,Around.frames_deeper e0.frames,.inr ⟨rfl,rfl⟩,λb z=>absurd z (Wf b),e0.bs,e0.P7,λb _ _=>Wf b,λb z=>absurd z (Wf b),e0.oJ,e0.Ue⟩,
  rfl,e0.bare,Un.kept hk,⟨_,x.toInCall.ns,λi y v h1 h2 h3=>?_⟩,λy c h=>⟨_,x.cell y c h⟩,e0.bC.fresh (Am _),λy c h=>?_,λp hp=>absurd (show p∈([]) from hp) (by simp),e0.bC.kept hk,?_⟩
 .exact name_of_addr x.apart (BD h1) (BD h2)
 .rcases hy with hy|hy
  .exact vR hy
  .exact absurd rfl (S.RF _ (BD hy))
 .exact Dp (x.above y c (BD h))
 .have hi:i<vs.length:=by
   unfold start at h2;by_cases hi:i<vs.length
   .exact hi
   .rw[Bm (by simpa using hi)]at h2;rw[Cy]at h2
    split at h2<;>cases h2
  have ha:vs[i]?=bn v:=by
   unfold start at h2;rw[A8 (by simpa using hi),Ap]at h2;cases e:vs[i]? with
   |none=>rw[e]at h2;cases h2
   |some a=>rw[e]at h2;cases h2;rfl
  obtain⟨u,hu,rv⟩:=r.get ha;have hp:ps[i]?=bn y:=by
   rw[<- S.pre,List.getElem?_take_of_lt ∅];exact h1
  have ndP:ps.Nodup:=by rw[<- S.pre];exact S.nd.sublist (List.take_sublist _ _)
  refine⟨u,rv,?_⟩;rcases S.par y (Ao hp) with k|k
  .exact .inl ⟨k,rf ndP hp hu k⟩
  .obtain⟨c,e⟩:=vR k;refine .inr ⟨.inl k,c,e,?_⟩;have q:=x.cell y c e;rw[rh ndP hp hu (by show scope.names.lookup y≠_;rw[k];decide)]at q;exact q
 .exact e0.bC.fresh (Dp (x.above y c (BD h)))
 .unfold start;show _=N.length;rw[Ag,Aq,Cd];lia
def Xk{CX:OM}{K:Ab}{f:f8}{name:Str}{params:Arguments}{dV kV:db}{N:O Str}{sp:Sp}(lk:K.lookup f=bn ⟨oc,od,.func (BS name qual params body scope dV kV Ç pm an ek ct),M0⟩)(iC:D1 K ek qual=true)(S:dZ N ps scope)(len:∀vs H Q E,sp vs H Q E->vs.length=ps.length)(Kn:∀(A:sB) (outer:O Env) (s:em) (H:Hp) (vs:O V) (Q:VK) (E:XK),cY k (A.deeper (FM qual scope s.heap.objs.size f ek))->sp vs H Q E->
   ∃t,lh (qb CX P w K mg base N qual scope f ek A outer s H E) body t/\t {nx:=λ_ H'=>Q .az H',rt:=Q} (start N vs) H):js P w K mg base CX (k+1) f (BS name qual params body scope dV kV Ç pm an ek ct) ps sp:=by
 refine⟨len,λA outer s H args us vs Q E hr e0 hb r T4=>?_⟩;have hl:=len _ _ _ _ T4;have KX:K.In s.heap:=e0.mod.YL.keeps λb o e=>(e0.bs b o e).1;have lim:s.heap.NoLimit:=e0.mod.nolimit.keeps λb o e=>(e0.bs b o e).1;have WW:∀y∈ps.zip us,scope.names.lookup y.1=bn .local\/(scope.names.lookup y.1=bn .cell/\((tz (s.heap.objs.size+1) scope.names []).lookup y.1).isSome=true):=λ⟨n,v⟩ hy=>by
  rcases S.par n (ET hy).1 with q|q
  .exact .inl q
  .exact .inr ⟨q,EH _ _ _ (.inl q)⟩
 refine codeAny_call_function hr.depth (KX _ _ lk) rfl S.co S.gen rfl (PySem.W.codeRec_of KX iC) (hb _ _ _ _ ?_);refine wpAny_newFunctionEnv_cells S.kind WW λenv he s1 x=>?_;subst he;refine⟨lim.keeps x.toInCall.keep,codeAny_func ?_⟩;obtain⟨t,ht,hq⟩:=Kn A outer s H vs Q E (hr.deeper _) T4;have I:Inv (qb CX P w K mg base N qual scope f ek A outer s H E) [] (start N vs) H s1:=GY S hr.hd e0 hl r x;refine B9 (ht [] s1 (start N vs) H _ I hq) (λfl s' hs=>?_) λe s' hs=>hs;have fin:∀{σ':St}{H':Hp}{v:V}{u:db},Inv (qb CX P w K mg base N qual scope f ek A outer s H E) [] σ' H' s'->RelV v u->Q v H'->CE outer P w H s Q u s':=
  λ{σ' H' v u} J rv q=>⟨v,H',J.os,J.bare,J.base,J.bC,rv,q⟩
 cases fl with
 |ret u=>
  obtain⟨v,σ',H',J,rv,q⟩:=hs;exact fin J rv q
 |next=>
  obtain⟨σ',H',J,q⟩:=hs;exact fin (v:=V.az) (u:=Value.none) J rfl q
 |brk=>
  obtain⟨_,_,_,q⟩:=hs;exact BR q
 |cont=>
  obtain⟨_,_,_,q⟩:=hs;exact BR q
end L2
variable{T:String}
namespace L2
section
variable{t:TA}{id:String}{r:O V->Hp->VK->Prop}
def tCB(r:O V->Hp->VK->Prop)(t:TA):TE:=λσ H Q=>t σ H λvs H1=>r vs H1 Q
def f6(hc:cq X (.builtin id) r)(hg:Gl X x)(hm:X.mg x=cr)(hv:pi x=bn (.builtin id))(ha:PA X (e::es) t)(hn: ~~~(x≠"__name__"))(jO: ~~~(iM x))(he:‹hV X e es›)(cX:‹kb X pos es›):PE X (.Call (.Name x p) (e::es) [] pos) (tCB r t):=by
 intro U s σ H Q I h;refine Bv (eD I hg hm hv ?_ hn jO);exact Cw (bS (ha pos U s σ H _ I h) λus s1 ⟨vs,H1,I1,r1,q1⟩=>hc U s1 σ H1 vs us Q I1 r1 q1) he cX
def qE(hc:cq X (.type T) r)(hg:Gl X x)(hm:X.mg x=cr)(hv:pi x=bn (.type T))(ha:PA X (e::es) t)(hn: ~~~(x≠"__name__"))(jO: ~~~(iM x))(he:‹hV X e es›)(cX:‹kb X pos es›):PE X (.Call (.Name x p) (e::es) [] pos) (tCB r t):=by
 intro U s σ H Q I h;refine Bv (eD I hg hm hv ?_ hn jO);exact Ba (bS (ha pos U s σ H _ I h) λus s1 ⟨vs,H1,I1,r1,q1⟩=>hc U s1 σ H1 vs us Q I1 r1 q1) he cX
end
end L2
variable{hi:Option Int}{prog:PySem.Program}{vl vu:AV}{items:Array AV}
namespace HT
open PySem PyProof.Rows
def IW(A:sB)(s:em)(a:Int)(t:Tok)(c:Int)(u:Tok)(prog:pr)(w:t0)(E:db->em->Prop)(Q:db->em->Prop)(h:Q (.bool (decide (a<c))) s):ga (ge prog w) A (richCompare .Lt (.int a t) (.int c u)) Q E s:=
 (Fg h)
section
def Oq{t:f8}{vs ws:O db}(ht:IsTup s.heap t vs.toArray)(hb:IsTup s.heap b ws.toArray)(hv:vs≠[])(h1:ws=[]->Q (.ref t) s)(h2:ws≠[]->Q (.ref s.heap.objs.size) {s with heap:=s.heap.push {cls:=.type "tuple",data:=.seq (vs++ws).toArray}})(pf:vs.length+ws.length<=sizeLine):ga (ge prog w) A (ut .Add (.ref t) (.ref b)) Q E s:=by
 obtain⟨⟨cls,dd,data,sl⟩,ho,hc,n,hd⟩:=id ht;obtain⟨⟨Td,Oj,data2,LD⟩,G9,PB,n2,Ø⟩:=id hb;simp only at hc hd PB Ø;subst hc hd PB Ø;have e:vs.toArray++ws.toArray=(vs++ws).toArray:=by simp
 by_cases hw:ws=[]
 .exact concat_meets ⟨_,ho,rfl⟩ ⟨_,G9,rfl⟩ noFill_tuple_add seq_tuple_add Dm Dk (C8 _ _)
   (tuple_addW1 t b vs.toArray ws.toArray n n2 dd Oj sl LD (by simpa using hv) (by simp[hw])) ⟨ho,G9,h1 hw⟩
 .refine concat_meets ⟨_,ho,rfl⟩ ⟨_,G9,rfl⟩ noFill_tuple_add seq_tuple_add Dm Dk (C8 _ _)
   (tuple_addW2 t b vs.toArray ws.toArray n n2 dd Oj sl LD (by simpa using hv) (by simpa using hw) (by rw[Ah,Ah];exact pf)) ⟨ho,G9,?_⟩
  rw[e];exact h2 hw
def cS(n d:Nat):Option Int->Nat
 |none=>d
 |some v=>if v<0 then (v+(n:Int)).toNat else min v.toNat n
theorem kj(n d:Nat):cS n d cr=d:=rfl
theorem m5(n d k:Nat):cS n d (bn (k:Int))=min k n:=by
 show(if k<0 then ((k:Int)+n).toNat else min (k:Int).toNat n)=min k n;rw[if_neg ∅,B1]
theorem FQ(v:Int)(n d:Nat):(if v<0 then max (v+(n:Int)) 0 else min v (n:Int))=((cS n d (bn v):Nat):Int):=by
 show(if v<0 then max (v+n) 0 else min v (n:Int))=(((if v<0 then (v+(n:Int)).toNat else min v.toNat n)));by_cases hv:v<0
 .simp only[if_pos hv];lia
 .simp only[if_neg hv];lia
def yw(lo hi:Option Int)(n:Nat):Builtin.Slice.sliceAdjust lo hi 1 (n:Int)=(((cS n 0 lo:Nat):Int),((cS n n hi:Nat):Int)):=by
 unfold Builtin.Slice.sliceAdjust;refine Prod.ext ?_ ?_
 .cases lo with
  |none=>rfl
  |some v=>exact FQ v n 0
 .cases hi with
  |none=>rfl
  |some v=>exact FQ v n n
theorem wU(i j:Nat):Builtin.Slice.slicePlaces (i:Int) (j:Int) 1=j-i:=by
 unfold Builtin.Slice.slicePlaces
 split<;>lia
def nL{o:Option Int}{Q:Option Int->em->Prop}(p:IsPart v o)(h:Q o s):ga (ge prog w) A (Builtin.Slice.slicePartIndex v) Q E s:=by
 cases p with
 |none=>exact slicePart_none h
 |int i t=>exact slicePart_int h
def fY{sl:f8}{lo:Option Int}{Q:Int×Int×Nat->em->Prop}(hs:s.heap.IsSliceOf sl vl vu .none)(pl:IsPart vl lo)(pu:IsPart vu hi)(h:Q (((cS n 0 lo:Nat):Int),1,cS n n hi-cS n 0 lo) s):ga (ge prog w) A (Builtin.Slice.sliceApplied (.ref sl) (pure (n:Int))) Q E s:=by
 obtain⟨os,So,Y0,W2⟩:=id hs;refine Aa (Aa (AL So W2 rfl (Aa (AL So W2 rfl (Aa (AL So W2 rfl (Ae ?_)))))));refine Aa (slicePart_none ?_);refine Aa (nL pl (Aa (nL pu (Aa (Ae ?_)))));show ga _ _ (match Builtin.Slice.sliceAdjust lo hi 1 n with|(lo,hi)=>pure (lo,(1:Int),Builtin.Slice.slicePlaces lo hi 1)) _ _ s;rw[yw lo hi n];show ga _ _ (pure (((cS n 0 lo):Int),(1:Int),Builtin.Slice.slicePlaces ((cS n 0 lo:Nat):Int) ((cS n n hi:Nat)) 1)) _ _ s;rw[wU];exact Ae h
theorem Jl(xs:Array db)(i k:Nat):((Ax k).filterMap λ(m:Nat)=>xs[((i:Int)+(m:Int)*1).toNat]?).toArray=((xs.toList.drop i).take k).toArray:=by
 have e:(λ(m:Nat)=>xs[(i+(m:Int)*1).toNat]?)=λm=>xs[i+m]?:=by
  funext m;have:((i:Int)+(m:Int)*1).toNat=i+m:=by lia
  rw[this]
 rw[e];have:=pick_run xs i k;rw[List.filterMap_map]at this;have e2:((λx=>xs[x]?)∘λx=>i+x)=λm=>xs[i+m]?:=rfl;rw[e2]at this;rw[this]
theorem kF{t sl:f8}{lo:Option Int}(ht:IsTup s.heap t items)(hs:s.heap.IsSliceOf sl vl vu .none)(pl:IsPart vl lo)(pu:IsPart vu hi)(hw:¬(cS items.size 0 lo=0/\cS items.size items.size hi=items.size))(h:Q (.ref s.heap.objs.size) {s with heap:=s.heap.push {cls:=.type "tuple",data:=.seq ((items.toList.drop (cS items.size 0 lo)).take (cS items.size items.size hi-cS items.size 0 lo)).toArray}})(pf:items.size<=sizeLine):ga (ge prog w) A (getItem (.ref t) (.ref sl)) Q E s:=by
 have zH:sizeOk (.seq ((items.toList.drop (cS items.size 0 lo)).take (cS items.size items.size hi-cS items.size 0 lo)).toArray):=by
  show((items.toList.drop (cS items.size 0 lo)).take (cS items.size items.size hi-cS items.size 0 lo)).toArray.size<=sizeLine;rw[Ah,Bb,Br,AB];lia
 obtain⟨os,So,Y0,W2⟩:=id hs;unfold getItem
 try with_reducible refine AZ ?_
 first|refine Aa (Ae ?_)|skip
 refine Aa (wpAny_sequenceKey ht.typeIs ⋯ ?_);refine Aa (AM ht.typeIs Bg
  (AU Bg ht.typeIs entry_tuple_getitem ?_ (args_tuple_getitem _ _)))
 show ga _ _ (Builtin.Tuple.tupleItemsOf (.ref t) >>= _) _ _ s;refine Aa (tupleItemsOf_ ht ?_);refine Aa (CF (⟨os,So,Y0⟩) ?_);refine Aa (fY hs pl pu ?_);have hno:¬((((cS items.size 0 lo):Int)==0&&(1:Int)==1&&(cS items.size items.size hi-cS items.size 0 lo)==items.size)=true):=by
  intro q;rw[AH,AH]at q;have q1:=eq_of_beq q.1.1;have q2:=eq_of_beq q.2;exact hw ⟨by lia,by lia⟩
 show ga _ _ (if (((cS items.size 0 lo:Nat):Int)==0&&(1:Int)==1&&(cS items.size items.size hi-cS items.size 0 lo)==items.size)=true then _ else _) _ _ s;rw[if_neg hno,Jl]
 first
  |exact Aa (AR (Ae ⟨_,rfl,Ae h⟩) zH)
  |exact Aa (m:=Builtin.Tuple.tupleExact _) (AR (Aa (Ae (Ae ⟨_,rfl,Ae h⟩))) zH)
  |exact Aa (Aa (m:=Builtin.Tuple.tupleExact _) (AR (Ae (Ae ⟨_,rfl,Ae h⟩)) zH))
  |exact Aa (Aa (m:=Builtin.Tuple.tupleExact _) (AR (Ae ⟨_,rfl,Ae h⟩) zH))
end
end HT
variable{p2:Cu}
namespace L2
abbrev TO:=St->Hp->(Option Int->Hp->Prop)->Prop
def PO(X:Cx)(e:Option lc)(t:TO):Prop:=
 ∀(U:O (f8×Obj)) (s:em) (σ:St) (H:Hp) (Q:Option Int->Hp->Prop),Inv X U σ H s->t σ H Q->
  ga (ge X.prog X.w) X.A (evalPart e X.env) (λu s'=>∃o H',Inv X U σ H' s'/\IsPart u o/\Q o H') X.xe s
def Me:TO:=λ_ H Q=>Q cr H
def U9(t:TE):TO:=λσ H Q=>t σ H λx H1=>∃i,x=.int i/\Q (bn i) H1
section
variable{lo hi:Option lc}{tl th:TO}
def MH:PO X cr Me:=by
 intro U s σ H Q I h;exact Ae ⟨cr,H,I,.none,h⟩
def MF(h:PE X e te):PO X (bn e) (U9 te):=by
 intro U s σ H Q I hw;refine bS (h U s σ H _ I hw) λu s1 ⟨x,H1,I1,r1,q1⟩=>?_;obtain⟨i,rfl,q⟩:=q1;obtain⟨t,rfl⟩:=r1;exact⟨bn i,H1,I1,.int i t,q⟩
def OD(X:Cx)(r:V->Option Int->Option Int->Hp->VK->Prop):Prop:=
 ∀(U:O (f8×Obj)) (s:em) (σ:St) (H:Hp) (x:V) (v vl vu:db) (lo hi:Option Int) (sl:f8) (Q:VK),Inv X U σ H s->RelV x v->s.heap.IsSliceOf sl vl vu .none->IsPart vl lo->IsPart vu hi->r x lo hi H Q->
  ∃T id,typeLookup (.type T) "__getitem__"=pure (bn (.builtin id))/\s.TypeIs v T/\ga (ge X.prog X.w) X.A (getItem v (.ref sl)) (EP X U σ Q) X.xe s
def tSl(r:V->Option Int->Option Int->Hp->VK->Prop)(te:TE)(tl th:TO):TE:=λσ H Q=>te σ H λx H1=>tl σ H1 λl H2=>th σ H2 λu H3=>r x l u H3 Q
def uI{r:V->Option Int->Option Int->Hp->VK->Prop}(hr:OD X r)(he:PE X e te)(hl:PO X lo tl)(hu:PO X hi th):PE X (.Subscript e (.Slice lo hi cr p2) pos) (tSl r te tl th):=by
 intro U s σ H Q I h;refine Subscript_ (bS (he U s σ H _ I h) λv s1 ⟨x,H1,I1,r1,q1⟩=>?_);refine wpAny_Slice (bS (hl U s1 σ H1 _ I1 q1) λvl s2 ⟨l,H2,I2,pl,q2⟩=>bS (hu U s2 σ H2 _ I2 q2) λvu s3 ⟨u,H3,I3,pu,q3⟩=>?_);rw[evalPart_none];refine Ae ?_;have I4:Inv X U σ H3 {s3 with heap:=s3.heap.push {cls:=.type "slice",data:=.fields #[vl,vu,.none]}}:=I3.kept (t':=s3.toks) λb ob q=>Af _ q;obtain⟨T,id,hT,ht,hg⟩:=hr U {s3 with heap:=s3.heap.push {cls:=.type "slice",data:=.fields #[vl,vu,.none]}} σ H3 x v vl vu l u s3.heap.objs.size Q I4 r1 (Heap.IsSliceOf.new ..) pl pu q3;show ga (ge X.prog X.w) X.A (subscriptTail e (.Slice lo hi cr p2) v (.ref s3.heap.objs.size)) (EP X U σ Q) X.xe {s3 with heap:=s3.heap.push {cls:=.type "slice",data:=.fields #[vl,vu,.none]}};exact tail_any (ops:=[.ref s3.heap.objs.size,v]) ht hT hg (by with_unfolding_all rfl)
def vQ(xs:O V)(lo hi:Option Int):O V:=(xs.drop (HT.cS xs.length 0 lo)).take (HT.cS xs.length xs.length hi-HT.cS xs.length 0 lo)
theorem mE(xs:O V)(lo hi:Option Int):(vQ xs lo hi).length<=xs.length:=by
 unfold vQ;rw[Bb,Br];lia
def aaI(K:Ab):V->Option Int->Option Int->Hp->VK->Prop:=λx lo hi H Q=>∃a xs,x=.ref a/\cG K H a xs/\
 ¬(HT.cS xs.length 0 lo=0/\HT.cS xs.length xs.length hi=xs.length)/\∀p,H p=cr->Q (.ref p) (upd H p (.tup (vQ xs lo hi)))
def QJ:OD X (aaI X.K):=by
 intro U s σ H x v vl vu lo hi sl Q I rx hs pl pu h;obtain⟨a,xs,rfl,hx,hw,q⟩:=h;cases rx;obtain⟨aj,r,ht,hz⟩:=I.tuple hx;have À:aj.toArray.size=xs.length:=by rw[Ah];exact r.length.symm
 refine⟨"tuple",_,Bg.lookup,ht.typeIs,?_⟩;refine HT.kF ht hs pl pu (by rw[À];exact hw) ?_ (by rw[À];exact hz);rw[À];refine⟨.ref s.heap.objs.size,_,I.laid (λb ob q=>Af _ q) (Am _) ?_,rfl,q _ (I.bC.fresh (Am _))⟩;exact⟨AI (mE xs lo hi) hz,_,(r.drop (HT.cS xs.length 0 lo)).take (HT.cS xs.length xs.length hi-HT.cS xs.length 0 lo),FI _ _,_,Al _ rfl,rfl⟩
def O7(K:Ab):R2:=λx y H Q=>∃a b xs ys,x=.ref a/\y=.ref b/\cG K H a xs/\cG K H b ys/\xs≠[]/\xs.length+ys.length<=sizeLine/\
 (ys=[]->Q (.ref a) H)/\(ys≠[]->∀p,H p=cr->Q (.ref p) (upd H p (.tup (xs++ys))))
def Vals.gG(r:Vals xs us):us=[]↔xs=[]:=by
 cases r with
 |nil=>simp
 |cons _ _=>simp
def zf:gp X (ut .Add) (O7 X.K):=by
 intro U s σ H x y v u Q I rx ry h;obtain⟨a,b,xs,ys,rfl,rfl,ha,hb,hx,hz,q1,q2⟩:=h;cases rx;cases ry;obtain⟨aj,r1,p1,_⟩:=I.tuple ha;obtain⟨cI,r2,p2,_⟩:=I.tuple hb;refine HT.Oq p1 p2 (λz=>hx (r1.gG.mp z)) (λz=>⟨.ref a,H,I,rfl,q1 (r2.gG.mp z)⟩) (λz=>?_) (by rw[<- r1.length,<- r2.length];exact hz);refine⟨.ref s.heap.objs.size,_,I.laid (λb ob q=>Af _ q) (Am _) ?_,rfl,q2 (λw=>z (r2.gG.mpr w)) _ (I.bC.fresh (Am _))⟩;exact⟨by rw[Ag];exact hz,_,r1.append r2,FI _ _,_,Al _ rfl,rfl⟩
end
end L2
variable{p:Bi}{dc:O AV}
namespace L2
def qR(n:Nat)(i:Int):Option Nat:=if 0<=i then (if i<n then bn i.toNat else cr) else if -(n:Int)<=i then bn (i+n).toNat else cr
def kZ(xs:List α)(i:Int):Option α:=(qR xs.length i).bind λj=>xs[j]?
theorem sW(h:qR n i=bn j):seqIndex? i n=bn j/\j<n/\-(n:Int)<=i/\i<n:=by
 unfold qR at h;by_cases h0:0<=i
 .rw[if_pos h0]at h;by_cases h1:i<n
  .rw[if_pos h1]at h;have e:=Option.some.inj h;exact⟨by rw[seqIndex_of h0 h1,e],by lia,by lia,h1⟩
  .rw[if_neg h1]at h;cases h
 .rw[if_neg h0]at h;by_cases h1:-n<=i
  .rw[if_pos h1]at h;have e:=Option.some.inj h;exact⟨by rw[seqIndex_neg ∅ h1,e],by lia,h1,by lia⟩
  .rw[if_neg h1]at h;cases h
def tW{xs:List α}{v:α}(h:kZ xs i=bn v):∃j,seqIndex? i xs.length=bn j/\xs[j]?=bn v/\j<xs.length/\-(xs.length:Int)<=i/\i<xs.length:=by
 unfold kZ at h;cases e:qR xs.length i with
 |none=>rw[e]at h;cases h
 |some j=>
  rw[e]at h;obtain⟨h1,h2,h3,h4⟩:=sW e;exact⟨j,h1,h,h2,h3,h4⟩
theorem gX{xs:List α}{v:α}(h:xs[j]?=bn v):kZ xs (j:Int)=bn v:=by
 have hj:=(Aj.mp h).1;have e:qR xs.length j=bn j:=by
  unfold qR;rw[if_pos ∅,if_pos ∅];simp
 unfold kZ;rw[e];exact h
theorem Lh(xs:List α)(v:α):kZ (xs++[v]) (-1)=bn v:=by
 have hl:(xs++[v]).length=xs.length+1:=by simp
 have e:qR (xs++[v]).length (-1)=bn xs.length:=by
  unfold qR;rw[hl,if_neg ⋯,if_pos ∅];congr 1;lia
 unfold kZ;rw[e];simp
def FX(b:lc):Prop:=∀o i,subscripted b false o i=operate [o,i] (getItem o i)
def LW(X:Cx)(r:R2):Prop:=
 ∀(Ë È:lc) (U:O (f8×Obj)) (s:em) (σ:St) (H:Hp) (x y:V) (v u:db) (Q:VK),Inv X U σ H s->RelV x v->RelV y u->r x y H Q->
  subscripted È false v u=operate [v,u] (getItem v u)->ga (ge X.prog X.w) X.A (subscriptTail Ë È v u) (EP X U σ Q) X.xe s
def ZF(X:Cx)(id:String)(r:V->O V->Hp->VK->Prop):Prop:=
 ∀(U:O (f8×Obj)) (s:em) (σ:St) (H:Hp) (x:V) (xs:O V) (v:db) (us:O db) (Q:VK),Inv X U σ H s->RelV x v->Vals xs us->r x xs H Q->
  ga (ge X.prog X.w) X.A (call (.builtin id) (v::us)) (EP X U σ Q) X.xe s
section
variable{X:Cx}{a b:lc}{ta tb:TE}{pos:Pos}
def LW.or{r r':R2}(h:LW X r)(h':LW X r'):LW X (λx y H Q=>r x y H Q\/r' x y H Q):=by
 intro Ë È U s σ H x y v u Q I rx ry q hs;rcases q with q|q
 .exact h Ë È U s σ H x y v u Q I rx ry q hs
 .exact h' Ë È U s σ H x y v u Q I rx ry q hs
def eG{r:R2}(hr:LW X r)(ha:PE X a ta)(hb:PE X b tb)(hs:FX b):PE X (.Subscript a b pos) (OV r ta tb):=by
 intro U s σ H Q I h;exact Subscript_ (Tf ha hb I h λv u s2 x y H2 I2 rx ry q=>hr a b U s2 σ H2 x y v u Q I2 rx ry q (hs _ _))
def VF(K:Ab):R2:=λx y H Q=>∃p xs i v,x=.ref p/\y=.int i/\bO K H p xs/\kZ xs i=bn v/\Q v H
def VD(K:Ab):R2:=λx y H Q=>∃p xs i v,x=.ref p/\y=.int i/\cG K H p xs/\kZ xs i=bn v/\Q v H
def VE:R2:=λx y H Q=>∃z i c,x=.str z/\y=.int i/\z.length<=sizeLine/\kZ z.cps.toList i=bn c/\Q (.str ⟨#[c]⟩) H
theorem NJ:LW X (VF X.K):=by
 intro Ë È U s σ H x y v u Q I rx ry h hs;obtain⟨p,xs,i,z,rfl,rfl,hq,he,q⟩:=h;cases rx;obtain⟨t,rfl⟩:=ry;obtain⟨aj,r,pl,hz⟩:=I.list hq;obtain⟨j,h1,h2,h3,h4,h5⟩:=tW he;obtain⟨w,ew,yW⟩:=r.get h2;have hl:=r.length;have hn:=sL;have fin:EP X U σ Q w s:=⟨z,H,I,yW,q⟩;by_cases h0:0<=i
 .have hj:i.toNat=j:=by
   rw[seqIndex_of h0 h5]at h1;exact Option.some.inj h1
  exact item_listR pl.isList h0 ∅ (by rw[hj];simpa using ew) fin hs
 .have hj:(i+aj.toArray.size).toNat=j:=by
   rw[seqIndex_neg ∅ h4]at h1;rw[Ah,<- hl];exact Option.some.inj h1
  exact subscriptTail_builtinR pl.isList.typeIs slot_list_getitem.lookup
   (wpAny_getItem_list_neg pl.isList ∅ (by rw[Ah]<;>lia) ∅ (by rw[hj];simpa using ew) ⟨rfl,fin⟩) hs
theorem Se:LW X (VD X.K):=by
 intro Ë È U s σ H x y v u Q I rx ry h hs;obtain⟨p,xs,i,z,rfl,rfl,hq,he,q⟩:=h;cases rx;obtain⟨t,rfl⟩:=ry;obtain⟨aj,r,pl,hz⟩:=I.tuple hq;obtain⟨j,h1,h2,h3,h4,h5⟩:=tW he;obtain⟨w,ew,yW⟩:=r.get h2;have hn:=sL;have fin:EP X U σ Q w s:=⟨z,H,I,yW,q⟩;exact subscriptTail_builtinR pl.typeIs slot_tuple_getitem.lookup
  (getItem_tuple pl ∅ ∅ (by rw[Ah,<- r.length];exact h1) (by simpa using ew) ⟨rfl,fin⟩) hs
theorem Sf:LW X VE:=by
 intro Ë È U s σ H x y v u Q I rx ry h hs;obtain⟨z,i,c,rfl,rfl,hz,he,q⟩:=h;obtain⟨t,rfl⟩:=rx;obtain⟨t',rfl⟩:=ry;obtain⟨j,h1,h2,h3,h4,h5⟩:=tW he;have hl:z.cps.toList.length=z.length:=by simp[Str.length]
 rw[hl]at h1 h4 h5;have hn:=sL;exact tail_any (typeIs_str s z t) slot_str_getitem.lookup (getItem_str (by
  rw[(decide_eq_false ∅),(decide_eq_false ∅),Fo]) (by rw[h1];simpa using h2) ⟨.str ⟨#[c]⟩,H,I.tok _,⟨_,rfl⟩,q⟩) hs
def rIx(K:Ab):R2:=λx y H Q=>VF K x y H Q\/VD K x y H Q\/VE x y H Q
def Sg:LW X (rIx X.K):=NJ.or (Se.or Sf)
def xl(aj:O db)(n j:Nat)(u:db):BC (·.setIfInBounds j u) {cls:=.type "list",data:=.seq aj.toArray n}={cls:=.type "list",data:=.seq (aj.set j u).toArray n}:=by
 simp[BC]
def Inv.lst{U:O (f8×Obj)}{σ:St}{H:Hp}{s:em}{p:f8}{xs:O V}(I:Inv X U σ H s)(h:H p=bn (.lst xs)):∃(aj:O db) (n:Nat),Vals xs aj/\s.heap.get? p=bn {cls:=.type "list",data:=.seq aj.toArray n}/\xs.length<=sizeLine:=by
 obtain⟨z,aj,n,r,e⟩:=I.bC p _ h;exact⟨aj,n,r,e,z⟩
def Inv.RT{n':Nat}{f:Obj->Obj}(I:Inv X U σ H s)(h:H p=bn (.lst xs))(ho:s.heap.get? p=bn {cls:=.type "list",data:=.seq aj.toArray n})(hf:f {cls:=.type "list",data:=.seq aj.toArray n}={cls:=.type "list",data:=.seq dc.toArray n'})(r:Vals ys dc)(hz:ys.length<=sizeLine)(t:Nat):Inv X U σ (upd H p (.lst ys)) {s with heap:=s.heap.update p f,toks:=t}:=by
 have e:(s.heap.update p f).get? p=bn {cls:=.type "list",data:=.seq dc.toArray n'}:=by
  rw[A3 f ho (by rw[hf]<;>rfl),hf]
 refine I.write (x:=p) (e:=p) (by rw[h];trivial) (.inl rfl) (λb u hb q=>(Bz _ _ (BU hb)).trans q) ⟨_,e⟩ ?_;exact⟨hz,dc,n',r,e⟩
def VA:V->V->V->Hp->(Hp->Prop)->Prop:=λo i v H Q=>∃p xs k j,o=.ref p/\i=.int k/\H p=bn (.lst xs)/\qR xs.length k=bn j/\Q (upd H p (.lst (xs.set j v)))
theorem set_list:HP X VA:=by
 intro U s σ H o i v ov iv u Q I ro ri rv h;obtain⟨p,xs,k,j,rfl,rfl,hp,hj,q⟩:=h;cases ro;obtain⟨t,rfl⟩:=ri;obtain⟨aj,n,r,ho,hz⟩:=I.lst hp;obtain⟨h1,h2,h3,h4⟩:=sW hj;have hl:=r.length;have hn:=sL;have I':=
  I.RT hp ho (xl aj n j u) (r.set rv j) (by rw[CJ];exact hz) s.toks
 by_cases h0:0<=k
 .have hk:k.toNat=j:=by
   rw[seqIndex_of h0 h4]at h1;exact Option.some.inj h1
  exact PySem.W.ki_setAt ho h0 ∅ (by rw[Ah,<- hl];exact h4) (by rw[hk];exact⟨_,I',q⟩)
 .have hk:(k+aj.toArray.size).toNat=j:=by
   rw[seqIndex_neg ∅ h3]at h1;rw[Ah,<- hl];exact Option.some.inj h1
  exact PySem.W.ki_setBack ho ∅ (by rw[Ah,<- hl];exact h3) ∅ (by rw[hk];exact⟨_,I',q⟩)
theorem rQ(lo hi:Option Int)(n:Nat):(Fa lo hi cr n).1=((HT.cS n 0 lo:Nat):Int)/\(Fa lo hi cr n).2.1=((HT.cS n n hi:Nat):Int)/\(Fa lo hi cr n).2.2=1:=by
 refine⟨?_,?_,rfl⟩
 .cases lo with
  |none=>simp[Fa,HT.cS]
  |some i=>
   simp only[Fa,HT.cS,Option.getD_none];by_cases h:i<0
   .simp only[h,if_true]<;>lia
   .simp only[h,if_false]<;>lia
 .cases hi with
  |none=>simp[Fa,HT.cS]
  |some i=>
   simp only[Fa,HT.cS,Option.getD_none,if_true];by_cases h:i<0
   .simp only[h,if_true]<;>lia
   .simp only[h,if_false]<;>lia
def pz(aj:O db)(lo hi:Option Int):slicePick aj.toArray lo hi cr=((aj.drop (HT.cS aj.length 0 lo)).take (HT.cS aj.length aj.length hi-HT.cS aj.length 0 lo)).toArray:=by
 obtain⟨h1,h2,h3⟩:=rQ lo hi aj.toArray.size;unfold slicePick;rw[h1,h2,h3];simp only[sliceRange_one,pick_run]<;>rfl
def aaJ(K:Ab):V->Option Int->Option Int->Hp->VK->Prop:=λx lo hi H Q=>∃a xs,x=.ref a/\bO K H a xs/\∀p,H p=cr->Q (.ref p) (upd H p (.lst (vQ xs lo hi)))
theorem Mm:OD X (aaJ X.K):=by
 intro U s σ H x v vl vu lo hi sl Q I rx hs pl pu h;obtain⟨a,xs,rfl,hx,q⟩:=h;cases rx;obtain⟨aj,r,ht,hz⟩:=I.list hx;have À:=r.length;refine⟨"list",_,slot_list_getitem.lookup,ht.isList.typeIs,?_⟩;refine wpAny_getItem_list_slice ht.isList hs pl pu .none (by simp) ?_ (by rw[Ah] <;> lia);rw[pz,<- À];refine⟨.ref s.heap.objs.size,_,I.laid (λb ob q=>Af _ q) (Am _) ?_,rfl,q _ (I.bC.fresh (Am _))⟩;exact⟨AI (mE xs lo hi) hz,_,0,(r.drop (HT.cS xs.length 0 lo)).take (HT.cS xs.length xs.length hi-HT.cS xs.length 0 lo),Al _ rfl⟩
theorem tT:cq X (.type "list") (λxs H Q=>∃p ys,xs=[.ref p]/\(bO X.K H p ys\/cG X.K H p ys)/\∀l,H l=cr->Q (.ref l) (upd H l (.lst ys))):=by
 intro U s σ H xs us Q I r h;obtain⟨p,ys,rfl,hq,q⟩:=h;obtain⟨u,rfl,rx⟩:=vals1 r;cases rx;have fin:∀aj,Vals ys aj->ys.length<=sizeLine->∀(h':im) c',(∀b o',s.heap.get? b=bn o'->h'.get? b=bn o')->
   h'.get? s.heap.objs.size=bn {cls:=.type "list",dict:=cr,data:=.seq aj.toArray c',slots:=#[]}->EP X U σ Q (.ref s.heap.objs.size) {s with heap:=h'}:=λaj r' hz h' c' kp e=>
  ⟨.ref s.heap.objs.size,_,I.laid (t':=s.toks) kp (Am _) (show bA X.prog X.w _ h' _ (.lst ys) from⟨hz,aj,c',r',e⟩),rfl,q _ (I.bC.fresh (Am _))⟩
 rcases hq with hq|hq
 .obtain⟨aj,r',pl,hz⟩:=I.list hq;have À:=r'.length;obtain⟨o,ho,hc,n,hd⟩:=pl.isList;exact call_list_seq p (.inl rfl) ho hc hd (λh' c' kp e=>fin aj r' hz h' c' kp e) (by simp only[Ah]<;>lia)
 .obtain⟨aj,r',pl,hz⟩:=I.tuple hq;have À:=r'.length;obtain⟨o,ho,hc,n,hd⟩:=pl;exact call_list_seq p (.inr rfl) ho hc hd (λh' c' kp e=>fin aj r' hz h' c' kp e) (by simp only[Ah]<;>lia)
theorem qd:cq X (.type "tuple") (λxs H Q=>∃p ys,xs=[.ref p]/\((bO X.K H p ys/\∀l,H l=cr->Q (.ref l) (upd H l (.tup ys)))\/(cG X.K H p ys/\Q (.ref p) H))):=by
 intro U s σ H xs us Q I r h;obtain⟨p,ys,rfl,h⟩:=h;obtain⟨u,rfl,rx⟩:=vals1 r;cases rx;rcases h with⟨hq,q⟩|⟨hq,q⟩
 .obtain⟨aj,r',pl,hz⟩:=I.list hq;have À:=r'.length;refine call_tuple_list pl.isList (λh' kp=>?_) (by simp<;>lia);have I1:=I.kept (t':=s.toks) kp;have I2:=
   I1.laid (t':=s.toks) (λb o e=>Af _ e) (Am _) (show bA X.prog X.w _ _ _ (.tup ys) from⟨hz,aj,r',FI _ _,_,Al _ rfl,rfl⟩)
  exact⟨.ref h'.objs.size,_,I2,rfl,q _ (I1.bC.fresh (Am _))⟩
 .obtain⟨aj,r',pl,hz⟩:=I.tuple hq;exact call_tuple_same pl ⟨.ref p,H,I,rfl,q⟩
def U4(K:Ab)(T:String)(x:V)(H:Hp):Prop:=match x with
 |.str _=>T="str"
 |.int _=>T="int"
 |.ref p=>(T="list"/\∃xs,bO K H p xs)\/(T="tuple"/\∃o,K.lookup p=bn o/\o.cls=.type "tuple"/\o.dict=cr)\/
   (T="dict"/\((∃aD,H p=bn (.dK aD))\/∃aD,H p=bn (.dT aD)))\/(T="set"/\∃S n,H p=bn (.set S n))
 |_=>False
def Ir{x:V}(I:Inv X U σ H s)(r:RelV x v)(ty:U4 X.K T x H):s.TypeIs v T/\∀a,v=.ref a->∃ob,s.heap.get? a=bn ob/\ob.dict=cr:=by
 cases x with
 |str z=>
  obtain⟨t,rfl⟩:=r;cases (ty);exact⟨typeIs_str s z t,λ_ e=>nomatch e⟩
 |int i=>
  obtain⟨t,rfl⟩:=r;cases (ty);exact⟨typeIs_int s i t,λ_ e=>nomatch e⟩
 |ref p=>
  cases r;rcases ty with⟨rfl,xs,hq⟩|⟨rfl,o,hk,hc,hd⟩|⟨rfl,hk⟩|⟨rfl,S,n,hk⟩
  .obtain⟨aj,_,pl,_⟩:=I.list hq;refine⟨pl.isList.typeIs,λa e=>?_⟩;cases e;obtain⟨o,n,e,c,hd,_⟩:=pl;exact⟨o,e,hd⟩
  .refine⟨⟨o,I.qQ p o hk,hc⟩,λa e=>?_⟩;cases e;exact⟨o,I.qQ _ o hk,hd⟩
  .have z:∃o,s.heap.get? p=bn o/\o.ExactDict:=by
    rcases hk with⟨aD,hk⟩|⟨aD,hk⟩
    .obtain⟨_,_,_,_,o,_,_,e,ex,_⟩:=I.bC p _ hk;exact⟨o,e,ex⟩
    .obtain⟨_,_,_,_,o,_,_,e,ex,_⟩:=I.bC p _ hk;exact⟨o,e,ex⟩
   obtain⟨o,e,ex⟩:=z;refine⟨⟨o,e,ex.1⟩,λa e2=>?_⟩;cases e2;exact⟨o,e,ex.2.1⟩
  .obtain⟨o,_,_,_,e,ex,_⟩:=I.bC p _ hk;refine⟨⟨o,e,ex.1⟩,λa e2=>?_⟩;cases e2;exact⟨o,e,ex.2.1⟩
 |_=>exact BR ty
def Vg(K:Ab)(T:String)(r:V->O V->Hp->VK->Prop)(to:TE):TE:=λσ H Q=>to σ H λx H1=>U4 K T x H1/\r x [] H1 Q
def tBM(K:Ab)(T:String)(r:V->O V->Hp->VK->Prop)(to:TE)(t:TA):TE:=λσ H Q=>to σ H λx H1=>U4 K T x H1/\t σ H1 λxs H2=>r x xs H2 Q
variable{o e:lc}{es:O lc}{to:TE}{t:TA}{name:Str}{Â bW:Pos}{T id:String}{r:V->O V->Hp->VK->Prop}
def Rn(pa:PlainAttrs T)(slot:Slot T name id)(Sl:typeOf (.builtin id)=pure (.type "method_descriptor"))(hm:ZF X id r)(ho:PE X o to)(d7:‹sK o name X.env (r6 o X.env)=r6 o X.env›)(d6:‹OP Â bW›):PE X (.Call (.Attribute o name Â) [] [] bW) (Vg X.K T r to):=by
 intro U s σ H Q I h;refine wpAny_Call_method0_late d7 d6 (bS (ho U s σ H _ I h) λv s1 ⟨x,H1,I1,r1,ty,q1⟩=>?_);obtain⟨h1,h2⟩:=Ir I1 r1 ty;exact⟨T,id,pa,slot,Sl,h1,h2,EL rfl (PySem.evalArgs_none (hm U s1 σ H1 x [] v [] Q I1 r1 .nil q1))⟩
def VS(pa:PlainAttrs T)(slot:Slot T name id)(Sl:typeOf (.builtin id)=pure (.type "method_descriptor"))(hm:ZF X id r)(ho:PE X o to)(ha:PA X (e::es) t)(d7:‹sK o name X.env (r6 o X.env)=r6 o X.env›)(tu:‹Ya X bW (e::es)›)(d6:‹OP Â bW›)(hs:‹hV X e es›)(gP:‹kb X bW es›):PE X (.Call (.Attribute o name Â) (e::es) [] bW) (tBM X.K T r to t):=by
 intro U s σ H Q I h;refine wpAny_Call_method_late d7 tu d6 rfl (bS (ho U s σ H _ I h) λv s1 ⟨x,H1,I1,r1,ty,q1⟩=>?_);obtain⟨h1,h2⟩:=Ir I1 r1 ty;refine⟨T,id,pa,slot,Sl,h1,h2,?_⟩;have hA:=ha bW U s1 σ H1 _ I1 q1;rw[hs]at hA ⊢;exact EL (by show(false||(backTo bW (ii es X.env)).any (·.1))=false;rw[gP]<;>rfl) (Calls.evalArgs_plain (bS hA λus s2 ⟨vs,H2,I2,r2,q2⟩=>hm U s2 σ H2 x vs v us Q I2 r1 r2 q2))
end
def FY(X:Cx)(id:String)(r:V->O V->Hp->VK->Prop):Prop:=
 ∀(U:O (f8×Obj)) (s:em) (σ:St) (H:Hp) (x:V) (xs:O V) (v:db) (us:O db) (Q:VK),Inv X U σ H s->RelV x v->Vals xs us->r x xs H Q->
  ga (ge X.prog X.w) X.A (call (.builtin id) (v::us)) (EP X U σ Q) X.xe s
def Vals.one:∀{x:V}{us:O db},Vals [x] us->∃u,us=[u]/\RelV x u
 |_,_,.cons r .nil=>⟨_,rfl,r⟩
def Vals.zero:∀{us:O db},Vals [] us->us=[]
 |_,.nil=>rfl
def Vals.dropLast(h:Vals xs us):Vals xs.dropLast us.dropLast:=by
 induction h with
 |nil=>exact .nil
 |cons r t ih=>
  cases t with
  |nil=>exact .nil
  |cons q t'=>exact .cons r ih
theorem Vals.eraseIdx:∀{xs:O V}{us:O db} (i:Nat),Vals xs us->Vals (xs.eraseIdx i) (us.eraseIdx i)
 |_,_,_,.nil=>.nil
 |_,_,0,.cons _ t=>t
 |_,_,i+1,.cons r t=>.cons r (Vals.eraseIdx i t)
theorem xU(l:List α):l.eraseIdx (l.length-1)=l.dropLast:=by
 induction l with
 |nil=>rfl
 |cons a r ih=>
  cases r with
  |nil=>rfl
  |cons b r=>
   have e:(a::b::r).length-1=((b::r).length-1)+1:=by
    have h1:(a::b::r).length=r.length+2:=rfl;have h2:(b::r).length=r.length+1:=rfl;lia
   rw[e,ED,ih]
   all_goals rfl
theorem qM:∀(l:List α) (i:Nat),(l.eraseIdx i).length<=l.length
 |[],_=>Am _
 |_::_,0=>Em _
 |_::r,i+1=>Nat.succ_le_succ (qM r i)
section
variable{l:f8}
def Inv.GD{f:Array db->Array db}{t':Nat}(I:Inv X U σ H s)(hH:H l=bn (.lst xs))(e:s.heap.get? l=bn {cls:=.type "list",data:=.seq aj.toArray n})(hf:f aj.toArray=dc.toArray)(hv:Vals ys dc)(hz:ys.length<=sizeLine):Inv X U σ (upd H l (.lst ys)) {s with heap:=s.heap.update l (BC f),toks:=t'}:=by
 have q:=PySem.IsL.update e f;rw[hf]at q;refine I.write (by rw[hH];exact trivial) (.inl rfl) (λb' u hb hu=>(Bz s.heap (BC f) (BU hb)).trans hu) ⟨_,q⟩ ?_;exact⟨hz,dc,_,hv,q⟩
def Inv.Wn{t':Nat}(I:Inv X U σ H s)(hv:Vals ys aj)(hz:ys.length<=sizeLine):Inv X U σ (upd H s.heap.objs.size (.lst ys)) {s with heap:=s.heap.push {cls:=.type "list",data:=.seq aj.toArray},toks:=t'}:=
 I.laid (λ_ _ q=>Af _ q) (Am _) ⟨hz,aj,0,hv,Al _ rfl⟩
def Inv.fresh(I:Inv X U σ H s):H s.heap.objs.size=cr:=I.bC.fresh (Am _)
def Inv.pB(I:Inv X U σ H s)(hH:H l=bn (.lst xs)):xs.length<=sizeLine/\∃(aj:O db) (n:Nat),Vals xs aj/\xs.length=aj.length/\s.heap.get? l=bn {cls:=.type "list",data:=.seq aj.toArray n}:=by
 obtain⟨z,aj,n,r,e⟩:=I.bC l _ hH;exact⟨z,aj,n,r,r.length,e⟩
theorem nX(h:n<=sizeLine):Builtin.List.listTooLong n=false:=by
 exact decide_eq_false ∅
end
section
def MC:V->O V->Hp->VK->Prop:=λx vs H Q=>∃l xs y,x=.ref l/\vs=[y]/\H l=bn (.lst xs)/\xs.length<sizeLine/\Q .az (upd H l (.lst (xs++[y])))
theorem GC:FY X "list.append" MC:=by
 intro U s σ H x vs v us Q I rx rv h;obtain⟨l,xs,y,rfl,rfl,hH,hz,q⟩:=h;cases rx;obtain⟨u,rfl,ru⟩:=rv.one;obtain⟨z,aj,n,r,hl,e⟩:=I.pB hH;refine ss F.slot_list_append ⟨_,e,rfl⟩ F.entry_list_append (F.args_list_append_2 _ _) (PySem.list_append l aj.toArray n u (by rw[Ah];lia)) ⟨e,?_⟩;refine⟨.az,_,I.GD hH e (by simp) (r.append (.cons ru .nil)) ?_,rfl,q⟩;rw[Ag,BN];lia
def Mz:V->O V->Hp->VK->Prop:=λx vs H Q=>∃l b xs zs,x=.ref l/\vs=[.ref b]/\H l=bn (.lst xs)/\H b=bn (.lst zs)/\xs.length+zs.length<=sizeLine/\Q .az (upd H l (.lst (xs++zs)))
theorem TU:FY X "list.extend" Mz:=by
 intro U s σ H x vs v us Q I rx rv h;obtain⟨l,b,xs,zs,rfl,rfl,hH,hB,hz,q⟩:=h;cases rx;obtain⟨u,rfl,ru⟩:=rv.one;cases ru;obtain⟨z,aj,n,r,hl,e⟩:=I.pB hH;obtain⟨z2,cI,n2,r2,LN,e2⟩:=I.pB hB;have pf:aj.toArray.size+cI.toArray.size<=sizeLine:=by rw[Ah,Ah];lia
 have vw:¬(!aj.toArray.isEmpty&&Builtin.List.listTooLong (aj.toArray.size+cI.toArray.size))=true:=by
  rw[nX pf,CB];exact A6
 refine ss D6 ⟨_,e,rfl⟩ DP (DA _ _)
  (AutoSeq1.list_extend_list_list_0 l aj.toArray n b cI.toArray n2 vw (by rw[Ah];lia) ∅) ⟨e,e2,?_⟩
 refine⟨.az,_,I.GD hH e (by simp) (r.append r2) ?_,rfl,q⟩;rw[Ag];lia
def aaK:V->O V->Hp->VK->Prop:=λx vs H Q=>∃l xs y,x=.ref l/\vs=[]/\H l=bn (.lst xs)/\xs[xs.length-1]?=bn y/\Q y (upd H l (.lst xs.dropLast))
theorem RL:FY X "list.pop" aaK:=by
 intro U s σ H x vs v us Q I rx rv h;obtain⟨l,xs,y,rfl,rfl,hH,hy,q⟩:=h;cases rx;have hus:=rv.zero;subst hus;obtain⟨z,aj,n,r,hl,e⟩:=I.pB hH;obtain⟨u,hu,ru⟩:=r.get hy;have hy':aj.toArray[aj.toArray.size-1]?=bn u:=by
  show aj.toArray[aj.length-1]?=bn u;rw[<- AA,<- hl];exact hu
 refine ss F.slot_list_pop ⟨_,e,rfl⟩ F.entry_list_pop (F.args_list_pop_1 _) (MeetsSeq.list_pop_last l aj.toArray n u hy' (by rw[Ah];lia)) ⟨e,?_⟩;refine⟨y,_,I.GD hH e ?_ r.dropLast ?_,ru,q⟩
 .rw[Ah,Dy,xU]
 .rw[List.length_dropLast];lia
def Q6:V->O V->Hp->VK->Prop:=λx vs H Q=>∃l xs i k y,x=.ref l/\vs=[.int i]/\H l=bn (.lst xs)/\-(2 ^ 63)<=i/\i<2 ^ 63/\seqIndex? i xs.length=bn k/\xs[k]?=bn y/\Q y (upd H l (.lst (xs.eraseIdx k)))
theorem JJ:FY X "list.pop" Q6:=by
 intro U s σ H x vs v us Q I rx rv h;obtain⟨l,xs,i,k,y,rfl,rfl,hH,h1,h2,hk,hy,q⟩:=h;cases rx;obtain⟨u,rfl,ru⟩:=rv.one;obtain⟨t,rfl⟩:=ru;obtain⟨z,aj,n,r,hl,e⟩:=I.pB hH;obtain⟨w,hw,yW⟩:=r.get hy;refine ss F.slot_list_pop ⟨_,e,rfl⟩ F.entry_list_pop (F.args_list_pop_2 _ _)
  (MeetsSeq.list_pop_at l aj.toArray n i t k w (fitsIndex_both h1 h2) (by rw[Ah,<- hl];exact hk) (by rw[<- AA];exact hw) (by rw[Ah];lia)) ⟨e,?_⟩
 refine⟨y,_,I.GD hH e ?_ (r.eraseIdx k) ?_,yW,q⟩
 .rw[Dy]
 .have:=qM xs k;lia
def aaM:R2:=λx y H Q=>∃l b xs zs,x=.ref l/\y=.ref b/\H l=bn (.lst xs)/\H b=bn (.lst zs)/\xs.length+zs.length<=sizeLine/\∀p,H p=cr->Q (.ref p) (upd H p (.lst (xs++zs)))
theorem Rx:gp X (ut .Add) aaM:=by
 intro U s σ H x y v u Q I rx ry h;obtain⟨l,b,xs,zs,rfl,rfl,hH,hB,hz,q⟩:=h;cases rx;cases ry;obtain⟨z,aj,n,r,hl,e⟩:=I.pB hH;obtain⟨z2,cI,n2,r2,LN,e2⟩:=I.pB hB;refine PySem.P.add_list e e2 ?_ (by rw[Ah,Ah];lia);have ea:aj.toArray++cI.toArray=(aj++cI).toArray:=by simp
 rw[ea];exact⟨.ref _,_,I.Wn (r.append r2) (by rw[Ag];lia),rfl,q _ I.fresh⟩
end
end L2
variable{v:L2.V}{aD:O (O L2.Key×L2.V)}{OS:O (L2.TE×L2.TE)}
namespace L2
section
variable{κ:Type}[DecidableEq κ]
def putK(aD:O (κ×V))(k:κ)(v:V):O (κ×V):=
 if (aD.any λkv=>decide (kv.1=k))=true then aD.map (λkv=>if kv.1=k then (kv.1,v) else kv) else aD++[(k,v)]
theorem ve(aD:O (κ×V))(k:κ)(v:V):(putK aD k v).length<=aD.length+1:=by
 unfold putK
 split
 .rw[Aq];lia
 .rw[Ag,Ay,DL];lia
def KV.any{aD:O (κ×V)}{vs:O (κ×db)}(r:KV aD vs)(k:κ):(aD.any λkv=>decide (kv.1=k))=vs.any λkv=>decide (kv.1=k):=by
 induction r with
 |nil=>rfl
 |cons h t ih=>rw[CP,CP,ih,h.1]
def KV.aav{aD:O (κ×V)}{vs:O (κ×db)}(r:KV aD vs)(k:κ)(ry:RelV y u):KV (aD.map λkv=>if kv.1=k then (kv.1,y) else kv) (vs.map λkv=>if kv.1=k then (kv.1,u) else kv):=by
 induction r with
 |nil=>exact .nil
 | @cons p q ps qs h t ih=>
  rw[Bq,Bq];refine .cons ?_ ih;obtain⟨h1,h2⟩:=h;by_cases e:p.1=k
  .rw[if_pos e,if_pos (h1.symm.trans e)];exact⟨h1,ry⟩
  .rw[if_neg e,if_neg (λz=>e (h1.trans z))];exact⟨h1,h2⟩
def KV.put{aD:O (κ×V)}{vs:O (κ×db)}(r:KV aD vs)(k:κ)(ry:RelV y u):KV (putK aD k y) (stored vs k u):=by
 unfold putK stored;rw[r.any k];by_cases e:(vs.any λkv=>decide (kv.1=k))=true
 .rw[if_pos e,if_pos e];exact r.aav k ry
 .rw[if_neg e,if_neg e];exact Paired.snoc r ⟨rfl,ry⟩
end
def Pn{k:Key}(r:RelV (kV k) u):(bp P w).is k u=true:=by
 cases k with
 |inl i=>obtain⟨t,e⟩:=(r);subst e;exact mq P w i t
 |inr x=>obtain⟨t,e⟩:=(r);subst e;exact mn P w x t
theorem qS:∀{ks:O Key}{us:O db},Vals (ks.map kV) us->ItemsAre (bp P w) ks us
 |[],_,r=>by rw[Dt]at r;cases r;exact .nil
 |k::ks,_,r=>by
  cases r with
  |cons h t=>exact .cons (Pn h) (qS t)
abbrev KT(H:Hp):O (O Key×V)->O (O Key×f8×db)->Prop:=Paired λp q=>p.1=q.1/\H q.2.1=bn (.tup (p.1.map kV))/\RelV p.2 q.2.2
def KT.keeps{xs:O (O Key×f8×db)}(r:KT H aD xs)(ht:∀b ys,H b=bn (.tup ys)->H' b=bn (.tup ys)):KT H' aD xs:=
 Paired.RP r λ_ _ z=>⟨z.1,ht _ _ z.2.1,z.2.2⟩
section
def O4{u:HO}(ok:lg P w H h)(e:Rd H a u):bA P w H h a u:=e.ok ok
def vK{aD:O (Key×V)}(ok:lg P w H h)(e:Rd H a (.dK aD)):aD.length<=sizeLine/\(a==xL)=false/\∃vs,KV aD vs/\h.DictOf (bp P w) a vs:=
 show bA P w H h a (.dK aD) from O4 ok e
def XF{aD:O (Key×V)}(ok:lg P w H h)(e:H a=bn (.dK aD)):aD.length<=sizeLine/\(a==xL)=false/\∃vs,KV aD vs/\h.DictOf (bp P w) a vs:=vK ok (.inl e)
def R8{ks:O Key}(ok:lg P w H h)(e:H a=bn (.tup (ks.map kV))):(tupleKind (bp P w)).is h ks a:=by
 obtain⟨_,aj,r,⟨o,h1,h2,n,h3⟩,_⟩:=(show bA P w H h a (.tup (ks.map kV)) from ok a _ e);exact⟨o,aj.toArray,n,h1,h2,h3,by simpa using qS r⟩
def zX(ok:lg P w H h)(e:Rd H a (.dT aD)):aD.length<=sizeLine/\(a==xL)=false/\ ∃xs,KT H aD xs/\h.DictOfH (tupleKind (bp P w)) a xs:=by
 obtain⟨z,y,xs,r,o,es,ep,h1,h2,h3,h4,h5⟩:=(O4 ok e);refine⟨z,y,xs,r,o,es,ep,h1,h2,h3,h4,λx hx=>?_,h5⟩;have all:∀{l:O (O Key×V)}{m:O (O Key×f8×db)},KT H l m->∀x∈m,(tupleKind (bp P w)).is h x.1 x.2.1:=by
  intro l m q
  induction q with
  |nil=>intro x hx;exact nomatch hx
  | @cons p q ps qs hq t ih=>
   intro x hx;rcases Aw.mp hx with e|hx
   .subst e;exact R8 ok (by rw[<- hq.1];exact hq.2.1)
   .exact ih x hx
 exact all r x hx
end
section
def Inv.big(I:Inv X U σ H s):xL<s.heap.objs.size:=by
 exact Nat.lt_trans ⋯ ((I.mod.glob.keeps I.bk).lt)
def Ol{t':Nat}{ob:HO}(I:Inv X U σ H s)(mu:X4 (H a))(hs:A9 a s.heap h')(he:∃q,h'.get? a=bn q)(new:bA X.prog X.w (upd H a ob) h' a ob):Inv X U σ (upd H a ob) {s with heap:=h',toks:=t'}:=
 I.write (x:=a) (e:=a) mu (.inl rfl) (λb q hb z=>(hs.2 b hb).trans z) he new
def S8{aD:O (Key×V)}{vs:O (Key×db)}(z:aD.length<=sizeLine)(hd:(a==xL)=false)(ß:KV aD vs)(dd:h'.DictOf (bp P w) a vs):bA P w H' h' a (.dK aD):=⟨z,hd,vs,ß,dd⟩
end
def vM(h:im)(hb:xL < h.objs.size):bA P w H (h.push {cls:=.type "dict",data:=.dict #[]}) h.objs.size (.dK []):=
 ⟨A7 _,beq_eq_false_iff_ne.mpr (BU (Ar hb)),[],.nil,Heap.DictOf.new h⟩
def Qz:TE:=λ_ H Q=>∀p,H p=cr->Q (.ref p) (upd H p (.dK []))
section
def Jn:PE X (.Dict [] [] pos) Qz:=λU s σ H Q I h=>
 wpAny_Dict_empty ⟨.ref s.heap.objs.size,_,I.laid (λ_ _ q=>Af _ q) (Am _) (vM s.heap I.big),rfl,h _ (I.bC.fresh (Am _))⟩
end
def wH:O (TE×TE)->St->Hp->(O (V×V)->Hp->Prop)->Prop
 |[],_,H,Q=>Q [] H
 |(tk,tv)::r,σ,H,Q=>tk σ H λx H1=>tv σ H1 λy H2=>wH r σ H2 λps H3=>Q ((x,y)::ps) H3
abbrev VV:O (V×V)->O (db×db)->Prop:=Paired λp q=>RelV p.1 q.1/\RelV p.2 q.2
def ZD(X:Cx)(pos:Pos)(Ï:O (Option lc))(Ê:O lc)(OS:O (TE×TE)):Prop:=
 ∀(U:O (f8×Obj)) (s:em) (σ:St) (H:Hp) (Q:O (V×V)->Hp->Prop),Inv X U σ H s->wH OS σ H Q->
  ga (ge X.prog X.w) X.A (evalPairs (pairTrees Ï Ê X.env pos)) (λvs s'=>∃ps H',Inv X U σ H' s'/\VV ps vs/\Q ps H') X.xe s
def MD:ZD X pos [] [] []:=λU s σ H Q I h=>pairTrees_nil_walk ⟨[],H,I,.nil,h⟩
def Jk{k v:lc}{ks:O (Option lc)}{vs:O lc}{tk tv:TE}(hk:PE X k tk)(hv:PE X v tv)(hr:ZD X pos ks vs OS):ZD X pos (bn k::ks) (v::vs) ((tk,tv)::OS):=λU s σ H Q I h=>
 pairTrees_cons_walk (bS (hk U s σ H _ I h) λu s1 ⟨x,H1,I1,rx,q1⟩=>bS (hv U s1 σ H1 _ I1 q1) λw2 s2 ⟨y,H2,I2,ry,q2⟩=>
  bS (hr U s2 σ H2 _ I2 q2) λws s3 ⟨ps,H3,I3,ß,q3⟩=>⟨(x,y)::ps,H3,I3,.cons ⟨rx,ry⟩ ß,q3⟩)
def n5(aD more:O (Key×V)):O (Key×V):=more.foldl (λÁ kv=>putK Á kv.1 kv.2) aD
def KV.merge:∀{more:O (Key×V)}{rs:O (Key×db)}{aD:O (Key×V)}{vs:O (Key×db)},KV more rs->KV aD vs->KV (n5 aD more) (merged vs rs):=by
 intro more rs aD vs r
 induction r generalizing aD vs with
 |nil=>intro q;exact q
 | @cons p q ps qs h t ih=>
  intro r0;have e:KV (putK aD p.1 p.2) (stored vs q.1 q.2):=by
   have:=r0.put p.1 h.2;rw[<- h.1];exact this
  exact ih e
theorem ju:∀(more aD:O (Key×V)),(n5 aD more).length<=aD.length+more.length
 |[],aD=>by show aD.length<=aD.length+0;lia
 |p::r,aD=>by
  have h1:=ju r (putK aD p.1 p.2);have h2:=ve aD p.1 p.2;show(n5 (putK aD p.1 p.2) r).length<=_;rw[Ay];lia
theorem o7{P:pr}{w:t0}:∀{aD:O (Key×V)}{ws:O (db×db)},VV (aD.map λkv=>(kV kv.1,kv.2)) ws->∃rs,Carries (bp P w) ws rs/\KV aD rs
 |[],_,r=>by rw[Dt]at r;cases r;exact⟨[],B4,.nil⟩
 |p::aD,_,r=>by
  rw[Bq]at r;cases r with
  | @cons a b as bs h t=>
   obtain⟨rs,c,q⟩:=o7 t;obtain⟨b1,b2⟩:=b;exact⟨(p.1,b2)::rs,⟨Pn h.1,rfl,c⟩,.cons ⟨rfl,h.2⟩ q⟩
def Vd(OS:O (TE×TE)):TE:=λσ H Q=>∀p,H p=cr->wH OS σ (upd H p (.dK [])) λps H2=>H2 p=bn (.dK [])/\∃aD:O (Key×V),ps=aD.map (λkv=>(kV kv.1,kv.2))/\aD.length<=15/\Q (.ref p) (upd H2 p (.dK (n5 [] aD)))
theorem MV{Ï:O (Option lc)}{Ê:O lc}(h:ZD X pos Ï Ê OS)(tB:Ï.all (·.isSome)=true)(hl:Ï.length=Ê.length)(h0:Ï≠[])(h15:Ï.length<=15):PE X (.Dict Ï Ê pos) (Vd OS):=by
 intro U s σ H Q I q;have hn:=I.bC.fresh (Am s.heap.objs.size);refine wpAny_Dict_walk (knd:=bp X.prog X.w) tB hl h0 h15 (bS (h U _ σ _ _ (I.laid (a:=s.heap.objs.size) (t':=s.toks) (λ_ _ q=>Af _ q) (Am _) (vM s.heap I.big)) (q _ hn)) λws s2 ⟨ps,H2,I2,ß,e,aD,ep,lk,q2⟩=>?_);subst ep;obtain⟨rs,c,rk⟩:=o7 ß;obtain⟨z,hd,vs0,r0,dd⟩:=XF I2.bC e;cases r0;refine⟨rs,c,dd,λh' dd' hs=>⟨.ref s.heap.objs.size,_,?_,rfl,q2⟩⟩;have hz:(n5 [] aD).length<=sizeLine:=by
  have h1:=ju aD [];rw[DL]at h1;rw[r9];lia
 have he:∃q,h'.get? s.heap.objs.size=bn q:=let ⟨q,_,_,hq,_⟩:=dd';⟨q,hq⟩;exact Ol I2 (by rw[e];exact B4) hs he (S8 hz hd (rk.merge .nil) dd')
structure M2(X:Cx)(o:lc)(m:Str)(Â:Pos)(e f:lc)(bW:Pos):Prop where
 base:sK o m X.env (r6 o X.env)=r6 o X.env
 few:((backTo bW (ii [e,f] X.env)).all (λx=>!x.1)&&(backToKw bW (keywordEach [] X.env)).all (λx=>x.1.isSome)
  && decide (([e,f]:List lc).length+([]:List Keyword).length+(if ([]:List Keyword).isEmpty then 0 else 1)<30))=true
 line:(Â.endLine==bW.line)=true
 trees:backTo bW (ii [e,f] X.env)=[(false,r6 e X.env),(false,r6 f X.env)]
def IsD(H:Hp)(a:f8):Prop:=(∃aD,Rd H a (.dK aD))\/∃aD,Rd H a (.dT aD)
end L2
variable{l:OpenLaw}{Ô:O B0}{XP:(B0->Option AV)->D9->Prop}{YP:PySem.World->D9->Prop}
namespace Att
open PySem PySem.W PySem.Calls PyProof.Rows
def mR{P:Params}:∀(ns:O Int) (vs:O db),WellAll P h vs (ns.map WData.int)->IntsAre vs ns:=by
 intro ns
 induction ns with
 |nil=>
  intro vs w;cases w;exact .nil
 |cons n ns ih=>
  intro vs w;cases w with
  |cons a b=>
   cases a;exact .cons _ _ (ih _ b)
theorem Gh(hn:l.most=bn n){P:Params}{args:O WData}{Ú:O db}(NT:l.row.toRowW.claim.pre args=true)(ê:WellAll P h Ú args):∃a vs ns,Ú=[Value.ref a]/\args=[WData.list (ns.map WData.int)]/\h.get? a=bn {cls:=.type "list",data:=.seq vs.toArray}/\IntsAre vs ns/\ns.length<=n:=by
 have hc:l.pre.holds [] {args:=args}=true:=(pre_splitW NT).2;obtain⟨d,r,rfl,h1,h2⟩:=hasAllW_cons ((pre_splitW NT).1);obtain rfl:=hasAllW_nil h2;obtain⟨xs,rfl,h3⟩:=hasW_list h1;obtain⟨ns,rfl⟩:=items_int h3;have À:ns.length<=n:=by
  unfold OpenLaw.pre at hc;have h4:(WTm.not (.lt (.lit (.int (n:Int))) (.len (.arg 0)))).holds [] {args:=[.list (ns.map .int)]}=true:=by
   have h4:=(holds_andW hc).1;rw[hn]at h4;exact h4
  have h5:=condW_of h4 (w_not (w_lt w_lit (w_len_list (w_arg rfl))));refine Nat.le_of_not_lt λq=>?_
  first
   |(rw[decide_eq_true q']at h5;exact absurd h5 ⋯)
   |(simp at h5;lia)
 cases ê with
 |cons w1 w2=>
  cases w2;cases w1 with
  |list ho tB=>exact⟨_,_,ns,rfl,rfl,ho,mR ns _ tB,À⟩
def Gs(l:OpenLaw)(args:O WData):l.row.toRowW.claim.post args (.bool true) args=true:=
 postW_of
  (show WShape.has [] (.bool true) .bool=true by first|rfl|decide|simp[WShape.has,WShape.arms])
  (w_eq_bool (w_res rfl) w_lit) rfl
def vU{q:pr}{d:DefRec}(hn:l.most=bn n)(ö:d.params.defaults=[])(call:∀(w:t0) (s₀ s₁:em) (mg mb:Str->Option db) (fa:f8) (o:Obj) (pm cd Ç:db) (a:f8) (vs:O db) (ns:O Int),
   Ground q Ô [] XP w s₀ mg mb s₁.heap->YP w s₁.heap->
   s₁.heap.get? fa=bn o->o.data=.func (docDef d.name d.params d.body d.scope pm cd Ç)->s₁.heap.CodeRec cd d.name->mg d.name=bn (.ref fa)->
   s₁.heap.get? a=bn {cls:=.type "list",data:=.seq vs.toArray}->IntsAre vs ns->ns.length<=n->s₁.gens=#[]->
   FB (ge l.prog w) callerA (.call (.ref fa) ⟨[.ref a],[]⟩) (λr s'=>r=.ok (.ret (.bool true))/\OldK s₁.heap s'.heap/\s'.os=s₁.os/\IR s'.gens) s₁):WalkO q Ô XP YP l.row.toRowW d [] (λf vs=>PySem.call f vs):=by
 intro w s₀ s₁ mg mb G Y fa o pm cd Ç dV kV ho hd iC hD hmg hg args Ú as NT afT hrd ê hlo;obtain rfl:dV=.none:=Dflts.none hD ö;obtain rfl:kV=.none:=Dflts.noKw hD;obtain⟨a,vs,ns,rfl,rfl,Sq,Õ,À⟩:=Gh hn NT ê;refine enter_call (wf (call w s₀ s₁ mg mb fa o pm cd Ç a vs ns G Y ho (fd_plain hd) iC hmg Sq Õ À hg) λr s' hq=>?_);obtain⟨rfl,h2,h3,h4⟩:=hq;exact⟨.inl ⟨.bool true,.bool true,[],rfl,λ_=>rfl,.bool true,Gs l _,λ_=>⟨List.Pairwise.nil,λ_ hm=>(nomatch hm)⟩⟩,h2,h3,h4⟩
end Att
namespace L2
theorem qp:∀{vs:O db}{ns:O Int},IntsAre vs ns->Vals (ns.map V.int) vs
 |_,_,.nil=>.nil
 |_,_,.cons n t h=>.cons ⟨t,rfl⟩ (qp h)
end L2
variable{sp:L2.Sp}{B:Prop}
namespace L2
def dX(s:u8):Arguments:=match s with
 |.FunctionDef _ a _ _ _ _ _ _ _ _=>a
 |_=>{posonlyargs:=[],args:=[],vararg:=cr,kwonlyargs:=[],kw_defaults:=[],kwarg:=cr,defaults:=[]}
def ck(s:u8):O u8:=match s with
 |.FunctionDef _ _ b _ _ _ _ _ _ _=>b
 |_=>[]
def aB(s:u8):ul:=match s with
 |.FunctionDef _ _ _ _ _ _ sc _ _ _=>sc
 |_=>{kind:=.function,names:=[],isGenerator:=false,isCoroutine:=false}
abbrev v9:OM:=λ_ _ _ _ _ _=>False
abbrev E0:XK:=λ_ _ _=>False
def VU:Passes v9 X E0:=λ_ _ _ _ _ _ _ h=>h.elim
structure OJ(K:Ab)(x qual:Str)(st:u8)(f:f8)(fd:FuncData):Prop where
 ex:∃(oc:db) (od:Option f8) (kV Ç pm:db) (an:Option f8) (ek ct:db) (M0:Array (Option db)),
  fd=BS x qual (dX st) (ck st) (aB st) .none kV Ç pm an ek ct/\K.lookup f=bn ⟨oc,od,.func fd,M0⟩/\D1 K ek qual=true
 kp:DW K (.ref f)=true
section
variable{K:Ab}
def OJ.ok{st:u8}{f:f8}{N:O Str}(F:OJ K x qual st f fd)(S:dZ N ps (aB st))(len:∀vs H Q E,sp vs H Q E->vs.length=ps.length)(Kn:∀(ek:db) (A:sB) (outer:O Env) (s:em) (H:Hp) (vs:O V) (Q:VK) (E:XK),cY k (A.deeper (FM qual (aB st) s.heap.objs.size f ek))->sp vs H Q E->
   ∃t,lh (qb v9 P w K mg base N qual (aB st) f ek A outer s H E).Pb (ck st) t/\t {nx:=λ_ H'=>Q .az H',rt:=Q} (start N vs) H):js P w K mg base v9 (k+1) f fd ps sp:=by
 obtain⟨oc,od,kV,Ç,pm,an,ek,ct,M0,rfl,lk,iC⟩:=F.ex;refine Xk lk iC S len λA outer s H vs Q E hr T4=>?_;obtain⟨t,h,q⟩:=Kn ek A outer s H vs Q E hr T4;exact⟨t,h.Pb,q⟩
def OJ.binds{st:u8}{f:f8}(F:OJ K x qual st f fd)(h:∀(kV Ç pm:db) (an:Option f8) (ek ct:db) (us:O db),us.length=ps.length->bindArgs (BS x qual (dX st) (ck st) (aB st) .none kV Ç pm an ek ct) ⟨us,[]⟩=pure (ps.zip us)):Binds K fd ps []:=by
 obtain⟨oc,od,kV,Ç,pm,an,ek,ct,M0,rfl,lk,iC⟩:=F.ex;exact .all (h kV Ç pm an ek ct)
def SS{st:u8}{f:f8}{kV:db}(l:K.lookup f=bn ⟨oc,od,.func (BS x qual (dX st) (ck st) (aB st) .none kV Ç pm an ek ct),M0⟩)(c:D1 K ek qual=true)(k:DW K (.ref f)=true):OJ K x qual st f (BS x qual (dX st) (ck st) (aB st) .none kV Ç pm an ek ct):=⟨⟨oc,od,kV,Ç,pm,an,ek,ct,M0,rfl,l,c⟩,k⟩
end
def Gb(h:n<=1000):n<sizeLine:=Dh h ⋯
section
def pv(i:Nat)(hN:‹X.N[i]?=bn x›)(hv:FV X.env.scope x:=by first|exact Ca rfl|exact B3 (Ca rfl)|exact B3 (B3 rfl))(hd: ~~~(iM x))(iC: ~~~(HQ x)):PE X (.Name x pos) (Qx i):=fF hN hv hd iC
end
def sY{A:Prop}(h:B):if false=true then A else B:=by
 exact h
def sX{A:Prop}(h:A):if true=true then A else B:=by
 exact h
def iL(H H':Hp):Prop:=∀b o,H b=bn o->H' b=bn o
def iL.refl(H:Hp):iL H H:=λ_ _ h=>h
end L2
variable{b:Nat}{H2:L2.Hp}{R:PySem.Result->C2->Prop}{Xs:PySem.Scope}{N':O B0}{ix:O (Option Nat)}{env:PySem.Env}{cl:O (B0×Bi)}{Å:B6}{Æ:O B6}{s2:C2}{mI:Cu}
namespace L2
def lsz(e:h.get? b=bn o):b<h.objs.size:=Ak e
def neN{a:Nat}(h:a≠b):a≠b:=h
def ltN{a:Nat}(h:a<b):a<b:=h
def P6{c:Nat}{v:Option db}(q:h.IsCell c v):c<h.objs.size:=q.lt
structure bh(Xs:ul)(N:List Str)(sc:ul)(N':List Str)(ix:List (Option Nat)):Prop where
 kind:sc.kind=.function
 nc:∀y∈sc.names,y.2=.cell->sc.names.lookup y.1=bn .cell
 loc:∀y∈sc.names,y.2=.local->sc.names.lookup y.1=bn .local
 fr:∀y∈sc.names,y.2=.free->(Xs.names.lookup y.1=bn .cell\/Xs.names.lookup y.1=bn .free)
 nd:N'.Nodup
 len:ix.length=N'.length
 map:((ix.zip N').all λp=>match p.1 with|none=>true|some j=>decide (N[j]?=bn p.2)&&decide (sc.names.lookup p.2=bn .free))=true
def bh.at{N:O Str}(S:bh Xs N sc N' ix){i:Nat}(h1:ix[i]?=bn (bn j))(h2:N'[i]?=bn x):N[j]?=bn x/\sc.names.lookup x=bn .free:=by
 have hm:((bn j,x):Option Nat×Str)∈ix.zip N':=by
  refine Ao (i:=i) ?_;rw[List.getElem?_zip_eq_some];exact⟨h1,h2⟩
 have q:=AG.mp S.map _ hm;simp at q;exact q
def kU(ix:O (Option Nat))(σ:St):St:=ix.map λo=>match o with|some j=>(σ[j]?).getD cr|none=>cr
def er(X:Cx)(sc:ul)(N':O Str)(cl:O (Str×f8))(C:f8)(s2:em)(H2:Hp)(fp:O f8):Cx where
 prog:=X.prog
 w:=X.w
 K:=X.K
 mg:=X.mg
 base:=X.base
 A:=X.A
 N:=N'
 s₀:=s2
 H₀:=H2
 env:=compEnvC sc cl C X.env
 outer:=X.stack
 stack:=X.stack
 ex:=fp
 calm:=X.calm
 fn:=λx=>sc.names.lookup x==bn .cell
 pn:=[]
 xe:=λ_ _=>False
theorem j6:∀(names:O (Str×v0)) (cs:O (Str×f8)),(∀y∈names,y.2=.free->∃c,env.cells.lookup y.1=bn c)->
  ∃cl,(forIn names cs λ(x:Str×v0) (c:O (Str×f8))=>(match x with|(name,kind)=>do
    let c <- if (kind==Bn)=true then do let a <- cellOf env name;pure ((name,a)::c) else pure c
    pure (Cj c):Sem (ForInStep (O (Str×f8)))))=pure cl/\(∀x c,cl.lookup x=bn c->cs.lookup x=bn c\/(env.cells.lookup x=bn c/\(x,Bn)∈names))/\(∀x,((x,Bn)∈names\/(∃c,cs.lookup x=bn c))->∃c,cl.lookup x=bn c)
 |[],cs,_=>⟨cs,rfl,λ_ _ h=>.inl h,λx h=>h.elim (λz=>nomatch z) λz=>z⟩
 |(n,k)::r,cs,h=>by
  by_cases hk:k=.free
  .subst hk;obtain⟨c,hc⟩:=h (n,.free) Bo rfl;obtain⟨cl,e,h1,h2⟩:=j6 r ((n,c)::cs) λy hy=>h y (AN _ hy);refine⟨cl,?_,λx d hd=>?_,λx hx=>?_⟩
   .rw[Bx,<- e];simp only[beq_self_eq_true,if_true,cellOf,hc,pure_bind]
   .rcases h1 x d hd with z|⟨z1,z2⟩
    .rw[AO]at z;by_cases hx:(x==n)=true
     .rw[hx]at z;have vt:x=n:=eq_of_beq hx;subst vt;cases z;exact .inr ⟨hc,Bo⟩
     .have vt:(x==n)=false:=by simpa using hx
      rw[vt]at z;exact .inl z
    .exact .inr ⟨z1,AN _ z2⟩
   .refine h2 x ?_;rcases hx with hx|⟨d,hd⟩
    .rcases Aw.mp hx with z|z
     .injection z with z1 _;subst z1;exact .inr ⟨c,by rw[AO];simp⟩
     .exact .inl z
    .by_cases hx:(x==n)=true
     .exact .inr ⟨c,by rw[AO,hx]⟩
     .have vt:(x==n)=false:=by simpa using hx
      exact .inr ⟨d,by rw[AO,vt];exact hd⟩
  .obtain⟨cl,e,h1,h2⟩:=j6 r cs λy hy=>h y (AN _ hy);refine⟨cl,?_,λx d hd=>?_,λx hx=>?_⟩
   .have hb:(k==Bn)=false:=by simpa using hk
    rw[Bx,<- e];simp only[hb,An,if_false,pure_bind]
   .rcases h1 x d hd with z|⟨z1,z2⟩
    .exact .inl z
    .exact .inr ⟨z1,AN _ z2⟩
   .refine h2 x ?_;rcases hx with hx|hx
    .rcases Aw.mp hx with z|z
     .injection z with _ z2;exact absurd z2.symm hk
     .exact .inl z
    .exact .inr hx
def jF(h:∀y∈sc.names,y.2=.free->∃c,env.cells.lookup y.1=bn c):∃cl,closureFor sc env=pure cl/\(∀x c,cl.lookup x=bn c->env.cells.lookup x=bn c/\(x,Bn)∈sc.names)/\(∀x,(x,Bn)∈sc.names->∃c,cl.lookup x=bn c):=by
 obtain⟨cl,e,h1,h2⟩:=j6 sc.names [] h;refine⟨cl,?_,λx c hc=>(h1 x c hc).resolve_left (λz=>nomatch z),λx hx=>h2 x (.inl hx)⟩;unfold closureFor;have e':(forIn sc.names ([]) λx r=>(match x with|(name,kind)=>if (kind==Bn)=true then do let a <- cellOf env name;pure (Cj ((name,a)::r)) else pure (Cj r):Sem (ForInStep (O (Str×f8)))))=pure cl:=by
  rw[<- e]
  first
   |rfl
   |(
     congr 1;funext x r;by_cases hk)
   |simp
 simpa using e'
theorem tR:∀(names:O (Str×v0)) (n:Nat) (Á:O (Str×f8)) (x:Str) (c:f8),(tz n names Á).lookup x=bn c->(Á.lookup x=bn c/\(x,CN)∉names)\/((x,CN)∈names/\n<=c)
 |[],_,_,_,_,e=>.inl ⟨e,λh=>nomatch h⟩
 |(y,k)::r,n,Á,x,c,e=>by
  unfold tz at e
  split at e
  .rename_i hk;have Px:k=.cell:=eq_of_beq hk;subst Px;rcases tR r _ _ x c e with⟨a,b⟩|⟨a,b⟩
   .rw[AO]at a;cases hx:x==y with
    |true=>
     rw[hx]at a;cases a;exact .inr ⟨by rw[eq_of_beq hx];exact Bo,Am _⟩
    |false=>
     rw[hx]at a;refine .inl ⟨a,λh=>?_⟩;rcases Aw.mp h with z|z
     .cases z;simp at hx
     .exact b z
   .exact .inr ⟨AN _ a,Nat.le_of_succ_le b⟩
  .rename_i hk;rcases tR r _ _ x c e with⟨a,b⟩|⟨a,b⟩
   .refine .inl ⟨a,λh=>?_⟩;rcases Aw.mp h with z|z
    .cases z;simp at hk
    .exact b z
   .exact .inr ⟨AN _ a,b⟩
theorem yg:∀(names:O (Str×v0)) (n:Nat) (Á:O (Str×f8)) (x:Str),((x,CN)∈names\/∃c,Á.lookup x=bn c)->∃c,(tz n names Á).lookup x=bn c
 |[],_,_,_,h=>h.elim (λz=>nomatch z) id
 |(y,k)::r,n,Á,x,h=>by
  unfold tz
  split
  .refine yg r _ _ x ?_;cases hx:x==y with
   |true=>exact .inr ⟨n,by rw[AO,hx]⟩
   |false=>
    rcases h with h|⟨c,h⟩
    .rcases Aw.mp h with z|z
     .cases z;simp at hx
     .exact .inl z
    .exact .inr ⟨c,by rw[AO,hx];exact h⟩
  .rename_i hk;refine yg r _ _ x ?_;rcases h with h|h
   .rcases Aw.mp h with z|z
    .cases z;simp at hk
    .exact .inl z
   .exact .inr h
theorem yf:∀(names:O (Str×v0)) (n:Nat) (Á:O (Str×f8)),(∀x y c,Á.lookup x=bn c->Á.lookup y=bn c->x=y)->(∀x c,Á.lookup x=bn c->c<n)->∀x y c,(tz n names Á).lookup x=bn c->(tz n names Á).lookup y=bn c->x=y
 |[],_,_,h,_=>h
 |(z,k)::r,n,Á,h,hl=>by
  unfold tz
  split
  .refine yf r _ _ (λx y c e1 e2=>?_) λx c e=>?_
   .rw[AO]at e1 e2;cases hx:x==z<;>cases hy:y==z<;>rw[hx]at e1<;>rw[hy]at e2
    .exact h x y c e1 e2
    .cases e2;exact absurd (hl _ _ e1) (A0 _)
    .cases e1;exact absurd (hl _ _ e2) (A0 _)
    .rw[eq_of_beq hx,eq_of_beq hy]
   .rw[AO]at e;cases hx:x==z<;>rw[hx]at e
    .exact Be (hl _ _ e)
    .cases e;exact C4 _
  .exact yf r _ _ h hl
theorem tS:∀(names:O (Str×v0)) (h:im) (Á:O (Str×f8)) (x:Str) (c:f8),(tz h.objs.size names Á).lookup x=bn c->Á.lookup x=bn c\/(pushCells h names).IsCell c cr
 |[],_,_,_,_,e=>.inl e
 |(y,k)::r,h,Á,x,c,e=>by
  unfold tz at e;unfold pushCells
  split at e
  .rename_i hk;rw[if_pos hk];rw[<- A1 h {cls:=.type "cell",data:=.cell cr}]at e;rcases tS r _ _ x c e with a | a
   .rw[AO]at a;cases hx:x==y<;>rw[hx]at a
    .exact .inl a
    .cases a;exact .inr ⟨_,pushCells_keeps _ _ _ _ (by rw[A1]at *;exact Al _ rfl),rfl⟩
   .exact .inr a
  .rename_i hk;rw[if_neg hk];exact tS r h Á x c e
def nF{globals:f8}{builtins:f8}{Q:Env->em->Prop}(hQ:∀h',h'.Ns s.heap.objs.size (λ_=>cr)->(∀b o,s.heap.get? b=bn o->h'.get? b=bn o)->(∀x c,(tz (s.heap.objs.size+1) sc.names cl).lookup x=bn c->cl.lookup x=bn c\/h'.IsCell c cr)->
   Q (newEnv sc s.heap.objs.size globals (tz (s.heap.objs.size+1) sc.names cl) qual cr .none (bn env) builtins) {s with heap:=h'}):ga M A (newFunctionEnv sc globals cl [] qual cr .none (bn env) builtins) Q E s:=by
 simp only[newFunctionEnv,Option.isSome_some,if_true];refine Aa (wpAny_alloc ?_);refine Aa (wpAny_layCells _ (λname kind cells=>by cases hkc:kind==CN <;> simp[hkc]) _ _ _ _ ?_);rw[List.forIn_nil,show({s with heap:=s.heap.push {cls:=.type "dict",data:=.dict #[]}}:em).heap.objs.size=s.heap.objs.size+1 from A1 ..];refine Aa (Ae (Ae (hQ _ ((Heap.Ns.new s.heap (.type "dict")).keeps (pushCells_keeps _ _)) (λb o e=>pushCells_keeps _ _ b o (Af _ e)) λx c e=>?_)));rw[<- A1 s.heap {cls:=.type "dict",data:=.dict #[]}]at e;exact tS _ _ _ _ _ e
theorem fi{env:Env}:∀{names:O (Str×v0)}{x:Str},(names.map λ(n,k)=>if (k==Bn&&env.scope.kind==.function&&env.kindOf n==bn .cell) then (n,CN) else (n,k)).lookup x = (names.lookup x).map λk=>if (k==Bn&&env.scope.kind==.function&&env.kindOf x==bn .cell) then CN else k
 |[],_=>rfl
 |(n,k)::r,x=>by
  have ih:=@fi env r x;show List.lookup x ((if (k==Bn&&env.scope.kind==.function&&env.kindOf n==bn .cell)=true then (n,CN) else (n,k))::_)=_;cases hx:x==n with
  |true=>
   have e:=eq_of_beq hx;subst e;by_cases hc:(k==Bn&&env.scope.kind==.function&&env.kindOf x==bn .cell)=true
   .rw[if_pos hc,AO,AO,hx];simp only[Ci,hc,if_true]
   .rw[if_neg hc,AO,AO,hx];simp only[Ci,hc];simp
  |false=>
   by_cases hc:(k==Bn&&env.scope.kind==.function&&env.kindOf n==bn .cell)=true
   .rw[if_pos hc,AO,AO,hx];exact ih
   .rw[if_neg hc,AO,AO,hx];exact ih
def Uv(X:Cx)(Æ:O lc)(t:TT):Prop:=
 ∀(U:O (f8×Obj)) (s:em) (σ:St) (H:Hp) (Q:Bool->Hp->Prop),Inv X U σ H s->t σ H Q->
  ga (ge X.prog X.w) X.A (forIn Æ true λc r=>if r=true then do let ok <- isTrue c X.env (r6 c X.env);pure (Cj ok) else pure (Cj r)) (TP X U σ Q) X.xe s
def aal:TT:=λ_ H Q=>Q true H
def MN:Uv X [] aal:=λU s σ H Q I h=>by
 exact Ae ⟨H,I,h⟩
def MM{c:lc}{t:TT}(hc:PT X c t):Uv X [c] t:=λU s σ H Q I h=>by
 rw[Bx];simp only[if_true,bind_assoc];exact Aa (bS (hc U s σ H Q I h) λb s1 q=>Ae q)
def tLc(ix:O (Option Nat))(wi:TI)(g:TG)(tf:TT)(te:TE):TE:=λσ H Q=>wi σ H λJ H1=>∀D,H1 D=cr->∃W:Nat->Nat->St->O V->Hp->Prop,
 (∃m,W 0 m (kU ix σ) [] (upd H1 D (.lst [])))/\∀i m σ' ys H,W i m σ' ys H->H D=bn (.lst ys)/\
  ((J.stop i H/\Q (.ref D) H)\/(J.go i H/\∀x H',J.Ij i H x H'->g x σ' H' λσ2 H2=>tf σ2 H2 λb H3=>
   if b=true then te σ2 H3 λy H4=>H4 D=bn (.lst ys)/\ys.length+1<=sizeLine/\∃m',m'<m/\W (i+1) m' σ2 (ys++[y]) (upd H4 D (.lst (ys++[y]))) else ∃m',m'<m/\W (i+1) m' σ2 ys H3))
def jn{Ì:lc}{it Á:db}(I:Nat->em->Prop)(turn:∀n s,I n s->ga (ge prog w) A (BT it) (λr s₁=>match r with
   |none=>R (.ok .next) s₁
   |some v=>ga (ge prog w) A (wn Ì it v) (λ_ O0=>ga (ge prog w) A (GM Ì env v) (λ_ s₂=>
     ga (ge prog w) A (forIn Æ true λc r=>if r=true then do let ok <- isTrue c env (r6 c env);pure (Cj ok) else pure (Cj r)) (λok s₃=>
      if ok=true then ga (ge prog w) A (r6 Å env) (λx s₄=>
       ga (ge prog w) A (call (.builtin "list.append") [Á,x]) (λ_ s₅=>∃m,m < n/\I m s₅) (λ_ _=>False) s₄) (λ_ _=>False) s₃
      else ∃m,m<n/\I m s₃) (λ_ _=>False) s₂) (λ_ _=>False) O0) (λ_ _=>False) s₁) (λ_ _=>False) s) n(h:I n s):FB (ge prog w) A (.compLoop (.ListComp Å [⟨Ì,iter,Æ,0⟩] scope pos) 0 it Á env) R s:=by
 refine codeAny_loop rfl I (λn s hI=>?_) n h;refine wpAny_noted ?_;refine Aa (Er (Aa (B9 (turn n s hI) (λr s₁ h₁=>?_) λ_ _ h'=>h'.elim)));cases r with
 |none=>exact Ae h₁
 |some v=>
  refine Aa (B9 h₁ (λ_ O0 WE=>?_) λ_ _ h'=>h'.elim);refine Aa (B9 WE (λ_ s₂ h₂=>Aa (B9 h₂ (λok s₃ h₃=>?_) λ_ _ h'=>h'.elim)) λ_ _ h'=>h'.elim);cases ok with
  |false=>exact Ae ⟨rfl,h₃⟩
  |true=>
   exact Aa (Aa (B9 h₃ (λx s₄ h₄=>Aa (B9 h₄ (λ_ s₅ h₅=>Ae (Ae ⟨rfl,h₅⟩)) λ_ _ h'=>h'.elim)) λ_ _ h'=>h'.elim))
section
variable{wi:TI}{g:TG}{tf:TT}
structure Yh(X:Cx)(U:List (f8×Obj))(H:Hp)(C:f8):Prop where
 hn:H C=cr
 hL:C≠X.env.locals
 ab:X.s₀.heap.objs.size<=C
 cl:∀x c,X.env.cells.lookup x=bn c->c≠C
 pn:∀p∈X.pn++U,p.1≠C
theorem zB(hc:X.calm=true)(S:bh X.env.scope X.N sc N' ix)(hg:∀cl C s2 H2 fp,PG (er X sc N' cl C s2 H2 fp) tg g)(hf:∀cl C s2 H2 fp,Uv (er X sc N' cl C s2 H2 fp) Æ tf)(he:∀cl C s2 H2 fp,PE (er X sc N' cl C s2 H2 fp) Å te)(pL:∀x c,cl.lookup x=bn c->X.env.cells.lookup x=bn c/\(x,Bn)∈sc.names)(Hc:∀x,(x,Bn)∈sc.names->∃c,cl.lookup x=bn c){tn:Nat->im->Prop}{J:It}{Q:VK}(I2:Inv X U σ H2 s2)(T:Turn X.prog X.w X.K tg J fp it tn)(HX:tn 0 s2.heap)(f2:∀b∈fp,qm X U H2 b)(hW:∀D,H2 D=cr->∃W:Nat->Nat->St->O V->Hp->Prop,
   (∃m,W 0 m (kU ix σ) [] (upd H2 D (.lst [])))/\∀i m σ' ys H,W i m σ' ys H->H D=bn (.lst ys)/\
    ((J.stop i H/\Q (.ref D) H)\/(J.go i H/\∀x H',J.Ij i H x H'->g x σ' H' λσ2 H2=>tf σ2 H2 λb H3=>
     if b=true then te σ2 H3 λy H4=>H4 D=bn (.lst ys)/\ys.length+1<=sizeLine/\∃m',m'<m/\W (i+1) m' σ2 (ys++[y]) (upd H4 D (.lst (ys++[y]))) else ∃m',m'<m/\W (i+1) m' σ2 ys H3))){RR:db->f8->Result->em->Prop}{E:db->em->Prop}(hRR:∀D C m s' H',Inv X U σ H' s'->Q (.ref D) H'->s'.heap.Ns C m->Yh X U H' C->RR (.ref D) C (.ok .next) s'):ga (ge X.prog X.w) X.A (newList []) (λÁ s₃=>ga (ge X.prog X.w) X.A (newFunctionEnv sc X.env.globals cl [] X.env.qual cr .none (bn X.env)) (λXW s₄=>
   FB (ge X.prog X.w) X.A (.compStart (.ListComp Å [⟨tg,iter,Æ,0⟩] sc pos) 0 (.ref it) Á {XW with scope:=relabel sc X.env}) (RR Á XW.locals) s₄) E s₃) E s2:=by
 refine AR (nF λh₁ xF sZ SI=>?_);generalize hH2:s2.heap.push {cls:=.type "list",dict:=cr,data:=.seq ([]).toArray}=G2 at xF sZ SI ⊢;have hC:G2.objs.size=s2.heap.objs.size+1:=by rw[<- hH2,A1]
 obtain⟨D,hD⟩:∃D:Nat,s2.heap.objs.size=D:=⟨_,rfl⟩;obtain⟨C,hCC⟩:∃C:Nat,G2.objs.size=C:=⟨_,rfl⟩;simp only[hD,hCC]at xF sZ SI hC ⊢;have hDC:D≠C:=by lia
 have k1:=tR sc.names (C+1) cl;have k2:=yg sc.names (C+1) cl;have k3:=yf sc.names (C+1) cl;generalize tz (C+1) sc.names cl=HA at SI k1 k2 k3 ⊢;have old:∀b o,s2.heap.get? b=bn o->h₁.get? b=bn o:=λb o e=>sZ b o (hH2▸Af _ e);have Hd:h₁.get? D=bn {cls:=.type "list",data:=.seq ([]:O db).toArray}:=by
  refine sZ D _ ?_;rw[<- hH2,<- hD];exact Al _ rfl
 have hD2:H2 D=cr:=I2.bC.fresh ∅;obtain⟨W,⟨m0,w0⟩,turn⟩:=hW D hD2;have P5:∀x c,cl.lookup x=bn c->∃v,s2.heap.IsCell c v:=λx c e=>I2.cell x c (pL x c e).1;have XO:∀x c,cl.lookup x=bn c->c<D:=λx c e=>by
  obtain⟨v,q⟩:=P5 x c e;have:=P6 q;exact ltN ∅
 have Y3:∀b∈fp,b<D:=λb hb=>by
  obtain⟨o,e,_⟩:=T.obj 0 _ HX b hb;have:=lsz e;exact ltN ∅
 have fpC:∀b∈fp,∀x c,HA.lookup x=bn c->c≠b:=λb hb x c e=>by
  rcases k1 x c e with⟨z,_⟩|⟨_,z⟩
  .exact(f2 b hb).2.2.2.2.1 x c (pL x c z).1
  .have:=ltN (Y3 b hb);exact neN (a:=c) (b:=b) ∅
 have Yok:(er X sc N' HA C s2 H2 fp).Ok:=by
  refine⟨I2.ok.mod,S.kind,I2.ok.glob,I2.ok.blt,?_,?_,?_,?_,I2.ok.hd,I2.ok.frames,.inl rfl,?_,I2.bs,?_,?_,?_,I2.stack,I2.yP⟩
  .show s2.heap.objs.size<=C;lia
  .exact k3 (λx y c e1 e2=>I2.ok.inj x y c (pL x c e1).1 (pL y c e2).1) λx c e=>by
    have h1:C=D+1:=by lia
    exact h1▸Be (Be (XO x c e))
  .intro x hx;have vt:(relabel sc X.env).names.lookup x=bn .cell\/(relabel sc X.env).names.lookup x=bn .free:=hx;unfold relabel at vt;rw[fi]at vt;cases q:sc.names.lookup x with
   |none=>rw[q]at vt;simp at vt
   |some k=>
    have hm:=BD q;refine k2 x ?_;by_cases hk:k=.free
    .subst hk;exact .inr (Hc x hm)
    .rw[q]at vt;have hb:(k==Bn)=false:=by simpa using hk
     simp only[Ci,hb,Dv,An,if_false]at vt;rcases vt with z|z
     .rw[Option.some.inj z]at hm;exact .inl hm
     .exact absurd (Option.some.inj z) hk
  .intro x c W0 e;have abG:sc.names.lookup x=bn .cell:=eq_of_beq W0;rcases k1 x c e with⟨_,z⟩|⟨_,z⟩
   .exact absurd (BD abG) z
   .show s2.heap.objs.size<=c;lia
  .intro b hb;refine⟨?_,λx c e z=>fpC b hb x c e z⟩;show b≠C;have:=ltN (Y3 b hb);exact neN ∅
  .exact AI I2.ok.P7 I2.sz
  .intro b o e hb;rcases (f2 b hb).2.2.2.1 with z|z
   .exact I2.ok.JA b o e z
   .have h1:=lsz (h:=X.base) e;have h2:=I2.ok.P7;lia
  .intro b hb z;rcases Aw.mp (I2.wI b z) with q|q
   .exact(f2 b hb).2.1 q
   .exact(f2 b hb).2.2.1 q
 have un0:Un (Ib X.stack) fp H2 (upd H2 D (.lst [])) s2.heap h₁:=Un.laid old ∅ hD2;have IY:∀tk,Inv (er X sc N' HA C s2 H2 fp) [] (kU ix σ) (upd H2 D (.lst [])) {s2 with heap:=h₁,toks:=tk}:=λtk=>by
  refine⟨Yok,rfl,I2.bare,un0,⟨_,xF,λi x v e1 e2 e3=>?_⟩,λx c e=>?_,?_,λx c e=>?_,λp hp=>absurd (show p∈([]) from hp) (by simp),(I2.bC.laid old ∅ ⟨A7 _,[],0,.nil,Hd⟩),?_⟩
  .have Hw:=e1;unfold kU at e2;rw[Ap]at e2;cases q:ix[i]? with
   |none=>rw[q]at e2;cases e2
   |some o=>
    cases o with
    |none=>rw[q]at e2;cases e2
    |some j=>
     rw[q]at e2;have Zx:(σ[j]?).getD cr=bn v:=Option.some.inj e2;have e4:σ[j]?=bn (bn v):=by
      cases z:σ[j]? with
      |none=>rw[z]at Zx;cases Zx
      |some y=>rw[z]at Zx;exact congrArg bn Zx
     obtain⟨a1,a2⟩:=S.at q Hw;have xG:=BD a2;have hk:=S.fr _ xG rfl;obtain⟨m,_,hl⟩:=I2.loc;obtain⟨u,r,l⟩:=hl j x v a1 e4 (.inr hk);refine⟨u,r,.inr ⟨?_,?_⟩⟩
     .show(relabel sc X.env).names.lookup x=bn .cell\/(relabel sc X.env).names.lookup x=bn .free;unfold relabel;rw[fi,a2];by_cases hb:(X.env.scope.kind==.function&&X.env.kindOf x==bn .cell)=true
      .left
       simp only[Ci,beq_self_eq_true,Bool.true_and,hb,if_true]
      .right
       simp only[Ci,beq_self_eq_true,Bool.true_and,hb,if_false,An]
     .obtain⟨c,ø⟩:=Hc x xG;have hcy:HA.lookup x=bn c:=by
       obtain⟨c',q'⟩:=k2 x (.inr ⟨c,ø⟩);rcases k1 x c' q' with⟨z,_⟩|⟨z,_⟩
       .rw[ø]at z;cases z;exact q'
       .rw[S.nc _ z rfl]at a2;cases a2
      refine⟨c,hcy,?_⟩;rcases l with⟨k,_⟩|⟨k,c',e',z⟩
      .have k':X.env.scope.names.lookup x=bn .local:=k;rcases hk with y|y<;>rw[k']at y<;>cases y
      .rw[((pL x c ø).1)]at e';cases e';obtain⟨o,ho,hd⟩:=z;exact⟨o,old _ _ ho,hd⟩
  .rcases SI x c e with z|z
   .obtain⟨v,o,ho,hd⟩:=P5 x c z;exact⟨v,o,old _ _ ho,hd⟩
   .exact⟨_,z⟩
  .show upd H2 D (.lst []) C=cr;rw[aw (BU hDC)];exact(I2.bC.fresh ∅)
  .rcases k1 x c e with⟨z,_⟩|⟨_,z⟩
   .have gr:=ltN (XO x c z);rw[aw (neN ∅)];exact I2.iE x c (pL x c z).1
   .rw[aw (neN (a:=c) (b:=D) ∅)];exact I2.bC.fresh ∅
  .unfold kU;rw[Aq];exact S.len
 have ý:∀{uG:O (f8×Obj)}{H':Hp},(∀b∈fp,H' b=cr)->(∀p∈uG,p.1∉fp)->∀b∈fp,qm (er X sc N' HA C s2 H2 fp) uG H' b:=λhn hp b hb=>by
  refine⟨hn b hb,?_,?_,.inl hb,λx c e z=>fpC b hb x c e z,λp T6 z=>?_⟩
  .show b≠C;have:=ltN (Y3 b hb);exact neN ∅
  .exact Yok.KI b hb
  .exact hp p T6 (z▸hb)
 have á:∀s₃:em,s₃={s2 with heap:=h₁}->
   FB (ge X.prog X.w) X.A (.compLoop (.ListComp Å [⟨tg,iter,Æ,0⟩] sc pos) 0 (.ref it) (.ref D) (compEnvC sc HA C X.env)) (RR (.ref D) C) s₃:=by
  rintro s₃ rfl;refine jn (λn s'=>∃i σ' ys H',Inv (er X sc N' HA C s2 H2 fp) [] σ' H' s'/\tn i s'.heap/\(∀b∈fp,H' b=cr)/\W i n σ' ys H') ?_ m0
   ⟨0,_,[],_,IY _,T.keep _ _ _ HX (λb _ o e=>old b o e),λb hb=>by rw[aw (Ar (Y3 b hb))];exact(f2 b hb).1,w0⟩
  rintro n s3 ⟨i,σ3,ys,H3,I3,Vl,Xe,w3⟩;obtain⟨hDl,w3⟩:=turn i n σ3 ys H3 w3;rcases w3 with⟨stop,qn⟩|⟨go,step⟩
  .refine bS (T.done (er X sc N' HA C s2 H2 fp) rfl rfl rfl hc i [] s3 σ3 H3 _ I3 (ý Xe (by simp)) Vl stop) λr s4 ⟨hr,I4⟩=>?_;subst hr;obtain⟨m,hn,_⟩:=I4.loc;refine hRR D C m s4 H3 (I2.XX I4.os I4.base I4.bC I4.bare λb hb=>?_) qn hn ?_
   .obtain⟨a0,a1,a2,a3,a4,a5⟩:=f2 b hb;exact⟨a3,a1,a4,a5⟩
   .refine⟨I4.free,?_,?_,λx c e z=>?_,λp hp z=>?_⟩
    .have:=ltN I2.lt;exact neN ∅
    .have:=I2.sz;lia
    .obtain⟨v,q⟩:=I2.cell x c e;have:=P6 q;exact neN (a:=c) (b:=C) ∅ z
    .have:=lsz (I2.pin p hp).1;exact neN (b:=C) ∅ z
  .refine bS (T.item (er X sc N' HA C s2 H2 fp) rfl rfl rfl hc i [] s3 σ3 H3 (λ_ _=>False) I3 (ý Xe (by simp)) Vl go) λr s4 ⟨u,hr,h4⟩=>?_;subst hr;refine bS h4 λ_ s5 ⟨x,H5,I5,r5,y5,QG,ü⟩=>?_;refine bS (hg _ _ _ _ _ _ s5 σ3 H5 x u _ (I5.pinned (ý ü (by simp)) (T.obj _ _ QG)) r5 (step x H5 y5)) λ_ s6 ⟨σ6,H6,I6,q6⟩=>?_;refine bS (hf _ _ _ _ _ _ s6 σ6 H6 _ I6 q6) λb s7 ⟨H7,I7,q7⟩=>?_;have JS:∀{s8:em}{σ8:St}{H8:Hp},Inv (er X sc N' HA C s2 H2 fp) ([]++lD fp s5.heap) σ8 H8 s8->tn (i+1) s8.heap/\∀b∈fp,H8 b=cr:=λ{s8 σ8 H8} I8=>by
    refine⟨T.keep _ _ _ QG λb hb o e=>(I8.pin (b,o) (A4 _ (A4 _ (gI hb e)))).1,λb hb=>?_⟩;obtain⟨o,e,d⟩:=T.obj _ _ QG b hb;exact(I8.pin (b,o) (A4 _ (A4 _ (gI hb e)))).2.1
   cases b with
   |false=>
    obtain⟨m',hm,w7⟩:=q7;obtain⟨t7,fr7⟩:=JS I7;exact⟨m',hm,i+1,σ6,ys,H7,I7.ig,t7,fr7,w7⟩
   |true=>
    refine bS (he _ _ _ _ _ _ s7 σ6 H7 _ I7 q7) λyv s8 ⟨y,H8,I8,r8,hD8,hz8,m',hm,w8⟩=>?_;obtain⟨z,aj,k,rv,hl8,e8⟩:=I8.pB hD8;obtain⟨t8,fr8⟩:=JS I8;refine wpAny_list_append_plain (s:=s8) ⟨_,e8⟩ λh9 hl9 hs9=>?_;obtain⟨k9,e9⟩:=hl9;have I9:Inv (er X sc N' HA C s2 H2 fp) ([]++lD fp s5.heap) σ6 (upd H8 D (.lst (ys++[y]))) {s8 with heap:=h9,toks:=s8.toks}:=by
     refine I8.write (x:=D) (e:=D) (by rw[hD8];exact trivial) (.inl rfl) (λb u hb hu=>(hs9.2 b hb).trans hu) ⟨_,e9⟩ ?_;refine⟨by rw[Ag,BN];exact hz8,aj++[yv],k9,(Vals.append rv (.cons r8 .nil)),?_⟩;rw[e9];simp
    obtain⟨t9,fr9⟩:=JS I9;exact⟨m',hm,i+1,σ6,_,_,I9.ig,t9,fr9,w8⟩
 exact codeAny_compStart_list (á _ rfl) (T.self _ 0 _ _ _ (T.keep _ _ _ HX λb _ o e=>old b o e) (á _ rfl))
def VQ(hc:X.calm=true)(S:bh X.env.scope X.N sc N' ix)(hi:PI X tg iter wi)(hg:∀cl C s2 H2 fp,PG (er X sc N' cl C s2 H2 fp) tg g)(hf:∀cl C s2 H2 fp,Uv (er X sc N' cl C s2 H2 fp) Æ tf)(he:∀cl C s2 H2 fp,PE (er X sc N' cl C s2 H2 fp) Å te)(hs:ph X iter:=by intro _;rfl):PE X (.ListComp Å [⟨tg,iter,Æ,0⟩] sc pos) (tLc ix wi g tf te):=by
 intro U s σ H Q I h;obtain⟨cl,Km,pL,Hc⟩:=jF (λy hy hk=>I.ok.has y.1 (S.fr y hy hk));refine Es rfl hs Km S.kind S.loc (bS (hi U s σ H _ I h) λv s1 h1=>bS h1 λYM s2 h2=>?_);obtain⟨it,fp,tn,J,H2,rfl,I2,T,HX,f2,hW⟩:=h2;exact zB hc S hg hf he pL Hc I2 T HX f2 hW λD C m s' H' I' q hn F=>⟨m,hn,λh' T5=>⟨.ref D,H',I'.turned (λb o hb e=>(T5.2 b hb).trans e) F.hn F.hL (.inr F.ab) F.cl F.pn,rfl,q⟩⟩
def Ji{i:Nat}(hc:X.calm=true)(hN:X.N.Nodup)(wd:X.N[i]?=bn x)(hx:X.env.scope.names.lookup x=bn .local)(S:bh X.env.scope X.N sc N' ix)(hi:PI X tg iter wi)(hg:∀cl C s2 H2 fp,PG (er X sc N' cl C s2 H2 fp) tg g)(hf:∀cl C s2 H2 fp,Uv (er X sc N' cl C s2 H2 fp) Æ tf)(he:∀cl C s2 H2 fp,PE (er X sc N' cl C s2 H2 fp) Å te)(vv:‹sn (.ListComp Å [⟨tg,iter,Æ,0⟩] sc pos) (bn (.Name x px)) mI.line X.env=pure true›)(hs:ph X iter:=by intro _;rfl):PS X (.Assign [.Name x px] (.ListComp Å [⟨tg,iter,Æ,0⟩] sc pos) mI) (Mf (tLc ix wi g tf te) (cD i)):=by
 intro U s σ H D0 I h;rw[exec_Assign_Name_used _ _ _ _ vv];refine Aa (Er (Aa ?_));show ga _ X.A (do let _ <- comprehension (.ListComp Å [⟨tg,iter,Æ,0⟩] sc pos) sc X.env _ (newList []) false (r6 iter X.env) (bn (GM (.Name x px) X.env))) _ _ s;have SH:∀y∈sc.names,y.2=.free->∃c,X.env.cells.lookup y.1=bn c:=λy hy hk=>I.ok.has y.1 (S.fr y hy hk);obtain⟨cl,Km,pL,Hc⟩:=jF SH;refine Aa (B9 (Es (use:=bn (GM (.Name x px) X.env)) (Q:=λ_ s'=>SP X U D0 .next s') rfl hs Km S.kind S.loc (bS (hi U s σ H _ I h) λv s1 h1=>bS h1 λYM s2 h2=>?_)) (λ_ s' hq=>Ae (Ae hq)) λ_ _ e=>e);obtain⟨it,fp,tn,J,H2,rfl,I2,T,HX,f2,hW⟩:=h2;refine zB (RR:=λÁ C=>compPost (ge X.prog X.w) X.A X.xe (bn (GM (.Name x px) X.env)) (λ_ s'=>SP X U D0 .next s') Á C) (Q:=λx H1=>cD i x σ H1 D0.nx) hc S hg hf he pL Hc I2 T HX f2 hW λD C m s' H' I' q hn F=>?_;show ga _ X.A (GM (.Name x px) X.env (.ref D)) _ _ _;refine wpAny_assign_Name (qt (v:=.ref D) I' hN wd (.inl hx) rfl (λMo I'' LK=>?_) (.inr hx));obtain⟨a,LK,ha⟩:=LK;have haC:C≠a:=by
  rcases ha with z|z
  .rw[z];exact F.hL
  .exact BU (F.cl _ _ z)
 refine⟨m,hn.sameBut LK haC,λh' T5=>⟨_,H',?_,q⟩⟩;exact I''.turned (it:=C) (t':=Mo.toks) (λb o hb e=>(T5.2 b hb).trans e) F.hn F.hL (.inr F.ab) F.cl F.pn
end
section
variable{b:lc}
def mF:cq X (.builtin "isinstance") (λxs H Q=>∃x c t b,xs=[x,.ty c]/\jr X.K H x t/\Bt X.K t (.type c)=bn b/\Q (.bl b) H):=by
 intro U s σ H xs us Q I r h;obtain⟨x,c,t,b,rfl,ty,hk,q⟩:=h;obtain⟨u,w',rfl,ru,yW⟩:=vals2 r;cases (yW);exact GX I ru ty hk λtk=>⟨.bl b,H,I.tok _,rfl,q⟩
def uT:gp X (re .IsNot) (λx y H Q=>∃i j,x=.bl i/\y=.bl j/\Q (.bl (!(i==j))) H):=by
 intro U s σ H x y v u Q I rx ry h;obtain⟨i,j,rfl,rfl,q⟩:=h;cases rx;cases ry;exact Ae ⟨.bl (!(i==j)),H,I,by cases i<;>cases j<;>rfl,q⟩
def Gw(hu:X.A.units<nn):gp X (re .NotEq) (λx y H Q=>∃p q xs,x=.ref p/\y=.ref q/\bO X.K H p xs/\bO X.K H q []/\Q (.bl (!xs.isEmpty)) H):=by
 intro U s σ H x y v u Q I rx ry h;obtain⟨p,q,xs,rfl,rfl,hp,hq,k⟩:=h;cases rx;cases ry;obtain⟨aj,r,pl,hz⟩:=I.list hp;obtain⟨cI,r2,pl2,hz2⟩:=I.list hq;cases r2;cases xs with
 |nil=>
  cases r;exact CV (Fq (e:=λ_=>true) pl.isList pl2.isList rfl hu λj h1=>absurd h1 (by simp)) ⟨.bl false,H,I,rfl,k⟩
 |cons y ys=>
  have hl:=r.length;exact CV (D3 pl.isList pl2.isList (by simp at hl ⊢;intro z;subst z;simp at hl) hu) ⟨.bl true,H,I,rfl,k⟩
def vS{bs:O Bool}:∀{us:O db},Vals (bs.map V.bl) us->us=bs.map Value.bool:=by
 induction bs with
 |nil=>intro us r;rw[Dt]at r;cases r;rfl
 |cons n ns ih=>
  intro us r;cases r with
  |cons r1 r2=>
   cases r1;rw[ih r2];rfl
def yo(hc:X.calm=true):cq X (.builtin "all") (λxs H Q=>∃(p:f8) (bs:O Bool),xs=[.ref p]/\bO X.K H p (bs.map V.bl)/\Q (.bl (bs.all id)) H):=by
 intro U s σ H xs us Q I r h;obtain⟨p,bs,rfl,hp,q⟩:=h;obtain⟨u,rfl,ru⟩:=vals1 r;cases ru;obtain⟨aj,rv,pl,hz⟩:=I.list hp;have eb:=vS rv;subst eb;have hl:=pl.isList;have gr:p<s.heap.objs.size:=by obtain⟨_,e,_⟩:=hl;exact Ak e
 refine call_all_walk (CW hl ?_);refine⟨s.heap.objs.size,[s.heap.objs.size,p],[s.heap.objs.size],(bs.map Value.bool).toArray.size,_,_,λi=>(bs[i]?).getD true,rfl,FN (A:=X.A.in1) (I.ok.hd hc) _ p (Ar gr) (bs.map Value.bool).toArray,
  ⟨⟨_,Al _ rfl,rfl,rfl⟩,hl.push _⟩,λi v s' Q' E' hP hQ=>?_,λh' tk hk=>?_⟩
 .have Ks:(bs.map Value.bool)[i]?=bn v:=by simpa using hP
  rw[Ap]at Ks;cases e:bs[i]? with
  |none=>rw[e]at Ks;cases Ks
  |some b=>
   rw[e]at Ks;cases Ks;simp only[e]at hQ;exact BK hQ
 .have e:((Ax (bs.map Value.bool).toArray.size).all λi=>(bs[i]?).getD true)=bs.all id:=by
   rw[Ah,Aq];exact LSm.range_all bs
  rw[e];exact⟨.bl (bs.all id),H,I.kept (LSm.kept_iter hk),rfl,q⟩
def yn(hc:X.calm=true):cq X (.builtin "any") (λxs H Q=>∃(p:f8) (bs:O Bool),xs=[.ref p]/\bO X.K H p (bs.map V.bl)/\Q (.bl (bs.any id)) H):=by
 intro U s σ H xs us Q I r h;obtain⟨p,bs,rfl,hp,q⟩:=h;obtain⟨u,rfl,ru⟩:=vals1 r;cases ru;obtain⟨aj,rv,pl,hz⟩:=I.list hp;have eb:=vS rv;subst eb;have hl:=pl.isList;have gr:p<s.heap.objs.size:=by obtain⟨_,e,_⟩:=hl;exact Ak e
 refine call_any_walk (CW hl ?_);refine⟨s.heap.objs.size,[s.heap.objs.size,p],[s.heap.objs.size],(bs.map Value.bool).toArray.size,_,_,λi=>(bs[i]?).getD false,rfl,FN (A:=X.A.in1) (I.ok.hd hc) _ p (Ar gr) (bs.map Value.bool).toArray,
  ⟨⟨_,Al _ rfl,rfl,rfl⟩,hl.push _⟩,λi v s' Q' E' hP hQ=>?_,λh' tk hk=>?_⟩
 .have Ks:(bs.map Value.bool)[i]?=bn v:=by simpa using hP
  rw[Ap]at Ks;cases e:bs[i]? with
  |none=>rw[e]at Ks;cases Ks
  |some b=>
   rw[e]at Ks;cases Ks;simp only[e]at hQ;exact BK hQ
 .have e:((Ax (bs.map Value.bool).toArray.size).any λi=>(bs[i]?).getD false)=bs.any id:=by
   rw[Ah,Aq];exact LSm.range_any bs
  rw[e];exact⟨.bl (bs.any id),H,I.kept (LSm.kept_iter hk),rfl,q⟩
def mL(l:f8)(items:Array db)(n:Nat)(b:f8)(cv:Array db)(n2:Nat)(dd:Option f8)(sl:Array (Option db))(Pt:¬(!items.isEmpty&&Builtin.List.listTooLong (items.size+cv.size))=true)(s9:items.size<=sizeLine)(G7:items.size+cv.size<=sizeLine+1):Meets (o0.«list.extend» ⟨[.ref l,.ref b],[]⟩) (λ_ R s=>s.heap.get? l=bn {cls:=.type "list",dict:=cr,data:=.seq items n,slots:=#[]}/\s.heap.get? b=bn {cls:=.type "tuple",dict:=dd,data:=.seq cv n2,slots:=sl}/\R (.ok (.ret Value.none)) {s with heap:=s.heap.update l (BC λx=>x++cv),toks:=s.toks}):=
 .of_wp λprog w A R s h=>by
  obtain⟨hp,g,d,tk,os⟩:=s;obtain⟨hl,hb,h⟩:=h;have f5:=DB;
  wp_walk using (Dc hl rfl),BO hl,BO hb;exact⟨_,rfl,h⟩
def Jc(K:Ab):V->O V->Hp->VK->Prop:=λx vs H Q=>∃l b xs zs,x=.ref l/\vs=[.ref b]/\H l=bn (.lst xs)/\cG K H b zs/\xs.length+zs.length<=sizeLine/\Q .az (upd H l (.lst (xs++zs)))
theorem xi:FY X "list.extend" (Jc X.K):=by
 intro U s σ H x vs v us Q I rx rv h;obtain⟨l,b,xs,zs,rfl,rfl,hH,hB,hz,q⟩:=h;cases rx;obtain⟨u,rfl,ru⟩:=rv.one;cases ru;obtain⟨z,aj,n,r,hl,e⟩:=I.pB hH;obtain⟨cI,r2,⟨⟨cls,dd,data,sl⟩,e2,hc,n2,hd⟩,z2⟩:=I.tuple hB;subst hc hd;have LN:=r2.length;have pf:aj.toArray.size+cI.toArray.size<=sizeLine:=by rw[Ah,Ah];lia
 have vw:¬(!aj.toArray.isEmpty&&Builtin.List.listTooLong (aj.toArray.size+cI.toArray.size))=true:=by
  rw[nX pf,CB];exact A6
 refine ss D6 ⟨_,e,rfl⟩ DP (DA _ _)
  (mL l aj.toArray n b cI.toArray n2 dd sl vw (by rw[Ah];lia) ∅) ⟨e,e2,?_⟩
 refine⟨.az,_,I.GD hH e (by simp) (r.append r2) ?_,rfl,q⟩;rw[Ag];lia
end
end L2
variable{o:L2.HO}{b:Int}{k':Nat}{l:Bi}{bW:Cu}
namespace L2
def jI(l:f8)(H H':Hp):Prop:=∀b u,b≠l->H b=bn u->H' b=bn u
def fZ(h:H p=cr)(o:HO):iL H (upd H p o):=λb u q=>by rw[aw (bj q h)];exact q
def qz(o:HO):jI p H (upd H p o):=λb u n q=>by rw[aw n];exact q
def jk(H:Hp)(o:HO)(Q:VK):Prop:=∀p H',iL H H'->H' p=bn o->H p=cr->Q (.ref p) H'
def jk.at{Q:VK}(h:jk H o Q)(p:f8)(hp:H p=cr):Q (.ref p) (upd H p o):=h p _ (fZ hp o) aM hp
def wx(H:Hp)(l:f8)(o:HO)(Q:Hp->Prop):Prop:=∀H',jI l H H'->H' l=bn o->Q H'
def wx.at{Q:Hp->Prop}(h:wx H l o Q):Q (upd H l o):=h _ (qz o) aM
def gp.mono{f:db->db->Sem db}{r r':R2}(h:gp X f r)(hr:∀x y H Q,r' x y H Q->r x y H Q):gp X f r':=λU s σ H x y v u Q I rx ry q=>h U s σ H x y v u Q I rx ry (hr _ _ _ _ q)
def cq.mono{f:db}{r r':O V->Hp->VK->Prop}(h:cq X f r)(hr:∀xs H Q,r' xs H Q->r xs H Q):cq X f r':=λU s σ H xs us Q I rx q=>h U s σ H xs us Q I rx (hr _ _ _ q)
def FY.mono{id:String}{r r':V->O V->Hp->VK->Prop}(h:FY X id r)(hr:∀x xs H Q,r' x xs H Q->r x xs H Q):FY X id r':=λU s σ H x xs v us Q I rx rv q=>h U s σ H x xs v us Q I rx rv (hr _ _ _ _ q)
def HP.mono{r r':HN}(h:HP X r)(hr:∀o i v H Q,r' o i v H Q->r o i v H Q):HP X r':=λU s σ H o i v ov iv u Q I ro ri rv q=>h U s σ H o i v ov iv u Q I ro ri rv (hr _ _ _ _ _ q)
def OD.mono{r r':V->Option Int->Option Int->Hp->VK->Prop}(h:OD X r)(hr:∀x lo hi H Q,r' x lo hi H Q->r x lo hi H Q):OD X r':=λU s σ H x v vl vu lo hi sl Q I rx hs pl pu q=>h U s σ H x v vl vu lo hi sl Q I rx hs pl pu (hr _ _ _ _ _ q)
section
variable{o:lc}{t:TA}
def U6(t:TA):TE:=λσ H Q=>t σ H λxs H1=>xs.length<=sizeLine/\jk H1 (.tup xs) Q
def OX(t:TA):TE:=λσ H Q=>t σ H λxs H1=>xs.length<=sizeLine/\jk H1 (.lst xs) Q
def MR{x1}(h:PA X es t):PE X (.Tuple es x1 pos) (U6 t):=by
 intro U s σ H Q I hq;refine wpAny_Tuple_spliced (bS (h pos U s σ H _ I hq) λus s1 ⟨xs,H1,I1,r,z,q⟩=>⟨by rw[<- r.length];exact z,?_⟩);have hf:=I1.bC.fresh (Am _);refine⟨.ref s1.heap.objs.size,upd H1 s1.heap.objs.size (.tup xs),I1.laid (λb u e=>Af _ e) (Am _) ?_,rfl,q.at _ hf⟩;exact⟨z,us,r,⟨_,Al _ rfl,rfl,_,rfl⟩,_,Al _ rfl,rfl⟩
def sf(h:PA X es t):PE X (.List es pos) (OX t):=by
 intro U s σ H Q I hq;refine wpAny_List_spliced (bS (h pos U s σ H _ I hq) λus s1 ⟨xs,H1,I1,r,z,q⟩=>⟨by rw[<- r.length];exact z,?_⟩);have hf:=I1.bC.fresh (Am _);refine⟨.ref s1.heap.objs.size,upd H1 s1.heap.objs.size (.lst xs),I1.laid (λb u e=>Af _ e) (Am _) ?_,rfl,q.at _ hf⟩;exact⟨z,us,0,r,Al _ rfl⟩
def Ja(K:Ab):R2:=λx y H Q=>match x with
 |.int i=>∃j,y=.int j/\Q (.int (i+j)) H
 |.str i=>∃j,y=.str j/\i.length+j.length<=sizeLine/\Q (.str (i++j)) H
 |.ref a=>(∃b xs zs,y=.ref b/\H a=bn (.lst xs)/\H b=bn (.lst zs)/\xs.length+zs.length<=sizeLine/\jk H (.lst (xs++zs)) Q)\/O7 K x y H Q
 |_=>False
def M6:gp X (ut .Add) (Ja X.K):=by
 refine((Ry.or w9).or (Rx.or zf)).mono λx y H Q h=>?_;cases x with
 |int i=>obtain⟨j,rfl,q⟩:=h;exact .inl (.inl ⟨i,j,rfl,rfl,q⟩)
 |str i=>obtain⟨j,rfl,hl,q⟩:=h;exact .inl (.inr ⟨i,j,rfl,rfl,hl,q⟩)
 |ref a=>
  rcases h with⟨b,xs,zs,rfl,h1,h2,hz,q⟩|h
  .exact .inr (.inl ⟨a,b,xs,zs,rfl,rfl,h1,h2,hz,λp hp=>q.at p hp⟩)
  .exact .inr (.inr h)
 |_=>exact h.elim
def iR:gp X (ut .Mult) (rI Fk λi j=>.int (i*j)):=YD λ_ _ _ _ _ _ _ hc q=>mul_int q hc
def O5(K:Ab):V->Option Int->Option Int->Hp->VK->Prop:=λx lo hi H Q=>∃a xs,x=.ref a/\bO K H a xs/\jk H (.lst (vQ xs lo hi)) Q
def IJ:OD X (O5 X.K):=Mm.mono λx lo hi H Q ⟨a,xs,e,h,q⟩=>⟨a,xs,e,h,λp hp=>q.at p hp⟩
def yk:cq X (.type "list") (λxs H Q=>∃p ys,xs=[.ref p]/\(bO X.K H p ys\/cG X.K H p ys)/\jk H (.lst ys) Q):=tT.mono λxs H Q ⟨p,ys,e,h,q⟩=>⟨p,ys,e,h,λl hl=>q.at l hl⟩
def Jd:V->O V->Hp->VK->Prop:=λx vs H Q=>∃l xs y,x=.ref l/\vs=[y]/\H l=bn (.lst xs)/\xs.length<sizeLine/\wx H l (.lst (xs++[y])) (Q .az)
def xj:FY X "list.append" Jd:=GC.mono λx xs H Q ⟨l,ys,y,e1,e2,h,hz,q⟩=>⟨l,ys,y,e1,e2,h,hz,q.at⟩
def Gk(K:Ab):V->O V->Hp->VK->Prop:=λx vs H Q=>∃l b xs zs,x=.ref l/\vs=[.ref b]/\H l=bn (.lst xs)/\cG K H b zs/\xs.length+zs.length<=sizeLine/\wx H l (.lst (xs++zs)) (Q .az)
def u5:FY X "list.extend" (Gk X.K):=xi.mono λx xs H Q ⟨l,b,ys,zs,e1,e2,h1,h2,hz,q⟩=>⟨l,b,ys,zs,e1,e2,h1,h2,hz,q.at⟩
def VB:V->O V->Hp->VK->Prop:=λx vs H Q=>∃l xs y,x=.ref l/\vs=[]/\H l=bn (.lst (xs++[y]))/\wx H l (.lst xs) (Q y)
def Nh:FY X "list.pop" VB:=RL.mono λx xs H Q ⟨l,ys,y,e1,e2,h,q⟩=>⟨l,ys++[y],y,e1,e2,h,by simp,by rw[List.dropLast_concat];exact q.at⟩
def I0:HN:=λo i v H Q=>∃p xs k j,o=.ref p/\i=.int k/\H p=bn (.lst xs)/\qR xs.length k=bn j/\wx H p (.lst (xs.set j v)) Q
def ly:HP X I0:=set_list.mono λo i v H Q ⟨p,xs,k,j,e1,e2,h,hj,q⟩=>⟨p,xs,k,j,e1,e2,h,hj,q.at⟩
end
section
variable(K:Ab)(hK:X.K=K){a o:lc}{t:TA}{name:Str}{TY:String}{r:V->O V->Hp->VK->Prop}
include hK
def bJ:LW X (rIx K):=hK▸Sg
def iT:gp X (ut .Add) (Ja K):=hK▸M6
def II:OD X (O5 K):=hK▸IJ
def Q8(K:Ab):O V->Hp->VK->Prop:=λxs H Q=>∃x n,xs=[x]/\X7 K x H n/\Q (.int n) H
def q8:cq X (.builtin "len") (Q8 K):=hK▸Ld
def Jb(K:Ab):O V->Hp->VK->Prop:=λxs H Q=>∃p ys,xs=[.ref p]/\(bO K H p ys\/cG K H p ys)/\jk H (.lst ys) Q
def yj:cq X (.type "list") (Jb K):=hK▸yk
def VN(K:Ab):O V->Hp->VK->Prop:=λxs H Q=>∃(p:f8) (bs:O Bool),xs=[.ref p]/\bO K H p (bs.map V.bl)/\Q (.bl (bs.all id)) H
def HG(hc:X.calm=true):cq X (.builtin "all") (VN K):=hK▸yo hc
def VM(K:Ab):O V->Hp->VK->Prop:=λxs H Q=>∃(p:f8) (bs:O Bool),xs=[.ref p]/\bO K H p (bs.map V.bl)/\Q (.bl (bs.any id)) H
def HF(hc:X.calm=true):cq X (.builtin "any") (VM K):=hK▸yn hc
def Q7(K:Ab):R2:=λx y H Q=>∃p q xs,x=.ref p/\y=.ref q/\bO K H p xs/\bO K H q []/\Q (.bl (!xs.isEmpty)) H
def nU(hu:X.A.units<nn):gp X (re .NotEq) (Q7 K):=hK▸Gw hu
def aaf(K:Ab)(ta:TE):TT:=λσ H Q=>ta σ H λx H'=>∃k,Tn K x H' k/\Q k H'
def qC(ha:PE X a ta)(he:∀Ä,isTrue a X.env Ä=(do let v <- Ä;standAt a.pos;EQ [v] (truthy v))):PT X a (aaf K ta):=hK▸Jh ha he
def zc(pa:PlainAttrs T)(slot:Slot T name TY)(Sl:typeOf (.builtin TY)=pure (.type "method_descriptor"))(hm:ZF X TY r)(ho:PE X o to)(d7:‹sK o name X.env (r6 o X.env)=r6 o X.env›)(d6:‹OP Â bW›):PE X (.Call (.Attribute o name Â) [] [] bW) (Vg K T r to):=hK▸Rn pa slot Sl hm ho d7 d6
def sg(pa:PlainAttrs T)(slot:Slot T name TY)(Sl:typeOf (.builtin TY)=pure (.type "method_descriptor"))(hm:ZF X TY r)(ho:PE X o to)(ha:PA X (e::es) t)(d7:‹sK o name X.env (r6 o X.env)=r6 o X.env›)(tu:‹Ya X bW (e::es)›)(d6:‹OP Â bW›)(hs:‹hV X e es›)(gP:‹kb X bW es›):PE X (.Call (.Attribute o name Â) (e::es) [] bW) (tBM K T r to t):=hK▸VS pa slot Sl hm ho ha d7 tu d6 hs gP
omit hK
end
structure LA(P:pr)(w:t0)(K:Ab)(mg:Str->Option db)(base:im)(x:Str)(k:Nat)(ps:List Str)(sp:Sp) where
 f:f8
 fd:FuncData
 ok:js P w K mg base v9 k f fd ps sp
 bi:Binds K fd ps []
 kp:DW K (.ref f)=true
 at':mg x=bn (.ref f)
section
variable{p:Pos}{t:TA}
def Vf(sp:Sp)(t:TA):TE:=λσ H Q=>t σ H λvs H1=>sp vs H1 Q E0
def w5(G:LA X.prog X.w X.K X.mg X.base x k ps sp)(hr:cY k' X.A)(hk:k<=k')(hg:Gl X x)(ha:PA X (e::es) t)(jO: ~~~(iM x))(he:‹hV X e es›)(cX:‹kb X pos es›):PE X (.Call (.Name x p) (e::es) [] pos) (Vf sp t):=by
 intro U s σ H Q I h;refine Bv (zA I hg G.at' ?_ jO);refine PySem.W.callWith_K I.ok.mod.YL G.kp (bS (ha pos U s σ H _ I h) λus s1 ⟨vs,H1,I1,r,q⟩=>⟨I1.qQ,?_⟩) he cX;refine QO G.ok (hr.mono hk) G.bi .nil VU I1 r ?_;rw[CK];exact q
end
section
variable{t u:TS}{tA QB:TT}{g:TG}{Q:VK}{QT:Bool->Hp->Prop}{QA:O V->Hp->Prop}{QS:St->Hp->Prop}{i:Nat}{ts:TA}
def QX(h:t {D with nx:=u D} σ H):U7 t u D σ H:=h
def Ms(h:D.nx σ H):OW D σ H:=h
def Q3(h:te σ H λx H1=>g x σ H1 D.nx):Mf te g D σ H:=h
def Mt(h:QS (σ.set i (bn v)) H):cD i v σ H QS:=h
def QR(e:σ[i]?=bn (bn v))(h:Q v H):Qx i σ H Q:=⟨v,e,h⟩
def aaE(h:Q v H):tC v σ H Q:=h
def Vu{r:R2}(h:ta σ H λx H1=>tb σ H1 λy H2=>r x y H2 Q):OV r ta tb σ H Q:=h
def aaH{C:Int->Int->Prop}{f:Int->Int->V}{a:Int}(c:C a b)(h:Q (f a b) H):rI C f (.int a) (.int b) H Q:=⟨a,b,rfl,rfl,c,h⟩
def QY(h:te σ H D.rt):U8 te D σ H:=h
def Mu(h:te σ H λ_ H1=>D.nx σ H1):OY te D σ H:=h
def Q1(h:tA σ H λb H1=>if b=true then t D σ H1 else u D σ H1):Vc tA t u D σ H:=h
def Mr(h:te σ H λx H'=>∃k,x=.bl k/\QT k H'):OU te σ H QT:=h
def Q4(h:tA σ H λc H1=>if c=true then QB σ H1 QT else QT false H1):Vi tA QB σ H QT:=h
def QZ(h:QA [] H):Vb σ H QA:=h
def Mv(h:ta σ H λx H1=>ts σ H1 λxs H2=>QA (x::xs) H2):OZ ta ts σ H QA:=h
def Q0(h:ts σ H λxs H1=>xs.length<=sizeLine/\jk H1 (.lst xs) Q):OX ts σ H Q:=h
def Vy{k:Bool}{R:Bool->Prop}(h:R k):∃c,V.bl k=.bl c/\R c:=⟨k,rfl,h⟩
def Vx{K:Ab}{r:V->O V->Hp->VK->Prop}(h:te σ H λx H1=>U4 K T x H1/\ts σ H1 λxs H2=>r x xs H2 Q):tBM K T r te ts σ H Q:=h
def QW{ti:TE}{tt:HN}(h:to σ H λo H1=>ti σ H1 λi H2=>tt o i v H2 λH3=>QS σ H3):Xc to ti tt v σ H QS:=h
def Mw{K:Ab}{a:Int}(h:Q (.int (a+b)) H):Ja K (.int a) (.int b) H Q:=⟨b,rfl,h⟩
def cE{K:Ab}{n:Int}(h1:bO K H a xs)(h2:kZ xs n=bn v)(h:Q v H):rIx K (.ref a) (.int n) H Q:=.inl ⟨a,xs,n,v,rfl,rfl,h1,h2,h⟩
end
section
def yY{k:Int}{QH:Hp->Prop}(h1:H p=bn (.lst xs))(hj:qR xs.length k=bn j)(h:∀H',jI p H H'->H' p=bn (.lst (xs.set j v))->QH H'):I0 (.ref p) (.int k) v H QH:=⟨p,xs,k,j,rfl,rfl,h1,hj,h⟩
def QU{K:Ab}(h:H l=bn (.lst xs)):U4 K "list" (.ref l) H:=.inl ⟨rfl,_,bO.of h⟩
def Pd{j:Int}(h1:-18446744073709551616<i)(h2:i<18446744073709551616):Fk i j:=OO.ok (.inl ⟨h1,h2⟩)
def mul_r{j:Int}(h1:-18446744073709551616<j)(h2:j<18446744073709551616):Fk i j:=OO.ok (.inr ⟨h1,h2⟩)
end
def a9(h:n<=1000):n<=sizeLine:=Dp (Gb h)
end L2
variable{p1:Cu}
namespace L2
theorem Vals.uB:∀{xs:O V}{us:O db},Vals xs us->Vals xs.reverse us.reverse
 |_,_,.nil=>.nil
 |_,_,.cons h t=>by rw[Dr,Dr];exact(Vals.uB t).append (.cons h .nil)
def RV:typeLookup (.type "list_reverseiterator") (C1 "__len__")=pure cr:=by kernel_rfl
def Np:typeLookup (.type "list_reverseiterator") (C1 "__length_hint__")=pure (bn (.builtin "list_reverseiterator.__length_hint__")):=by kernel_rfl
def Mj:splitId "list_reverseiterator.__length_hint__"=bn ("list_reverseiterator","__length_hint__"):=by kernel_rfl
def Mh:isSubtype (.type "list_reverseiterator") (.type "list_reverseiterator")=pure true:=by kernel_rfl
def Ki{r:f8}{Q:Bool->em->Prop}(h:s.heap.IsRevIter r l i)(q:Q false s):ga (ge prog w) A (Builtin.List.listLengthHint (Value.ref r)) Q E s:=by
 refine Aa (Cf h.typeIs RV ?_);refine Aa (Cf h.typeIs Np ?_);dsimp only;rw[Mj];dsimp only;exact Aa (BH h.typeIs Mh (Ae q))
def pD{r S:f8}(hA:A.handled=cr)(h:s.heap.IsRevIter r l (items.size-1))(hl:s.heap.IsList l items)(uf:l≠r)(Ub:S≠r)(hSl:S≠l)(hz:items.size<=sizeLine)(hS:s.heap.get? S=bn {cls:=Value.type "list",data:=Fx #[]})(q:∀(h':im) (tk:Nat) (Á:Array db) (c:Nat),(∀b o,b≠S->b≠r->s.heap.get? b=bn o->h'.get? b=bn o)->h'.get? S=bn {cls:=Value.type "list",data:=Fx Á c}->ItemsOf (λi v=>items[items.size-1-i]?=bn v) Á items.size->R (.ok (.ret .none)) {s with heap:=h',toks:=tk}):
  ga (ge prog w) A.in1 (o0.«list.__init__» {pos:=[Value.ref S,Value.ref r]})
   (λfin s'=>match fin with|E8 f=>R (Except.ok f) s'|Fin.again c'=>c'.quiet=true/\FB (ge prog w) A c' R s') (λe s'=>R (Except.error e) s') s:=by
 unfold o0.«list.__init__»;refine Aa (wpAny_listItems hS rfl ?_);refine Aa ?_;refine Dc hS rfl ?_ (by simp) (by simp);refine Aa (Fb ?_);have k1:∀b o,b≠S->s.heap.get? b=bn o->(s.heap.update S (BC λ_=>#[])).get? b=bn o:=λb o hb e=>by rw[Bz _ _ (BU hb)];exact e
 have Uc:=A3 (BC λ_=>#[]) hS rfl;generalize s.heap.update S (BC λ_=>#[])=h1 at k1 Uc ⊢;have YO:h1.IsRevIter r l (items.size-1):=let ⟨o,e,p⟩:=h;⟨o,k1 _ _ (BU Ub) e,p⟩;have WV:h1.IsList l items:=let ⟨o,e,p⟩:=hl;⟨o,k1 _ _ (BU hSl) e,p⟩;unfold Builtin.List.listExtendWith;refine Aa (CF YO.typeIs ?_);rw[if_neg (by
  have e1:Builtin.List.listSameRef (Value.ref S) (Value.ref r)=false:=by
   unfold Builtin.List.listSameRef;simpa using Ub
  rw[e1];decide)]
 refine Aa (wpAny_pyIter_revIter YO ?_);refine Aa (AZ (Ki YO ?_));refine Ae ⟨xz F.plain_extend_loop _,?_⟩;refine codeAny_extend_loopS (Walks.toS (Walks.listRev (A:=A.in1) hA r l uf items)) hz S (by simp[Ub,hSl]) .none items.size 0 _ #[] _ (Fy _) (A7 _) ⟨A7 _,by simpa using YO,WV⟩ Uc (ItemsOf.nil _) ?_;intro s' Á c mv e io;rw[mv.eq_with];exact q s'.heap s'.toks Á c (λb o n1 n2 e'=>mv.heap b o (by simp[n1,n2]) (k1 b o n1 e')) e io
def qe{r:f8}(hA:A.handled=cr)(h:s.heap.IsRevIter r l (items.size-1))(hl:s.heap.IsList l items)(uf:l≠r)(hz:items.size<=sizeLine)(q:∀(h':im) (tk:Nat) (Á:Array db) (c:Nat),(∀b o,b≠r->s.heap.get? b=bn o->h'.get? b=bn o)->h'.get? s.heap.objs.size=bn {cls:=Value.type "list",data:=Fx Á c}->ItemsOf (λi v=>items[items.size-1-i]?=bn v) Á items.size->Q (.ref s.heap.objs.size) {s with heap:=h',toks:=tk}):ga (ge prog w) A (call (Value.type "list") [Value.ref r]) Q E s:=by
 have lr:=let ⟨_,e,_⟩:=h;Ak e;have ll:=let ⟨_,e,_⟩:=hl;Ak e;refine callType_codes F.called_list (F.typeCall_list_1 _) F.entry_list_init (code_list_new (Q₁:=λv s₁=>v=.ref s.heap.objs.size/\s₁={s with heap:=s.heap.push {cls:=Value.type "list",data:=Fx #[]}}) _ ⟨rfl,rfl⟩) ?_;rintro obj s₁ ⟨rfl,rfl⟩;refine⟨⟨_,Al _ rfl,rfl⟩,F.args_list_init_2 _ _,?_⟩;have kp:∀b o,s.heap.get? b=bn o->(s.heap.push {cls:=Value.type "list",data:=Fx #[]}).get? b=bn o:=λb o e=>Af _ e;refine pD hA (let ⟨o,e,p⟩:=h;⟨o,kp _ _ e,p⟩) (let ⟨o,e,p⟩:=hl;⟨o,kp _ _ e,p⟩) uf (λz=>by rw[z]at lr;exact A0 _ lr) (λz=>by rw[z]at ll;exact A0 _ ll) hz (Al _ rfl) ?_;intro h' tk Á c k e io;exact⟨rfl,q h' tk Á c (λb o n e'=>k b o (λz=>by rw[z]at e';exact A0 _ (Ak e')) n (kp b o e')) e io⟩
def tLR(K:Ab)(te:TE):TE:=λσ H Q=>te σ H λx H1=>∃p ys,x=.ref p/\bO K H1 p ys/\jk H1 (.lst ys.reverse) Q
section
variable(K:Ab)(hK:X.K=K){q1 q2:Pos}
include hK
theorem wY(hc:X.calm=true)(Kl:Gl X "list")(Kg:X.mg "list"=cr)(Kk:Gl X "reversed")(Kf:X.mg "reversed"=cr)(he:PE X e te)(s9:‹ii [.Call (.Name "reversed" q1) [e] [] q2] X.env=(false,r6 (.Call (.Name "reversed" q1) [e] [] q2) X.env)::ii [] X.env›)(G7:‹hV X e []›):PE X (.Call (.Name "list" p1) [.Call (.Name "reversed" q1) [e] [] q2] [] p2) (tLR K te):=by
 intro U s σ H Q I h;subst hK;refine Bv (eD I Kl Kg boot_list ?_ ⋯ ⋯);refine Ba ?_ s9 rfl;refine BG ?_;refine Bv (eD I Kk Kf boot_reversed ?_ ⋯ ⋯);refine Ba ?_ G7 rfl;rw[G7];refine BG (bS (he U s σ H _ I h) λu s1 ⟨x,H1,I1,r1,pa,ys,ex,hS,q⟩=>BZ ?_);subst ex;cases r1;obtain⟨aj,rv,pl,hz⟩:=I1.list hS;have À:=rv.length;have lp:=let ⟨_,e,_⟩:=pl.isList;Ak e;refine call_reversed_list pl.isList ?_;refine BZ ?_;have kp:∀b o,s1.heap.get? b=bn o->(s1.heap.push (revObj pa (aj.toArray.size-1))).get? b=bn o:=λb o e=>Af _ e;refine qe (I1.ok.hd hc) ⟨_,Al _ rfl,rfl,rfl⟩ (let ⟨o,e,p⟩:=pl.isList;⟨o,kp _ _ e,p⟩) (λz=>by rw[z]at lp;exact A0 _ lp) (by rw[Ah];lia) ?_;intro h' tk Á c k e io;have ea:Á=aj.reverse.toArray:=by
  obtain⟨z1,z2⟩:=io;apply Array.ext
  .rw[z1,Ah,Ah,Ct]
  .intro j h1 h2;have:=z2 j Á[j] (AE h1);rw[Ah]at this;have hj:j<aj.length:=by rw[z1,Ah]at h1;exact h1
   rw[List.getElem?_toArray]at this;have e3:aj.reverse[j]?=bn Á[j]:=by rw[List.getElem?_reverse hj];exact this
   rw[List.getElem_toArray];exact(Option.some.inj (((Ai (by rw[Ct];exact hj)).symm.trans e3))).symm
 subst ea;have G7:s1.heap.objs.size<=(s1.heap.push (revObj pa (aj.toArray.size-1))).objs.size:=by simp
 exact⟨.ref _,upd H1 _ (.lst ys.reverse),I1.laid (λb o eb=>k b o (λz=>by rw[z]at eb;exact A0 _ (Ak eb)) (kp b o eb)) G7 ⟨by rw[Ct];exact hz,aj.reverse,c,rv.uB,e⟩,rfl,q.at _ (I1.bC.fresh G7)⟩
end
end L2
namespace My
inductive Tr where
 |leaf (x:Str)
 |node (l r:Tr)
def Tr.oy:Tr->O Str
 |.leaf x=>[x]
 |.node l r=>l.oy++r.oy
def Tr.size:Tr->Nat
 |.leaf _=>1
 |.node l r=>l.size+r.size+1
theorem Tr.xo:∀t:Tr,1<=t.oy.length
 |.leaf _=>Am _
 |.node l r=>by have:=l.xo;show 1<=(l.oy++r.oy).length;rw[Ag];lia
def bf(ts:O Tr):Nat:=(ts.map Tr.size).sum
def eJ(a b:O Tr):bf (a++b)=bf a+bf b:=by unfold bf;rw[BL,List.sum_append]
def lu(t:Tr):bf [t]=t.size:=by simp[bf]
theorem Tr.size_pos:∀t:Tr,1<=t.size
 |.leaf _=>Am _
 |.node l r=>by show 1<=l.size+r.size+1;lia
theorem iX:∀ts:O Tr,ts.length<=bf ts
 |[]=>Am _
 |t::r=>by have:=iX r;have:=t.size_pos;show r.length+1<=t.size+bf r;lia
end My
variable{x:AV}{σ:L2.St}{i:Nat}
namespace L2
def fu{t:f8}(h:s.heap.IsTupleIter it t i)(ht:s.heap.IsTuple t items)(hx:items[i]?=bn x)(q:∀h':im,h'.IsTupleIter it t (i+1)->A9 it s.heap h'->Q x {s with heap:=h'}):ga (ge prog w) A (Builtin.SmallTypes.nextOf (.ref it)) Q E s:=by
 unfold Builtin.SmallTypes.nextOf;refine Aa (AM h.typeIs B5 (AU B5 h.typeIs DT ?_ (DH _)));obtain⟨o,ho,hc,hd⟩:=id h;obtain⟨ot,ue,htc,n,ë⟩:=id ht;show ga _ _ (field (.ref it) 0 >>= λseq=>_) _ _ s;refine Aa (AL ho hd rfl ?_);refine Aa (AL ho hd rfl ?_);refine Aa (Bj ue ë ?_);show ga _ _ (match items[i]? with|some x=>(do setField (.ref it) 1 (pc (i+1));ret x)|none=>_) _ _ s;rw[hx];refine Aa (B7 ho hd (show 1<2 by decide) ?_);refine Ae ⟨x,rfl,Ae (q _ ⟨_,A3 _ ho (by rw[Cc (Bu hd _)]),by rw[Obj.cls_mapFields];exact hc,by rw[Bu hd];rfl⟩ (A9.update ..))⟩
def Mi{Q:α->em->Prop}(hA:A.handled=cr)(q:∀(h':im) (e:f8),(∀b o,s.heap.get? b=bn o->h'.get? b=bn o)->(∃o,h'.get? e=bn o/\o.cls=.type "StopIteration")->E (.ref e) {s with heap:=h'}):ga (ge prog w) A (Builtin.SmallTypes.stopIteration (α:=α)) Q E s:=by
 refine Aa ?_;refine Aa (B8 ?_ ⋯);refine Aa (BW rfl ?_);refine AR ?_ (sizeOk_excFields ..);unfold raiseNew;refine Aa (Fm ?_);rw[hA];refine wpAny_throw (q _ _ (λb o e=>Af _ (Af _ e)) ⟨_,Al _ rfl,rfl⟩)
def f9{t:f8}(hA:A.handled=cr)(h:s.heap.IsTupleIter it t i)(ht:s.heap.IsTuple t items)(hx:items[i]?=cr)(q:∀(h':im) (e:f8),E6 it s.heap h'->(∃o,h'.get? e=bn o/\o.cls=.type "StopIteration")->E (.ref e) {s with heap:=h'}):ga (ge prog w) A (Builtin.SmallTypes.nextOf (.ref it)) Q E s:=by
 unfold Builtin.SmallTypes.nextOf;refine Aa (AM h.typeIs B5 (AU B5 h.typeIs DT ?_ (DH _)));obtain⟨o,ho,hc,hd⟩:=id h;obtain⟨ot,ue,htc,n,ë⟩:=id ht;show ga _ _ (field (.ref it) 0 >>= λseq=>_) _ _ s;refine Aa (AL ho hd rfl ?_);refine Aa (AL ho hd rfl ?_);refine Aa (Bj ue ë ?_);show ga _ _ (match items[i]? with|some x=>(do setField (.ref it) 1 (pc (i+1));ret x)|none=>(do rule _;setField (.ref it) 0 .none;Builtin.SmallTypes.stopIteration)) _ _ s;rw[hx];refine Aa (Df ?_);refine Aa (B7 ho hd (show 0<2 by decide) ?_);refine Mi hA λh' e k ex=>q h' e (λb o n eb=>k b o ?_) ex;rw[(A9.update _ _ _).2 b n];exact eb
def Inv.nG{t':Nat}(I:Inv X U σ H s)(hf:∀b∈ch,qm X U H b)(k:∀b u,b∉ch->s.heap.get? b=bn u->h'.get? b=bn u)(hp:s.heap.objs.size<=a)(new:bA X.prog X.w (upd H a o) h' a o):Inv X U σ (upd H a o) {s with heap:=h',toks:=t'}:=by
 have hn:=I.bC.fresh hp;have Pc:∀b u,H b=bn u->b∉ch:=λb u e z=>by rw[(hf b z).1]at e;cases e
 refine I.step (λb hb=>⟨(hf b hb).2.2.2.1,(hf b hb).2.1,(hf b hb).2.2.2.2.1,(hf b hb).2.2.2.2.2⟩) (λb u _ _ hc e _=>k b u hc e) (λb u _ _ hc e _=>⟨u.slots,k b u hc e⟩)
  (λb u _ e n=>by rw[aw (Ar (Az (Ak e) hp))];exact n) (λb u hc e=>⟨u,k b u hc e⟩) (λb xs e=>by rw[aw (bj e hn)];exact e) (λb u xs e=>by rw[aw (bj e hn)];exact e)
  (λb ps e=>⟨#[],by rw[aw (bj e hn),e];simp⟩) (λm hm=>?_) (λb u e=>?_) I.bare
 .obtain⟨o',es,ep,ho,r⟩:=hm;exact⟨o',es,ep,k _ o' (λz=>(hf _ z).2.1 rfl) ho,r⟩
 .by_cases hb:b=a
  .subst hb;rw[aM]at e;cases e;exact new
  .rw[aw hb]at e;refine(I.bC b u e).wJ (λc v hc q=>k c v ?_ q) (λc q=>by rw[aw (bj q hn)];exact q) λc xs q=>by rw[aw (bj q hn)];exact q
   rcases hc with z|z
   .rw[z];exact Pc b u e
   .exact Pc c _ z
def Inv.rK{t':Nat}(I:Inv X U σ H s)(hf:∀b∈ch,qm X U H b)(k:∀b u,b∉ch->s.heap.get? b=bn u->h'.get? b=bn u):Inv X U σ H {s with heap:=h',toks:=t'}:=by
 have Pc:∀b u,H b=bn u->b∉ch:=λb u e z=>by rw[(hf b z).1]at e;cases e
 refine I.step (λb hb=>⟨(hf b hb).2.2.2.1,(hf b hb).2.1,(hf b hb).2.2.2.2.1,(hf b hb).2.2.2.2.2⟩) (λb u _ _ hc e _=>k b u hc e) (λb u _ _ hc e _=>⟨u.slots,k b u hc e⟩)
  (λ_ _ _ _ n=>n) (λb u hc e=>⟨u,k b u hc e⟩) (λ_ _ e=>e) (λ_ _ _ e=>e) (λb ps e=>⟨#[],by rw[e];simp⟩) (λm hm=>?_) (λb u e=>?_) I.bare
 .obtain⟨o',es,ep,ho,r⟩:=hm;exact⟨o',es,ep,k _ o' (λz=>(hf _ z).2.1 rfl) ho,r⟩
 .refine(I.bC b u e).wJ (λc v hc q=>k c v ?_ q) (λ_ q=>q) λ_ _ q=>q;rcases hc with z|z
  .rw[z];exact Pc b u e
  .exact Pc c _ z
def ke(h:Vals xs us):∀{i:Nat}{x:V},xs[i]?=bn x->∃u,us[i]?=bn u/\RelV x u:=by
 induction h with
 |nil=>intro i x e;simp at e
 |cons r t ih=>
  intro i x e;cases i with
  |zero=>simp at e;subst e;exact⟨_,rfl,r⟩
  |succ i=>exact ih (by simpa using e)
end L2
variable{e:Bi}{old:AV}{Ö:O B6}{kk:Nat}
namespace L2
def mU{E:db->em->Prop}{t:f8}(H9:e≠it)(YN:t≠e)(zG:t≠it)(hz:IsEnum s.heap e it i old)(hi:s.heap.IsTupleIter it t i)(ht:s.heap.IsTuple t items)(hx:items[i]?=bn x)(q:∀(h':im) (tk:Nat),IsEnumOut h' e it (i+1:Nat) x s.heap.objs.size->h'.IsTupleIter it t (i+1)->Da h' s.heap.objs.size (.int i s.toks) x->(∀c o,c≠e->c≠it->s.heap.get? c=bn o->h'.get? c=bn o)->Q (.ref s.heap.objs.size) {s with heap:=h',toks:=tk}):ga (ge prog w) A (o0.«enumerate.__next__» {pos:=[.ref e]}) (λfin s'=>∃v,fin=E8 (E7 v)/\Q v s') E s:=by
 show ga _ _ (field (.ref e) 2 >>= λr=>_) _ _ s;refine Aa (AL hz rfl rfl ?_);refine Aa (fu hi ht hx λh1 j1 b1=>?_);have z1:=(b1.2 _ H9).trans hz;refine Aa (AL z1 rfl rfl ?_);refine Aa (AL z1 rfl rfl ?_);refine Aa (wpAny_mkInt ?_);refine Aa (Bc z1 (show 3 < 6 by decide) λh2 z2 b2=>?_);refine Aa (Bc z2 (show 4 < 6 by decide) λh3 z3 b3=>?_);refine Aa (B8 ?_ (by show 2<=sizeLine;decide));have kp:∀b o,h3.get? b=bn o->(h3.push {cls:=.type "tuple",data:=.seq [Value.int i s.toks,x].toArray}).get? b=bn o:=λb o e=>Af _ e;have GA:(h3.push {cls:=.type "tuple",data:=.seq [Value.int i s.toks,x].toArray}).get? h3.objs.size=bn {cls:=.type "tuple",data:=.seq #[.int i s.toks,x]}:=Al _ rfl;generalize h3.push {cls:=.type "tuple",data:=.seq [Value.int i s.toks,x].toArray}=h4 at kp GA ⊢;have z4:=kp _ _ z3;refine Aa ?_;refine Aa (AL z4 rfl rfl ?_);refine Ae ?_;refine Aa (Df ?_);refine Aa (AL z4 rfl rfl ?_);refine Aa (Bc z4 (show 5 < 6 by decide) λh5 z5 b5=>?_);refine Aa ?_;refine Aa (Bc z5 (show 0 < 6 by decide) λh6 z6 b6=>?_);refine Bc z6 (show 1 < 6 by decide) λh7 z7 b7=>?_;refine Aa (Fb ?_);have SR:∀b,b≠e->h7.get? b=h4.get? b:=λb n=>(b7.2 b n).trans ((b6.2 b n).trans (b5.2 b n));have ne:s.heap.objs.size≠e:=λz=>by have:=Ak hz;rw[<- z]at this;exact A0 _ this
 refine Ae ⟨.ref h3.objs.size,rfl,?_⟩;rw[(b3.1.trans (b2.1.trans b1.1))]at z7 GA ⊢;refine q h7 _ ?_ ?_ ?_ ?_
 .exact z7
 .obtain⟨o,eo,p⟩:=j1;refine⟨o,?_,p⟩;rw[SR _ (BU H9)];exact kp _ _ ((b3.2 _ (BU H9)).trans ((b2.2 _ (BU H9)).trans eo))
 .rw[Da,SR _ ne];exact GA
 .intro c o n1 n2 ec;rw[SR _ n1];exact kp _ _ (((λb n1 n2=>(b3.2 b n1).trans ((b2.2 b n1).trans (b1.2 b n2))) _ n1 n2).trans ec)
def oV{t:f8}{Q:FH->em->Prop}(hA:A.handled=cr)(hz:IsEnum s.heap e it i old)(hi:s.heap.IsTupleIter it t i)(ht:s.heap.IsTuple t items)(hx:items[i]?=cr)(q:∀(h':im) (x:f8),(∀c o,c≠it->s.heap.get? c=bn o->h'.get? c=bn o)->(∃o,h'.get? x=bn o/\o.cls=.type "StopIteration")->E (.ref x) {s with heap:=h'}):ga (ge prog w) A (o0.«enumerate.__next__» {pos:=[.ref e]}) Q E s:=by
 show ga _ _ (field (.ref e) 2 >>= λr=>_) _ _ s;exact Aa (AL hz rfl rfl (Aa (f9 hA hi ht hx λh' x k ex=>q h' x (λc o n e'=>k c o n e') ex)))
def kl{t:f8}{Q:Option db->em->Prop}(H9:e≠it)(YN:t≠e)(zG:t≠it)(hz:IsEnum s.heap e it i old)(hi:s.heap.IsTupleIter it t i)(ht:s.heap.IsTuple t items)(hx:items[i]?=bn x)(q:∀(h':im) (tk:Nat),IsEnumOut h' e it (i+1:Nat) x s.heap.objs.size->h'.IsTupleIter it t (i+1)->Da h' s.heap.objs.size (.int i s.toks) x->(∀c o,c≠e->c≠it->s.heap.get? c=bn o->h'.get? c=bn o)->Q (bn (.ref s.heap.objs.size)) {s with heap:=h',toks:=tk}):ga (ge prog w) A (BT (.ref e)) Q E s:=by
 have ty:s.TypeIs (.ref e) "enumerate":=⟨_,hz,rfl⟩;refine Aa (Cq (AM ty CS (AU CS ty EK ?_ (Ey _))));exact mU H9 YN zG hz hi ht hx λh' tk a b c d=>Ae (q h' tk a b c d)
def lz{t:f8}{Q:Option db->em->Prop}(hA:A.handled=cr)(hz:IsEnum s.heap e it i old)(hi:s.heap.IsTupleIter it t i)(ht:s.heap.IsTuple t items)(hx:items[i]?=cr)(q:∀h':im,(∀c o,c≠it->s.heap.get? c=bn o->h'.get? c=bn o)->Q cr {s with heap:=h'}):ga (ge prog w) A (BT (.ref e)) Q E s:=by
 have ty:s.TypeIs (.ref e) "enumerate":=⟨_,hz,rfl⟩;refine Aa (Cq (AM ty CS (AU CS ty EK ?_ (Ey _))));refine oV hA hz hi ht hx λh' x k ex=>?_;obtain⟨o,eo,hc⟩:=ex;exact Aa (BH ⟨o,eo,hc⟩ zn (Ae (q h' k)))
def mK(t:f8)(items:Array db):Meets (o0.«enumerate.__new__» {pos:=[.type "enumerate",.ref t]}) (λ_ R s=>s.heap.IsTuple t items/\
  ∀h':im,IsEnum h' (s.heap.objs.size+1) s.heap.objs.size (0:Nat) .none->h'.IsTupleIter s.heap.objs.size t 0->(∀b o,s.heap.get? b=bn o->h'.get? b=bn o)->R (.ok (.ret (.ref (s.heap.objs.size+1)))) {s with heap:=h'}):=
 .of_wp λprog w A R s h=>by
  obtain⟨h1,q⟩:=h;refine Aa ?_;refine Aa (BW rfl ?_);refine Aa (BW sub_enumerate ?_);refine Ae ?_;refine Aa ?_;refine Aa (wpAny_stack_any λst=>Ae ?_);have fin:ga (ge prog w) A.in1 (pyIter (.ref t) >>= λit=>(Builtin.SmallTypes.newRecord (.type "enumerate") (Builtin.SmallTypes.ownedTupleFields++[it,pc 0,.none,.none]) >>= λr=>ret r)) (λfin s'=>∃v,fin=E8 (E7 v)/\R (Except.ok (E7 v)) s') (λe s'=>R (Except.error e) s') s:=by
   refine Aa (Dg h1 ?_);have k1:∀b o,s.heap.get? b=bn o->(s.heap.push {cls:=.type "tuple_iterator",data:=.fields #[.ref t,.int 0 0]}).get? b=bn o:=λb o e=>Af _ e;have g1:(s.heap.push {cls:=.type "tuple_iterator",data:=.fields #[.ref t,.int 0 0]}).get? s.heap.objs.size=bn {cls:=.type "tuple_iterator",data:=.fields #[.ref t,.int 0 0]}:=Al _ rfl;have z1:(s.heap.push {cls:=.type "tuple_iterator",data:=.fields #[.ref t,.int 0 0]}).objs.size=s.heap.objs.size+1:=A1 ..;generalize s.heap.push {cls:=.type "tuple_iterator",data:=.fields #[.ref t,.int 0 0]}=tj at k1 g1 z1 ⊢;show ga _ _ (newObj (.type "enumerate") (.fields #[.none,.bool false,.ref s.heap.objs.size,pc 0,.none,.none]) >>= λr=>ret r) _ _ _;refine Aa (AR ?_ (by simp[sizeOk];decide));have g2:(tj.push {cls:=.type "enumerate",data:=.fields #[.none,.bool false,.ref s.heap.objs.size,pc 0,.none,.none]}).get? tj.objs.size=bn {cls:=.type "enumerate",data:=.fields #[.none,.bool false,.ref s.heap.objs.size,pc 0,.none,.none]}:=Al _ rfl;refine Ae ⟨.ref tj.objs.size,rfl,?_⟩;rw[z1]at g2 ⊢;exact q _ g2 ⟨_,Af _ g1,rfl,rfl⟩ λb o e=>Af _ (k1 _ _ e)
  refine Bp (λ_=>?_) (λ_=>?_)
  .exact Aa (BW rfl fin)
  .exact Aa (BW rfl fin)
def ym{t:f8}(h1:s.heap.IsTuple t items)(q:∀h':im,IsEnum h' (s.heap.objs.size+1) s.heap.objs.size (0:Nat) .none->h'.IsTupleIter s.heap.objs.size t 0->(∀b o,s.heap.get? b=bn o->h'.get? b=bn o)->Q (.ref (s.heap.objs.size+1)) {s with heap:=h'}):ga (ge prog w) A (call (.type "enumerate") [.ref t]) Q E s:=
 callType_new F.called_enumerate ⋯ (F.typeCall_enumerate_1 _) (F.newCall_enumerate_1 _) (λo=>F.args_object_init_2 o _) F.entry_enumerate_new (mK t items) ⟨h1,λh' z i k=>⟨⟨_,z,rfl⟩,q h' z i k⟩⟩
def Ite(K:Ab)(a:f8):It where
 go:=λi H=>∃xs x,cG K H a xs/\xs[i]?=bn x
 Ij:=λi H v H'=>∃p x,v=.ref p/\H p=cr/\H'=upd H p (.tup [.int i,x])/\∀xs,cG K H a xs->xs[i]?=bn x
 stop:=λi H=>∃xs,cG K H a xs/\xs.length<=i
theorem F4{K:Ab}{t:f8}(H9:e≠it)(YN:t≠e)(zG:t≠it):Turn P w K (.Tuple Ö kk pos) (Ite K t) [e,it] e (λi h=>(∃old,IsEnum h e it (i:Nat) old)/\h.IsTupleIter it t i) where
 mem:=by simp
 obj:=λi h st b hb=>by
  simp at hb;rcases hb with rfl|rfl
  .obtain⟨⟨_,e⟩,_⟩:=st;exact⟨_,e,λv z=>by cases z⟩
  .obtain⟨_,⟨o,e,_,d⟩⟩:=st;exact⟨o,e,λv z=>by rw[d]at z;cases z⟩
 keep:=λi h h' st k=>⟨let ⟨o,e'⟩:=st.1;⟨o,k e (by simp) _ e'⟩,let ⟨o,e',p⟩:=st.2;⟨o,k it (by simp) _ e',p⟩⟩
 item:=by
  intro X hP hw hK hc i U s σ H E I hf st hg;subst hP hw hK;obtain⟨xs,x,hx,gx⟩:=hg;obtain⟨aj,rx,tx,_⟩:=I.tuple hx;obtain⟨u,gu,ru⟩:=ke rx gx;obtain⟨⟨old,hz⟩,hi⟩:=st;refine kl H9 YN zG hz hi tx (by simpa using gu) λh' tk zo j np k=>?_;refine⟨_,rfl,?_⟩;refine Eb zo λh2 z2 b2=>?_;have le:=Ak hz;have li:=let ⟨_,e',_⟩:=hi;Ak e';have lt:∀b∈[e,it],b<s.heap.objs.size:=λb hb=>by
   simp at hb;rcases hb with rfl|rfl
   .exact le
   .exact li
  have Wv:∀b o,b∉[e,it]->s.heap.get? b=bn o->h2.get? b=bn o:=λb o hb e'=>by
   have Sk:b≠e:=λq=>hb (by simp[q]);rw[b2.2 b Sk];exact k b o Sk (λq=>hb (by simp[q])) e'
  refine⟨.ref s.heap.objs.size,upd H s.heap.objs.size (.tup [.int i,x]),I.nG hf Wv (Am _) ⟨by show 2<=sizeLine;decide,[.int i s.toks,u],.cons ⟨_,rfl⟩ (.cons ru .nil),⟨_,((b2.2 _ (λz=>A0 _ (by have:=le;rw[<- z]at this;exact this))).trans np),rfl,_,rfl⟩,_,((b2.2 _ (λz=>A0 _ (by have:=le;rw[<- z]at this;exact this))).trans np),rfl⟩,rfl,⟨_,x,rfl,(I.bC.fresh (Am s.heap.objs.size)),rfl,λxs' h'=>by rw[I.iO h' hx];exact gx⟩,⟨⟨_,z2⟩,let ⟨o,e',p⟩:=j;⟨o,(b2.2 _ (BU H9)).trans e',p⟩⟩,λb hb=>?_⟩;rw[aw (Ar (lt b hb))];exact(hf b hb).1
 done:=by
  intro X hP hw hK hc i U s σ H E I hf st hg;subst hP hw hK;obtain⟨xs,hx,hl⟩:=hg;obtain⟨aj,rx,tx,_⟩:=I.tuple hx;have el:=rx.length;obtain⟨⟨old,hz⟩,hi⟩:=st;refine lz (I.ok.hd hc) hz hi tx (by simp;lia) λh' k=>⟨rfl,I.rK hf λb o hb e'=>k b o (λz=>hb (by simp[z])) e'⟩
 self:=λA i s Q E st h=>let ⟨_,e'⟩:=st.1;Dn e' h
end L2
namespace My
def Tr.post:Tr->O Tr
 |.leaf x=>[.leaf x]
 |.node l r=>l.post++r.post++[.node l r]
def Tr.ba:∀t:Tr,t.post.length=t.size
 |.leaf _=>rfl
 |.node l r=>by show(l.post++r.post++[_]).length=l.size+r.size+1;rw[Ag,Ag,l.ba,r.ba];rfl
def bH(ts:O Tr):O Tr:=(ts.map Tr.post).flatten
def gC(a b:O Tr):bH (a++b)=bH a++bH b:=by unfold bH;rw[BL,List.flatten_append]
def lB(t:Tr):bH [t]=t.post:=by simp[bH]
def Gq(t u:Tr):bH [t,u]=t.post++u.post:=by simp[bH]
inductive Ent where
 |word (x:Str)
 |pair (a b:Nat)
def Tr.nd:Tr->Nat->O Ent
 |.leaf x,_=>[.word x]
 |.node l r,o=>l.nd o++r.nd (o+l.size)++[.pair (o+l.size-1) (o+l.size+r.size-1)]
def Tr.fh:∀(t:Tr) (o:Nat),(t.nd o).length=t.size
 |.leaf _,_=>rfl
 |.node l r,o=>by show(l.nd o++r.nd (o+l.size)++[_]).length=l.size+r.size+1;rw[Ag,Ag,l.fh,r.fh];rfl
def run:O Tr->O Ent->O Nat->Option (O Ent×O Nat)
 |[],Z,ls=>bn (Z,ls)
 |.leaf x::k,Z,ls=>run k (Z++[.word x]) (Z.length::ls)
 |.node _ _::k,Z,b::a::ls=>run k (Z++[.pair a b]) (Z.length::ls)
 |.node _ _::_,_,_=>cr
theorem nM:∀(t:Tr) (k:O Tr) (Z:O Ent) (ls:O Nat),run (t.post++k) Z ls=run k (Z++t.nd Z.length) ((Z.length+t.size-1)::ls)
 |.leaf x,k,Z,ls=>rfl
 |.node l r,k,Z,ls=>by
  have e1:(Tr.node l r).post++k=l.post++(r.post++(Tr.node l r::k)):=by show l.post++r.post++[_]++k=_;simp
  rw[e1,nM l,nM r];have e2:(Z++l.nd Z.length).length=Z.length+l.size:=by rw[Ag,l.fh]
  rw[e2];show run k _ _=run k _ _;have e3:(Z++l.nd Z.length++r.nd (Z.length+l.size)).length=Z.length+(Tr.node l r).size-1:=by
   rw[Ag,Ag,l.fh,r.fh];show _=Z.length+(l.size+r.size+1)-1;lia
  rw[e3];have e4:Z++(Tr.node l r).nd Z.length=Z++l.nd Z.length++r.nd (Z.length+l.size)++[.pair (Z.length+l.size-1) (Z.length+l.size+r.size-1)]:=by
   show Z++(l.nd Z.length++r.nd (Z.length+l.size)++[_])=_;simp
  rw[e4]
def Gi(t:Tr):run t.post [] []=bn (t.nd 0,[t.size-1]):=by
 have:=nM t [] [] [];rw[CK]at this;rw[this];show bn ([]++t.nd 0,[0+t.size-1])=_;simp
def Ll(l:O V)(i:Nat):Ent->O V
 |.word _=>l
 |.pair a b=>(l.set a (.int i)).set b (.int i)
def ah:O Ent->Nat->O V->O V
 |[],_,l=>l
 |e::es,i,l=>ah es (i+1) (Ll l i e)
theorem tY:∀(es:O Ent) (e:Ent) (i:Nat) (l:O V),ah (es++[e]) i l=Ll (ah es i l) (i+es.length) e
 |[],e,i,l=>rfl
 |x::es,e,i,l=>by
  show ah (es++[e]) (i+1) (Ll l i x)=Ll (ah es (i+1) (Ll l i x)) (i+(es.length+1)) e;rw[tY es e];congr 1;lia
def Oz(l:O V)(i:Nat)(e:Ent):(Ll l i e).length=l.length:=by cases e with
 |word=>rfl
 |pair=>show((l.set _ _).set _ _).length=_;rw[CJ,CJ]
theorem yt:∀(es:O Ent) (i:Nat) (l:O V),(ah es i l).length=l.length
 |[],_,_=>rfl
 |e::es,i,l=>by show(ah es (i+1) (Ll l i e)).length=_;rw[yt es,Oz]
end My
namespace L2
def X9(K:Ab)(a:f8):It where
 go:=λi H=>∃xs x,bO K H a xs/\xs[i]?=bn x
 Ij:=λi H v H'=>∃p x,v=.ref p/\H p=cr/\H'=upd H p (.tup [.int i,x])/\∀xs,bO K H a xs->xs[i]?=bn x
 stop:=λi H=>∃xs,bO K H a xs/\xs.length<=i
theorem wB{K:Ab}{t:f8}(H9:e≠it):Turn P w K (.Tuple Ö kk pos) (X9 K t) [e,it] e (λi h=>(∃old,IsEnum h e it (i:Nat) old)/\h.IsListIter it t i) where
 mem:=by simp
 obj:=λi h st b hb=>by
  simp at hb;rcases hb with rfl|rfl
  .obtain⟨⟨_,e⟩,_⟩:=st;exact⟨_,e,λv z=>by cases z⟩
  .obtain⟨_,⟨o,e,_,d⟩⟩:=st;exact⟨o,e,λv z=>by rw[d]at z;cases z⟩
 keep:=λi h h' st k=>⟨let ⟨o,e'⟩:=st.1;⟨o,k e (by simp) _ e'⟩,let ⟨o,e',p⟩:=st.2;⟨o,k it (by simp) _ e',p⟩⟩
 item:=by
  intro X hP hw hK hc i U s σ H E I hf st hg;subst hP hw hK;obtain⟨xs,x,hx,gx⟩:=hg;obtain⟨aj,rx,tx,_⟩:=I.list hx;obtain⟨u,gu,ru⟩:=ke rx gx;obtain⟨⟨old,hz⟩,hi⟩:=st;refine wpAny_pyNext_enum_item hz hi tx.isList (by simpa using gu) H9 λh' zo j np _ k=>?_;refine⟨_,rfl,?_⟩;refine Eb zo λh2 z2 b2=>?_;have le:=Ak hz;have li:=let ⟨_,e',_⟩:=hi;Ak e';have lt:∀b∈[e,it],b<s.heap.objs.size:=λb hb=>by
   simp only[Aw,Bk,or_false]at hb;rcases hb with rfl|rfl
   .exact le
   .exact li
  have Wv:∀b o,b∉[e,it]->s.heap.get? b=bn o->h2.get? b=bn o:=λb o hb e'=>by
   have Sk:b≠e:=λq=>hb (by simp[q]);rw[b2.2 b Sk];exact k b o Sk (λq=>hb (by simp[q])) e'
  refine⟨.ref s.heap.objs.size,upd H s.heap.objs.size (.tup [.int i,x]),I.nG hf Wv (Am _) ⟨by show 2<=sizeLine;decide,[.int i s.toks,u],.cons ⟨_,rfl⟩ (.cons ru .nil),⟨_,((b2.2 _ (λz=>A0 _ (by have:=le;rw[<- z]at this;exact this))).trans np),rfl,_,rfl⟩,_,((b2.2 _ (λz=>A0 _ (by have:=le;rw[<- z]at this;exact this))).trans np),rfl⟩,rfl,⟨_,x,rfl,(I.bC.fresh (Am s.heap.objs.size)),rfl,λxs' h'=>by rw[I.vd h' hx];exact gx⟩,⟨⟨_,z2⟩,let ⟨o,e',p⟩:=j;⟨o,(b2.2 _ (BU H9)).trans e',p⟩⟩,λb hb=>?_⟩;rw[aw (Ar (lt b hb))];exact(hf b hb).1
 done:=by
  intro X hP hw hK hc i U s σ H E I hf st hg;subst hP hw hK;obtain⟨xs,hx,hl⟩:=hg;obtain⟨aj,rx,tx,_⟩:=I.list hx;have el:=rx.length;obtain⟨⟨old,hz⟩,hi⟩:=st;refine wpAny_pyNext_enum_end (I.ok.hd hc) hz hi tx.isList (by simp;lia) λh' k=>⟨rfl,I.rK hf λb o hb e'=>k b o (λz=>hb (by simp[z])) e'⟩
 self:=λA i s Q E st h=>let ⟨_,e'⟩:=st.1;Dn e' h
end L2
namespace My
def en:Tr->Nat->Nat->Ent
 |.leaf x,_,_=>.word x
 |.node l r,o,j=>if j<l.size then en l o j else if j<l.size+r.size then en r (o+l.size) (j-l.size) else .pair (o+l.size-1) (o+l.size+r.size-1)
def rz:Tr->Nat->Nat->V->V
 |.leaf _,_,_,p=>p
 |.node l r,o,j,p=>if j<l.size then rz l o j (.int (o+l.size+r.size:Nat)) else if j<l.size+r.size then rz r (o+l.size) (j-l.size) (.int (o+l.size+r.size:Nat)) else p
def be:Tr->Nat->Nat->O Nat
 |.leaf _,o,_=>[o]
 |.node l r,o,j=>if j<l.size then be l o j else if j<l.size+r.size then be r (o+l.size) (j-l.size) else be l o (l.size-1)++be r (o+l.size) (r.size-1)
theorem u0:∀(t:Tr) (o j:Nat),j<t.size->(t.nd o)[j]?=bn (en t o j)
 |.leaf x,o,j,h=>by
  have:j=0:=by have:j<1:=h;lia
  subst this;rfl
 |.node l r,o,j,h=>by
  have es:(Tr.node l r).size=l.size+r.size+1:=rfl;have hn:(Tr.node l r).nd o=l.nd o++r.nd (o+l.size)++[.pair (o+l.size-1) (o+l.size+r.size-1)]:=rfl;have ln:=l.fh o;have rn:=r.fh (o+l.size);unfold en;by_cases c1:j<l.size
  .rw[if_pos c1,hn,A2,A8 ∅];exact u0 l o j c1
  .rw[if_neg c1];by_cases c2:j<l.size+r.size
   .rw[if_pos c2,hn,A2,Bm ∅,A8 ∅,ln];exact u0 r _ _ ∅
   .rw[if_neg c2,hn,Bm (by rw[Ag];lia),Ag,ln,rn];have:j-(l.size+r.size)=0:=by lia
    rw[this];rfl
theorem Lg:∀(t:Tr) (o j:Nat),j<t.size->(∃x,en t o j=.word x/\be t o j=[o+j])\/∃a b,en t o j=.pair (o+a) (o+b)/\a<j/\b<j/\be t o j=be t o a++be t o b
 |.leaf x,o,j,h=>by
  have:j=0:=by have:j<1:=h;lia
  subst this;exact .inl ⟨x,rfl,rfl⟩
 |.node l r,o,j,h=>by
  have es:(Tr.node l r).size=l.size+r.size+1:=rfl;have lp:=l.size_pos;have rp:=r.size_pos;by_cases c1:j<l.size
  .have e1:en (.node l r) o j=en l o j:=by rw[en,if_pos c1]
   have e2:∀k,k<l.size->be (.node l r) o k=be l o k:=λk hk=>by rw[be,if_pos hk]
   rw[e1];rcases Lg l o j c1 with⟨x,q1,q2⟩|⟨a,b,q1,q2,q3,q4⟩
   .exact .inl ⟨x,q1,by rw[e2 j c1];exact q2⟩
   .exact .inr ⟨a,b,q1,q2,q3,by rw[e2 j c1,e2 a ∅,e2 b ∅];exact q4⟩
  .by_cases c2:j<l.size+r.size
   .have e1:en (.node l r) o j=en r (o+l.size) (j-l.size):=by rw[en,if_neg c1,if_pos c2]
    have e2:∀k,k<r.size->be (.node l r) o (l.size+k)=be r (o+l.size) k:=λk hk=>by
     rw[be,if_neg ∅,if_pos ∅];congr 1;lia
    have ej:j=l.size+(j-l.size):=by lia
    rw[e1];rcases Lg r (o+l.size) (j-l.size) ∅ with⟨x,q1,q2⟩|⟨a,b,q1,q2,q3,q4⟩
    .refine .inl ⟨x,q1,?_⟩;rw[ej,e2 _ ∅,q2];congr 1;lia
    .refine .inr ⟨l.size+a,l.size+b,?_,by lia,by lia,?_⟩
     .rw[q1,Cr,Cr]
     .rw[e2 a ∅,e2 b ∅,ej,e2 _ ∅,q4]
   .have ej:j=l.size+r.size:=by lia
    refine .inr ⟨l.size-1,l.size+r.size-1,?_,by lia,by lia,?_⟩
    .rw[en,if_neg c1,if_neg c2];congr 1<;>lia
    .rw[be,if_neg c1,if_neg c2,be,if_pos ∅,be,if_neg ∅,if_pos ∅];congr 2;lia
def jG:Tr->Nat->V->O V
 |.leaf _,_,p=>[p]
 |.node l r,o,p=>jG l o (.int (o+l.size+r.size:Nat))++jG r (o+l.size) (.int (o+l.size+r.size:Nat))++[p]
theorem gY:∀(t:Tr) (o:Nat) (p:V),(jG t o p).length=t.size
 |.leaf _,_,_=>rfl
 |.node l r,o,p=>by
  unfold jG;rw[Ag,Ag,gY l,gY r];rfl
theorem FT(t:Tr)(o:Nat)(p q:V)(A B:O V):(A++jG t o p++B).set (A.length+t.size-1) q=A++jG t o q++B:=by
 have É:∃I,jG t o p=I++[p]/\jG t o q=I++[q]:=by
  cases t with
  |leaf _=>exact⟨[],rfl,rfl⟩
  |node l r=>exact⟨_,rfl,rfl⟩
 obtain⟨I,e1,e2⟩:=É;have h1:=gY t o p;rw[e1,Ag]at h1;have gk:I.length+1=t.size:=h1;rw[e1,e2];have ei:A.length+t.size-1=(A++I).length:=by rw[Ag];lia
 rw[ei,show A++(I++[p])++B=(A++I)++p::B by simp,List.set_append_right _ _ (Am _),Nat.sub_self];simp
theorem Lk:∀(es fs:O Ent) (i:Nat) (l:O V),ah (es++fs) i l=ah fs (i+es.length) (ah es i l)
 |[],fs,i,l=>rfl
 |e::es,fs,i,l=>by
  show ah (es++fs) (i+1) (Ll l i e)=ah fs (i+(es.length+1)) (ah es (i+1) (Ll l i e));rw[Lk es fs];congr 1;lia
theorem yu:∀(t:Tr) (A B:O V),ah (t.nd A.length) A.length (A++Av t.size .az++B)=A++jG t A.length .az++B
 |.leaf x,A,B=>rfl
 |.node l r,A,B=>by
  have es:(Tr.node l r).size=l.size+r.size+1:=rfl;have hn:(Tr.node l r).nd A.length=l.nd A.length++r.nd (A.length+l.size)++[.pair (A.length+l.size-1) (A.length+l.size+r.size-1)]:=rfl;have ln:=l.fh A.length;have h1:=yu l A (Av r.size .az++([V.az]++B));have e0:A++Av (Tr.node l r).size V.az++B=A++Av l.size .az++(Av r.size .az++([V.az]++B)):=by
   rw[es,<- Dx,<- Dx];simp only[A2];rfl
  rw[hn,tY,Lk,e0,h1,ln];have la:(A++jG l A.length V.az).length=A.length+l.size:=by rw[Ag,gY]
  have h2:=yu r (A++jG l A.length V.az) ([V.az]++B);rw[la]at h2;have e1:A++jG l A.length V.az++(Av r.size V.az++([V.az]++B))=A++jG l A.length V.az++Av r.size V.az++([V.az]++B):=by simp[A2]
  rw[e1,h2,Ag,ln,(r.fh (A.length+l.size))];show((_:O V).set (A.length+l.size-1) _).set (A.length+l.size+r.size-1) _=_;have e2:A++jG l A.length V.az++jG r (A.length+l.size) V.az++([V.az]++B)=A++jG l A.length V.az++(jG r (A.length+l.size) V.az++([V.az]++B)):=by simp[A2]
  rw[e2,(FT l A.length .az (.int (A.length+(l.size+r.size):Nat)) A (jG r (A.length+l.size) V.az++([V.az]++B)))];have lb:(A++jG l A.length (V.int (A.length+(l.size+r.size):Nat))).length=A.length+l.size:=by rw[Ag,gY]
  have s2:=FT r (A.length+l.size) .az (.int (A.length+(l.size+r.size):Nat)) (A++jG l A.length (V.int (A.length+(l.size+r.size):Nat))) ([V.az]++B);rw[lb]at s2;have e3:A++jG l A.length (V.int (A.length+(l.size+r.size):Nat))++(jG r (A.length+l.size) V.az++([V.az]++B))=A++jG l A.length (V.int (A.length+(l.size+r.size):Nat))++jG r (A.length+l.size) V.az++([V.az]++B):=by simp[A2]
  rw[e3,s2];have e4:jG (.node l r) A.length .az=jG l A.length (.int (A.length+l.size+r.size:Nat))++jG r (A.length+l.size) (.int (A.length+l.size+r.size:Nat))++[.az]:=rfl;rw[e4,Cr A.length l.size r.size];simp[A2]
theorem tX:∀(t:Tr) (o j:Nat) (p:V),j<t.size->(jG t o p)[j]?=bn (rz t o j p)
 |.leaf x,o,j,p,h=>by
  have:j=0:=by have:j<1:=h;lia
  subst this;rfl
 |.node l r,o,j,p,h=>by
  have es:(Tr.node l r).size=l.size+r.size+1:=rfl;have ln:=gY l o (.int (o+l.size+r.size:Nat));have rn:=gY r (o+l.size) (.int (o+l.size+r.size:Nat));unfold jG rz;by_cases c1:j<l.size
  .rw[if_pos c1,A2,A8 ∅];exact tX l _ _ _ c1
  .rw[if_neg c1];by_cases c2:j<l.size+r.size
   .rw[if_pos c2,A2,Bm ∅,A8 ∅,ln];exact tX r _ _ _ ∅
   .rw[if_neg c2,Bm (by rw[Ag];lia),Ag,ln,rn];have:j-(l.size+r.size)=0:=by lia
    rw[this];rfl
def Th(t:Tr)(h:j<t.size):(ah (t.nd 0) 0 (Av t.size .az))[j]?=bn (rz t 0 j .az):=by
 have q:=yu t [] [];have e:([]:O V)++Av t.size .az++[]=Av t.size .az:=by simp
 have e2:([]:O V)++jG t ([]:O V).length .az++[]=jG t 0 .az:=by simp
 rw[e,e2]at q;have q':ah (t.nd 0) 0 (Av t.size .az)=jG t 0 .az:=q;rw[q'];exact tX t 0 j .az h
end My
variable{H1:L2.Hp}{ι:O Bi}
namespace PL
section
variable{K:Ab}
def Ly(K:Ab)(H:Hp)(a:f8)(xs:O V):Prop:=(∃o,H a=bn (.dj o (.lst xs)))\/
  ∃(o:Obj) (aj:Array db) (n:Nat),K.lookup a=bn o/\o.cls=.type "list"/\o.dict=cr/\o.data=.seq aj n/\aj.size<=sizeLine/\Vals xs aj.toList
def Ly.sq(h:Ly K H a xs):bO K H a xs:=h.elim (λh=>.inl (.inr h)) .inr
def v8(b:f8)(h:im):Prop:=∃(ns:O Int) (aj:O db) (n:Nat),ns.length<=sizeLine/\Vals (ns.map V.int) aj/\h.get? b=bn {cls:=.type "list",data:=.seq aj.toArray n}
def di(H:Hp)(b:f8):Prop:=H b=bn (.ext (v8 b))
def xk(h:∀p φ,H p=bn (.ext φ)->H' p=bn (.ext φ)):∀b,di H b->di H' b:=λ_ e=>h _ _ e
structure a8(K:Ab)(H H':Hp):Prop where
 t:∀p vs,H p=bn (.tup vs)->H' p=bn (.tup vs)
 z:∀p o u,H p=bn (.dj o u)->H' p=bn (.dj o u)
 x:∀b,di H b->di H' b
def a8.f{H H':Hp}(t:a8 K H H')(p:f8)(vs:O V)(h:Ly K H p vs):Ly K H' p vs:=h.elim (λ⟨o,h⟩=>.inl ⟨o,t.z _ _ _ h⟩) .inr
def a8.refl(H:Hp):a8 K H H:=⟨λ_ _ h=>h,λ_ _ _ h=>h,λ_ h=>h⟩
def a8.trans(a:a8 K H H1)(b:a8 K H1 H2):a8 K H H2:=⟨λp vs h=>b.t p vs (a.t p vs h),λp o w h=>b.z p o w (a.z p o w h),λp h=>b.x p (a.x p h)⟩
def _root_.L2.iL.eF(s:iL H H'):a8 K H H':=⟨λp vs h=>s _ _ h,λp o u h=>s _ _ h,xk λp φ h=>s _ _ h⟩
inductive PV where
 |az|bl (b:Bool)|int (i:Int)|str (x:Str)|tup (l:List PV)|ref (n:Nat)|ty (n:String)|cl (l:List PV)|dv (ks vs:List PV)|ob (ns:List Str) (l:List PV)|hand
def kP:Key->PV
 |.inl i=>.int i
 |.inr x=>.str x
inductive PO where
 |lst (xs:List PV)|dk (aD:List (Key×PV))|dt (aD:List (List Key×PV))|opq (φ:List V->Prop)
abbrev PH:=O PO
abbrev ug:=O (Option PV)
mutual
inductive VR(K:Ab)(ι:List f8)(H:Hp):V->PV->Prop
 |az:VR K ι H .az .az
 |bl (b:Bool):VR K ι H (.bl b) (.bl b)
 |int (i:Int):VR K ι H (.int i) (.int i)
 |str (x:Str):VR K ι H (.str x) (.str x)
 |ty (n:String):VR K ι H (.ty n) (.ty n)
 |tup {p:f8}{vs:List V}{l:List PV} (h:H p=bn (.tup vs)) (r:aA K ι H vs l):VR K ι H (.ref p) (.tup l)
 |ref {n:Nat}{a:f8} (h:ι[n]?=bn a):VR K ι H (.ref a) (.ref n)
 |cl {a:f8}{vs:List V}{l:List PV} (h:Ly K H a vs) (r:aA K ι H vs l):VR K ι H (.ref a) (.cl l)
 |dk {a:f8}{o:Obj}{aD:List (Key×V)}{ks l:List PV} (h:H a=bn (.dj o (.dK aD))) (e:ks=aD.map λkv=>kP kv.1) (r:aA K ι H (aD.map (·.2)) l):VR K ι H (.ref a) (.dv ks l)
 |dt {a:f8}{o:Obj}{aD:List (List Key×V)}{ks l:List PV} (h:H a=bn (.dj o (.dT aD))) (e:ks=aD.map λkv=>.tup (kv.1.map kP)) (r:aA K ι H (aD.map (·.2)) l):VR K ι H (.ref a) (.dv ks l)
 |ob {a C dx:f8}{o:Obj}{fs:List (Str×V)}{ns:List Str}{l:List PV} (h:H a=bn (.dj o (.ins C dx fs))) (c:Ye K C) (na:∀f∈ns,Lw K C f) (e:ns=fs.map (·.1)) (r:aA K ι H (fs.map (·.2)) l):VR K ι H (.ref a) (.ob ns l)
 |hand {a:f8} (h:di H a):VR K ι H (.ref a) .hand
inductive aA(K:Ab)(ι:List f8)(H:Hp):List V->List PV->Prop
 |nil:aA K ι H [] []
 |cons {v:V}{p:PV}{vs:List V}{ps:List PV} (r:VR K ι H v p) (t:aA K ι H vs ps):aA K ι H (v::vs) (p::ps)
end
section
variable{ι':O f8}
mutual
theorem VR.mono(ht:a8 K H H')(hi:∀(n:Nat) (a:f8),ι[n]?=bn a->ι'[n]?=bn a):∀{v:V}{p:PV},VR K ι H v p->VR K ι' H' v p
 |_,_,.az=>.az
 |_,_,.bl b=>.bl b
 |_,_,.int i=>.int i
 |_,_,.str x=>.str x
 |_,_,.ty n=>.ty n
 |_,_,.tup h r=>.tup (ht.t _ _ h) (aA.mono ht hi r)
 |_,_,.cl h r=>.cl (ht.f _ _ h) (aA.mono ht hi r)
 |_,_,.dk h e r=>.dk (ht.z _ _ _ h) e (aA.mono ht hi r)
 |_,_,.dt h e r=>.dt (ht.z _ _ _ h) e (aA.mono ht hi r)
 |_,_,.ob h c na e r=>.ob (ht.z _ _ _ h) c na e (aA.mono ht hi r)
 |_,_,.ref h=>.ref (hi _ _ h)
 |_,_,.hand h=>.hand (ht.x _ h)
theorem aA.mono(ht:a8 K H H')(hi:∀(n:Nat) (a:f8),ι[n]?=bn a->ι'[n]?=bn a):∀{vs:O V}{ps:O PV},aA K ι H vs ps->aA K ι' H' vs ps
 |_,_,.nil=>.nil
 |_,_,.cons r t=>.cons (VR.mono ht hi r) (aA.mono ht hi t)
end
theorem aA.length:∀{vs:O V}{ps:O PV},aA K ι H vs ps->vs.length=ps.length
 |_,_,.nil=>rfl
 |_,_,.cons _ t=>by rw[Ay,Ay,aA.length t]
theorem aA.get:∀{vs:O V}{ps:O PV}{i:Nat}{p:PV},aA K ι H vs ps->ps[i]?=bn p->∃v,vs[i]?=bn v/\VR K ι H v p
 |_,_,_,_,.nil,e=>by simp at e
 |_,_,0,_,.cons r _,e=>by simp at e;subst e;exact⟨_,rfl,r⟩
 |_,_,i+1,p,.cons _ t,e=>by
  obtain⟨v,h1,h2⟩:=aA.get t (by simpa using e);exact⟨v,by simpa using h1,h2⟩
theorem aA.Xa:∀{vs:O V}{ps:O PV}{i:Nat}{v:V},aA K ι H vs ps->vs[i]?=bn v->∃p,ps[i]?=bn p/\VR K ι H v p
 |_,_,_,_,.nil,e=>by simp at e
 |_,_,0,_,.cons r _,e=>by simp at e;subst e;exact⟨_,rfl,r⟩
 |_,_,i+1,p,.cons _ t,e=>by
  obtain⟨v,h1,h2⟩:=aA.Xa t (by simpa using e);exact⟨v,by simpa using h1,h2⟩
theorem aA.set{p:PV}(r:VR K ι H v p):∀{vs:O V}{ps:O PV} (i:Nat),aA K ι H vs ps->aA K ι H (vs.set i v) (ps.set i p)
 |_,_,_,.nil=>.nil
 |_,_,0,.cons _ t=>.cons r t
 |_,_,i+1,.cons q t=>.cons q (aA.set r i t)
theorem aA.append:∀{xs ys:O V}{us ws:O PV},aA K ι H xs us->aA K ι H ys ws->aA K ι H (xs++ys) (us++ws)
 |_,_,_,_,.nil,s=>s
 |_,_,_,_,.cons r t,s=>.cons r (aA.append t s)
theorem aA.take:∀{xs:O V}{us:O PV} (n:Nat),aA K ι H xs us->aA K ι H (xs.take n) (us.take n)
 |_,_,0,_=>.nil
 |_,_,_+1,.nil=>.nil
 |_,_,n+1,.cons r t=>.cons r (aA.take n t)
theorem aA.drop:∀{xs:O V}{us:O PV} (n:Nat),aA K ι H xs us->aA K ι H (xs.drop n) (us.drop n)
 |_,_,0,r=>r
 |_,_,_+1,.nil=>.nil
 |_,_,n+1,.cons _ t=>aA.drop n t
theorem aA.reverse:∀{xs:O V}{us:O PV},aA K ι H xs us->aA K ι H xs.reverse us.reverse
 |_,_,.nil=>.nil
 |_,_,.cons r t=>by rw[Dr,Dr];exact(aA.reverse t).append (.cons r .nil)
def aA.one{p:PV}(r:VR K ι H v p):aA K ι H [v] [p]:=.cons r .nil
end
structure Go(ι ι':List f8)(H H':Hp):Prop where
 ext:∃m,ι'=ι++m
 new:∀a,a∈ι'->a∉ι->H a=cr
 keep:∀a o,a∉ι->H a=bn o->H' a=bn o
def Go.refl(ι:O f8)(H:Hp):Go ι ι H H:=⟨⟨[],by simp⟩,λa h n=>absurd h n,λ_ _ _ h=>h⟩
def OR(K:Ab)(ι:O f8)(H:Hp)(a:f8):PO->Prop
 |.lst xs=>∃vs,H a=bn (.lst vs)/\aA K ι H vs xs
 |.dk aD=>∃vs:O (Key×V),H a=bn (.dK vs)/\vs.map (·.1)=aD.map (·.1)/\aA K ι H (vs.map (·.2)) (aD.map (·.2))
 |.dt aD=>∃vs:O (O Key×V),H a=bn (.dT vs)/\vs.map (·.1)=aD.map (·.1)/\aA K ι H (vs.map (·.2)) (aD.map (·.2))
 |.opq φ=>∃vs,H a=bn (.lst vs)/\φ vs
structure HR(K:Ab)(ι:List f8)(H:Hp)(h:PH):Prop where
 nd:ι.Nodup
 len:ι.length=h.length
 obj:∀(n:Nat) (a:f8) (o:PO),ι[n]?=bn a->h[n]?=bn o->OR K ι H a o
end
end PL
variable{a b e:B6}
namespace PL
section
variable{K:Ab}
abbrev QV:=PV->PH->Prop
structure ME where
 run:ug->PH->QV->Prop
 mono:∀{ps h}{Q Q':QV},(∀v h',Q v h'->Q' v h')->run ps h Q->run ps h Q'
structure MT where
 run:ug->PH->(Bool->PH->Prop)->Prop
 mono:∀{ps h}{Q Q':Bool->PH->Prop},(∀v h',Q v h'->Q' v h')->run ps h Q->run ps h Q'
structure MA where
 run:ug->PH->(List PV->PH->Prop)->Prop
 mono:∀{ps h}{Q Q':List PV->PH->Prop},(∀v h',Q v h'->Q' v h')->run ps h Q->run ps h Q'
structure ML where
 run:ug->PH->(List PV->PH->Prop)->Prop
 mono:∀{ps h}{Q Q':List PV->PH->Prop},(∀v h',Q v h'->Q' v h')->run ps h Q->run ps h Q'
structure Src where
 items:List PV
 ok:PH->Prop
 fz:Bool
structure MI where
 run:ug->PH->(Src->PH->Prop)->Prop
 mono:∀{ps h}{Q Q':Src->PH->Prop},(∀v h',Q v h'->Q' v h')->run ps h Q->run ps h Q'
structure PD where
 nx:ug->PH->Prop
 rt:QV
 bk:ug->PH->Prop
 ct:ug->PH->Prop
structure PD.Le(D D':PD):Prop where
 nx:∀ps h,D.nx ps h->D'.nx ps h
 rt:∀v h,D.rt v h->D'.rt v h
 bk:∀ps h,D.bk ps h->D'.bk ps h
 ct:∀ps h,D.ct ps h->D'.ct ps h
structure MS where
 run:PD->ug->PH->Prop
 mono:∀{D D' ps h},PD.Le D D'->run D ps h->run D' ps h
structure MG where
 run:PV->ug->PH->(ug->PH->Prop)->Prop
 mono:∀{v ps h}{Q Q':ug->PH->Prop},(∀ps h,Q ps h->Q' ps h)->run v ps h Q->run v ps h Q'
def pQ(K:Ab)(ι:O f8)(H:Hp)(Q:VK):QV:=λp h'=>∀ι' v H',Go ι ι' H H'->HR K ι' H' h'->VR K ι' H' v p->Q v H'
def PE.imp{t t':TE}(h:PE X e t)(f:∀σ H Q,t' σ H Q->t σ H Q):PE X e t':=λU s σ H Q I q=>h U s σ H Q I (f _ _ _ q)
def PT.imp{t t':TT}(h:PT X e t)(f:∀σ H Q,t' σ H Q->t σ H Q):PT X e t':=λU s σ H Q I q=>h U s σ H Q I (f _ _ _ q)
def PW.imp{t t':TT}(h:PW X e t)(f:∀σ H Q,t' σ H Q->t σ H Q):PW X e t':=λw U s σ H Q I q=>h w U s σ H Q I (f _ _ _ q)
def PA.imp{e:O lc}{t t':TA}(h:PA X e t)(f:∀σ H Q,t' σ H Q->t σ H Q):PA X e t':=λpos U s σ H Q I q=>h pos U s σ H Q I (f _ _ _ q)
def PS.imp{e:u8}{t t':TS}(h:PS X e t)(f:∀D σ H,t' D σ H->t D σ H):PS X e t':=λU s σ H D I q=>h U s σ H D I (f _ _ _ q)
def lh.imp{e:O u8}{t t':TS}(h:lh X e t)(f:∀D σ H,t' D σ H->t D σ H):lh X e t':=λU s σ H D I q=>h U s σ H D I (f _ _ _ q)
def PG.imp{t t':TG}(h:PG X e t)(f:∀v σ H Q,t' v σ H Q->t v σ H Q):PG X e t':=λU s σ H v u Q I r q=>h U s σ H v u Q I r (f _ _ _ _ q)
def PI.imp{t t':TI}(h:PI X tg e t)(f:∀σ H Q,t' σ H Q->t σ H Q):PI X tg e t':=λU s σ H R I q=>h U s σ H R I (f _ _ _ q)
section
abbrev P2:=PV->PV->PH->QV->Prop
structure M2 where
 f:P2
 mono:∀{x y h}{Q Q':QV},(∀v h',Q v h'->Q' v h')->f x y h Q->f x y h Q'
def M2.Ok(K:Ab)(r:R2)(m:M2):Prop:=∀{ι H h u v x y Q},HR K ι H h->VR K ι H u x->VR K ι H v y->m.f x y h (pQ K ι H Q)->r u v H Q
end
end
section
variable{K:Ab}
section
def iz:∀{vs:O V}{l:O PV},aA K ι H vs l->(!l.isEmpty)=!vs.isEmpty
 |_,_,.nil=>rfl
 |_,_,.cons _ _=>rfl
structure MQ where
 run:ug->PH->(Src->PH->Prop)->Prop
 mono:∀{ps h}{Q Q':Src->PH->Prop},(∀v h',Q v h'->Q' v h')->run ps h Q->run ps h Q'
end
end
section
structure MGs where
 run:List PV->ug->PH->(ug->PH->Prop)->Prop
 mono:∀{v ps h}{Q Q':ug->PH->Prop},(∀ps h,Q ps h->Q' ps h)->run v ps h Q->run v ps h Q'
end
section
variable{K:Ab}
section
structure LV where
 f:List PV->PH->QV->Prop
 mono:∀{l h}{Q Q':QV},(∀v h',Q v h'->Q' v h')->f l h Q->f l h Q'
def LV.Ok(K:Ab)(r:O V->Hp->VK->Prop)(m:LV):Prop:=∀{ι H h vs l Q},HR K ι H h->aA K ι H vs l->m.f l h (pQ K ι H Q)->r vs H Q
end
end
end PL
variable{g':Int->Int->L2.V}{g:Int->Int->PL.PV}
namespace PL
section
variable{K:Ab}
def aI(g:Int->Int->PV):M2:=⟨λx y h Q=>match x,y with|.int i,.int j=>Q (g i j) h|_,_=>False,λf q=>by
 revert q
 split
 .exact f _ _
 .exact λz=>z⟩
def Uu(C:Int->Int->Prop)(g:Int->Int->PV):M2:=⟨λx y h Q=>match x,y with|.int i,.int j=>C i j/\Q (g i j) h|_,_=>False,λf q=>by
 revert q
 split
 .exact λq=>⟨q.1,f _ _ q.2⟩
 .exact λz=>z⟩
def Ln(hg:∀ι H i j,VR K ι H (g' i j) (g i j)):M2.Ok K (Q9 g') (aI g):=by
 intro ι H h u v x y Q hr hu hv q;unfold aI at q;dsimp only at q;revert q
 split
 .intro q;cases hu;cases hv;exact⟨_,_,rfl,rfl,q ι _ H (Go.refl _ _) hr (hg _ _ _ _)⟩
 .exact BR
def yx{C:Int->Int->Prop}(hg:∀ι H i j,VR K ι H (g' i j) (g i j)):M2.Ok K (rI C g') (Uu C g):=by
 intro ι H h u v x y Q hr hu hv q;unfold Uu at q;dsimp only at q;revert q
 split
 .intro q;cases hu;cases hv;exact⟨_,_,rfl,rfl,q.1,q.2 ι _ H (Go.refl _ _) hr (hg _ _ _ _)⟩
 .exact BR
def RB:=aI λi j=>.int (i-j)
def RC:=Uu Fk λi j=>.int (i*j)
def oMod:=Uu (λ_ j=>0<j) λi j=>.int (i % j)
def M9:=Uu LB λi j=>.int (i ^ j.toNat)
def oLt:=aI λi j=>.bl (decide (i<j))
def oGe:=aI λi j=>.bl (decide (j<=i))
def aeO:M2:=⟨λx y h Q=>match x,y with
 |.int i,.int j=>Q (.int (i+j)) h
 |.str a,.str b=>a.length+b.length<=sizeLine/\Q (.str (a++b)) h
 |.tup a,.tup b=>a≠[]/\a.length+b.length<=sizeLine/\Q (.tup (a++b)) h
 |_,_=>False,λf q=>by
  revert q
  split
  .exact f _ _
  .exact λq=>⟨q.1,f _ _ q.2⟩
  .exact λq=>⟨q.1,q.2.1,f _ _ q.2.2⟩
  .exact λz=>z⟩
section
def aA.gG:∀{vs:O V}{l:O PV},aA K ι H vs l->(vs=[]↔l=[])
 |_,_,.nil=>by simp
 |_,_,.cons _ _=>by simp
end
mutual
def PV.dat:PV->Bool
 |.tup l=>XH l
 |.ref _=>false
 |.ty _=>false
 |.cl _=>false
 |.dv _ _=>false
 |.ob _ _=>false
 |.hand=>false
 |_=>true
def XH:O PV->Bool
 |[]=>true
 |x::l=>x.dat&&XH l
end
mutual
def PV.dep:PV->Nat
 |.tup l=>dF l+1
 |_=>0
def dF:O PV->Nat
 |[]=>0
 |x::l=>max x.dep (dF l)
end
mutual
def HY:PV->PV->Bool
 |.az,.az=>true
 |.bl a,.bl b=>a==b
 |.bl a,.int b=>(if a then 1 else 0)==b
 |.int a,.bl b=>a==(if b then 1 else 0)
 |.int a,.int b=>a==b
 |.str a,.str b=>a==b
 |.tup l,.tup m=>nR l m
 |_,_=>false
def nR:O PV->O PV->Bool
 |[],[]=>true
 |x::l,y::m=>HY x y&&nR l m
 |_,_=>false
end
theorem kM:∀{l:O PV}{j:Nat}{x:PV},l[j]?=bn x->x.dep<=dF l
 |[],_,_,e=>by simp at e
 |y::l,0,x,e=>by
  simp at e;subst e;rw[dF];lia
 |y::l,j+1,x,e=>by
  have:=kM (by simpa using e);rw[dF];lia
def eqJ(l m:O PV)(j:Nat):Bool:=match l[j]?,m[j]? with|some x,bn y=>HY x y|_,_=>true
theorem uH:∀(l m:O PV),((Ax (min l.length m.length)).all (eqJ l m)&&l.length==m.length)=nR l m
 |[],[]=>by rw[nR];rfl
 |[],_::_=>by
  rw[nR]
  .simp
  .intros;simp_all
  .intros;simp_all
 |_::_,[]=>by
  rw[nR]
  .simp
  .intros;simp_all
  .intros;simp_all
 |x::l,y::m=>by
  rw[nR,<- uH l m];have e:min (x::l).length (y::m).length=min l.length m.length+1:=by simp only[Ay];lia
  rw[e,Ds,Et,Fz];have e2:((x::l).length==(y::m).length)=(l.length==m.length):=by simp
  rw[e2,Bool.and_assoc];rfl
end
section
variable{K:Ab}
section
def PV.jB:PV->Bool
 |.az=>true
 |_=>false
def Jx:M2:=⟨λx y h Q=>match y with|.az=>Q (.bl x.jB) h|_=>False,λf q=>by
 revert q
 split
 .exact f _ _
 .exact λz=>z⟩
def zg:M2:=⟨λx y h Q=>match y with|.az=>Q (.bl (!x.jB)) h|_=>False,λf q=>by
 revert q
 split
 .exact f _ _
 .exact λz=>z⟩
def qT{x:PV}(h:VR K ι H v x):decide (v=.az)=x.jB:=by cases h<;>simp[PV.jB]
def Nc:M2.Ok K (λx y H Q=>y=.az/\Q (.bl (decide (x=.az))) H) Jx:=by
 intro ι H h u v x y Q hr hu hv q;cases hv with
 |az=>exact⟨rfl,q ι _ H (Go.refl _ _) hr (by rw[qT hu];exact .bl _)⟩
 |_=>exact q.elim
def Jv:M2.Ok K (λx y H Q=>y=.az/\Q (.bl (!decide (x=.az))) H) zg:=by
 intro ι H h u v x y Q hr hu hv q;cases hv with
 |az=>exact⟨rfl,q ι _ H (Go.refl _ _) hr (by rw[qT hu];exact .bl _)⟩
 |_=>exact q.elim
def aaQ:M2:=⟨λx y h Q=>match x,y with|.bl i,.bl j=>Q (.bl (i==j)) h|_,_=>False,λf q=>by
 revert q
 split
 .exact f _ _
 .exact λz=>z⟩
def eO:M2:=⟨λx y h Q=>match x,y with|.bl i,.bl j=>Q (.bl (!(i==j))) h|_,_=>False,λf q=>by
 revert q
 split
 .exact f _ _
 .exact λz=>z⟩
def xf:M2.Ok K (λx y H Q=>∃i j,x=.bl i/\y=.bl j/\Q (.bl (!(i==j))) H) eO:=by
 intro ι H h u v x y Q hr hu hv q;cases hu<;>first
  |exact q.elim
  |(cases hv<;>first|exact q.elim|exact⟨_,_,rfl,rfl,q ι _ H (Go.refl _ _) hr (.bl _)⟩)
end
end
end PL
variable{l:O PL.PV}
namespace PL
section
variable{K:Ab}
section
def IV{v':V}{w:db}(h:RelV v w)(h':RelV v' w):v=v':=Option.some.inj (h.abs.symm.trans h'.abs)
end
section
variable{c:lc}
def mIx(a:MQ)(b:ME):ME:=⟨λps h Q=>a.run ps h λS h1=>b.run ps h1 λy h2=>match y with
 |.int k=>S.ok h2/\match kZ S.items k with|some v=>Q v h2|none=>False
 |_=>False,λf q=>a.mono (λ_ _ q=>b.mono (λ_ _ q=>by
  revert q
  split
  .rintro⟨q0,q⟩;refine⟨q0,?_⟩;revert q
   split
   .exact f _ _
   .exact λz=>z
  .exact λz=>z) q) q⟩
def aA.kZ(r:aA K ι H vs l){k:Int}{p:PV}(e:L2.kZ l k=bn p):∃v,L2.kZ vs k=bn v/\VR K ι H v p:=by
 unfold L2.kZ at e ⊢;rw[r.length];cases z:qR l.length k with
 |none=>rw[z]at e;cases e
 |some j=>
  rw[z]at e;exact r.get e
def aeN:M2:=⟨λx y h Q=>match x,y with
 |.str z,.int k=>z.length<=sizeLine/\match L2.kZ z.cps.toList k with|some c=>Q (.str ⟨#[c]⟩) h|none=>False
 |_,_=>False,λf q=>by
  revert q
  split
  .rintro⟨q0,q⟩;refine⟨q0,?_⟩;revert q
   split
   .exact f _ _
   .exact λz=>z
  .exact λz=>z⟩
def jq:LV:=⟨λl h Q=>match l with
 |[.str y]=>y.length<=sizeLine/\Q (.int y.length) h
 |[.tup l]=>Q (.int l.length) h
 |[.cl l]=>Q (.int l.length) h
 |[.ref n]=>match h[n]? with
  |some (.lst xs)=>Q (.int xs.length) h
  |_=>False
 |_=>False,λf q=>by
  revert q
  split
  .exact λq=>⟨q.1,f _ _ q.2⟩
  .exact f _ _
  .exact f _ _
  .split
   .exact f _ _
   .exact λz=>z
  .exact λz=>z⟩
def Ou(K:Ab):LV.Ok K (Q8 K) jq:=by
 intro ι H h vs l Q hr hv q;unfold jq at q;dsimp only at q;revert q
 split
 .intro q;cases hv with
  |cons x t=>cases t;cases x;exact⟨_,_,rfl,⟨q.1,rfl⟩,q.2 ι _ H (Go.refl _ _) hr (.int _)⟩
 .intro q;cases hv with
  |cons x t=>
   cases t;cases x with
   |tup e r=>exact⟨_,_,rfl,.inr ⟨_,cG.of e,r.length.symm⟩,q ι _ H (Go.refl _ _) hr (.int _)⟩
 .intro q;cases hv with
  |cons x t=>
   cases t;cases x with
   |cl e r=>exact⟨_,_,rfl,.inl ⟨_,e.sq,r.length.symm⟩,q ι _ H (Go.refl _ _) hr (.int _)⟩
 .rename_i n;cases hv with
  |cons x t=>
   cases t;cases x with
   | @ref _ a e=>
   split
   .rename_i xs hn;intro q;obtain⟨ws,e1,e2⟩:=hr.obj n a _ e hn;exact⟨_,_,rfl,.inl ⟨ws,bO.of e1,e2.length.symm⟩,q ι _ H (Go.refl _ _) hr (.int _)⟩
   .exact BR
 .exact BR
inductive Kd where
 |str|tup|int|bool
def Kd.name:Kd->String
 |.str=>"str" | .tup=>"tuple" | .int=>"int" | .bool=>"bool"
def Kd.is:Kd->PV->Bool
 |.str,.str _=>true
 |.tup,.tup _=>true
 |.int,.int _=>true
 |.int,.bl _=>true
 |.bool,.bl _=>true
 |_,_=>false
def VG(K:Ab):O V->Hp->VK->Prop:=λxs H Q=>∃x c t b,xs=[x,.ty c]/\(jr K H x t\/(t=.type "tuple"/\∃a vs,x=.ref a/\cG K H a vs))/\Bt K t (.type c)=bn b/\Q (.bl b) H
def HD(K:Ab)(hK:X.K=K):cq X (.builtin "isinstance") (VG K):=by
 subst hK;intro U s σ H xs us Q I r h;obtain⟨x,c,t,b,rfl,ty|⟨rfl,a,vs,rfl,hT⟩,e,q⟩:=h
 .exact mF U s σ H _ us Q I r ⟨x,c,t,b,rfl,ty,e,q⟩
 .obtain⟨u,w,rfl,r1,r2⟩:=vals2 r;cases r1;cases r2;obtain⟨aj,_,⟨o,h1,h2,_⟩,_⟩:=I.tuple hT;exact Bd Fp I.qQ ⟨o,h1,h2⟩ e (λz=>nomatch z) λtk=>⟨.bl b,H,I.tok _,rfl,q⟩
def ni(K:Ab):(∀k:Kd,Bt K (.type "NoneType") (.type k.name)=bn false)/\(∀k:Kd,Bt K (.type "list") (.type k.name)=bn false)/\(∀k:Kd,Bt K (.type "dict") (.type k.name)=bn false):=
 ⟨λk=>by cases k<;>kernel_rfl,λk=>by cases k<;>kernel_rfl,λk=>by cases k<;>kernel_rfl⟩
def R5(K:Ab)(b:Bool)(k:Kd):Bt K (.type "bool") (.type k.name)=bn (k.is (.bl b)):=by cases k <;> kernel_rfl
def NC(K:Ab)(b:Int)(k:Kd):Bt K (.type "int") (.type k.name)=bn (k.is (.int b)):=by cases k <;> kernel_rfl
def NA(K:Ab)(b:Str)(k:Kd):Bt K (.type "str") (.type k.name)=bn (k.is (.str b)):=by cases k <;> kernel_rfl
def Nz(K:Ab)(b:O PV)(k:Kd):Bt K (.type "tuple") (.type k.name)=bn (k.is (.tup b)):=by cases k <;> kernel_rfl
end
end
end PL
variable{o:B6}
namespace PL
section
variable{K:Ab}
section
def IZ(K:Ab):O V->Hp->VK->Prop:=λxs H Q=>∃p ys,xs=[.ref p]/\((bO K H p ys/\jk H (.tup ys) Q)\/(cG K H p ys/\Q (.ref p) H))
def HC(K:Ab)(hK:X.K=K):cq X (.type "tuple") (IZ K):=by
 subst hK;exact qd.mono λxs H Q ⟨p,ys,e,h⟩=>⟨p,ys,e,h.imp (λ⟨h1,h2⟩=>⟨h1,λl hl=>h2.at l hl⟩) λz=>z⟩
theorem mf:∀{bs:O Bool}{vs:O V},aA K ι H vs (bs.map PV.bl)->vs=bs.map V.bl
 |[],_,h=>by cases h;rfl
 |b::bs,_,h=>by
  cases h with
  |cons x t=>cases x;rw[mf t];rfl
structure MQL where
 run:ug->PH->(Src->PH->Prop)->Prop
 mono:∀{ps h}{Q Q':Src->PH->Prop},(∀v h',Q v h'->Q' v h')->run ps h Q->run ps h Q'
structure MO where
 run:ug->PH->(Option Int->PH->Prop)->Prop
 mono:∀{ps h}{Q Q':Option Int->PH->Prop},(∀v h',Q v h'->Q' v h')->run ps h Q->run ps h Q'
def PO.imp{e:Option lc}{t t':TO}(h:L2.PO X e t)(f:∀σ H Q,t' σ H Q->t σ H Q):L2.PO X e t':=λU s σ H Q I q=>h U s σ H Q I (f _ _ _ q)
def bz(xs:O PV)(lo hi:Option Int):O PV:=(xs.drop (HT.cS xs.length 0 lo)).take (HT.cS xs.length xs.length hi-HT.cS xs.length 0 lo)
def aA.cut(r:aA K ι H vs l)(lo hi:Option Int):aA K ι H (vQ vs lo hi) (bz l lo hi):=by
 unfold vQ bz;rw[r.length];exact(r.drop _).take _
end
end
end PL
variable{p tp:Cu}
namespace PL
section
variable{K:Ab}
section
variable{c:lc}
def iA(lo:Int)(n:Nat):O PV:=(Ax n).map λ(i:Nat)=>.int (lo+(i:Int))
def iZ(lo:Int)(n:Nat):(iA lo n).length=n:=by unfold iA;simp
def lT{lo:Int}{p:PV}(h:(iA lo n)[i]?=bn p):i<n/\p=.int (lo+i):=by
 unfold iA at h;rw[Ap]at h;cases z:(Ax n)[i]? with
 |none=>rw[z]at h;cases h
 |some k=>
  rw[z]at h;obtain⟨h1,h2⟩:=Aj.mp z;simp at h1 h2;subst h2;exact⟨h1,(Option.some.inj h).symm⟩
def Mk(i:Int):Prop:=-(2 ^ 62)<=i/\i<2 ^ 62
def YJ(m:MA):MI:=⟨λps h Q=>m.run ps h λl h1=>match l with|[.int j]=>Mk j/\Q ⟨iA 0 j.toNat,λ_=>True,false⟩ h1|_=>False,λf q=>m.mono (λl h1 q=>by
 revert q
 split
 .exact λq=>⟨q.1,f _ _ q.2⟩
 .exact λz=>z) q⟩
def fj(k:Nat):O PV->O PV
 |[]=>[]
 |x::l=>.tup [.int (k:Int),x]::fj (k+1) l
theorem bM:∀(k:Nat) (l:O PV),(fj k l).length=l.length
 |_,[]=>rfl
 |k,x::l=>by rw[fj,Ay,Ay,bM]
theorem e6:∀{k:Nat}{l:O PV}{i:Nat}{p:PV},(fj k l)[i]?=bn p->∃x,l[i]?=bn x/\p=.tup [.int ((k+i:Nat):Int),x]
 |_,[],_,_,h=>by simp[fj]at h
 |k,x::l,0,p,h=>by simp[fj]at h;subst h;exact⟨x,rfl,by simp⟩
 |k,x::l,i+1,p,h=>by
  obtain⟨y,h1,h2⟩:=e6 (by simpa[fj]using h);exact⟨y,by simpa using h1,by rw[h2,show k+1+i=k+(i+1) by lia]⟩
def Sj(K:Ab)(t1:TE):TI:=λσ H R=>t1 σ H λx H1=>∃a,x=.ref a/\(((∃xs,bO K H1 a xs)/\R (X9 K a) H1)\/((∃xs,cG K H1 a xs)/\R (Ite K a) H1))
def Jm{X:Cx}(K:Ab)(hK:X.K=K){e1:lc}{t1:TE}(hg:Gl X "enumerate")(hm:X.mg "enumerate"=cr)(h1:PE X e1 t1)(s9:‹hV X e1 []›):PI X (.Tuple Ö kk tp) (.Call (.Name "enumerate" p1) [e1] [] p2) (Sj K t1):=by
 subst hK;intro U s σ H R I h;refine Bv (eD I hg hm boot_enumerate ?_ ⋯ ⋯);refine Ba ?_ s9 rfl;rw[s9];refine BG (bS (h1 U s σ H _ I h) λu1 s1 ⟨x,H1,I1,r1,a,ex,hh⟩=>BZ ?_);subst ex;cases r1;have d1:s1.heap.objs.size+1≠s1.heap.objs.size:=Nat.succ_ne_self _;rcases hh with⟨⟨xs,hx⟩,q⟩|⟨⟨xs,hx⟩,q⟩
 .obtain⟨aj,rx,tx,_⟩:=I1.list hx;refine call_enumerate_list tx.isList λh' ze hi _ k=>?_;refine Dn ze ?_;refine⟨_,_,_,_,H1,rfl,I1.kept k,wB d1,⟨⟨_,ze⟩,hi⟩,λc hc=>?_,q⟩;have Ñ:s1.heap.objs.size<=c:=by
   simp at hc;rcases hc with rfl|rfl
   .exact BA _ _
   .exact Am _
  exact I1.Hk Ñ (I1.bC.fresh Ñ)
 .obtain⟨aj,rx,tx,_⟩:=I1.tuple hx;have l1:=let ⟨_,e,_⟩:=tx;Ak e;refine ym tx λh' ze hi k=>?_;refine Dn ze ?_;refine⟨_,_,_,_,H1,rfl,I1.kept k,F4 d1 (Ar (Az l1 (BA _ 1))) (Ar l1),⟨⟨_,ze⟩,hi⟩,λc hc=>?_,q⟩;have Ñ:s1.heap.objs.size<=c:=by
   simp at hc;rcases hc with rfl|rfl
   .exact BA _ _
   .exact Am _
  exact I1.Hk Ñ (I1.bC.fresh Ñ)
def jJ:O PV->O PV->O PV
 |x::l,y::m=>.tup [x,y]::jJ l m
 |_,_=>[]
theorem ui:∀{l m:O PV}{i:Nat}{p:PV},(jJ l m)[i]?=bn p->∃x y,l[i]?=bn x/\m[i]?=bn y/\p=.tup [x,y]
 |[],m,i,p,h=>by simp[jJ]at h
 |x::l,[],i,p,h=>by simp[jJ]at h
 |x::l,y::m,0,p,h=>by simp[jJ]at h;subst h;exact⟨x,y,rfl,rfl,rfl⟩
 |x::l,y::m,i+1,p,h=>by
  obtain⟨u,w,h1,h2,h3⟩:=ui (by simpa[jJ]using h);exact⟨u,w,by simpa using h1,by simpa using h2,h3⟩
end
end
end PL
variable{op:PySem.CmpOp}{p3 p4:Cu}
namespace PL
section
variable{K:Ab}
section
structure JC(X:Cx)(K:Ab)(op:CmpOp)(b:lc)(m:M2):Prop where
 p:∃r,gp X (re op) r/\M2.Ok K r m
 k:wE op b=false
def Wz:JC X K .Lt b oLt:=⟨⟨_,VZ,Ln λ_ _ _ _=>.bl _⟩,fg _⟩
def WA:JC X K .GtE b oGe:=⟨⟨_,V0,Ln λ_ _ _ _=>.bl _⟩,fg _⟩
def J1:JC X K .Is b Jx:=⟨⟨_,Ru,Nc⟩,fg _⟩
def NI:JC X K .IsNot b zg:=⟨⟨_,M1,Jv⟩,fg _⟩
def lR:JC X K .IsNot b eO:=⟨⟨_,uT,xf⟩,fg _⟩
end
end
section
variable{K:Ab}
section
theorem zE:∀{ns:O Int}{vs:O V},aA K ι H vs (ns.map PV.int)->vs=ns.map V.int
 |[],_,h=>by cases h;rfl
 |b::bs,_,h=>by
  cases h with
  |cons x t=>cases x;rw[zE t];rfl
theorem zF(ι:O f8)(H:Hp):∀ns:O Int,aA K ι H (ns.map V.int) (ns.map PV.int)
 |[]=>.nil
 |n::ns=>.cons (.int n) (zF ι H ns)
end
end
end PL
variable{a:Bi}
namespace L2
section
variable{σ:St}
def Inv.freeze(I:Inv X U σ H s)(e:H a=bn (.dT aD)):∃o,Inv X U σ (upd H a (.dj o (.dT aD))) s:=by
 obtain⟨z,hs,xs,r,o,es,ep,h1,h2,h3,h4,h5⟩:=(show bA X.prog X.w H s.heap a (.dT aD) from I.bC a _ e);refine⟨o,?_⟩;have q:=I.write (x:=a) (e:=a) (o:=.dj o (.dT aD)) (h':=s.heap) (t':=s.toks) (by rw[e];exact B4) (.inl rfl) (λb u _ z=>z) ⟨o,h1⟩
  ⟨h1,z,hs,xs,KT.keeps r λb ys eb=>by rw[aw (zl eb e (λz=>nomatch z))];exact eb,o,es,ep,h1,h2,h3,h4,h5⟩
 exact q
end
end L2
variable{x:Bi}{o:L2.HO}{v:PL.PV}{ws:O (B0×L2.V)}{fz:O (Bi×Ez)}{ψ:Nat->O L2.V->Prop}{φ:D9->Prop}
noncomputable section
namespace FL
section
variable{K:Ab}
structure W(α:Type) where
 run:(α->Prop)->Prop
 mono:∀{Q Q':α->Prop},(∀a,Q a->Q' a)->run Q->run Q'
namespace W
variable{α β γ:Type}
def ext'{a b:W α}(h:∀Q,a.run Q↔b.run Q):a=b:=by
 cases a;cases b;congr;funext Q;exact propext (h Q)
noncomputable def ret(a:α):W α:=⟨λQ=>Q a,λh q=>h _ q⟩
noncomputable def bind(w:W α)(k:α->W β):W β:=⟨λQ=>w.run λa=>(k a).run Q,λh q=>w.mono (λa q=>(k a).mono h q) q⟩
def fail:W α:=⟨λ_=>False,λ_ q=>q⟩
def gm(p:Prop)(w:W α):W α:=⟨λQ=>p/\w.run Q,λh q=>⟨q.1,w.mono h q.2⟩⟩
def any(p:α->Prop):W α:=⟨λQ=>∀a,p a->Q a,λh q a pa=>h a (q a pa)⟩
def Wd:Option α->W α
 |some a=>ret a
 |none=>fail
@[simp] theorem ae(a:α)(k:α->W β):bind (ret a) k=k a:=(rfl)
@[simp] theorem bind_assoc(w:W α)(f:α->W β)(g:β->W γ):bind (bind w f) g=bind w λa=>bind (f a) g:=(rfl)
@[simp] theorem X0(w:W α):bind w ret=w:=(rfl)
@[simp] theorem Uk(k:α->W β):bind fail k=fail:=(rfl)
@[simp] theorem ai(a:α)(Q:α->Prop):(ret a).run Q=Q a:=(rfl)
@[simp] theorem run_bind(w:W α)(k:α->W β)(Q:β->Prop):(bind w k).run Q=w.run λa=>(k a).run Q:=(rfl)
@[simp] theorem Vr(Q:α->Prop):(fail:W α).run Q=False:=(rfl)
@[simp] theorem Yo(p Q:α->Prop):(any p).run Q=∀a,p a->Q a:=(rfl)
@[simp] theorem rT(p:Prop)(w:W α)(Q:α->Prop):(gm p w).run Q=(p/\w.run Q):=(rfl)
@[simp] theorem XS(p:Prop)(w:W α)(k:α->W β):bind (gm p w) k=gm p (bind w k):=(rfl)
def aq{p:Prop}{w:W α}(h:p):gm p w=w:=ext' λQ=>⟨λq=>q.2,λq=>⟨h,q⟩⟩
@[simp] theorem XR{w:W α}:gm True w=w:=aq trivial
@[simp] theorem uV(a:α):Wd (bn a)=ret a:=(rfl)
@[simp] theorem Wc:Wd (cr:Option α)=fail:=(rfl)
end W
inductive FD where
 |v (p:PV)|o (b:f8) (l:List PV)
def SX:O (Str×FD)->O f8
 |[]=>[]
 |(_,.v _)::l=>SX l
 |(_,.o b _)::l=>b::SX l
inductive Lz(K:Ab)(H:Hp):List (Str×V)->List (Str×FD)->Prop
 |nil:Lz K H [] []
 |v {n:Str}{u:V}{p:PV}{ws:List (Str×V)}{fd:List (Str×FD)} (r:VR K [] H u p) (t:Lz K H ws fd):Lz K H ((n,u)::ws) ((n,.v p)::fd)
 |o {n:Str}{b:f8}{vs:List V}{l:List PV}{ws:List (Str×V)}{fd:List (Str×FD)} (e:H b=bn (.lst vs)) (r:aA K [] H vs l) (t:Lz K H ws fd):Lz K H ((n,.ref b)::ws) ((n,.o b l)::fd)
inductive SL where
 |val (v:PV)|adr (b:f8) (us:List V) (ps:List PV) (fz:List (f8×Obj))|ol (q:Option f8) (l:List PV)|YE (bs:List f8) (ls:List (List PV))|od (aD:List (Key×PV))|ot (aD:List (List Key×PV))|dI (ψ:Nat->List V->Prop) (n m:Nat)|ob (q C:f8) (fd:List (Str×FD))
abbrev aH:=O (Option SL)
def Uw(H:Hp)(fz:O (f8×Obj)):Prop:=∀p∈fz,∃u,H p.1=bn (.dj p.2 u)
def Uw.tk(h:Uw H fz)(t:a8 K H H'):Uw H' fz:=λp hp=>let ⟨u,e⟩:=h p hp;⟨u,t.z _ _ _ e⟩
def _root_.L2.HO.nt:HO->Bool
 |.uu _=>false
 |_=>true
def _root_.L2.HO.ow:HO->Bool
 |.lst _=>true
 |.dK _=>true
 |.dT _=>true
 |.ins _ _ _=>true
 |_=>false
def Jp(h:o.ow=true):o.nt=true:=by cases o<;>first|rfl|cases h
class cu where
 ts:List (f8×Str)
def FzC(H:Hp)(c:db)(q:Str):Prop:=∃a o u vs t,c=.ref a/\H a=bn (.dj o u)/\o.data=.fields vs/\vs[1]?=bn (.str q t)
variable[cu]
def TB(H:Hp):Prop:=∀p∈cu.ts,∃ps,H p.1=bn (.uu ps)/\TriplesOk ps.toList/\∀pos c,codeAmong pos ps.toList=bn c->FzC H c p.2
def TB.mono(h:TB H)(h1:∀a ps,H a=bn (.uu ps)->H' a=bn (.uu ps))(h2:∀a o u vs,H a=bn (.dj o u)->o.data=.fields vs->∃u,H' a=bn (.dj o u)):TB H':=λp hp=>by
 obtain⟨ps,e,q,k⟩:=h p hp;refine⟨ps,h1 _ _ e,q,λpos c z=>?_⟩;obtain⟨a,o,u,vs,t,e1,e2,e3,e4⟩:=k pos c z;obtain⟨u',e5⟩:=h2 a o u vs e2 e3;exact⟨a,o,u',vs,t,e1,e5,e3,e4⟩
def TB.same(h:TB H)(s:iL H H'):TB H':=h.mono (λa _ z=>s a _ z) λa _ _ _ z _=>⟨_,s a _ z⟩
def TB.yV{ob:HO}(h:TB H)(s:jI a H H')(e:H a=bn ob)(n1:ob.nt=true)(n2:∀o u,ob≠.dj o u):TB H':=
 h.mono (λb _ z=>s b _ (λy=>by subst y;rw[e]at z;cases z;cases n1) z) λb _ _ _ z _=>⟨_,s b _ (λy=>by subst y;rw[e]at z;cases z;exact n2 _ _ rfl) z⟩
def SL.own:SL->Bool
 |.val _=>false
 |.adr _ _ _ _=>false
 |_=>true
def SL.J5:SL->O f8
 |.YE bs _=>bs
 |.ob _ _ fd=>SX fd
 |_=>[]
def SL.has(s:SL)(x a:f8):Prop:=a=x\/a∈s.J5
def wQ:Nat:=2 ^ 250
def v5(H:Hp)(a:f8)(ψ:Nat->O V->Prop)(n:Nat):Prop:=∃j vs,j<=n/\H a=bn (.lst vs)/\ψ j vs/\∀b,V.ref b∈vs->di H b
def hZ(K:Ab)(H:Hp)(a:f8):SL->Prop
 |.val _=>False
 |.adr b us ps fz=>a=b/\aA K [] H us ps/\Uw H fz
 |.YE bs ls=>H a=bn (.lst (bs.map V.ref))/\a∉bs/\bs.Nodup/\bs.length=ls.length/\∀(j:Nat) (b:f8) (l:O PV),bs[j]?=bn b->ls[j]?=bn l->∃ws,H b=bn (.lst ws)/\aA K [] H ws l
 |.ol q l=>(∀b,q=bn b->a=b)/\∃vs,H a=bn (.lst vs)/\aA K [] H vs l
 |.od aD=>∃vs:O (Key×V),H a=bn (.dK vs)/\vs.map (·.1)=aD.map (·.1)/\aA K [] H (vs.map (·.2)) (aD.map (·.2))
 |.ot aD=>∃vs:O (O Key×V),H a=bn (.dT vs)/\vs.map (·.1)=aD.map (·.1)/\aA K [] H (vs.map (·.2)) (aD.map (·.2))
 |.dI ψ n m=>v5 H a ψ n/\n<=m/\m<=wQ
 |.ob q C fd=>a=q/\Ye K C/\(∀p∈fd,Lw K C p.1)/\a∉SX fd/\(SX fd).Nodup/\∃dx ws,H a=bn (.ins C dx ws)/\Lz K H ws fd
def mG(K:Ab)(H:Hp)(u:V)(s:SL):Prop:=(∃v,s=.val v/\VR K [] H u v)\/∃a,u=.ref a/\hZ K H a s
def bP(σ:L2.St)(fs:aH)(a:f8):Prop:=∃(i:Nat) (s:SL) (x:f8),fs[i]?=bn (bn s)/\s.own=true/\σ[i]?=bn (bn (.ref x))/\s.has x a
def gn(σ:L2.St)(fs:aH)(ψ:Nat->O V->Prop)(m:Nat)(a:f8):Prop:=∃i n:Nat,fs[i]?=bn (bn (.dI ψ n m))/\σ[i]?=bn (bn (.ref a))
structure Ev(fs ay:aH):Prop where
 len:fs.length=ay.length
 at':∀i:Nat,fs[i]?=ay[i]?\/∃ψ n n' m,fs[i]?=bn (bn (.dI ψ n m))/\ay[i]?=bn (bn (.dI ψ n' m))
structure aO(K:Ab)(H:Hp)(σ:L2.St)(fs:aH):Prop where
 len:σ.length=fs.length
 at':∀(i:Nat) (s:SL),fs[i]?=bn (bn s)->∃u,σ[i]?=bn (bn u)/\mG K H u s
 nd:∀(i j:Nat) (s t:SL) (x y a:f8),fs[i]?=bn (bn s)->fs[j]?=bn (bn t)->s.own=true->t.own=true->σ[i]?=bn (bn (.ref x))->σ[j]?=bn (bn (.ref y))->s.has x a->t.has y a->i=j
 tb:TB H
structure bX(σ:L2.St)(fs:aH)(H:Hp)(σ':L2.St)(ay:aH)(H':Hp):Prop where
 keep:∀a o,H a=bn o->¬bP σ fs a->(o.nt=true->H' a=bn o)/\¬bP σ' ay a
 there:∀a,H' a=cr->H a=cr
 pk:∀a ψ m,gn σ fs ψ m a->gn σ' ay ψ m a\/(¬bP σ' ay a/\v5 H' a ψ m)
 x:∀b,di H b->di H' b
structure cg(σ:L2.St)(fs:aH)(H H':Hp)(ay:aH:=fs):Prop where
 keep:∀a o,H a=bn o->(∀ψ m,¬gn σ fs ψ m a)->(nt:‹o.nt=true›)->H' a=bn o
 there:∀a,H' a=cr->H a=cr
 ev:Ev fs ay
 x:∀b,di H b->di H' b
section
variable{σ σ' σ1 σ2:L2.St}{fs ay au fs2:aH}{H H' H1 H2:Hp}
def gn.ff{m:Nat}(p:gn σ fs ψ m a):bP σ fs a:=let ⟨i,n,e1,e2⟩:=p;⟨i,_,_,e1,rfl,e2,.inl rfl⟩
def Ev.refl(fs:aH):Ev fs fs:=⟨rfl,λ_=>.inl rfl⟩
def Ev.symm(e:Ev fs ay):Ev ay fs:=⟨e.len.symm,λi=>(e.at' i).imp Eq.symm λ⟨ψ,n,n',m,a,b⟩=>⟨ψ,n',n,m,b,a⟩⟩
def Ev.trans(e:Ev fs au)(k:Ev au fs2):Ev fs fs2:=⟨e.len.trans k.len,λi=>by
 rcases e.at' i with h|⟨ψ,n,n',m,h1,h2⟩
 .rw[h];exact k.at' i
 .rcases k.at' i with h|⟨ψ',j,j',m',h3,h4⟩
  .exact .inr ⟨ψ,n,n',m,h1,h▸h2⟩
  .rw[h2]at h3;cases h3;exact .inr ⟨ψ,n,j',m,h1,h4⟩⟩
def Ev.get(e:Ev fs ay){t:SL}(h:ay[i]?=bn (bn t)):(fs[i]?=bn (bn t))\/∃ψ n n' m,t=.dI ψ n' m/\fs[i]?=bn (bn (.dI ψ n m)):=by
 rcases e.at' i with h2|⟨ψ,n,n',m,h1,h2⟩
 .exact .inl (h2.trans h)
 .rw[h]at h2;cases h2;exact .inr ⟨ψ,n,n',m,rfl,h1⟩
def Ev.same(e:Ev fs ay){t:SL}(h:fs[i]?=bn (bn t))(n:∀ψ j m,t≠.dI ψ j m):ay[i]?=bn (bn t):=(e.symm.get h).resolve_right λ⟨_,_,_,_,z,_⟩=>n _ _ _ z
def Ev.dI(e:Ev fs ay){m:Nat}(p:gn σ ay ψ m a):gn σ fs ψ m a:=by
 obtain⟨i,n,h1,h2⟩:=p;rcases e.get h1 with h|⟨_,j,_,_,h,k⟩
 .exact⟨i,n,h,h2⟩
 .cases h;exact⟨i,j,k,h2⟩
def Ev.ff(e:Ev fs ay)(p:bP σ ay a):bP σ fs a:=by
 obtain⟨i,t,x,h1,h2,h3,h4⟩:=p;rcases e.get h1 with h|⟨_,j,_,_,rfl,k⟩
 .exact⟨i,t,x,h,h2,h3,h4⟩
 .exact⟨i,_,x,k,rfl,h3,h4⟩
def cg.refl:cg σ fs H H:=⟨λ_ _ h _ _=>h,λ_ h=>h,.refl _,λ_ h=>h⟩
def cg.trans(a:cg σ fs H H1 au)(b:cg σ au H1 H2 fs2):cg σ fs H H2 fs2:=⟨λx o h n t=>b.keep x o (a.keep x o h n t) (λψ m p=>n ψ m (a.ev.dI p)) t,λx h=>a.there x (b.there x h),a.ev.trans b.ev,λx h=>b.x x (a.x x h)⟩
def cg.f(g:cg σ fs H H' ay):bX σ fs H σ ay H':=⟨λa o h n=>⟨λt=>g.keep a o h (λ_ _ p=>n p.ff) t,λz=>n (g.ev.ff z)⟩,g.there,λa ψ m p=>.inl (g.ev.symm.dI p),g.x⟩
def cg.vj(g:cg σ fs H H' ay)(h:H a=bn o)(n:¬bP σ fs a)(t:‹o.nt=true›):H' a=bn o:=g.keep a o h (λ_ _ p=>n p.ff) t
def cg.same(h:iL H H'):cg σ fs H H':=⟨λa o e _ _=>h a o e,λa e=>(by
 cases z:H a with
 |none=>rfl
 |some o=>rw[h a o z]at e;cases e),.refl _,λ_ z=>h _ _ z⟩
def Lz.ex{fd:O (Str×FD)}(h:Lz K H ws fd){c:f8}(hc:c∈SX fd):∃vs,H c=bn (.lst vs):=by
 induction h with
 |nil=>cases hc
 |v r t ih=>exact ih hc
 | @o n b vs l ws fd e r t ih=>
  rcases Aw.mp (hc) with rfl|hc
  .exact⟨vs,e⟩
  .exact ih hc
def hZ.ex{c:f8}{s:SL}(h:hZ K H a s)(ho:s.own=true)(hc:s.has a c):∃o,H c=bn o/\(∀vs,o≠.tup vs)/\(∀ob u,o≠.dj ob u)/\o.ow=true:=by
 cases s with
 |val _=>exact h.elim
 |adr _ _ _ _=>cases ho
 |ol q l=>obtain⟨_,vs,e,_⟩:=h;rcases hc with rfl|hc;exact⟨_,e,by simp,by simp,rfl⟩;cases hc
 |YE bs ls=>
  obtain⟨e,_,_,hl,hb⟩:=h;rcases hc with rfl|hc
  .exact⟨_,e,by simp,by simp,rfl⟩
  .obtain⟨j,hj⟩:=BI (hc);obtain⟨ws,e,_⟩:=hb j c _ hj (Ai (by rw[<- hl];exact((Aj.mp hj).1)));exact⟨_,e,by simp,by simp,rfl⟩
 |od l=>obtain⟨vs,e,_⟩:=h;rcases hc with rfl|hc;exact⟨_,e,by simp,by simp,rfl⟩;cases hc
 |ot l=>obtain⟨vs,e,_⟩:=h;rcases hc with rfl|hc;exact⟨_,e,by simp,by simp,rfl⟩;cases hc
 |dI ψ n m=>obtain⟨⟨_,vs,_,e,_⟩,_⟩:=h;rcases hc with rfl|hc;exact⟨_,e,by simp,by simp,rfl⟩;cases hc
 |ob q C fd=>
  obtain⟨_,_,_,_,_,dx,ws,e,r⟩:=h;rcases hc with rfl|hc
  .exact⟨_,e,by simp,by simp,rfl⟩
  .obtain⟨vs,e⟩:=r.ex hc;exact⟨_,e,by simp,by simp,rfl⟩
def aO.ownAt(s:aO K H σ fs){t:SL}(h1:fs[i]?=bn (bn t))(h2:t.own=true)(h3:σ[i]?=bn (bn (.ref a))):hZ K H a t:=by
 obtain⟨u,e,r⟩:=s.at' i t h1;rw[h3]at e;cases e;rcases r with⟨v,rfl,_⟩|⟨b,e,r⟩
 .cases h2
 .cases e;exact r
def aO.ff(s:aO K H σ fs)(h:bP σ fs a):∃o,H a=bn o/\(∀vs,o≠.tup vs)/\(∀ob u,o≠.dj ob u)/\o.ow=true:=by
 obtain⟨i,t,x,h1,h2,h3,h4⟩:=h;exact(s.ownAt h1 h2 h3).ex h2 h4
def aO.noOwn(s:aO K H σ fs)(h:H a=cr):¬bP σ fs a:=λz=>by
 obtain⟨o,e,_⟩:=s.ff z;rw[h]at e;cases e
def aO.RH(s:aO K H σ fs)(h:H a=bn (.tup vs)):¬bP σ fs a:=λz=>by
 obtain⟨o,e,n,_⟩:=s.ff z;rw[h]at e;cases e;exact n vs rfl
def aO.RI(s:aO K H σ fs){u:HO}(h:H a=bn (.dj ob u)):¬bP σ fs a:=λz=>by
 obtain⟨o,e,_,n,_⟩:=s.ff z;rw[h]at e;cases e;exact n ob u rfl
def aO.RG(s:aO K H σ fs)(h:H a=bn (.ext φ)):¬bP σ fs a:=λz=>by
 obtain⟨o,e,_,_,n⟩:=s.ff z;rw[h]at e;cases e;cases n
def bX.refl:bX σ fs H σ fs H:=⟨λ_ _ h n=>⟨λ_=>h,n⟩,λ_ h=>h,λ_ _ _ h=>.inl h,λ_ h=>h⟩
def bX.Nf(a:bX σ fs H σ1 au H1)(b:bX σ1 au H1 σ2 fs2 H2)(h:H x=bn o)(n:¬bP σ fs x):¬bP σ2 fs2 x:=by
 cases z:H1 x with
 |none=>rw[a.there x z]at h;cases h
 |some o1=>exact(b.keep x o1 z ((a.keep x o h n).2)).2
def bX.trans(a:bX σ fs H σ1 au H1)(b:bX σ1 au H1 σ2 fs2 H2):bX σ fs H σ2 fs2 H2:=
 ⟨λx o h n=>⟨λt=>let ⟨h1,n1⟩:=a.keep x o h n;(b.keep x o (h1 t) n1).1 t,a.Nf b h n⟩,λx h=>a.there x (b.there x h),λx ψ m h=>(a.pk x ψ m h).elim (b.pk x ψ m) λ⟨n,j,vs,hj,e,p,q⟩=>.inr (let ⟨h1,n1⟩:=b.keep x _ e n;⟨n1,j,vs,hj,h1 rfl,p,λc hc=>b.x c (q c hc)⟩),λc h=>b.x c (a.x c h)⟩
def bX.dn(g:bX σ fs H σ' ay H')(s:aO K H σ fs):a8 K H H':=
 ⟨λa vs h=>(g.keep a _ h (s.RH h)).1 rfl,λa o u h=>(g.keep a _ h (s.RI h)).1 rfl,g.x⟩
def VR.tk{u:V}(t:a8 K H H')(r:VR K [] H u v):VR K [] H' u v:=r.mono t λ_ _ e=>e
def aA.tk{u:O V}{v:O PV}(t:a8 K H H')(r:aA K [] H u v):aA K [] H' u v:=r.mono t λ_ _ e=>e
def bX.vr(g:bX σ fs H σ' ay H')(s:aO K H σ fs){u:V}(r:VR K [] H u v):VR K [] H' u v:=VR.tk (g.dn s) r
def cg.dn(g:cg σ fs H H' ay)(s:aO K H σ fs):a8 K H H':=g.f.dn s
def cg.vr(g:cg σ fs H H' ay)(s:aO K H σ fs){u:V}(r:VR K [] H u v):VR K [] H' u v:=VR.tk (g.dn s) r
def cg.L6(g:cg σ fs H H' ay)(s:aO K H σ fs){u:O V}{v:O PV}(r:aA K [] H u v):aA K [] H' u v:=aA.tk (g.dn s) r
def Lz.mono{fd:O (Str×FD)}(t:a8 K H H')(h:Lz K H ws fd)(e:∀c vs,c∈SX fd->H c=bn (.lst vs)->H' c=bn (.lst vs)):Lz K H' ws fd:=by
 induction h with
 |nil=>exact .nil
 |v r _ ih=>exact .v (VR.tk t r) (ih e)
 | @o n b vs l ws fd q r _ ih=>exact .o (e b vs (.head _) q) (aA.tk t r) (ih λc vs hc=>e c vs (.tail _ hc))
def hZ.mono{s:SL}(t:a8 K H H')(e:∀c o,s.own=true->s.has a c->H c=bn o->o.nt=true->H' c=bn o)(h:hZ K H a s):hZ K H' a s:=by
 cases s with
 |val _=>exact h
 |adr _ _ _ _=>exact⟨h.1,aA.tk t h.2.1,h.2.2.tk t⟩
 |ol _ l=>obtain⟨z,vs,q,r⟩:=h;exact⟨z,vs,e _ _ rfl (.inl rfl) q rfl,aA.tk t r⟩
 |YE bs ls=>
  obtain⟨z,h1,h2,h3,h4⟩:=h;refine⟨e _ _ rfl (.inl rfl) z rfl,h1,h2,h3,λj b l hb hl=>?_⟩;obtain⟨ws,q,r⟩:=h4 j b l hb hl;exact⟨ws,e _ _ rfl (.inr (Ao hb)) q rfl,aA.tk t r⟩
 |od l=>obtain⟨vs,q,k,r⟩:=h;exact⟨vs,e _ _ rfl (.inl rfl) q rfl,k,aA.tk t r⟩
 |ot l=>obtain⟨vs,q,k,r⟩:=h;exact⟨vs,e _ _ rfl (.inl rfl) q rfl,k,aA.tk t r⟩
 |dI ψ n m=>obtain⟨⟨j,vs,hj,q,k,z⟩,r⟩:=h;exact⟨⟨j,vs,hj,e _ _ rfl (.inl rfl) q rfl,k,λb hb=>t.x b (z b hb)⟩,r⟩
 |ob q C fd=>obtain⟨h0,h1,h2,h3,h4,dx,ws,q,r⟩:=h;exact⟨h0,h1,h2,h3,h4,dx,ws,e _ _ rfl (.inl rfl) q rfl,r.mono t λc vs hc q=>e c _ rfl (.inr hc) q rfl⟩
def mG.mono{u:V}{s:SL}(t:a8 K H H')(e:∀x a o,u=.ref x->s.own=true->s.has x a->H a=bn o->o.nt=true->H' a=bn o)(h:mG K H u s):mG K H' u s:=by
 rcases h with⟨v,q,r⟩|⟨a,q,r⟩
 .exact .inl ⟨v,q,VR.tk t r⟩
 .exact .inr ⟨a,q,r.mono t (λc o z y w nt=>e a c o q z y w nt)⟩
def aO.same(s:aO K H σ fs)(h:iL H H'):aO K H' σ fs:=⟨s.len,λi t e=>let ⟨u,h1,h2⟩:=s.at' i t e;⟨u,h1,h2.mono h.eF (λ_ a o _ _ _ z _=>h a o z)⟩,s.nd,s.tb.same h⟩
def bX.same(h:iL H H')(s:aO K H σ fs):bX σ fs H σ fs H':=⟨λa o e n=>⟨λ_=>h a o e,n⟩,λa e=>(by
 cases z:H a with
 |none=>rfl
 |some o=>rw[h a o z]at e;cases e),λa ψ m p=>.inl p,λ_ z=>h _ _ z⟩
inductive cZ:aH->aH->Prop
 |nil:cZ [] []
 |drop {s:Option SL}{a b:aH} (h:cZ a b):cZ (s::a) (cr::b)
 |keep {s:Option SL}{a b:aH} (h:cZ a b):cZ (s::a) (s::b)
 |bump {ψ:Nat->List V->Prop}{n n' m:Nat}{a b:aH} (h:cZ a b) (k:n<=n'/\n'<=m):cZ (bn (.dI ψ n m)::a) (bn (.dI ψ n' m)::b)
def Tv(s t:SL):Prop:=s=t\/∃ψ n n' m,s=.dI ψ n m/\t=.dI ψ n' m/\n<=n'/\n'<=m
theorem cZ.at{a b:aH}(h:cZ a b):∀(i:Nat) (s:SL),b[i]?=bn (bn s)->∃t,a[i]?=bn (bn t)/\Tv t s:=by
 induction h with
 |nil=>intro i s e;simp at e
 |drop h ih=>intro i s e;cases i with|zero=>simp at e|succ i=>simp at e ⊢;exact ih i s e
 |keep h ih=>intro i s e;cases i with|zero=>exact⟨s,by simpa using e,.inl rfl⟩|succ i=>simp at e ⊢;exact ih i s e
 | @bump ψ n n' m a b h k ih=>intro i s e;cases i with|zero=>(simp at e;subst e;exact⟨_,rfl,.inr ⟨ψ,n,n',m,rfl,rfl,k⟩⟩)|succ i=>simp at e ⊢;exact ih i s e
theorem cZ.length{a b:aH}(h:cZ a b):a.length=b.length:=by induction h<;>simp_all
theorem cZ.refl:∀a:aH,cZ a a
 |[]=>.nil
 |_::a=>.keep (cZ.refl a)
def Tv.own{s t:SL}(h:Tv s t):s.own=t.own:=by rcases h with rfl|⟨_,_,_,_,rfl,rfl,_⟩<;>rfl
def Tv.has{s t:SL}(h:Tv s t)(k:t.has x a):s.has x a:=by
 rcases h with rfl|⟨_,_,_,_,rfl,rfl,_⟩
 .exact k
 .exact k
def Tv.slot{s t:SL}(h:Tv s t){u:V}(k:mG K H u s):mG K H u t:=by
 rcases h with rfl|⟨ψ,n,n',m,rfl,rfl,h1,h2⟩
 .exact k
 .rcases k with⟨v,e,_⟩|⟨a,e,⟨j,vs,hj,q⟩,_,hm⟩
  .cases e
  .exact .inr ⟨a,e,⟨j,vs,AI hj h1,q⟩,h2,hm⟩
def aO.le(s:aO K H σ fs)(h:cZ fs ay):aO K H σ ay:=⟨s.len.trans h.length,λi t e=>let ⟨_,e2,l⟩:=h.at i t e;let ⟨u,h1,h2⟩:=s.at' i _ e2;⟨u,h1,l.slot h2⟩,λi j t u x y a e1 e2 o1 o2 q1 q2 z1 z2=>let ⟨_,f1,l1⟩:=h.at i t e1;let ⟨_,f2,l2⟩:=h.at j u e2;s.nd i j _ _ x y a f1 f2 (l1.own▸o1) (l2.own▸o2) q1 q2 (l1.has z1) (l2.has z2),s.tb⟩
def bP.le(h:cZ fs ay)(o:bP σ ay a):bP σ fs a:=let ⟨i,t,x,e1,e2,e3,e4⟩:=o;let ⟨t',f1,l⟩:=h.at i t e1;⟨i,t',x,f1,l.own▸e2,e3,l.has e4⟩
def aO.free(s:aO K H σ fs){m:Nat}(p:gn σ fs ψ m a):v5 H a ψ m:=by
 obtain⟨i,n,e1,e2⟩:=p;obtain⟨⟨j,vs,hj,q⟩,h1,_⟩:=s.ownAt e1 rfl e2;exact⟨j,vs,AI hj h1,q⟩
def bX.le(s:aO K H σ fs)(h:cZ fs ay):bX σ fs H σ ay H:=⟨λa o e n=>⟨λ_=>e,λz=>n (z.le h)⟩,λ_ e=>e,λa ψ m p=>by
 have fr:=s.free p;obtain⟨i,n,e1,e2⟩:=p;by_cases c:bP σ ay a
 .obtain⟨j,t,x,c1,c2,c3,c4⟩:=c;obtain⟨t',f1,l⟩:=h.at j t c1;have ij:=s.nd i j _ t' a x a e1 f1 rfl (l.own▸c2) e2 c3 (.inl rfl) (l.has c4);subst ij;rw[e1]at f1;cases f1;rcases l with rfl|⟨_,_,n',_,l1,rfl,_⟩
  .exact .inl ⟨i,n,c1,e2⟩
  .cases l1;exact .inl ⟨i,n',c1,e2⟩
 .exact .inr ⟨c,fr⟩,λ_ h=>h⟩
def cj{l:O (Option α)}{x y:α}(h:(l.set i (bn x))[j]?=bn (bn y)):(j=i/\y=x)\/(j≠i/\l[j]?=bn (bn y)):=by
 by_cases c:j=i
 .subst c;rw[List.getElem?_set]at h;simp at h;exact .inl ⟨rfl,h.2.symm⟩
 .rw[C0 (λz=>c z.symm)]at h;exact .inr ⟨c,h⟩
def bF{l:List α}{x:α}(h:i<l.length):(l.set i x)[i]?=bn x:=by rw[List.getElem?_set];simp[h]
def aE{l:List α}{x:α}(h:j≠i):(l.set i x)[j]?=l[j]?:=C0 (λz=>h z.symm)
def aO.put(s:aO K H σ fs){u:V}{t:SL}(hr:mG K H u t)(hf:∀x a,u=.ref x->t.own=true->t.has x a->∀(j:Nat) (w:SL) (y:f8),j≠i->fs[j]?=bn (bn w)->w.own=true->σ[j]?=bn (bn (.ref y))->¬w.has y a):aO K H (σ.set i (bn u)) (fs.set i (bn t)):=by
 refine⟨by simp[s.len],λj w e=>?_,λj k w x b1 b2 a e1 e2 o1 o2 q1 q2 z1 z2=>?_,s.tb⟩
 .rcases cj e with⟨rfl,rfl⟩|⟨n,e⟩
  .have hl:j < σ.length:=by
    have:=(Aj.mp e).1;rw[CJ]at this;rw[s.len];exact this
   exact⟨u,bF hl,hr⟩
  .obtain⟨v,h1,h2⟩:=s.at' j w e;exact⟨v,by rw[aE n];exact h1,h2⟩
 .rcases cj e1 with⟨y1,y2⟩|⟨n1,f1⟩<;>rcases cj e2 with⟨y3,y4⟩|⟨n2,f2⟩
  .exact y1.trans y3.symm
  .subst y1;subst y2;rw[aE n2]at q2;have hl:j < σ.length:=by have:=(Aj.mp q1).1;simpa using this
   rw[bF hl]at q1;cases q1;exact absurd z2 (hf _ a rfl o1 z1 k x b2 n2 f2 o2 q2)
  .subst y3;subst y4;rw[aE n1]at q1;have hl:k < σ.length:=by have:=(Aj.mp q2).1;simpa using this
   rw[bF hl]at q2;cases q2;exact absurd z1 (hf _ a rfl o2 z2 j w b1 n1 f1 o1 q1)
  .rw[aE n1]at q1;rw[aE n2]at q2;exact s.nd j k w x b1 b2 a f1 f2 o1 o2 q1 q2 z1 z2
def aO.cW(s:aO K H σ fs){u:V}(hr:VR K [] H u v)(i:Nat):aO K H (σ.set i (bn u)) (fs.set i (bn (.val v))):=s.put (.inl ⟨v,rfl,hr⟩) λ_ _ _ z=>by cases z
def uP{u:V}{t:SL}(o:bP (σ.set i (bn u)) (fs.set i (bn t)) a)(hl:σ.length=fs.length):bP σ fs a\/∃x,u=.ref x/\t.own=true/\t.has x a:=by
 obtain⟨j,w,x,e1,e2,e3,e4⟩:=o;rcases cj e1 with⟨rfl,rfl⟩|⟨n,e1⟩
 .have h2:j < σ.length:=by have:=(Aj.mp e3).1;simpa using this
  rw[bF h2]at e3;cases e3;exact .inr ⟨x,rfl,e2,e4⟩
 .rw[aE n]at e3;exact .inl ⟨j,w,x,e1,e2,e3,e4⟩
def y7(s:aO K H σ fs){u:V}{t:SL}{m:Nat}(p:gn σ fs ψ m a)(hu:∀x,u=.ref x->t.own=true->t.has x a->∃n,t=.dI ψ n m):gn (σ.set i (bn u)) (fs.set i (bn t)) ψ m a\/¬bP (σ.set i (bn u)) (fs.set i (bn t)) a:=by
 obtain⟨j,n,e1,e2⟩:=p;by_cases c:j=i
 .subst c;by_cases c2:∃x,u=.ref x/\t.own=true/\t.has x a
  .obtain⟨x,c3,c4,c5⟩:=c2;obtain⟨n',rfl⟩:=hu x c3 c4 c5;rcases c5 with rfl|c5
   .exact .inl ⟨j,n',by rw[bF ((Aj.mp e1).1)],by rw[bF ((Aj.mp e2).1),c3]⟩
   .cases c5
  .refine .inr λo=>?_;obtain⟨k,w,y,q1,q2,q3,q4⟩:=o;rcases cj q1 with⟨rfl,rfl⟩|⟨n,q1⟩
   .rw[bF ((Aj.mp e2).1)]at q3;cases q3;exact c2 ⟨y,rfl,q2,q4⟩
   .rw[aE n]at q3;exact n (s.nd k j w _ y a a q1 e1 q2 rfl q3 e2 q4 (.inl rfl))
 .exact .inl ⟨j,n,by rw[aE c];exact e1,by rw[aE c];exact e2⟩
def bX.cW(s:aO K H σ fs)(u:V)(v:PV)(i:Nat):bX σ fs H (σ.set i (bn u)) (fs.set i (bn (.val v))) H:=
 ⟨λa o e n=>⟨λ_=>e,λz=>(uP z s.len).elim n λ⟨_,_,z,_⟩=>by cases z⟩,λ_ e=>e,λa ψ m p=>(y7 s p (λ_ _ z=>by cases z)).imp id λn=>⟨n,s.free p⟩,λ_ h=>h⟩
def aO.Jf(s:aO K H σ fs){t:SL}(hr:hZ K H a t)(hn:∀c,t.has a c->¬bP σ fs c)(i:Nat):aO K H (σ.set i (bn (.ref a))) (fs.set i (bn t)):=s.put (.inr ⟨a,rfl,hr⟩) λx c e _ hc j w y n e1 e2 e3 z=>by
 cases e;exact hn c hc ⟨j,w,y,e1,e2,e3,z⟩
def tw{t:SL}(hi:t.J5=[]){c:f8}(h:t.has a c):c=a:=by
 rcases h with h|h
 .exact h
 .rw[hi]at h;cases h
def aO.Jg(s:aO K H σ fs){t:SL}(hr:hZ K H a t)(hn:¬bP σ fs a)(i:Nat)(hi:‹t.J5=[]›):aO K H (σ.set i (bn (.ref a))) (fs.set i (bn t)):=s.Jf hr (λc hc=>by rw[tw hi hc];exact hn) i
def bX.Jf(s:aO K H1 σ au)(g:cg σ fs H H1 au){t:SL}(hn:∀c,t.has a c->¬bP σ au c)(h0:∀c,t.has a c->H c=cr)(i:Nat):bX σ fs H (σ.set i (bn (.ref a))) (au.set i (bn t)) H1:=by
 refine⟨λb o e n=>⟨(g.f.keep b o e n).1,λz=>(uP z s.len).elim (g.f.keep b o e n).2 λ⟨x,z,_,y⟩=>?_⟩,g.there,λb ψ m p=>?_,g.x⟩
 .cases z;rw[h0 b y]at e;cases e
 .have p:=g.ev.symm.dI p;refine(y7 s p (λx z o y=>?_)).imp id λn=>⟨n,s.free p⟩;cases z;exact absurd p.ff (hn b y)
def bX.Jg(s:aO K H1 σ au)(g:cg σ fs H H1 au){t:SL}(hn:¬bP σ au a)(h0:H a=cr)(i:Nat)(hi:‹t.J5=[]›):bX σ fs H (σ.set i (bn (.ref a))) (au.set i (bn t)) H1:=bX.Jf s g (λc hc=>by rw[tw hi hc];exact hn) (λc hc=>by rw[tw hi hc];exact h0) i
inductive ub:aH->aH->Prop
 |refl (a:aH):ub a a
 |keep {s:Option SL}{a b:aH} (h:ub a b):ub (s::a) (s::b)
 |bump {ψ:Nat->List V->Prop}{n n' m:Nat}{a b:aH} (k:n<=n'/\n'<=m) (h:ub a b):ub (bn (.dI ψ n m)::a) (bn (.dI ψ n' m)::b)
def ub.f{a b:aH}(h:ub a b):cZ a b:=by
 induction h with
 |refl a=>exact .refl a
 |keep _ ih=>exact .keep ih
 |bump k _ ih=>exact .bump ih k
def Ev.cons{a b:aH}(e:Ev a b){s t:Option SL}(h:s=t\/∃ψ n n' m,s=bn (.dI ψ n m)/\t=bn (.dI ψ n' m)):Ev (s::a) (t::b):=⟨by simp[e.len],λi=>by
 cases i with
 |zero=>exact h.imp (λz=>by rw[z];rfl) λ⟨ψ,n,n',m,z,y⟩=>⟨ψ,n,n',m,by rw[z];rfl,by rw[y];rfl⟩
 |succ i=>simpa using e.at' i⟩
def ub.ev{a b:aH}(h:ub a b):Ev a b:=by
 induction h with
 |refl a=>exact .refl a
 |keep _ ih=>exact ih.cons (.inl rfl)
 | @bump ψ n n' m _ _ _ _ ih=>exact ih.cons (.inr ⟨ψ,n,n',m,rfl,rfl⟩)
def Ev.nd(ev:Ev fs ay)(s:aO K H σ fs)(i j:Nat)(t u:SL)(x y a:f8)(e1:ay[i]?=bn (bn t))(e2:ay[j]?=bn (bn u))(o1:t.own=true)(o2:u.own=true)(q1:σ[i]?=bn (bn (.ref x)))(q2:σ[j]?=bn (bn (.ref y)))(z1:t.has x a)(z2:u.has y a):i=j:=by
 have f:∀{j:Nat}{t:SL}{x:f8},ay[j]?=bn (bn t)->t.own=true->t.has x a->∃t',fs[j]?=bn (bn t')/\t'.own=true/\t'.has x a:=λ{j t x} e o z=>by
  rcases ev.get e with k|⟨_,_,_,_,rfl,k⟩
  .exact⟨t,k,o,z⟩
  .exact⟨_,k,rfl,z⟩
 obtain⟨t',a1,a2,a3⟩:=f e1 o1 z1;obtain⟨u',b1,b2,b3⟩:=f e2 o2 z2;exact s.nd i j t' u' x y a a1 b1 a2 b2 q1 q2 a3 b3
def cg.le{a b:aH}(g:cg σ fs H H' a)(h:ub a b):cg σ fs H H' b:=⟨λc o e n t=>g.keep c o e n t,g.there,g.ev.trans h.ev,g.x⟩
def uR(s:aO K H σ fs){t t':SL}{c:f8}(e1:fs[i]?=bn (bn t))(o:t.own=true)(np:∀ψ n m,t≠.dI ψ n m)(e2:σ[i]?=bn (bn (.ref a)))(hc:t.has a c)(SJ:t'.has a c)(nr:∀b,t'.has a b->t.has a b)(o':t'.own=true)(sx:jI c H H')(ht:a8 K H H'->hZ K H' a t'):aO K H' σ (fs.set i (bn t'))/\bX σ fs H σ (fs.set i (bn t')) H':=by
 have oa:=s.ownAt e1 o e2;obtain⟨ob,q,n1,n2,n3⟩:=oa.ex o hc;have tk:a8 K H H':=⟨λb vs z=>sx b _ (λy=>by subst y;rw[q]at z;cases z;exact n1 _ rfl) z,λb o u z=>sx b _ (λy=>by subst y;rw[q]at z;cases z;exact n2 _ _ rfl) z,xk λb φ z=>sx b _ (λy=>by subst y;rw[q]at z;cases z;cases n3) z⟩;have oa':=ht tk;have hi:i<fs.length:=(Aj.mp e1).1;have MZ:∀b,bP σ (fs.set i (bn t')) b->bP σ fs b:=λb z=>by
  obtain⟨j,w,x,z1,z2,z3,z4⟩:=z;rcases cj z1 with⟨rfl,rfl⟩|⟨n,z1⟩
  .rw[e2]at z3;cases z3;exact⟨j,t,a,e1,o,e2,nr b z4⟩
  .exact⟨j,w,x,z1,z2,z3,z4⟩
 refine⟨⟨by simp[s.len],λj w e=>?_,λj k w x b1 b2 b z1 z2 o1 o2 q1 q2 y1 y2=>?_,s.tb.yV sx q (Jp n3) n2⟩,⟨λb ob e n=>⟨λ_=>sx b ob (λz=>by subst z;exact n ⟨i,t,a,e1,o,e2,hc⟩) e,λz=>n (MZ b z)⟩,λb e=>?_,λb ψ m p=>?_,tk.x⟩⟩
 .rcases cj e with⟨rfl,rfl⟩|⟨n,e⟩
  .exact⟨_,e2,.inr ⟨a,rfl,oa'⟩⟩
  .obtain⟨u,h1,h2⟩:=s.at' j w e;refine⟨u,h1,h2.mono tk (λx b ob eb ow hb z _=>sx b ob (λy=>?_) z)⟩;subst y;subst eb;exact n (s.nd j i w t x a b e e1 ow o h1 e2 hb hc)
 .have f:∀{j:Nat}{w:SL}{y:f8},(fs.set i (bn t'))[j]?=bn (bn w)->w.own=true->σ[j]?=bn (bn (.ref y))->w.has y b->∃w',fs[j]?=bn (bn w')/\w'.own=true/\w'.has y b:=λ{j w y} z ow qy hy=>by
   rcases cj z with⟨rfl,rfl⟩|⟨n,z⟩
   .rw[e2]at qy;cases qy;exact⟨t,e1,o,nr b hy⟩
   .exact⟨w,z,ow,hy⟩
  obtain⟨w',a1,a2,a3⟩:=f z1 o1 q1 y1;obtain⟨x',c1,c2,c3⟩:=f z2 o2 q2 y2;exact s.nd j k w' x' b1 b2 b a1 c1 a2 c2 q1 q2 a3 c3
 .cases z:H b with
  |none=>rfl
  |some ob=>
   by_cases cc:b=c
   .subst cc;obtain⟨o2,y,_⟩:=oa'.ex o' SJ;rw[e]at y;cases y
   .rw[sx b ob cc z]at e;cases e
 .obtain⟨j,k,p1,p2⟩:=p;have ji:j≠i:=λz=>by subst z;rw[e1]at p1;cases p1;exact np ψ k m rfl
  exact .inl ⟨j,k,by rw[aE ji];exact p1,p2⟩
def nT(s:aO K H σ fs){t t':SL}(e1:fs[i]?=bn (bn t))(o:t.own=true)(np:∀ψ n m,t≠.dI ψ n m)(e2:σ[i]?=bn (bn (.ref a)))(sx:jI a H H')(ht:a8 K H H'->hZ K H' a t')(hi:‹t'.J5=t.J5›)(o':‹t'.own=true›):aO K H' σ (fs.set i (bn t'))/\bX σ fs H σ (fs.set i (bn t')) H':=
 uR s e1 o np e2 (.inl rfl) (.inl rfl) (λb h=>by unfold SL.has at h ⊢;rw[hi]at h;exact h) o' sx ht
end
end
end FL
open FL.W renaming bind→ca,ret→ci,run_bind→gl,ae→lm,ai→lw,aq→sw,ext'→Gc
local macro_rules | `($a\$b)=>`(ca (ci $a) $b)
variable{x:B0}{u:L2.V}{fs ay au fs2 fs3:FL.aH}{σ':L2.St}{wa wb:FL.W PL.PV}{wl:FL.W (O PL.PV)}
namespace FL
section
variable[cu]
variable{K:Ab}
def fE(K:Ab)(fs:aH)(w:W PV)(ay:aH:=fs):TE:=λσ H Q=>aO K H σ fs/\w.run λv=>∀u H',cg σ fs H H' ay->aO K H' σ ay->VR K [] H' u v->Q u H'
def fT(K:Ab)(fs:aH)(w:W Bool)(ay:aH:=fs):TT:=λσ H Q=>aO K H σ fs/\w.run λb=>∀H',cg σ fs H H' ay->aO K H' σ ay->Q b H'
def fO(K:Ab)(fs:aH)(w:W (Option Int))(ay:aH:=fs):TO:=λσ H Q=>aO K H σ fs/\w.run λb=>∀H',cg σ fs H H' ay->aO K H' σ ay->Q b H'
def fL(K:Ab)(fs:aH)(w:W (O PV))(ay:aH:=fs):TE:=λσ H Q=>aO K H σ fs/\w.run λl=>∀a vs H',cg σ fs H H' ay->aO K H' σ ay->H a=cr->H' a=bn (.lst vs)->aA K [] H' vs l->Q (.ref a) H'
def Tq(K:Ab)(H:Hp)(u:V)(l:O PV):Prop:=∃a vs,u=.ref a/\(Ly K H a vs\/H a=bn (.tup vs))/\aA K [] H vs l
def OC(K:Ab)(σ:L2.St)(fs:aH)(H:Hp)(u:V)(l:O PV):Prop:=Tq K H u l\/∃a,u=.ref a/\((¬bP σ fs a/\∃vs,H a=bn (.lst vs)/\aA K [] H vs l)\/∃(i:Nat) (q:Option f8),fs[i]?=bn (bn (.ol q l))/\σ[i]?=bn (bn (.ref a)))
def fQ(K:Ab)(fs:aH)(w:W (O PV))(ay:aH:=fs):TE:=λσ H Q=>aO K H σ fs/\w.run λl=>∀u H',cg σ fs H H' ay->aO K H' σ ay->OC K σ ay H' u l->Q u H'
def fI(K:Ab)(fs:aH)(w:W (O PV))(ay:aH:=fs):TE:=λσ H Q=>aO K H σ fs/\w.run λl=>∀u H',cg σ fs H H' ay->aO K H' σ ay->Tq K H' u l->Q u H'
inductive AK where
 |v|p (ψ:Nat->List V->Prop) (d:Nat)|f (a:f8) (us:List V) (ps:List PV) (fz:List (f8×Obj))
inductive eI(K:Ab)(H:Hp):List V->List AK->List PV->Prop
 |nil:eI K H [] [] []
 |v {u:V}{x:PV}{vs:List V}{ks:List AK}{l:List PV} (r:VR K [] H u x) (t:eI K H vs ks l):eI K H (u::vs) (.v::ks) (x::l)
 |f {a:f8}{us vs:List V}{ps:List PV}{fz:List (f8×Obj)}{ks:List AK}{l:List PV} (r:aA K [] H us ps) (z:Uw H fz) (t:eI K H vs ks l):eI K H (.ref a::vs) (.f a us ps fz::ks) l
def fA(K:Ab)(fs:aH)(ks:O AK)(w:W (O PV))(ay:aH:=fs):TA:=λσ H Q=>aO K H σ fs/\w.run λl=>∀vs H',cg σ fs H H' ay->aO K H' σ ay->eI K H' vs ks l->Q vs H'
structure EF(X:Cx)(K:Ab)(fs:aH)(e:lc)(w:W PV)(ay:aH:=fs):Prop where p:PE X e (fE K fs w ay)
structure LF(X:Cx)(K:Ab)(fs:aH)(e:lc)(w:W (List PV))(ay:aH:=fs):Prop where p:PE X e (fL K fs w ay)
structure QF(X:Cx)(K:Ab)(fs:aH)(e:lc)(w:W (List PV))(ay:aH:=fs):Prop where p:PE X e (fQ K fs w ay)
structure IF(X:Cx)(K:Ab)(fs:aH)(e:lc)(w:W (List PV))(ay:aH:=fs):Prop where p:PE X e (fI K fs w ay)
structure TF(X:Cx)(K:Ab)(fs:aH)(e:lc)(w:W Bool)(ay:aH:=fs):Prop where p:PT X e (fT K fs w ay)
structure Ie(X:Cx)(K:Ab)(fs:aH)(e:lc)(w:W Bool)(ay:aH:=fs):Prop where p:PW X e (fT K fs w ay)
structure OF(X:Cx)(K:Ab)(fs:aH)(e:Option lc)(w:W (Option Int))(ay:aH:=fs):Prop where p:L2.PO X e (fO K fs w ay)
structure AF(X:Cx)(K:Ab)(fs:aH)(es:List lc)(ks:List AK){R:Type}(B:(List PV->W R)->W R)(ay:aH:=fs):Prop where
 p:∃w:W (List PV),PA X es (fA K fs ks w ay)/\∀k,B k=ca w k
section
def Tq.tk(t:a8 K H H')(h:Tq K H u l):Tq K H' u l:=by
 obtain⟨a,vs,e,q,r⟩:=h;exact⟨a,vs,e,q.imp (t.f _ _) (t.t _ _),aA.tk t r⟩
def OC.go(h:OC K σ fs H u l)(s:aO K H σ fs)(g:cg σ fs H H' ay):OC K σ ay H' u l:=by
 rcases h with h|⟨a,e,⟨n,vs,q,r⟩|q⟩
 .exact .inl (h.tk (g.dn s))
 .exact .inr ⟨a,e,.inl ⟨λz=>n (g.ev.ff z),vs,(g.vj q n),g.L6 s r⟩⟩
 .obtain⟨i,q0,h1,h2⟩:=q;exact .inr ⟨a,e,.inr ⟨i,q0,g.ev.same h1 (by simp),h2⟩⟩
def OC.sq(h:OC K σ fs H u l)(s:aO K H σ fs):∃a vs,u=.ref a/\(bO K H a vs\/cG K H a vs)/\aA K [] H vs l:=by
 rcases h with⟨a,vs,e,q,r⟩|⟨a,e,⟨n,vs,q,r⟩|⟨i,_,q1,q2⟩⟩
 .exact⟨a,vs,e,q.elim (λq=>.inl q.sq) λq=>.inr (cG.of q),r⟩
 .exact⟨a,vs,e,.inl (bO.of q),r⟩
 .obtain⟨_,vs,q,r⟩:=s.ownAt q1 rfl q2;exact⟨a,vs,e,.inl (bO.of q),r⟩
end
section
variable{a c o:lc}{rest:O lc}{w:W PV}
def ag(i:Nat)(hs:‹fs[i]?=bn (bn (.val v))›)(hN:‹X.N[i]?=bn x›)(hv:FV X.env.scope x:=by first|exact Ca rfl|exact B3 (Ca rfl)|exact B3 (B3 rfl))(hd: ~~~(iM x))(iC: ~~~(HQ x)):EF X K fs (.Name x pos) (.ret v):=
 ⟨PE.imp (fF hN hv hd iC) λσ H Q ⟨sr,q⟩=>by
  obtain⟨u,e1,r⟩:=sr.at' i _ hs;rcases r with⟨w,e,r⟩|⟨a,_,r⟩
  .cases e;exact⟨u,e1,q u H .refl sr r⟩
  .exact r.elim⟩
def Xr{v:V}{p:PV}(hv:∀H,VR K [] H v p)(h:PE X e (tC v)):EF X K fs e (.ret p):=⟨PE.imp h λσ H Q ⟨sr,q⟩=>q v H .refl sr (hv _)⟩
def ak{i j}:EF X K fs (.Constant (.int i) j pos) (.ret (.int i)):=Xr (λ_=>.int i) aW
def pX{b j}:EF X K fs (.Constant (.bool b) j pos) (.ret (.bl b)):=Xr (λ_=>.bl b) VT
def iG{j}:EF X K fs (.Constant .none j pos) (.ret .az):=Xr (λ_=>.az) Rm
def br{x j}:EF X K fs (.Constant (.str x) j pos) (.ret (.str x)):=Xr (λ_=>.str x) Rj
def iH{i:Str}{t:Tok}(hm:X.mg x=bn (.str i t))(hg:Gl X x)(hd: ~~~(iM x)):EF X K fs (.Name x pos) (.ret (.str i)):=Xr (λ_=>.str i) (MU hg hm ⟨_,rfl⟩ hd)
def of2(m:M2)(x y:PV):W PV:=⟨λQ=>m.f x y [] λz h=>h=[]/\Q z,λf q=>m.mono (λ_ _ q=>⟨q.1,f _ q.2⟩) q⟩
def hr0(H:Hp):HR K [] H []:=⟨List.nodup_nil,rfl,λn a o e _=>by simp at e⟩
def pq0{Q:VK}{z:PV}{h:PH}(sr:aO K H σ fs)(q:h=[]/\∀u H',cg σ fs H H'->aO K H' σ fs->VR K [] H' u z->Q u H'):pQ K [] H Q z h:=λι' v H' g r x=>by
 obtain⟨e,q⟩:=q;subst e;have:ι'=[]:=List.eq_nil_of_length_eq_zero r.len;subst this;have sm:iL H H':=λa o z=>g.keep a o (by simp) z;exact q v H' (cg.same sm) (sr.same sm) x
def Rz{r:R2}{m:M2}(hm:M2.Ok K r m){Q:VK}{v:V}{x y:PV}(sr:aO K H σ fs)(hu:VR K [] H u x)(hv:VR K [] H v y)(q:(of2 m x y).run λz=>∀u H',cg σ fs H H'->aO K H' σ fs->VR K [] H' u z->Q u H'):r u v H Q:=
 hm (hr0 H) hu hv (m.mono (λz h q=>pq0 sr q) q)
def KH{r:R2}{m:M2}(hm:M2.Ok K r m):∀σ H Q,fE K fs (.bind wa λx=>.bind wb λy=>of2 m x y) fs2 σ H Q->OV r (fE K fs wa au) (fE K au wb fs2) σ H Q:=λσ H Q ⟨sr,q⟩=>
 ⟨sr,wa.mono (λx q1 u1 H1 g1 s1 v1=>⟨s1,wb.mono (λy q2 u2 H2 g2 s2 v2=>Rz hm s2 (g2.vr s1 v1) v2 ((of2 m x y).mono (λz q u3 H3 g3 s3 v3=>q u3 H3 ((g1.trans g2).trans g3) s3 v3) q2)) q1⟩) q⟩
def N8{op:Operator}{r:R2}{m:M2}(ho:gp X (ut op) r)(hm:M2.Ok K r m)(ha:EF X K fs a wa au)(hb:EF X K au b wb fs2):EF X K fs (.BinOp a op b pos) (.bind wa λx=>.bind wb λy=>of2 m x y) fs2:=⟨PE.imp (cH ho ha.p hb.p) (KH hm)⟩
def Xx(ha:EF X K fs a wa au)(hb:EF X K au b wb fs2):EF X K fs (.BinOp a .Sub b pos) (.bind wa λx=>.bind wb λy=>of2 RB x y) fs2:=N8 Rp (Ln λ_ _ _ _=>.int _) ha hb
def Xz(ha:EF X K fs a wa au)(hb:EF X K au b wb fs2):EF X K fs (.BinOp a .Mult b pos) (.bind wa λx=>.bind wb λy=>of2 RC x y) fs2:=N8 iR (yx λ_ _ _ _=>.int _) ha hb
def PX(ha:EF X K fs a wa au)(hb:EF X K au b wb fs2):EF X K fs (.BinOp a .Mod b pos) (.bind wa λx=>.bind wb λy=>of2 oMod x y) fs2:=N8 lE (yx λ_ _ _ _=>.int _) ha hb
def PU(ha:EF X K fs a wa au)(hb:EF X K au b wb fs2):EF X K fs (.BinOp a .Pow b pos) (.bind wa λx=>.bind wb λy=>of2 M9 x y) fs2:=N8 Rq (yx λ_ _ _ _=>.int _) ha hb
def GB:PV->W PV
 |.int i=>.ret (.int (-i))
 |_=>.fail
def zU(ha:EF X K fs a wa au):EF X K fs (.UnaryOp .USub a pos) (.bind wa GB) au:=⟨PE.imp (VP Qo ha.p) λσ H Q ⟨sr,q⟩=>⟨sr,wa.mono (λx q1 u1 H1 g1 s1 v1=>by
 cases v1 with
 |int i=>exact⟨_,rfl,q1 _ H1 g1 s1 (.int _)⟩
 |_=>exact q1.elim) q⟩⟩
def P9:PV->W Bool
 |.bl b=>.ret b
 |_=>.fail
def PY{m:M2}(hc:JC X K op b m)(ha:EF X K fs a wa au)(hb:EF X K au b wb fs2):EF X K fs (.Compare a [op] [b] pos) (.bind wa λx=>.bind wb λy=>of2 m x y) fs2:=let ⟨_,h1,h2⟩:=hc.p;⟨PE.imp (zb h1 ha.p hb.p hc.k) (KH h2)⟩
def ab9{w:W PV}:∀σ H Q,fT K fs (.bind w P9) au σ H Q->(fE K fs w au) σ H λx H'=>∃k,x=.bl k/\Q k H':=λσ H Q ⟨sr,q⟩=>⟨sr,w.mono (λx q1 u1 H1 g1 s1 v1=>by
 cases v1 with
 |bl b=>exact⟨b,rfl,q1 H1 g1 s1⟩
 |_=>exact q1.elim) q⟩
def c6{m:M2}(hc:JC X K op b m)(ha:EF X K fs a wa au)(hb:EF X K au b wb fs2):TF X K fs (.Compare a [op] [b] pos) (.bind wa λx=>.bind wb λy=>.bind (of2 m x y) P9) fs2:=let ⟨_,h1,h2⟩:=hc.p
 ⟨PT.imp (iP h1 ha.p hb.p hc.k) λσ H Q q=>KH h2 σ H _ (ab9 σ H Q q)⟩
def Lb(z:PV)(w:W PV):W PV:=match z with
 |.bl true=>w
 |.bl false=>.ret (.bl false)
 |_=>.fail
def Ow(x:PV)(w:W PV):W PV:=match x with
 |.bl true=>w
 |.bl false=>.ret (.bl false)
 |_=>.fail
def RE:PV->W PV
 |.bl b=>.ret (.bl (!b))
 |_=>.fail
def zW(ha:EF X K fs a wa au)(hb:EF X K au (.BoolOp .And (b::rest) pos) wb fs2)(hl:ub au fs2:=by exact .refl _):EF X K fs (.BoolOp .And (a::b::rest) pos) (.bind wa λx=>Ow x wb) fs2:=⟨PE.imp (Ro ha.p hb.p) λσ H Q ⟨sr,q⟩=>⟨sr,wa.mono (λx q1 u1 H1 g1 s1 v1=>by
 cases v1 with
 |bl k=>
  cases k with
  |true=>exact⟨true,rfl,by rw[if_pos rfl];exact⟨s1,wb.mono (λ_ q u H' g s v=>q u H' (g1.trans g) s v) q1⟩⟩
  |false=>exact⟨false,rfl,by rw[if_neg A6];exact q1 _ H1 (g1.le hl) (s1.le hl.f) (.bl _)⟩
 |_=>exact q1.elim) q⟩⟩
def KZ{op}(h:EF X K fs a wa au):EF X K fs (.BoolOp op [a] pos) wa au:=⟨Rk h.p⟩
def Xy(ha:EF X K fs a wa au):EF X K fs (.UnaryOp .Not a pos) (.bind wa RE) au:=⟨PE.imp (Rl ha.p) λσ H Q ⟨sr,q⟩=>⟨sr,wa.mono (λx q1 u1 H1 g1 s1 v1=>by
 cases v1 with
 |bl k=>exact⟨_,rfl,q1 _ H1 g1 s1 (.bl _)⟩
 |_=>exact q1.elim) q⟩⟩
variable{ta tb tc:W Bool}
def L8(h:TF X K fs a ta au):Ie X K fs (.BoolOp .And [a] pos) ta au:=⟨yZ h.p⟩
def wy(h:TF X K fs a ta au):Ie X K fs (.BoolOp .Or [a] pos) ta au:=⟨Ra h.p⟩
def Qp(ha:TF X K fs a ta au)(hb:Ie X K au (.BoolOp .And (b::rest) pos) tb fs2)(hl:ub au fs2:=by exact .refl _):Ie X K fs (.BoolOp .And (a::b::rest) pos) (.bind ta λk=>if k=true then tb else .ret false) fs2:=⟨PW.imp (Je ha.p hb.p) λσ H Q ⟨sr,q⟩=>⟨sr,ta.mono (λk q1 H1 g1 s1=>by
 cases k with
 |true=>exact sX ⟨s1,tb.mono (λ_ q H' g s=>q H' (g1.trans g) s) q1⟩
 |false=>exact sY (q1 H1 (g1.le hl) (s1.le hl.f))) q⟩⟩
def Iu(ha:TF X K fs a ta au)(hb:Ie X K au (.BoolOp .Or (b::rest) pos) tb fs2)(hl:ub au fs2:=by exact .refl _):Ie X K fs (.BoolOp .Or (a::b::rest) pos) (.bind ta λk=>if k=true then .ret true else tb) fs2:=⟨PW.imp (VO ha.p hb.p) λσ H Q ⟨sr,q⟩=>⟨sr,ta.mono (λk q1 H1 g1 s1=>by
 cases k with
 |true=>exact sX (q1 H1 (g1.le hl) (s1.le hl.f))
 |false=>exact sY ⟨s1,tb.mono (λ_ q H' g s=>q H' (g1.trans g) s) q1⟩) q⟩⟩
def Ie.t(h:Ie X K fs a ta au):TF X K fs a ta au:=⟨PW.pt h.p⟩
def yM(ha:TF X K fs a ta au):TF X K fs (.UnaryOp .Not a pos) (.bind ta λk=>.ret (!k)) au:=⟨PT.imp (Rb ha.p) λσ H Q ⟨sr,q⟩=>⟨sr,q⟩⟩
def Ob(hc:TF X K fs c tc au)(ha:EF X K au a wa fs2)(hb:EF X K au b wb fs2):EF X K fs (.IfExp c a b pos) (.bind tc λk=>if k=true then wa else wb) fs2:=⟨PE.imp (uJ hc.p ha.p hb.p) λσ H Q ⟨sr,q⟩=>⟨sr,tc.mono (λk q1 H1 g1 s1=>by
 cases k with
 |true=>exact sX ⟨s1,wa.mono (λ_ q u H' g s v=>q u H' (g1.trans g) s v) q1⟩
 |false=>exact sY ⟨s1,wb.mono (λ_ q u H' g s v=>q u H' (g1.trans g) s v) q1⟩) q⟩⟩
def aa3{la lb:W (O PV)}(hc:TF X K fs c tc au)(ha:LF X K au a la fs2)(hb:LF X K au b lb fs2):LF X K fs (.IfExp c a b pos) (.bind tc λk=>if k=true then la else lb) fs2:=⟨PE.imp (uJ hc.p ha.p hb.p) λσ H Q ⟨sr,q⟩=>⟨sr,tc.mono (λk q1 H1 g1 s1=>by
 cases k with
 |true=>exact sX ⟨s1,la.mono (λ_ q a vs H' g s n e v=>q a vs H' (g1.trans g) s (g1.there a n) e v) q1⟩
 |false=>exact sY ⟨s1,lb.mono (λ_ q a vs H' g s n e v=>q a vs H' (g1.trans g) s (g1.there a n) e v) q1⟩) q⟩⟩
def fk:PV->W Bool
 |.az=>.ret false
 |.bl b=>.ret b
 |.int i=>.ret (i != 0)
 |.str y=>.gm (y.length<=sizeLine) (.ret ((y.length:Int) != 0))
 |.tup l=>.ret (!l.isEmpty)
 |.cl l=>.ret (!l.isEmpty)
 |_=>.fail
def ik(hK:X.K=K)(ha:EF X K fs a wa au)(he:∀Ä,isTrue a X.env Ä=(do let v <- Ä;standAt a.pos;EQ [v] (truthy v))):TF X K fs a (.bind wa fk) au:=⟨PT.imp (qC K hK ha.p he) λσ H Q ⟨sr,q⟩=>⟨sr,wa.mono (λx q1 u1 H1 g1 s1 v1=>by
 cases v1 with
 |az=>exact⟨false,rfl,q1 H1 g1 s1⟩
 |bl b=>exact⟨b,rfl,q1 H1 g1 s1⟩
 |int i=>exact⟨_,rfl,q1 H1 g1 s1⟩
 |str y=>exact⟨_,⟨q1.1,rfl⟩,q1.2 H1 g1 s1⟩
 |ty _=>exact q1.elim
 |dk _ _ _=>exact q1.elim
 |dt _ _ _=>exact q1.elim
 |ob _ _ _ _ _=>exact q1.elim
 |hand _=>exact q1.elim
 |ref _=>exact q1.elim
 | @tup p vs l e rs=>
  refine⟨!vs.isEmpty,.inr (.inl ⟨_,cG.of e,rfl⟩),?_⟩;rw[<- iz rs];exact q1 H1 g1 s1
 | @cl p vs l e rs=>
  refine⟨!vs.isEmpty,.inl ⟨_,e.sq,rfl⟩,?_⟩;rw[<- iz rs];exact q1 H1 g1 s1) q⟩⟩
def OT(hK:X.K=K)(ha:QF X K fs a wl au)(he:∀Ä,isTrue a X.env Ä=(do let v <- Ä;standAt a.pos;EQ [v] (truthy v))):TF X K fs a (.bind wl λl=>.ret (!l.isEmpty)) au:=⟨PT.imp (qC K hK ha.p he) λσ H Q ⟨sr,q⟩=>⟨sr,wl.mono (λl q1 u1 H1 g1 s1 v1=>by
 obtain⟨b,vs,rfl,h,rs⟩:=v1.sq s1;refine⟨!vs.isEmpty,?_,?_⟩
 .exact h.elim (λh=>.inl ⟨_,h,rfl⟩) λh=>.inr (.inl ⟨_,h,rfl⟩)
 .rw[<- iz rs];exact q1 H1 g1 s1) q⟩⟩
variable{R:Type}{ks:O AK}{B:(O PV->W R)->W R}
def af:AF X K fs [] [] (R:=R) (λk=>k []):=⟨.ret [],PA.imp cf λσ H Q ⟨sr,q⟩=>q [] H .refl sr .nil,λk=>rfl⟩
def aa(ha:EF X K fs e w au)(hr:AF X K au es ks B fs2)(hs:‹hV X e es›):AF X K fs (e::es) (.v::ks) (λk=>.bind w λx=>B λl=>k (x::l)) fs2:=by
 obtain⟨wr,hp,hB⟩:=hr.p;refine⟨.bind w λx=>.bind wr λl=>.ret (x::l),PA.imp (bo ha.p hp hs) λσ H Q ⟨sr,q⟩=>?_,λk=>?_⟩
 .exact⟨sr,w.mono (λx q1 u1 H1 g1 s1 v1=>⟨s1,wr.mono (λl q2 vs H2 g2 s2 v2=>q2 _ H2 (g1.trans g2) s2 (.v (g2.vr s1 v1) v2)) q1⟩) q⟩
 .have:(λx=>B λl=>k (x::l))=λx=>ca wr λl=>k (x::l):=funext λx=>hB _;rw[this];rfl
theorem eI.L6:∀{vs:O V}{n:Nat}{l:O PV},eI K H vs (Av n .v) l->aA K [] H vs l/\l.length=n
 |_,0,_,.nil=>⟨.nil,rfl⟩
 |_,n+1,_,.v r t=>⟨.cons r (eI.L6 t).1,by rw[Ay,(eI.L6 t).2]⟩
def Xw{x1}{B:(O PV->W PV)->W PV}(h:AF X K fs es (Av n .v) B au)(hn: ~~~(n<=1000)):EF X K fs (.Tuple es x1 pos) (B λl=>.ret (.tup l)) au:=by
 obtain⟨w,hp,hB⟩:=h.p;rw[hB];refine⟨PE.imp (MR hp) λσ H Q ⟨sr,q⟩=>⟨sr,w.mono (λl q1 vs H1 g1 s1 v1=>?_) q⟩⟩;obtain⟨v2,hl⟩:=v1.L6;exact⟨by rw[v2.length,hl];exact a9 hn,λp H2 s2 e2 n2=>q1 _ H2 (g1.trans (cg.same s2)) (s1.same s2) (.tup e2 (aA.tk s2.eF v2))⟩
def Wq{B:(O PV->W (O PV))->W (O PV)}(h:AF X K fs es (Av n .v) B au)(hn: ~~~(n<=1000)):LF X K fs (.List es pos) (B λl=>.ret l) au:=by
 obtain⟨w,hp,hB⟩:=h.p;rw[hB];refine⟨PE.imp (sf hp) λσ H Q ⟨sr,q⟩=>⟨sr,w.mono (λl q1 vs H1 g1 s1 v1=>?_) q⟩⟩;obtain⟨v2,hl⟩:=v1.L6;exact⟨by rw[v2.length,hl];exact a9 hn,λp H2 s2 e2 n2=>q1 _ _ H2 (g1.trans (cg.same s2)) (s1.same s2) (g1.there p n2) e2 (aA.tk s2.eF v2)⟩
end
end
end FL
namespace L2
def Inv.zN{σ:St}(I:Inv X U σ H s)(e:H a=bn (.lst vs)):∃o,Inv X U σ (upd H a (.dj o (.lst vs))) s:=by
 obtain⟨z,aj,n,r,h1⟩:=(I.bC a _ e);exact⟨_,I.write (by rw[e];exact B4) (.inl rfl) (λb u _ z=>z) ⟨_,h1⟩ ⟨h1,z,aj,n,r,h1⟩⟩
def Inv.zO{σ:St}{aD:O (Key×V)}(I:Inv X U σ H s)(e:H a=bn (.dK aD)):∃o,Inv X U σ (upd H a (.dj o (.dK aD))) s:=by
 obtain⟨z,hs,vs,r,o,es,ep,h1,h2⟩:=(I.bC a _ e);exact⟨o,I.write (by rw[e];exact B4) (.inl rfl) (λb u _ z=>z) ⟨o,h1⟩ ⟨h1,z,hs,vs,r,o,es,ep,h1,h2⟩⟩
end L2
variable{t:FL.SL}{ks:O FL.AK}{B:(O PL.PV->FL.W PL.PV)->FL.W PL.PV}{wm:FL.W (O PL.PV)}{q0:Option Bi}
namespace FL
section
variable[cu]
variable{K:Ab}
section
def mY(o':HO)(e:H a=bn (.lst vs)):a8 K H (upd H a o'):=⟨λb ws q=>by rw[aw (zl q e (by intro z;cases z))];exact q,λb o u q=>by rw[aw (zl q e (by intro z;cases z))];exact q,xk λb φ q=>by rw[aw (zl q e (by intro z;cases z))];exact q⟩
def P1(aD:O (Key×PV)):PV:=.dv (aD.map λkv=>kP kv.1) (aD.map (·.2))
def dvT(aD:O (O Key×PV)):PV:=.dv (aD.map λkv=>.tup (kv.1.map kP)) (aD.map (·.2))
def VW(h:o.ow=true):∀φ,o≠.ext φ:=λφ e=>by subst e;cases h
def d3{oh:HO}(o':HO)(e:H a=bn oh)(n1:∀vs,oh≠.tup vs)(n2:∀o u,oh≠.dj o u)(n3:∀φ,oh≠.ext φ:=by first|(intro φ z;cases z;done)|exact VW (by assumption)):a8 K H (upd H a o'):=⟨λb ws q=>by rw[aw (λz=>by subst z;rw[e]at q;cases q;exact n1 _ rfl)];exact q,λb o u q=>by rw[aw (λz=>by subst z;rw[e]at q;cases q;exact n2 _ _ rfl)];exact q,xk λb φ q=>by rw[aw (λz=>by subst z;rw[e]at q;cases q;exact n3 _ rfl)];exact q⟩
def Pk{vs:O (O Key×V)}{aD:O (O Key×PV)}(h:vs.map (·.1)=aD.map (·.1)):(aD.map λkv=>PV.tup (kv.1.map kP))=vs.map λkv=>PV.tup (kv.1.map kP):=by
 have:=congrArg (FO λk:O Key=>PV.tup (k.map kP)) h;rw[BV,BV]at this;exact this.symm
def Pl{vs:O (Key×V)}{aD:O (Key×PV)}(h:vs.map (·.1)=aD.map (·.1)):(aD.map λkv=>kP kv.1)=vs.map λkv=>kP kv.1:=by
 have:=congrArg (FO kP) h;rw[BV,BV]at this;exact this.symm
def SL.bw:SL->Bool
 |.ol _ _=>true
 |.od _=>true
 |.ot _=>true
 |_=>false
def SL.bv:SL->PV
 |.ol _ l=>.cl l
 |.od aD=>P1 aD
 |.ot aD=>dvT aD
 |_=>.az
def SL.Te(h:t.bw=true):t.own=true:=by cases t<;>first|rfl|cases h
def ab0(I:Inv X U σ' H s)(oa:hZ K H a t)(hb:t.bw=true):∃ob o,H a=bn o/\(∀vs,o≠.tup vs)/\(∀ob u,o≠.dj ob u)/\Inv X U σ' (upd H a (.dj ob o)) s/\VR K [] (upd H a (.dj ob o)) (.ref a) t.bv:=by
 cases t with
 |ol q l=>
  obtain⟨_,vs,e,r⟩:=oa;obtain⟨ob,I2⟩:=I.zN e;exact⟨ob,_,e,by simp,by simp,I2,.cl (.inl ⟨ob,aM⟩) (aA.tk (d3 _ e (by simp) (by simp)) r)⟩
 |od l=>
  obtain⟨vs,e,k,r⟩:=oa;obtain⟨ob,I2⟩:=I.zO e;exact⟨ob,_,e,by simp,by simp,I2,.dk aM (Pl k) (aA.tk (d3 _ e (by simp) (by simp)) r)⟩
 |ot l=>
  obtain⟨vs,e,k,r⟩:=oa;obtain⟨ob,I2⟩:=I.freeze e;exact⟨ob,_,e,by simp,by simp,I2,.dt aM (Pk k) (aA.tk (d3 _ e (by simp) (by simp)) r)⟩
 |_=>cases hb
def aO.abZ{u:HO}(sr:aO K H σ fs)(hs:fs[i]?=bn (bn t))(ho:t.own=true)(e1:σ[i]?=bn (bn (.ref a)))(h1:H a=bn o)(n1:∀vs,o≠.tup vs)(n2:∀ob u,o≠.dj ob u)(vr:VR K [] (upd H a u) (.ref a) v):aO K (upd H a u) σ (fs.set i (bn (.val v))):=by
 have ow:o.ow=true:=by
  obtain⟨o',z1,_,_,z2⟩:=(sr.ownAt hs ho e1).ex ho (.inl rfl);rw[h1]at z1;cases z1;exact z2
 have nt:o.nt=true:=Jp ow;refine⟨by simp[sr.len],λj t' z=>?_,λj k t' u b1 b2 b z1 z2 o1 o2=>?_,sr.tb.yV (λb o n z=>by rw[aw n];exact z) h1 nt n2⟩
 .rcases cj z with⟨rfl,rfl⟩|⟨n,z⟩
  .exact⟨_,e1,.inl ⟨_,rfl,vr⟩⟩
  .obtain⟨u,k1,k2⟩:=sr.at' j t' z;exact⟨u,k1,k2.mono (d3 _ h1 n1 n2) (λx b o eb ow hb zz _=>by
    subst eb;rw[aw (λy=>by subst y;exact n (sr.nd j i t' _ x b b z hs ow ho k1 e1 hb (.inl rfl)))];exact zz)⟩
 .rcases cj z1 with⟨rfl,rfl⟩|⟨n1,z1⟩
  .cases o1
  .rcases cj z2 with⟨rfl,rfl⟩|⟨n2,z2⟩
   .cases o2
   .exact sr.nd j k t' u b1 b2 b z1 z2 o1 o2
def aO.side(s:aO K H σ fs)(n:¬bP σ fs a)(e:H a=bn (.lst vs))(o':HO):aO K (upd H a o') σ fs:=⟨s.len,λi t q=>by
 obtain⟨u,h1,h2⟩:=s.at' i t q;exact⟨u,h1,h2.mono (mY o' e) (λx b o eb ow hb z _=>by subst eb;rw[aw (λy:b=a=>n ⟨i,t,x,q,ow,h1,y▸hb⟩)];exact z)⟩,s.nd,s.tb.yV (λb o n z=>by rw[aw n];exact z) e rfl (by simp)⟩
def cg.side(g:cg σ fs H H1 ay)(h0:H a=cr)(e0:∀φ,H1 a≠bn (.ext φ))(o':HO):cg σ fs H (upd H1 a o') ay:=⟨λb o e n t=>by rw[aw (bj e h0)];exact g.keep b o e n t,λb e=>by
 by_cases c:b=a
 .subst c;exact h0
 .rw[aw c]at e;exact g.there b e,g.ev,λb z=>by
 have z:=g.x b z;unfold di at z ⊢;rw[aw (λy=>by subst y;exact e0 _ z)];exact z⟩
end
section
variable{a:lc}{w:W PV}
def iI(h:LF X K fs e wl au):EF X K fs e (.bind wl λl=>.ret (.cl l)) au:=⟨λU s σ H Q I ⟨sr,q⟩=>by
 refine bS (h.p U s σ H (λu H1=>∃a vs l,u=.ref a/\cg σ fs H H1 au/\aO K H1 σ au/\H a=cr/\H1 a=bn (.lst vs)/\aA K [] H1 vs l/\∀u H',cg σ fs H H' au->aO K H' σ au->VR K [] H' u (.cl l)->Q u H') I ⟨sr,wl.mono (λl q1 a vs H1 g1 s1 n e v=>⟨a,vs,l,rfl,g1,s1,n,e,v,q1⟩) q⟩) λu s1 ⟨v,H1,I1,r1,a,vs,l,e,g1,Vp,n,ea,vr,q1⟩=>?_;subst e;obtain⟨ob,I2⟩:=I1.zN ea;exact⟨.ref a,_,I2,r1,q1 _ _ (g1.side n (λφ=>by rw[ea];simp) _) (Vp.side (λz=>sr.noOwn n (g1.ev.ff z)) ea _) (.cl (.inl ⟨ob,aM⟩) (aA.tk (mY _ ea) vr))⟩⟩
def aF:PV->W (O PV)
 |.tup l=>.ret l
 |.cl l=>.ret l
 |_=>.fail
def cx(h:EF X K fs e w au):IF X K fs e (.bind w aF) au:=⟨PE.imp h.p λσ H Q ⟨sr,q⟩=>⟨sr,w.mono (λx q1 u1 H1 g1 s1 v1=>by
 cases v1 with
 |tup e r=>exact q1 _ H1 g1 s1 ⟨_,_,rfl,.inr e,r⟩
 |cl e r=>exact q1 _ H1 g1 s1 ⟨_,_,rfl,.inl e,r⟩
 |_=>exact q1.elim) q⟩⟩
def vq(h:LF X K fs e wl au):IF X K fs e wl au:=cx (iI h)
theorem IF.q(h:IF X K fs e wl au):QF X K fs e wl au:=⟨PE.imp h.p λσ H Q ⟨sr,q⟩=>⟨sr,wl.mono (λl q1 u1 H1 g1 s1 v1=>q1 u1 H1 g1 s1 (.inl v1)) q⟩⟩
def aG(h:EF X K fs e w au):QF X K fs e (.bind w aF) au:=(cx h).q
def ml(h:LF X K fs e wl au):QF X K fs e wl au:=⟨PE.imp h.p λσ H Q ⟨sr,q⟩=>⟨sr,wl.mono (λl q1 a vs H1 g1 s1 n e v=>q1 _ H1 g1 s1 (.inr ⟨a,rfl,.inl ⟨λz=>sr.noOwn n (g1.ev.ff z),vs,e,v⟩⟩)) q⟩⟩
def qA(i:Nat)(hs:‹fs[i]?=bn (bn (.ol q0 l))›)(hN:‹X.N[i]?=bn x›)(hv:FV X.env.scope x:=by first|exact Ca rfl|exact B3 (Ca rfl)|exact B3 (B3 rfl))(hd: ~~~(iM x))(iC: ~~~(HQ x)):QF X K fs (.Name x pos) (.ret l):=
 ⟨PE.imp (fF hN hv hd iC) λσ H Q ⟨sr,q⟩=>by
  obtain⟨u,e1,r⟩:=sr.at' i _ hs;rcases r with⟨w,e,r⟩|⟨a,e,r⟩
  .cases e
  .subst e;exact⟨_,e1,q _ H .refl sr (.inr ⟨a,rfl,.inr ⟨i,q0,hs,e1⟩⟩)⟩⟩
def mQ(l:O PV):PV->W PV
 |.int i=>.Wd (kZ l i)
 |_=>.fail
def bD(hK:X.K=K)(ha:QF X K fs a wl au)(hb:EF X K au b wb fs2)(hs:FX b:=by exact λ_ _=>rfl):EF X K fs (.Subscript a b pos) (.bind wl λl=>.bind wb λy=>mQ l y) fs2:=⟨PE.imp (eG (bJ K hK) ha.p hb.p hs) λσ H Q ⟨sr,q⟩=>⟨sr,wl.mono (λl q1 u1 H1 g1 s1 v1=>⟨s1,wb.mono (λy q2 u2 H2 g2 s2 v2=>by
 cases v2 with
 |int i=>
  have q2:(W.Wd (kZ l i)).run _:=q2;cases z:kZ l i with
  |none=>rw[z]at q2;exact q2.elim
  |some x=>
   rw[z]at q2;obtain⟨ad,vs,rfl,h,rs⟩:=(v1.go s1 g2).sq s2;obtain⟨v,e1,e2⟩:=aA.kZ rs z;have q3:=q2 v H2 (g1.trans g2) s2 e2;exact h.elim (λh=>.inl ⟨ad,vs,i,v,rfl,rfl,h,e1,q3⟩) λh=>.inr (.inl ⟨ad,vs,i,v,rfl,rfl,h,e1,q3⟩)
 |_=>exact q2.elim) q1⟩) q⟩⟩
def Pa(m:LV)(l:O PV):W PV:=⟨λQ=>m.f l [] λz h=>h=[]/\Q z,λf q=>m.mono (λ_ _ q=>⟨q.1,f _ q.2⟩) q⟩
section
variable{id:String}{r:O V->Hp->VK->Prop}
def RA{m:LV}(hm:LV.Ok K r m){Q:VK}{us:O V}(sr:aO K H σ fs)(hu:aA K [] H us l)(q:(Pa m l).run λz=>∀u H',cg σ fs H H'->aO K H' σ fs->VR K [] H' u z->Q u H'):r us H Q:=hm (hr0 H) hu (m.mono (λz h q=>pq0 sr q) q)
def Oe{m:LV}(hc:cq X (.builtin id) r)(hB:LV.Ok K r m)(hg:Gl X x)(hm:X.mg x=cr)(hv:pi x=bn (.builtin id))(ha:AF X K fs (e::es) (Av n .v) B au)(hn: ~~~(x≠"__name__"))(jO: ~~~(iM x))(he:‹hV X e es›)(cX:‹kb X pos es›):EF X K fs (.Call (.Name x p) (e::es) [] pos) (B (Pa m)) au:=by
 obtain⟨w,hp,hB2⟩:=ha.p;rw[hB2];exact⟨PE.imp (f6 hc hg hm hv hp hn jO he cX) λσ H Q ⟨sr,q⟩=>⟨sr,w.mono (λl q1 vs H1 g1 s1 v1=>RA hB s1 v1.L6.1 ((Pa m l).mono (λz q u H' g s v=>q u H' (g1.trans g) s v) q1)) q⟩⟩
def CQ(K:Ab)(r:O V->Hp->VK->Prop)(m:O PV->W PV):Prop:=∀{fs:aH}{σ:L2.St}{H:Hp}{Q:VK}{u:V}{l:O PV},aO K H σ fs->OC K σ fs H u l->((m l).run λz=>∀u H',cg σ fs H H'->aO K H' σ fs->VR K [] H' u z->Q u H')->r [u] H Q
def CL(K:Ab)(r:O V->Hp->VK->Prop)(m:O PV->W (O PV)):Prop:=∀{fs:aH}{σ:L2.St}{H:Hp}{Q:VK}{u:V}{l:O PV},aO K H σ fs->OC K σ fs H u l->((m l).run λz=>∀a vs H',cg σ fs H H'->aO K H' σ fs->H a=cr->H' a=bn (.lst vs)->aA K [] H' vs z->Q (.ref a) H')->r [u] H Q
def K3{m:O PV->W PV}(hc:cq X (.builtin id) r)(hB:CQ K r m)(hg:Gl X x)(hm:X.mg x=cr)(hv:pi x=bn (.builtin id))(ha:QF X K fs e wl au)(hn: ~~~(x≠"__name__"))(jO: ~~~(iM x))(he:‹hV X e []›)(cX:‹kb X pos []›):EF X K fs (.Call (.Name x p) [e] [] pos) (.bind wl m) au:=⟨PE.imp (f6 hc hg hm hv (bo ha.p cf he) hn jO he cX) λσ H Q ⟨sr,q⟩=>⟨sr,wl.mono (λl q1 u H1 g1 s1 v1=>hB s1 v1 ((m l).mono (λz q u H' g s v=>q u H' (g1.trans g) s v) q1)) q⟩⟩
def Hu{m:O PV->W PV}(hc:cq X (.type id) r)(hB:CQ K r m)(hg:Gl X x)(hm:X.mg x=cr)(hv:pi x=bn (.type id))(ha:QF X K fs e wl au)(hn: ~~~(x≠"__name__"))(jO: ~~~(iM x))(he:‹hV X e []›)(cX:‹kb X pos []›):EF X K fs (.Call (.Name x p) [e] [] pos) (.bind wl m) au:=⟨PE.imp (qE hc hg hm hv (bo ha.p cf he) hn jO he cX) λσ H Q ⟨sr,q⟩=>⟨sr,wl.mono (λl q1 u H1 g1 s1 v1=>hB s1 v1 ((m l).mono (λz q u H' g s v=>q u H' (g1.trans g) s v) q1)) q⟩⟩
def YK{m:O PV->W (O PV)}(hc:cq X (.builtin id) r)(hB:CL K r m)(hg:Gl X x)(hm:X.mg x=cr)(hv:pi x=bn (.builtin id))(ha:QF X K fs e wl au)(hn: ~~~(x≠"__name__"))(jO: ~~~(iM x))(he:‹hV X e []›)(cX:‹kb X pos []›):LF X K fs (.Call (.Name x p) [e] [] pos) (.bind wl m) au:=⟨PE.imp (f6 hc hg hm hv (bo ha.p cf he) hn jO he cX) λσ H Q ⟨sr,q⟩=>⟨sr,wl.mono (λl q1 u H1 g1 s1 v1=>hB s1 v1 ((m l).mono (λz q a vs H' g s n e v=>q a vs H' (g1.trans g) s (g1.there a n) e v) q1)) q⟩⟩
def JN{m:O PV->W (O PV)}(hc:cq X (.type id) r)(hB:CL K r m)(hg:Gl X x)(hm:X.mg x=cr)(hv:pi x=bn (.type id))(ha:QF X K fs e wl au)(hn: ~~~(x≠"__name__"))(jO: ~~~(iM x))(he:‹hV X e []›)(cX:‹kb X pos []›):LF X K fs (.Call (.Name x p) [e] [] pos) (.bind wl m) au:=⟨PE.imp (qE hc hg hm hv (bo ha.p cf he) hn jO he cX) λσ H Q ⟨sr,q⟩=>⟨sr,wl.mono (λl q1 u H1 g1 s1 v1=>hB s1 v1 ((m l).mono (λz q a vs H' g s n e v=>q a vs H' (g1.trans g) s (g1.there a n) e v) q1)) q⟩⟩
end
def Nr(l:O PV):W PV:=.ret (.int l.length)
def Nt(K:Ab):CQ K (Q8 K) Nr:=λ{fs σ H Q u l} s v q=>by
 obtain⟨a,vs,rfl,h,rs⟩:=v.sq s;refine⟨_,vs.length,rfl,?_,?_⟩
 .exact h.elim (λh=>.inl ⟨_,h,rfl⟩) λh=>.inr ⟨_,h,rfl⟩
 .rw[rs.length];exact q _ H .refl s (.int _)
def nH(l:O PV):W PV:=.ret (.tup l)
def L9(K:Ab):CQ K (IZ K) nH:=λ{fs σ H Q u l} s v q=>by
 have fresh:∀{a:f8}{vs:O V},bO K H a vs->aA K [] H vs l->IZ K [.ref a] H Q:=λ{a vs} h rs=>⟨a,vs,rfl,.inl ⟨h,λp H2 s2 e2 n2=>q _ H2 (cg.same s2) (s.same s2) (.tup e2 (aA.tk s2.eF rs))⟩⟩;rcases v with⟨a,vs,rfl,h|h,rs⟩|⟨a,rfl,⟨n,vs,h,rs⟩|⟨i,_,q1,q2⟩⟩
 .exact fresh h.sq rs
 .exact⟨a,vs,rfl,.inr ⟨cG.of h,q _ H .refl s (.tup h rs)⟩⟩
 .exact fresh (bO.of h) rs
 .obtain⟨_,vs,h,rs⟩:=s.ownAt q1 rfl q2;exact fresh (bO.of h) rs
end
end
end FL
variable{R:Type}{y:B0}{d:Nat}
namespace FL
section
variable[cu]
variable{K:Ab}
def pd(vs:O V)(ks:O AK)(ψ:Nat->O V->Prop)(d:Nat)(a:f8):Prop:=∃i:Nat,ks[i]?=bn (.p ψ d)/\vs[i]?=bn (.ref a)
structure Qd(n:Nat)(vs:List V)(ks:List AK)(H H':Hp):Prop where
 keep:∀a o,H a=bn o->(∀ψ d,¬pd vs ks ψ d a)->(nt:‹o.nt=true›)->H' a=bn o
 tb:TB H'
 there:∀a,H' a=cr->H a=cr
 Rh:∀a ψ d,pd vs ks ψ d a->v5 H' a ψ (n+d)
 x:∀b,di H b->di H' b
inductive gq(K:Ab)(H:Hp)(n:Nat):List V->List AK->List PV->Prop
 |nil:gq K H n [] [] []
 |v {u:V}{x:PV}{vs:List V}{ks:List AK}{l:List PV} (r:VR K [] H u x) (t:gq K H n vs ks l):gq K H n (u::vs) (.v::ks) (x::l)
 |p {a:f8}{ψ:Nat->List V->Prop}{d:Nat}{vs:List V}{ks:List AK}{l:List PV} (e:v5 H a ψ n) (r:n+d<=wQ) (t:gq K H n vs ks l):gq K H n (.ref a::vs) (.p ψ d::ks) l
 |f {a:f8}{us vs:List V}{ps:List PV}{fz:List (f8×Obj)}{ks:List AK}{l:List PV} (r:aA K [] H us ps) (z:Uw H fz) (t:gq K H n vs ks l):gq K H n (.ref a::vs) (.f a us ps fz::ks) l
def Ga(K:Ab)(ks:O AK)(m:O PV->W PV):Sp:=λvs H Q _=>TB H/\∃n l,gq K H n vs ks l/\(m l).run λv=>∀u H',Qd n vs ks H H'->VR K [] H' u v->Q u H'
def F9(K:Ab)(ks:O AK)(m:O PV->W (O PV)):Sp:=λvs H Q _=>TB H/\∃n l,gq K H n vs ks l/\(m l).run λz=>∀a ws H',Qd n vs ks H H'->H a=cr->H' a=bn (.lst ws)->aA K [] H' ws z->Q (.ref a) H'
def wg(R:Type):Nat->Type
 |0=>W R
 |n+1=>PV->wg R n
def rJ:(n:Nat)->wg R n->O PV->W R
 |0,m,[]=>m
 |n+1,m,x::l=>rJ n (m x) l
 |0,_,_::_=>.fail
 |_+1,_,[]=>.fail
section
def eI.nop(h:eI K H vs ks l):¬pd vs ks ψ d a:=by
 rintro⟨i,e1,e2⟩
 induction h generalizing i with
 |nil=>simp at e1
 |v r t ih=>cases i with|zero=>simp at e1|succ i=>exact ih i (by simpa using e1) (by simpa using e2)
 |f r z t ih=>cases i with|zero=>simp at e1|succ i=>exact ih i (by simpa using e1) (by simpa using e2)
def eI.c(h:eI K H vs ks l):gq K H n vs ks l:=by
 induction h with
 |nil=>exact .nil
 |v r t ih=>exact .v r ih
 |f r z t ih=>exact .f r z ih
def Qd.caller(g:Qd n vs ks H H')(h:eI K H vs ks l)(s:aO K H σ fs):aO K H' σ fs/\cg σ fs H H':=by
 have gf:cg σ fs H H':=⟨λa o e _ t=>g.keep a o e (λ_ _=>h.nop) t,g.there,.refl _,g.x⟩;refine⟨⟨s.len,λi t e=>?_,s.nd,g.tb⟩,gf⟩;obtain⟨u,h1,h2⟩:=s.at' i t e;exact⟨u,h1,h2.mono (gf.dn s) λx a o _ _ _ z nt=>g.keep a o z (λ_ _=>h.nop) nt⟩
def Qd.Ot{m:Nat}(g:Qd n (.ref a::vs) (.p ψ d::ks) H H')(h:eI K H vs ks l)(s:aO K H σ fs)(e1:fs[i]?=bn (bn (.dI ψ n m)))(e2:σ[i]?=bn (bn (.ref a)))(hd:n+d<=m):aO K H' σ (fs.set i (bn (.dI ψ (n+d) m)))/\cg σ fs H H' (fs.set i (bn (.dI ψ (n+d) m))):=by
 have pa:∀{b ψ' d'},pd (.ref a::vs) (.p ψ d::ks) ψ' d' b->b=a:=λ{b ψ' d'} ⟨j,z1,z2⟩=>by
  cases j with
  |zero=>simp at z2;exact z2.symm
  |succ j=>exact(h.nop ⟨j,by simpa using z1,by simpa using z2⟩).elim
 have hi:i<fs.length:=(Aj.mp e1).1;have ev:Ev fs (fs.set i (bn (.dI ψ (n+d) m))):=⟨by simp,λj=>by
  by_cases c:j=i
  .subst c;exact .inr ⟨ψ,n,n+d,m,e1,bF hi⟩
  .exact .inl (aE c).symm⟩
 have gf:cg σ fs H H' (fs.set i (bn (.dI ψ (n+d) m))):=⟨λb o e q t=>g.keep b o e (λψ' d' p=>q ψ m ⟨i,n,e1,by rw[pa p];exact e2⟩) t,g.there,ev,g.x⟩;have tk:=gf.dn s;obtain⟨_,_,hm⟩:=s.ownAt e1 rfl e2;refine⟨⟨by simp[s.len],λj t e=>?_,ev.nd s,g.tb⟩,gf⟩
 .rcases cj e with⟨rfl,rfl⟩|⟨c,e⟩
  .exact⟨_,e2,.inr ⟨a,rfl,g.Rh a ψ d ⟨0,rfl,rfl⟩,hd,hm⟩⟩
  .obtain⟨u,h1,h2⟩:=s.at' j t e;refine⟨u,h1,h2.mono tk λx b o eb ow hb z nt=>g.keep b o z (λψ' d' p=>?_) nt⟩;subst eb;exact c (s.nd j i t _ x a b e e1 ow rfl h1 e2 hb (.inl (pa p)))
end
section
variable{n0 mx:Nat}
def S7{m:O PV->W PV}(G:LA X.prog X.w X.K X.mg X.base x k ps (Ga K ks m))(hr:cY k' X.A)(hk:k<=k')(hg:Gl X x)(ha:AF X K fs (e::es) ks B au)(jO: ~~~(iM x))(he:‹hV X e es›)(cX:‹kb X pos es›):EF X K fs (.Call (.Name x p) (e::es) [] pos) (B m) au:=by
 obtain⟨w,hp,hB⟩:=ha.p;rw[hB];exact⟨PE.imp (w5 G hr hk hg hp jO he cX) λσ H Q ⟨sr,q⟩=>⟨sr,w.mono (λl q1 vs H1 g1 s1 v1=>⟨s1.tb,0,l,v1.c,(m l).mono (λz q2 u H2 g2 r2=>let ⟨s2,g3⟩:=g2.caller v1 s1;q2 u H2 (g1.trans g3) s2 r2) q1⟩) q⟩⟩
def R4{m:O PV->W (O PV)}{B:(O PV->W (O PV))->W (O PV)}(G:LA X.prog X.w X.K X.mg X.base x k ps (F9 K ks m))(hr:cY k' X.A)(hk:k<=k')(hg:Gl X x)(ha:AF X K fs (e::es) ks B au)(jO: ~~~(iM x))(he:‹hV X e es›)(cX:‹kb X pos es›):LF X K fs (.Call (.Name x p) (e::es) [] pos) (B m) au:=by
 obtain⟨w,hp,hB⟩:=ha.p;rw[hB];exact⟨PE.imp (w5 G hr hk hg hp jO he cX) λσ H Q ⟨sr,q⟩=>⟨sr,w.mono (λl q1 vs H1 g1 s1 v1=>⟨s1.tb,0,l,v1.c,(m l).mono (λz q2 a ws H2 g2 n2 e2 r2=>let ⟨s2,g3⟩:=g2.caller v1 s1;q2 a ws H2 (g1.trans g3) s2 (g1.there a n2) e2 r2) q1⟩) q⟩⟩
def S1{m:Nat}(s:aO K H σ fs)(e:Ev fs au)(h:au[i]?=bn (bn (.dI ψ n m))):∃a,σ[i]?=bn (bn (.ref a))/\au[i]?=bn (bn (.dI ψ n m)):=by
 rcases e.get h with z|⟨_,j,_,_,z,y⟩
 .obtain⟨u,e1,r⟩:=s.at' i _ z;rcases r with⟨v,e,_⟩|⟨a,rfl,_⟩
  .cases e
  .exact⟨a,e1,h⟩
 .cases z;obtain⟨u,e1,r⟩:=s.at' i _ y;rcases r with⟨v,e,_⟩|⟨a,rfl,_⟩
  .cases e
  .exact⟨a,e1,h⟩
def Od(i:Nat){m:O PV->W PV}(G:LA X.prog X.w X.K X.mg X.base x k ps (Ga K (.p ψ d::ks) m))(hr:cY k' X.A)(hk:k<=k')(hg:Gl X x)(hs:fs[i]?=bn (bn (.dI ψ n0 mx)))(ha:AF X K fs es ks B au)(s9:au[i]?=bn (bn (.dI ψ n mx)))(hd:n+d<=mx)(jO: ~~~(iM x))(hN:‹X.N[i]?=bn y›)(hv:FV X.env.scope y:=by first|exact Ca rfl|exact B3 (Ca rfl)|exact B3 (B3 rfl))(é: ~~~(iM y))(iC: ~~~(HQ y))(he:‹ii (.Name y py::es) X.env=(false,r6 (.Name y py) X.env)::ii es X.env›)(cX:‹kb X pos es›):EF X K fs (.Call (.Name x p) (.Name y py::es) [] pos) (B m) (au.set i (bn (.dI ψ (n+d) mx))):=by
 obtain⟨w,hp,hB⟩:=ha.p;rw[hB];refine⟨PE.imp (w5 G hr hk hg (bo (fF hN hv é iC) hp he) jO he cX) λσ H Q ⟨sr,q⟩=>?_⟩;obtain⟨a,e1,_⟩:=S1 sr (.refl _) hs;refine⟨_,e1,sr,w.mono (λl q1 vs H1 g1 s1 v1=>?_) q⟩;obtain⟨pt,h1,h2⟩:=s1.ownAt s9 rfl e1;exact⟨s1.tb,n,l,.p pt (AI hd h2) v1.c,(m l).mono (λz q2 u H2 g2 r2=>let ⟨s2,g3⟩:=g2.Ot v1 s1 s9 e1 hd;q2 u H2 (g1.trans g3) s2 r2) q1⟩
end
end
end FL
variable{t:L2.TS}{T:Type}{p':Cu}
namespace FL
section
variable[cu]
variable{K:Ab}
inductive End where
 |nx (fs:aH)|nc (fs:aH)|ct (fs:aH)|rt (v:PV)|rl (l:List PV)|bk (fs:aH)|ro (v:PV) (a:f8) (l:List PV)
def uc(σ:L2.St)(fs:aH)(H:Hp)(a:f8):Prop:=H a=cr\/∃(i:Nat) (s:SL) (x:f8),fs[i]?=bn (bn s)/\s.own=true/\(∀ψ n m,s≠.dI ψ n m)/\σ[i]?=bn (bn (.ref x))/\s.has x a
def bI(K:Ab)(x:Bool)(σ:L2.St)(fs:aH)(H:Hp)(D:Ends):End->Prop
 |.nx ay=>x=false->∀σ' H',bX σ fs H σ' ay H'->aO K H' σ' ay->D.nx σ' H'
 |.nc ay=>∀σ' H',bX σ fs H σ' ay H'->aO K H' σ' ay->(x=false->D.nx σ' H')/\D.ct σ' H'
 |.ct ay=>∀σ' H',bX σ fs H σ' ay H'->aO K H' σ' ay->D.ct σ' H'
 |.bk ay=>∀σ' H',bX σ fs H σ' ay H'->aO K H' σ' ay->D.bk σ' H'
 |.rt v=>∀u σ' ay H',bX σ fs H σ' ay H'->aO K H' σ' ay->VR K [] H' u v->D.rt u H'
 |.ro v a l=>∀u σ' ay H',bX σ fs H σ' ay H'->aO K H' σ' ay->(∃i:Nat,ay[i]?=bn (bn (.ol (bn a) l)))->VR K [] H' u v->D.rt u H'
 |.rl l=>∀a ws σ' ay H',bX σ fs H σ' ay H'->aO K H' σ' ay->uc σ fs H a->H' a=bn (.lst ws)->aA K [] H' ws l->D.rt (.ref a) H'
def fS(K:Ab)(x:Bool)(fs:aH)(w:W T)(out:T->End):TS:=λD σ H=>aO K H σ fs/\w.run λt=>bI K x σ fs H D (out t)
structure SF(X:Cx)(K:Ab)(x:Bool)(fs:aH)(LC:List u8){T:Type}(w:W T)(out:T->End):Prop where p:lh X LC (fS K x fs w out)
section
variable{σ1:L2.St}{x:Bool}
def uc.go(g:bX σ fs H σ1 au H1)(s:aO K H σ fs)(s1:aO K H1 σ1 au)(h:uc σ1 au H1 a):uc σ fs H a:=by
 rcases h with h|⟨i,t,x,e1,e2,np,e3,e4⟩
 .exact .inl (g.there a h)
 .cases z:H a with
  |none=>exact .inl z
  |some o=>
   by_cases c:bP σ fs a
   .obtain⟨j,t',y,c1,c2,c3,c4⟩:=c;by_cases d:∃ψ n m,t'=.dI ψ n m
    .obtain⟨ψ,n,m,rfl⟩:=d;rcases c4 with rfl|c4
     .rcases g.pk a ψ m ⟨j,n,c1,c3⟩ with⟨k,_,k1,k2⟩|⟨n,_⟩
      .have:=s1.nd i k t _ x a a e1 k1 e2 rfl e3 k2 e4 (.inl rfl);subst this;rw[e1]at k1;cases k1;exact absurd rfl (np _ _ _)
      .exact absurd ⟨i,t,x,e1,e2,e3,e4⟩ n
     .cases c4
    .exact .inr ⟨j,t',y,c1,c2,λψ n m e=>d ⟨ψ,n,m,e⟩,c3,c4⟩
   .exact absurd ⟨i,t,x,e1,e2,e3,e4⟩ (g.keep a o z c).2
def bI.go(g:bX σ fs H σ1 au H1)(s:aO K H σ fs)(s1:aO K H1 σ1 au){E:End}(h:bI K x σ fs H D E):bI K x σ1 au H1 D E:=by
 cases E with
 |nx ay=>exact λhx σ' H' g' s'=>h hx σ' H' (g.trans g') s'
 |nc ay=>exact λσ' H' g' s'=>h σ' H' (g.trans g') s'
 |bk ay=>exact λσ' H' g' s'=>h σ' H' (g.trans g') s'
 |ct ay=>exact λσ' H' g' s'=>h σ' H' (g.trans g') s'
 |rt v=>exact λu σ' ay H' g' s' r=>h u σ' ay H' (g.trans g') s' r
 |ro v a l=>exact λu σ' ay H' g' s' o r=>h u σ' ay H' (g.trans g') s' o r
 |rl l=>exact λa ws σ' ay H' g' s' f e r=>h a ws σ' ay H' (g.trans g') s' (f.go g s s1) e r
def bI.exit{D':Ends}(h1:D'.rt=D.rt)(h2:D'.ct=D.ct)(h3:D'.bk=D.bk){E:End}(h:bI K x σ fs H D E):bI K true σ fs H D' E:=by
 cases E with
 |nx ay=>exact λhx=>nomatch hx
 |nc ay=>exact λσ' H' g' s'=>⟨λhx=>(nomatch hx),h2▸(h σ' H' g' s').2⟩
 |bk ay=>exact λσ' H' g' s'=>h3▸h σ' H' g' s'
 |ct ay=>exact λσ' H' g' s'=>h2▸h σ' H' g' s'
 |rt v=>exact λu σ' ay H' g' s' r=>h1▸h u σ' ay H' g' s' r
 |ro v a l=>exact λu σ' ay H' g' s' o r=>h1▸h u σ' ay H' g' s' o r
 |rl l=>exact λa ws σ' ay H' g' s' f e r=>h1▸h a ws σ' ay H' g' s' f e r
end
section
variable{X:Cx}{a b c e o:lc}{pos p:Pos}{fs ay au:aH}{st:u8}{LC rest sa sb:O u8}{T T1:Type}{w wk:W T}{out:T->End}{we:W PV}{wl:W (O PV)}{x:Bool}
def End.J3:End->Prop
 |.rt _=>True
 |.rl _=>True
 |.ro _ _ _=>True
 |_=>False
def bI.aaN{D':Ends}{y:Bool}{E:End}(ho:E.J3)(e:D'.rt=D.rt)(h:bI K x σ fs H D E):bI K y σ fs H D' E:=by
 cases E with
 |rt v=>exact λu σ' ay H' g s r=>e▸h u σ' ay H' g s r
 |rl v=>exact λa ws σ' ay H' g s f ea r=>e▸h a ws σ' ay H' g s f ea r
 |ro v a l=>exact λu σ' ay H' g s o r=>e▸h u σ' ay H' g s o r
 |_=>exact ho.elim
def um(X:Cx)(K:Ab)(x:Bool)(rest:O u8){T:Type}(out:T->End):TS:=λD σ H=>∃ay w',SF X K x ay rest w' out/\fS K x ay w' out D σ H
def Mq:lh X rest (um X K x rest out):=λU s σ H D I ⟨ay,w',h,q⟩=>h.p U s σ H D I q
def JE:lh X rest Qy:=λ_ _ _ _ _ _ h=>h.elim
def SF.step(h:PS X st t)(hq:∀D σ H,fS K x fs w out D σ H->t {D with nx:=um X K x rest out D} σ H):SF X K x fs (st::rest) w out:=⟨lh.imp (c9 h Mq) λD σ H q=>hq D σ H q⟩
def SF.last(h:PS X st t)(hq:∀D σ H,fS K x fs w out D σ H->t {D with nx:=λ_ _=>False} σ H):SF X K x fs (st::rest) w out:=⟨lh.imp (c9 h JE) λD σ H q=>hq D σ H q⟩
def SF.nil{t:T}(h:out t=.nx ay)(hl:cZ fs ay):SF X K false fs [] (.ret t) out:=⟨lh.imp m7 λD σ H ⟨sr,q⟩=>by
 have q:bI K false σ fs H D (out t):=q;rw[h]at q;exact q rfl σ H (bX.le sr hl) (sr.le hl)⟩
def SF.jh{t:T}(h:out t=.nc ay)(hl:cZ fs ay):SF X K false fs [] (.ret t) out:=⟨lh.imp m7 λD σ H ⟨sr,q⟩=>by
 have q:bI K false σ fs H D (out t):=q;rw[h]at q;exact(q σ H (bX.le sr hl) (sr.le hl)).1 rfl⟩
def SF.cont{t:T}(h:out t=.nc ay\/out t=.ct ay)(hl:cZ fs ay):SF X K x fs (.Continue pos::rest) (.ret t) out:=SF.last uE λD σ H ⟨sr,q⟩=>by
 have q:bI K x σ fs H D (out t):=q;rcases h with h|h
 .rw[h]at q;exact(q σ H (bX.le sr hl) (sr.le hl)).2
 .rw[h]at q;exact q σ H (bX.le sr hl) (sr.le hl)
def SF.ret{k:PV->T}(he:EF X K fs e we au)(h:∀v,out (k v)=.rt v):SF X K x fs (.Return (bn e) pos::rest) (.bind we λv=>.ret (k v)) out:=SF.last (nP he.p) λD σ H ⟨sr,q⟩=>⟨sr,we.mono (λv q1 u H1 g1 s1 v1=>by
 have q1:bI K x σ fs H D (out (k v)):=q1;rw[h]at q1;exact q1 u σ au H1 g1.f s1 v1) q⟩
def SF.c8{out:PV->End}(he:EF X K fs e we au)(h:∀v,out v=.rt v):SF X K x fs (.Return (bn e) pos::rest) we out:=SF.ret (k:=λv=>v) he h
def SF.aau{k:O PV->T}(he:LF X K fs e wl au)(h:∀l,out (k l)=.rl l):SF X K x fs (.Return (bn e) pos::rest) (.bind wl λl=>.ret (k l)) out:=SF.last (nP he.p) λD σ H ⟨sr,q⟩=>⟨sr,wl.mono (λl q1 a ws H1 g1 s1 n e v1=>by
 have q1:bI K x σ fs H D (out (k l)):=q1;rw[h]at q1;exact q1 a ws σ au H1 g1.f s1 (.inl n) e v1) q⟩
def SF.nN{out:O PV->End}(he:LF X K fs e wl au)(h:∀v,out v=.rl v):SF X K x fs (.Return (bn e) pos::rest) wl out:=SF.aau he h
def SF.Vs(i:Nat){t:T}(hs:fs[i]?=bn (bn (.ol q0 l)))(h:out t=.rl l)(hN:‹X.N[i]?=bn y›)(hv:FV X.env.scope y:=by first|exact Ca rfl|exact B3 (Ca rfl)|exact B3 (B3 rfl))(hd: ~~~(iM y))(iC: ~~~(HQ y)):SF X K x fs (.Return (bn (.Name y p)) pos::rest) (.ret t) out:=SF.last (nP (fF hN hv hd iC)) λD σ H ⟨sr,q⟩=>by
 have q:bI K x σ fs H D (out t):=q;rw[h]at q;obtain⟨u,e1,r⟩:=sr.at' i _ hs;rcases r with⟨v,e,_⟩|⟨a,e,r⟩
 .cases e
 .subst e;obtain⟨_,ws,q1,q2⟩:=r;exact⟨_,e1,q a ws σ fs H .refl sr (.inr ⟨i,_,_,hs,rfl,by simp,e1,.inl rfl⟩) q1 q2⟩
def SF.expr{k:PV->W T}(he:EF X K fs e we au)(hr:∀v,SF X K x au rest (k v) out)(hs:‹sn e cr pos.line X.env=pure false›):SF X K x fs (.Expr e pos::rest) (.bind we k) out:=SF.step (m8 he.p hs) λD σ H ⟨sr,q⟩=>
 ⟨sr,we.mono (λv q1 u H1 g1 s1 v1=>⟨au,k v,hr v,s1,(k v).mono (λt q2=>q2.go g1.f sr s1) q1⟩) q⟩
def SF.set{k:PV->W T}(hN:X.N.Nodup)(hi:X.N[i]?=bn y)(hx:Loc X.env.scope y)(he:EF X K fs e we au)(hr:∀v,SF X K x (au.set i (bn (.val v))) rest (k v) out)(hs:‹sn e (bn (.Name y p')) pos.line X.env=pure false›)(hf:LX X y:=by first|exact .inl rfl|exact .inr rfl|assumption):SF X K x fs (.Assign [.Name y p'] e pos::rest) (.bind we k) out:=SF.step (lA hN hi hx he.p hs hf) λD σ H ⟨sr,q⟩=>
 ⟨sr,we.mono (λv q1 u H1 g1 s1 v1=>⟨_,k v,hr v,s1.cW v1 i,(k v).mono (λt q2=>q2.go (g1.f.trans (bX.cW s1 u v i)) sr (s1.cW v1 i)) q1⟩) q⟩
def SF.aaq{k:O PV->W T}(hN:X.N.Nodup)(hi:X.N[i]?=bn y)(hx:Loc X.env.scope y)(he:LF X K fs e wl au)(hr:∀l,SF X K x (au.set i (bn (.ol cr l))) rest (k l) out)(hs:‹sn e (bn (.Name y p')) pos.line X.env=pure false›)(hf:LX X y:=by first|exact .inl rfl|exact .inr rfl|assumption):SF X K x fs (.Assign [.Name y p'] e pos::rest) (.bind wl k) out:=SF.step (lA hN hi hx he.p hs hf) λD σ H ⟨sr,q⟩=>by
 refine⟨sr,wl.mono (λl q1 a ws H1 g1 s1 n e v1=>?_) q⟩;have no:¬bP σ au a:=λz=>sr.noOwn n (g1.ev.ff z);have s2:=s1.Jg (t:=.ol cr l) ⟨by simp,ws,e,v1⟩ no i;exact⟨_,k l,hr l,s2,(k l).mono (λt q2=>q2.go (bX.Jg s1 g1 no n i) sr s2) q1⟩
def SF.dj(i:Nat){t:SL}(hs:fs[i]?=bn (bn t))(hr:SF X K x (fs.set i (bn (.val t.bv))) LC w out)(hb:‹t.bw=true›):SF X K x fs LC w out:=⟨λU s σ H D I ⟨sr,q⟩=>by
 obtain⟨u,e1,r⟩:=sr.at' i _ hs;have ho:=SL.Te hb;rcases r with⟨v,e,_⟩|⟨a,e,oa⟩
 .subst e;cases hb
 .subst e;obtain⟨ob,o,h1,n1,n2,I2,vr⟩:=ab0 I oa hb;have ow:∀b,bP σ (fs.set i (bn (.val t.bv))) b->bP σ fs b:=λb z=>by
   obtain⟨j,t,x,z1,z2,z3,z4⟩:=z;rcases cj z1 with⟨rfl,rfl⟩|⟨n,z1⟩
   .cases z2
   .exact⟨j,t,x,z1,z2,z3,z4⟩
  have s2:=sr.abZ hs ho e1 h1 n1 n2 vr;have g2:bX σ fs H σ (fs.set i (bn (.val t.bv))) (upd H a (.dj ob o)):=by
   refine⟨λb o z n=>⟨?_,λy=>n (ow b y)⟩,λb z=>?_,λb ψ m z=>?_,λb z=>?_⟩
   .intro _;rw[aw (λy=>by subst y;exact n ⟨i,_,_,hs,ho,e1,.inl rfl⟩)];exact z
   .by_cases c:b=a
    .subst c;rw[aM]at z;cases z
    .rw[aw c]at z;exact z
   .obtain⟨j,k,z1,z2⟩:=z;have:j≠i:=λy=>by subst y;rw[hs]at z1;cases z1;cases hb
    exact .inl ⟨j,k,by rw[aE this];exact z1,z2⟩
   .have z':H b=_:=z;show upd H a _ b=_;rw[aw (λy=>by subst y;exact sr.RG z' ⟨i,_,_,hs,ho,e1,.inl rfl⟩)];exact z'
  exact hr.p U s σ _ D I2 ⟨s2,w.mono (λt q3=>q3.go g2 sr s2) q⟩⟩
variable{tc:W Bool}
def SF.ifT(hc:TF X K fs c tc au)(ha:SF X K x au sa w out)(hb:SF X K x au sb wk out):SF X K x fs [.If c sa sb pos] (.bind tc λb=>if b=true then w else wk) out:=⟨lh.imp (m6 (y6 hc.p ha.p hb.p)) λD σ H ⟨sr,q⟩=>⟨sr,tc.mono (λk q1 H1 g1 s1=>by
 cases k with
 |true=>exact sX ⟨s1,w.mono (λt q2=>q2.go g1.f sr s1) q1⟩
 |false=>exact sY ⟨s1,wk.mono (λt q2=>q2.go g1.f sr s1) q1⟩) q⟩⟩
def SF.Po(hc:TF X K fs c tc au)(ha:SF X K true au sa w out)(hb:SF X K x au rest wk out):SF X K x fs (.If c sa [] pos::rest) (.bind tc λb=>if b=true then w else wk) out:=SF.step (y6 hc.p ha.p m7) λD σ H ⟨sr,q⟩=>⟨sr,tc.mono (λk q1 H1 g1 s1=>by
 cases k with
 |true=>exact sX ⟨s1,w.mono (λt q2=>bI.exit (D:=D) (D':={D with nx:=um X K x rest out D}) rfl rfl rfl (q2.go g1.f sr s1)) q1⟩
 |false=>exact sY ⟨au,wk,hb,s1,wk.mono (λt q2=>q2.go g1.f sr s1) q1⟩) q⟩
def TH(X:Cx)(K:Ab)(x:Bool)(rest:O u8){T:Type}(w:W T)(out:T->End):End->Prop
 |.nx ay=>SF X K x ay rest w out
 |.nc ay=>False
 |.bk ay=>∃t,w=.ret t/\out t=.bk ay
 |.ct ay=>∃t,w=.ret t/\(out t=.ct ay\/out t=.nc ay)
 |.rt v=>∃t,w=.ret t/\out t=.rt v
 |.rl l=>∃t,w=.ret t/\out t=.rl l
 |.ro v a l=>∃t,w=.ret t/\out t=.ro v a l
def TH.r{E:End}(sr:aO K H σ fs)(h:TH X K x rest w out E)(q:w.run λt=>bI K x σ fs H D (out t)):bI K false σ fs H {D with nx:=um X K x rest out D} E:=by
 cases E with
 |nx ay=>exact λ_ σ' H' g' s'=>⟨ay,w,h,s',w.mono (λt q2=>q2.go g' sr s') q⟩
 |nc ay=>exact h.elim
 |bk ay=>
  obtain⟨t,rfl,h⟩:=h;have q:bI K x σ fs H D (out t):=q;rw[h]at q;exact q
 |ct ay=>
  obtain⟨t,rfl,h⟩:=h;have q:bI K x σ fs H D (out t):=q;rcases h with h|h
  .rw[h]at q;exact q
  .rw[h]at q;exact λσ' H' g s=>(q σ' H' g s).2
 |rt v=>
  obtain⟨t,rfl,h⟩:=h;have q:bI K x σ fs H D (out t):=q;rw[h]at q;exact q
 |rl v=>
  obtain⟨t,rfl,h⟩:=h;have q:bI K x σ fs H D (out t):=q;rw[h]at q;exact q
 |ro v a l=>
  obtain⟨t,rfl,h⟩:=h;have q:bI K x σ fs H D (out t):=q;rw[h]at q;exact q
variable{w1 w2:W T1}{out1:T1->End}{k:T1->W T}
def SF.WB(hc:TF X K fs c tc au)(ha:SF X K false au sa w1 out1)(hb:SF X K false au sb w2 out1)(hr:∀t,TH X K x rest (k t) out (out1 t)):SF X K x fs (.If c sa sb pos::rest) (.bind tc λb=>.bind (if b=true then w1 else w2) k) out:=SF.step (y6 hc.p ha.p hb.p) λD σ H ⟨sr,q⟩=>⟨sr,tc.mono (λb q1 H1 g1 s1=>by
 have fin:∀t,(k t).run (λt=>bI K x σ fs H D (out t))->bI K false σ fs H {D with nx:=um X K x rest out D} (out1 t):=λt q=>(hr t).r sr q;cases b with
 |true=>exact sX ⟨s1,w1.mono (λt q2=>(fin t q2).go g1.f sr s1) q1⟩
 |false=>exact sY ⟨s1,w2.mono (λt q2=>(fin t q2).go g1.f sr s1) q1⟩) q⟩
end
end
end FL
variable{is:O Nat}
namespace FL
section
variable[cu]
variable{K:Ab}
def JF(K:Ab)(H:Hp)(J:It)(l:O PV):Prop:=l.length<=sizeLine/\∀H',a8 K H H'->(∀(i:Nat) (p:PV),l[i]?=bn p->J.go i H'/\∀x H2,J.Ij i H' x H2->iL H' H2/\VR K [] H2 x p)/\J.stop l.length H'
def JF.tk{J:It}(t:a8 K H H')(h:JF K H J l):JF K H' J l:=⟨h.1,λH2 t2=>h.2 H2 (a8.trans t t2)⟩
def fIt(K:Ab)(fs:aH)(w:W (O PV))(ay:aH:=fs):TI:=λσ H R=>aO K H σ fs/\w.run λl=>∀J H',cg σ fs H H' ay->aO K H' σ ay->JF K H' J l->R J H'
structure pe(X:Cx)(K:Ab)(fs:aH)(tg e:lc)(w:W (List PV))(ay:aH:=fs):Prop where p:PI X tg e (fIt K fs w ay)
section
variable{a:lc}
def OI{ad:f8}(h:Ly K H ad vs)(r:aA K [] H vs l)(hz:l.length<=sizeLine):JF K H (Itl K ad) l:=⟨hz,λH' t=>by
 have e1:=(t.f _ _ h).sq;have e2:=aA.tk t r;refine⟨λi p hp=>?_,vs,e1,by rw[e2.length];exact Am _⟩;obtain⟨v,h3,h4⟩:=e2.get hp;refine⟨⟨vs,v,e1,h3⟩,λx H3 y=>?_⟩;obtain⟨rfl,y⟩:=y;have:=y vs e1;rw[h3]at this;cases this;exact⟨iL.refl _,h4⟩⟩
def Tx{ad:f8}(h:H ad=bn (.tup vs))(r:aA K [] H vs l)(hz:l.length<=sizeLine):JF K H (Itt K ad) l:=⟨hz,λH' t=>by
 have e1:=cG.of (K:=K) (t.t _ _ h);have e2:=aA.tk t r;refine⟨λi p hp=>?_,vs,e1,by rw[e2.length];exact Am _⟩;obtain⟨v,h3,h4⟩:=e2.get hp;refine⟨⟨vs,v,e1,h3⟩,λx H3 y=>?_⟩;obtain⟨rfl,y⟩:=y;have:=y vs e1;rw[h3]at this;cases this;exact⟨iL.refl _,h4⟩⟩
def bK(hK:X.K=K)(h:IF X K fs e wl au):pe X K fs tg e wl au:=⟨by
 subst hK;intro U s σ H R I ⟨sr,q⟩;refine bS (h.p U s σ H (λu H1=>∃l,Tq X.K H1 u l/\∀J,JF X.K H1 J l->R J H1) I ⟨sr,wl.mono (λl q1 u H1 g1 s1 v1=>⟨l,v1,λJ j=>q1 J H1 g1 s1 j⟩) q⟩) λv s1 ⟨x,H1,I1,r1,l,⟨ad,vs,e,hh,rs⟩,q1⟩=>?_;subst e;cases r1;rcases hh with hh|hh
 .obtain⟨aj,rv,pl,hz⟩:=I1.list hh.sq;refine CW pl.isList ?_;refine⟨s1.heap.objs.size,[s1.heap.objs.size],_,_,H1,rfl,I1.kept λb o e=>Af _ e,F3 ad _,⟨_,Al _ rfl,rfl,rfl⟩,λb hb=>?_,q1 _ (OI hh rs (by rw[<- rs.length];exact hz))⟩;have e:b=s1.heap.objs.size:=by simpa using hb
  subst e;exact I1.Hk (Am _) (I1.bC.fresh (Am _))
 .obtain⟨aj,rv,pl,hz⟩:=I1.tuple (cG.of hh);refine Dg (pl) ?_;refine⟨s1.heap.objs.size,[s1.heap.objs.size],_,_,H1,rfl,I1.kept (t':=s1.toks) λb o e=>Af _ e,wz ad _,⟨_,Al _ rfl,rfl,rfl⟩,λb hb=>?_,q1 _ (Tx hh rs (by rw[<- rs.length];exact hz))⟩;have e:b=s1.heap.objs.size:=by simpa using hb
  subst e;exact I1.Hk (Am _) (I1.bC.fresh (Am _))⟩
def okN(i j:Int):Prop:=-(2 ^ 62)<=i/\i<2 ^ 62/\-(2 ^ 62)<=j/\j<2 ^ 62/\(j-i).toNat<=sizeLine
def mj:PV->W (O PV)
 |.int j=>.gm (okN 0 j) (.ret (iA 0 j.toNat))
 |_=>.fail
def Tz(lo:Int)(n:Nat)(hz:n<=sizeLine):JF K H (ZG lo n) (iA lo n):=⟨by rw[iZ];exact hz,λH' t=>⟨λi p hp=>by
  obtain⟨h1,rfl⟩:=lT hp;refine⟨h1,λx H2 y=>?_⟩;obtain⟨rfl,rfl⟩:=y;exact⟨iL.refl _,.int _⟩,by rw[iZ];exact Am _⟩⟩
theorem iY(hg:Gl X "range")(hm:X.mg "range"=cr)(ha:EF X K fs a wa au)(hs:‹ii [a] X.env=[(false,r6 a X.env)]›):pe X K fs tg (.Call (.Name "range" p) [a] [] pos) (.bind wa mj) au:=
 ⟨PI.imp (Gv hg hm (bo ha.p cf hs) hs) λσ H R ⟨sr,q⟩=>⟨sr,wa.mono (λx q1 u1 H1 g1 s1 v1=>by
  cases v1 with
  |int j=>exact⟨_,rfl,q1.1.2.2.1,q1.1.2.2.2.1,q1.2 _ H1 g1 s1 (Tz _ _ (by have:=q1.1.2.2.2.2;lia))⟩
  |_=>exact q1.elim) q⟩⟩
def nj(hK:X.K=K)(hg:Gl X "enumerate")(hm:X.mg "enumerate"=cr)(h:IF X K fs e wl au)(s9:‹hV X e []›):pe X K fs (.Tuple Ö kk tp) (.Call (.Name "enumerate" p1) [e] [] p2) (.bind wl λl=>.gm (l.length<=sizeLine) (.ret (fj 0 l))) au:=
 ⟨PI.imp (Jm K hK hg hm h.p s9) λσ H R ⟨sr,q⟩=>⟨sr,wl.mono (λl q1 u1 H1 g1 s1 v1=>by
  obtain⟨ad,vs,rfl,hh,rs⟩:=v1;have yl:∀{H':Hp}{i:Nat}{x v:V}{y:PV}{pp:f8},H' pp=cr->VR K [] H' v y->iL H' (upd H' pp (.tup [.int i,v]))/\VR K [] (upd H' pp (.tup [.int (i:Int),v])) (.ref pp) (.tup [.int ((0+i:Nat)),y]):=λ{H' i x v y pp} hn h4=>
   have sm:=fZ hn (.tup [.int (i:Int),v])
   ⟨sm,.tup aM (.cons (by rw[Cn];exact .int _) (.cons (VR.tk sm.eF h4) .nil))⟩
  refine⟨ad,rfl,?_⟩;rcases hh with hh|hh
  .refine .inl ⟨⟨vs,hh.sq⟩,q1.2 _ H1 g1 s1 ⟨by rw[bM];exact q1.1,λH' t=>⟨λi p hp=>?_,vs,(t.f _ _ hh).sq,by rw[rs.length,bM];exact Am _⟩⟩⟩;obtain⟨y,hy,rfl⟩:=e6 hp;obtain⟨v,h3,h4⟩:=(aA.tk t rs).get hy;refine⟨⟨vs,v,(t.f _ _ hh).sq,h3⟩,λx H3 z=>?_⟩;obtain⟨pp,x0,rfl,hn,rfl,hz⟩:=z;have:=hz vs (t.f _ _ hh).sq;rw[h3]at this;cases this;exact yl (x:=.az) hn h4
  .refine .inr ⟨⟨vs,cG.of hh⟩,q1.2 _ H1 g1 s1 ⟨by rw[bM];exact q1.1,λH' t=>⟨λi p hp=>?_,vs,cG.of (t.t _ _ hh),by rw[rs.length,bM];exact Am _⟩⟩⟩;obtain⟨y,hy,rfl⟩:=e6 hp;obtain⟨v,h3,h4⟩:=(aA.tk t rs).get hy;refine⟨⟨vs,v,cG.of (t.t _ _ hh),h3⟩,λx H3 z=>?_⟩;obtain⟨pp,x0,rfl,hn,rfl,hz⟩:=z;have:=hz vs (cG.of (t.t _ _ hh));rw[h3]at this;cases this;exact yl (x:=.az) hn h4) q⟩⟩
end
def rS:O Nat->O V->L2.St->L2.St
 |i::is,u::us,σ=>rS is us (σ.set i (bn u))
 |_,_,σ=>σ
def fG(K:Ab)(fs:aH)(is:O Nat)(wt:PV->W T)(fs2:T->aH):TG:=λv σ H Q=>∃p,aO K H σ fs/\VR K [] H v p/\(wt p).run λt=>∀us,bX σ fs H (rS is us σ) (fs2 t) H->aO K H (rS is us σ) (fs2 t)->Q (rS is us σ) H
structure GF(X:Cx)(K:Ab)(fs:aH)(tg:lc)(is:List Nat){T:Type}(wt:PV->W T)(fs2:T->aH):Prop where p:PG X tg (fG K fs is wt fs2)
def pq:PV->W (PV×PV)
 |.tup [a,b]=>.ret (a,b)
 |_=>.fail
def U3:PV->W (PV×PV×PV)
 |.tup [a,b,c]=>.ret (a,b,c)
 |_=>.fail
def TK:PV->W (PV×PV×PV×PV)
 |.tup [a,b,c,d]=>.ret (a,b,c,d)
 |_=>.fail
section
def Ud(h:PG X tg (cD i)):GF X K fs tg [i] .ret (λp=>fs.set i (bn (.val p))):=⟨PG.imp h λv σ H Q ⟨p,sr,r,q⟩=>q [v] (bX.cW sr v p i) (sr.cW r i)⟩
def PK(hK:X.K=K)(h:PG X tg (NY X.K 2 (jC (cD i) (jC (cD j) NZ)))):GF X K fs tg [i,j] pq (λt=>(fs.set i (bn (.val t.1))).set j (bn (.val t.2))):=⟨PG.imp h λv σ H Q ⟨p,sr,r,q⟩=>by
 unfold pq at q
 split at q
 .cases r with
  |tup e rs=>
   cases rs with
   |cons ra t=>
   cases t with
   |cons rb t=>
   cases t;have s1:=sr.cW ra i;exact⟨_,_,rfl,cG.of e,rfl,_,_,rfl,_,_,rfl,rfl,q [_,_] ((bX.cW sr _ _ i).trans (bX.cW s1 _ _ j)) (s1.cW rb j)⟩
 .exact q.elim⟩
def g_3(hK:X.K=K)(h:PG X tg (NY X.K 3 (jC (cD i) (jC (cD j) (jC (cD k) NZ))))):GF X K fs tg [i,j,k] U3 (λt=>((fs.set i (bn (.val t.1))).set j (bn (.val t.2.1))).set k (bn (.val t.2.2))):=⟨PG.imp h λv σ H Q ⟨p,sr,r,q⟩=>by
 unfold U3 at q
 split at q
 .cases r with
  |tup e rs=>
   cases rs with
   |cons ra t=>
   cases t with
   |cons rb t=>
   cases t with
   |cons rc t=>
   cases t;have s1:=sr.cW ra i;have s2:=s1.cW rb j;exact⟨_,_,rfl,cG.of e,rfl,_,_,rfl,_,_,rfl,_,_,rfl,rfl,q [_,_,_] (((bX.cW sr _ _ i).trans (bX.cW s1 _ _ j)).trans (bX.cW s2 _ _ k)) (s2.cW rc k)⟩
 .exact q.elim⟩
def g_4{l:Nat}(hK:X.K=K)(h:PG X tg (NY X.K 4 (jC (cD i) (jC (cD j) (jC (cD k) (jC (cD l) NZ)))))):GF X K fs tg [i,j,k,l] TK (λt=>(((fs.set i (bn (.val t.1))).set j (bn (.val t.2.1))).set k (bn (.val t.2.2.1))).set l (bn (.val t.2.2.2))):=⟨PG.imp h λv σ H Q ⟨p,sr,r,q⟩=>by
 unfold TK at q
 split at q
 .cases r with
  |tup e rs=>
   cases rs with
   |cons ra t=>
   cases t with
   |cons rb t=>
   cases t with
   |cons rc t=>
   cases t with
   |cons rd t=>
   cases t;have s1:=sr.cW ra i;have s2:=s1.cW rb j;have s3:=s2.cW rc k;exact⟨_,_,rfl,cG.of e,rfl,_,_,rfl,_,_,rfl,_,_,rfl,_,_,rfl,rfl,q [_,_,_,_] ((((bX.cW sr _ _ i).trans (bX.cW s1 _ _ j)).trans (bX.cW s2 _ _ k)).trans (bX.cW s3 _ _ l)) (s3.cW rd l)⟩
 .exact q.elim⟩
end
section
variable{S T:Type}
def dw:O PV->S->(PV->S->W S)->W S
 |[],s,_=>.ret s
 |x::r,s,f=>.bind (f x s) λs'=>dw r s' f
inductive Lp(S T:Type) where
 |go (s:S)|out (t:T)
def oO:O PV->S->(PV->S->W (Lp S T))->W (Lp S T)
 |[],s,_=>.ret (.go s)
 |x::r,s,f=>.bind (f x s) λo=>match o with
  |.go s'=>oO r s' f
  |.out t=>.ret (.out t)
def LQ(k:S->W T)(inj:R->T):Lp S R->W T
 |.go s=>k s
 |.out r=>.ret (inj r)
@[simp] theorem abW(k:S->W T)(inj:R->T)(s:S):LQ k inj (.go s)=k s:=(rfl)
@[simp] theorem Y2(k:S->W T)(inj:R->T)(r:R):LQ k inj (.out r)=.ret (inj r):=(rfl)
def lpE(hd:S->aH)(out:R->End):Lp S R->End
 |.go s=>.nc (hd s)
 |.out r=>out r
def gw(c:S->W Bool)(b:S->W S):Nat->S->W S
 |0,_=>.fail
 |n+1,s=>.bind (c s) λk=>if k=true then .bind (b s) (gw c b n) else .ret s
def lj(c:S->W Bool)(b:S->W S)(s:S):W S:=⟨λQ=>∃n,(gw c b n s).run Q,λh ⟨n,q⟩=>⟨n,(gw c b n s).mono h q⟩⟩
end
section
variable{c:lc}{rest:O u8}{S T T2:Type}{hd:S->aH}{s0:S}{wt:PV->W T2}{fs2:S->T2->aH}{k:S->W T}{out:T->End}{x:Bool}{R:Type}{inj:R->T}
theorem SF.Xh{hd:Nat->S->aH}{hE:S->aH}{fs2:Nat->S->T2->aH}{f:PV->S->W S}{wb:T2->S->W S}(hp:wT (ge X.prog X.w) X.A X.env X.xe)(hc:X.calm=true)(hi:pe X K fs tg iter wl au)(hl:cZ au (hd 0 s0))(hg:∀i s,GF X K (hd i s) tg is wt (fs2 i s))(hf:∀p s,f p s=.bind (wt p) λt=>wb t s)(hb:∀i s t,i<sizeLine->SF X K false (fs2 i s t) body (wb t s) λs'=>.nc (hd (i+1) s'))(hx:∀i s,i<=sizeLine->cZ (hd i s) (hE s))(hr:∀s,SF X K x (hE s) rest (k s) out)(hs:ph X iter:=by intro _;rfl):SF X K x fs (.For tg iter body [] pos::rest) (.bind wl λl=>.bind (dw l s0 f) k) out:=by
 refine SF.step (Jj (g:=λv σ H Q=>∃i s,fG K (hd i s) is wt (fs2 i s) v σ H Q) (tb:=λD σ H=>∃i s t,i<sizeLine/\fS K false (fs2 i s t) (wb t s) (λs'=>.nc (hd (i+1) s')) D σ H) hp hc hi.p (λU s σ H v u Q I r ⟨i1,s1,q⟩=>(hg i1 s1).p U s σ H v u Q I r q) (λU s σ H D I ⟨i1,s1,t1,h1,q⟩=>(hb i1 s1 t1 h1).p U s σ H D I q) hs) λD σ H ⟨sr,q⟩=>?_;refine⟨sr,wl.mono (λl q1 J H1 g1 s1 jf=>?_) q⟩;have hz:=jf.1;refine⟨λi m σ' H'=>∃s,aO K H' σ' (hd i s)/\bX σ fs H σ' (hd i s) H'/\JF K H' J l/\m=l.length-i/\i<=l.length/\(dw (l.drop i) s f).run λs'=>(k s').run λt=>bI K x σ fs H D (out t),⟨l.length,s0,s1.le hl,g1.f.trans (bX.le s1 hl),jf,by simp,A7 _,by simpa using q1⟩,?_⟩;rintro i m σ2 H2 ⟨s,s2,g2,NH,rfl,hi,q2⟩;obtain⟨j1,j2⟩:=NH.2 H2 (a8.refl H2);by_cases gr:i<l.length
 .obtain⟨go,yl⟩:=j1 i _ (Ai gr);rw[(BM gr)]at q2;refine .inr ⟨go,λσ3 H3=>∃s',aO K H3 σ3 (hd (i+1) s')/\bX σ fs H σ3 (hd (i+1) s') H3/\JF K H3 J l/\(dw (l.drop (i+1)) s' f).run λs'=>(k s').run λt=>bI K x σ fs H D (out t),λσ3 H3 ⟨s',a1,a2,a3,a4⟩=>⟨l.length-(i+1),by lia,s',a1,a2,a3,rfl,gr,a4⟩,λv H3 y=>?_⟩;obtain⟨sm,vx⟩:=yl v H3 y;have q2:(f l[i] s).run λs'=>(dw (l.drop (i+1)) s' f).run λs'=>(k s').run λt=>bI K x σ fs H D (out t):=q2;rw[hf]at q2;have s3:=s2.same sm;refine⟨i,s,_,s3,vx,(wt l[i]).mono (λt q4 us g4 s4=>?_) q2⟩;refine⟨i,s,t,by lia,s4,(wb t s).mono (λs' q5 σ5 H5 g5 s5=>?_) q4⟩;have fin:∃s',aO K H5 σ5 (hd (i+1) s')/\bX σ fs H σ5 (hd (i+1) s') H5/\JF K H5 J l/\(dw (l.drop (i+1)) s' f).run λs'=>(k s').run λt=>bI K x σ fs H D (out t):=⟨s',s5,((g2.trans (bX.same sm s2)).trans g4).trans g5,NH.tk (a8.trans sm.eF (a8.trans (g4.dn s3) (g5.dn s4))),q5⟩;exact⟨λ_=>fin,fin⟩
 .have e:i=l.length:=by lia
  subst e;rw[EE]at q2;have le:=hx l.length s hz;exact .inl ⟨j2,hE s,k s,hr s,s2.le le,(k s).mono (λt q3=>q3.go (g2.trans (bX.le s2 le)) sr (s2.le le)) q2⟩
def SF.for{f:PV->S->W S}{wb:T2->S->W S}(hp:wT (ge X.prog X.w) X.A X.env X.xe)(hc:X.calm=true)(hi:pe X K fs tg iter wl au)(hl:cZ au (hd s0))(hg:∀s,GF X K (hd s) tg is wt (fs2 s))(hf:∀p s,f p s=.bind (wt p) λt=>wb t s)(hb:∀s t,SF X K false (fs2 s t) body (wb t s) λs'=>.nc (hd s'))(hr:∀s,SF X K x (hd s) rest (k s) out)(hs:ph X iter:=by intro _;rfl):SF X K x fs (.For tg iter body [] pos::rest) (.bind wl λl=>.bind (dw l s0 f) k) out:=SF.Xh (hd:=λ_=>hd) (fs2:=λ_=>fs2) hp hc hi hl (λ_=>hg) hf (λ_ s t _=>hb s t) (λ_ s _=>.refl _) hr hs
theorem SF.Xg{hd:Nat->S->aH}{hE:S->aH}{fs2:Nat->S->T2->aH}{f:PV->S->W (Lp S R)}{wb:T2->S->W (Lp S R)}(hp:wT (ge X.prog X.w) X.A X.env X.xe)(hc:X.calm=true)(hi:pe X K fs tg iter wl au)(hl:cZ au (hd 0 s0))(hg:∀i s,GF X K (hd i s) tg is wt (fs2 i s))(hf:∀p s,f p s=.bind (wt p) λt=>wb t s)(ho:∀t,(out (inj t)).J3)(hb:∀i s t,i<sizeLine->SF X K false (fs2 i s t) body (wb t s) (lpE (hd (i+1)) λr=>out (inj r)))(hx:∀i s,i<=sizeLine->cZ (hd i s) (hE s))(hr:∀s,SF X K x (hE s) rest (k s) out)(hs:ph X iter:=by intro _;rfl):SF X K x fs (.For tg iter body [] pos::rest) (.bind wl λl=>.bind (FL.oO l s0 f) (LQ k inj)) out:=by
 refine SF.step (Jj (g:=λv σ H Q=>∃i s,fG K (hd i s) is wt (fs2 i s) v σ H Q) (tb:=λD σ H=>∃i s t,i<sizeLine/\fS K false (fs2 i s t) (wb t s) (lpE (hd (i+1)) λr=>out (inj r)) D σ H) hp hc hi.p (λU s σ H v u Q I r ⟨i1,s1,q⟩=>(hg i1 s1).p U s σ H v u Q I r q) (λU s σ H D I ⟨i1,s1,t1,h1,q⟩=>(hb i1 s1 t1 h1).p U s σ H D I q) hs) λD σ H ⟨sr,q⟩=>?_;refine⟨sr,wl.mono (λl q1 J H1 g1 s1 jf=>?_) q⟩;have hz:=jf.1;have lo:∀D' y t,D'.rt=D.rt->bI K x σ fs H D (out (inj t))->bI K y σ fs H D' (out (inj t)):=λD' y t e h=>bI.aaN (ho t) e h;refine⟨λi m σ' H'=>∃s,aO K H' σ' (hd i s)/\bX σ fs H σ' (hd i s) H'/\JF K H' J l/\m=l.length-i/\i<=l.length/\(FL.oO (l.drop i) s f).run λo=>(LQ k inj o).run λt=>bI K x σ fs H D (out t),⟨l.length,s0,s1.le hl,g1.f.trans (bX.le s1 hl),jf,by simp,A7 _,by simpa using q1⟩,?_⟩;rintro i m σ2 H2 ⟨s,s2,g2,NH,rfl,hi,q2⟩;obtain⟨j1,j2⟩:=NH.2 H2 (a8.refl H2);by_cases gr:i<l.length
 .obtain⟨go,yl⟩:=j1 i _ (Ai gr);rw[(BM gr)]at q2;refine .inr ⟨go,λσ3 H3=>∃s',aO K H3 σ3 (hd (i+1) s')/\bX σ fs H σ3 (hd (i+1) s') H3/\JF K H3 J l/\(FL.oO (l.drop (i+1)) s' f).run λo=>(LQ k inj o).run λt=>bI K x σ fs H D (out t),λσ3 H3 ⟨s',a1,a2,a3,a4⟩=>⟨l.length-(i+1),by lia,s',a1,a2,a3,rfl,gr,a4⟩,λv H3 y=>?_⟩;obtain⟨sm,vx⟩:=yl v H3 y;have q2:(f l[i] s).run λo=>(match o with|.go s'=>FL.oO (l.drop (i+1)) s' f|.out t=>ci (.out t)).run λo=>(LQ k inj o).run λt=>bI K x σ fs H D (out t):=q2;rw[hf]at q2;have s3:=s2.same sm;have g3:=g2.trans (bX.same sm s2);refine⟨i,s,_,s3,vx,(wt l[i]).mono (λt q4 us g4 s4=>?_) q2⟩;refine⟨i,s,t,by lia,s4,(wb t s).mono (λo q5=>?_) q4⟩;cases o with
  |out t5=>
   refine bI.go (g3.trans g4) sr s4 (lo _ false t5 ?_ q5);rfl
  |go s'=>
   intro σ5 H5 g5 s5;have fin:∃s',aO K H5 σ5 (hd (i+1) s')/\bX σ fs H σ5 (hd (i+1) s') H5/\JF K H5 J l/\(FL.oO (l.drop (i+1)) s' f).run λo=>(LQ k inj o).run λt=>bI K x σ fs H D (out t):=⟨s',s5,(g3.trans g4).trans g5,NH.tk (a8.trans sm.eF (a8.trans (g4.dn s3) (g5.dn s4))),q5⟩;exact⟨λ_=>fin,fin⟩
 .have e:i=l.length:=by lia
  subst e;rw[EE]at q2;have le:=hx l.length s hz;exact .inl ⟨j2,hE s,k s,hr s,s2.le le,(k s).mono (λt q3=>q3.go (g2.trans (bX.le s2 le)) sr (s2.le le)) q2⟩
def wo(N:Nat)(c:S->W Bool)(b:S->W S)(s:S):W S:=⟨λQ=>∃n,n<=N/\(gw c b n s).run Q,λh ⟨n,l,q⟩=>⟨n,l,(gw c b n s).mono h q⟩⟩
theorem SF.wo{N:Nat}{hd:Nat->S->aH}{hE:S->aH}{cw:S->W Bool}{b:S->W S}(hp:wT (ge X.prog X.w) X.A X.env X.xe)(hl:cZ fs (hd 0 s0))(hc:∀i s,TF X K (hd i s) c (cw s))(hb:∀i s,i<N->SF X K false (hd i s) body (b s) λs'=>.nc (hd (i+1) s'))(hx:∀i s,i<=N->cZ (hd i s) (hE s))(hr:∀s,SF X K x (hE s) rest (k s) out):SF X K x fs (.While c body [] pos::rest) (.bind (FL.wo N cw b s0) k) out:=by
 refine SF.step (uD (tc:=λσ H Q=>∃i s,fT K (hd i s) (cw s) (hd i s) σ H Q) (tb:=λD σ H=>∃i s,i<N/\fS K false (hd i s) (b s) (λs'=>.nc (hd (i+1) s')) D σ H) hp (λU s σ H Q I ⟨i1,s1,q⟩=>(hc i1 s1).p U s σ H Q I q) (λU s σ H D I ⟨i1,s1,h1,q⟩=>(hb i1 s1 h1).p U s σ H D I q)) λD σ H ⟨sr,n,hn,q⟩=>?_;refine⟨λm σ' H'=>∃i s,i+m<=N/\aO K H' σ' (hd i s)/\bX σ fs H σ' (hd i s) H'/\(gw cw b m s).run λs'=>(k s').run λt=>bI K x σ fs H D (out t),⟨n,0,s0,by lia,sr.le hl,bX.le sr hl,q⟩,?_⟩;rintro m σ1 H1 ⟨i,s,him,s1,g1,q1⟩;cases m with
 |zero=>exact q1.elim
 |succ m=>
  refine⟨i,s,s1,(cw s).mono (λkk q2 H2 g2 s2=>?_) q1⟩;cases kk with
  |false=>
   have le:=hx i s ∅;exact sY ⟨hE s,k s,hr s,s2.le le,(k s).mono (λt q3=>q3.go ((g1.trans g2.f).trans (bX.le s2 le)) sr (s2.le le)) q2⟩
  |true=>
   refine sX ?_;refine⟨λσ3 H3=>∃s,aO K H3 σ3 (hd (i+1) s)/\bX σ fs H σ3 (hd (i+1) s) H3/\(gw cw b m s).run λs'=>(k s').run λt=>bI K x σ fs H D (out t),λσ3 H3 ⟨s,a⟩=>⟨m,C4 m,i+1,s,by lia,a⟩,i,s,by lia,s2,(b s).mono (λs' q5 σ5 H5 g5 s5=>?_) q2⟩;have fin:∃s,aO K H5 σ5 (hd (i+1) s)/\bX σ fs H σ5 (hd (i+1) s) H5/\(gw cw b m s).run λs'=>(k s').run λt=>bI K x σ fs H D (out t):=⟨s',s5,(g1.trans g2.f).trans g5,q5⟩;exact⟨λ_=>fin,fin⟩
def SF.yG{cw:S->W Bool}{b:S->W S}(hp:wT (ge X.prog X.w) X.A X.env X.xe)(hl:cZ fs (hd s0))(hc:∀s,TF X K (hd s) c (cw s))(hb:∀s,SF X K false (hd s) body (b s) λs'=>.nc (hd s'))(hr:∀s,SF X K x (hd s) rest (k s) out):SF X K x fs (.While c body [] pos::rest) (.bind (lj cw b s0) k) out:=⟨λU s σ H D I ⟨sr,n,q⟩=>(SF.wo (N:=n) (hd:=λ_=>hd) hp hl (λ_=>hc) (λ_ s _=>hb s) (λ_ s _=>.refl _) hr).p U s σ H D I ⟨sr,n,Am n,q⟩⟩
end
end
end FL
variable{f:PL.PV->FL.W (Option PL.PV)}{mB LR:FL.aH}
namespace FL
section
variable[cu]
variable{K:Ab}
def kc:O PV->(PV->W (Option PV))->W (O PV)
 |[],_=>.ret []
 |x::r,f=>.bind (f x) λo=>.bind (kc r f) λl=>.ret (o.toList++l)
def bU:O PV->(PV->W PV)->W (O PV)
 |[],_=>.ret []
 |x::r,f=>.bind (f x) λy=>.bind (bU r f) λl=>.ret (y::l)
theorem sC(f:PV->W PV):∀l,bU l f=kc l λp=>.bind (f p) λv=>.ret (bn v)
 |[]=>rfl
 |x::r=>by
  show ca (f x) (λy=>ca (bU r f) λl=>ci (y::l))=ca (f x) λy=>ca (kc r _) λl=>ci (y::l);rw[sC f r]
def bc(ix:O (Option Nat))(fs:aH):aH:=ix.map λo=>match o with|some j=>(fs[j]?).getD cr|none=>cr
section
def kW{s:SL}(h:(bc ix fs)[i]?=bn (bn s)):∃j,ix[i]?=bn (bn j)/\fs[j]?=bn (bn s):=by
 unfold bc at h;rw[Ap]at h;cases q:ix[i]? with
 |none=>rw[q]at h;cases h
 |some o=>
  rw[q]at h;cases o with
  |none=>cases h
  |some j=>
   refine⟨j,rfl,?_⟩;have h:(fs[j]?).getD cr=bn s:=Option.some.inj h;cases z:fs[j]? with
   |none=>rw[z]at h;cases h
   |some y=>rw[z]at h;exact congrArg bn h
def jd(h:ix[i]?=bn (bn j))(e:σ[j]?=bn (bn u)):(kU ix σ)[i]?=bn (bn u):=by
 unfold kU;rw[Ap,h];show bn ((σ[j]?).getD cr)=_;rw[e];rfl
def aO.er(s:aO K H σ fs)(inj:∀i i' j:Nat,ix[i]?=bn (bn j)->ix[i']?=bn (bn j)->i=i'):aO K H (kU ix σ) (bc ix fs):=by
 refine⟨by unfold kU bc;simp,λi t e=>?_,λi i' t u x y a e1 e2 o1 o2 q1 q2 z1 z2=>?_,s.tb⟩
 .obtain⟨j,h1,h2⟩:=kW e;obtain⟨u,h3,h4⟩:=s.at' j t h2;exact⟨u,jd h1 h3,h4⟩
 .obtain⟨j,h1,h2⟩:=kW e1;obtain⟨j',gk,pM⟩:=kW e2;obtain⟨u1,h3,_⟩:=s.at' j t h2;obtain⟨u2,SQ,_⟩:=s.at' j' u pM;rw[jd h1 h3]at q1;rw[jd gk SQ]at q2;cases q1;cases q2;have:=s.nd j j' t u x y a h2 pM o1 o2 h3 SQ z1 z2;subst this;exact inj i i' j h1 gk
structure Qc(ix:List (Option Nat))(σ:L2.St)(fs:aH)(σ':L2.St)(ay:aH):Prop where
 own:∀(i:Nat) (t:SL),ay[i]?=bn (bn t)->t.own=true->∃j,ix[i]?=bn (bn j)/\fs[j]?=bn (bn t)/\σ'[i]?=σ[j]?
def Yf(ix:O (Option Nat))(σ σ':L2.St):Prop:=∀(i j:Nat) (u:V),ix[i]?=bn (bn j)->σ[j]?=bn (bn u)->σ'[i]?=bn (bn u)
def Yf.J5(c:Yf ix σ σ')(s:aO K H σ fs):Qc ix σ fs σ' (bc ix fs):=⟨λi t e _=>by
 obtain⟨j,h1,h2⟩:=kW e;obtain⟨u,h3,_⟩:=s.at' j t h2;exact⟨j,h1,h2,by rw[c i j u h1 h3,h3]⟩⟩
def Qc.ff(h:Qc ix σ fs σ' ay)(o:bP σ' ay a):bP σ fs a:=by
 obtain⟨i,t,x,e1,e2,e3,e4⟩:=o;obtain⟨j,h1,h2,h3⟩:=h.own i t e1 e2;exact⟨j,t,x,h2,e2,h3▸e3,e4⟩
def Qc.dI(h:Qc ix σ fs σ' ay){m:Nat}(o:gn σ' ay ψ m a):gn σ fs ψ m a:=by
 obtain⟨i,n,e1,e3⟩:=o;obtain⟨j,h1,h2,h3⟩:=h.own i _ e1 rfl;exact⟨j,n,h2,h3▸e3⟩
def Qc.out{N0 fsC:aH}(h:Qc ix σ fs σ' ay)(cp:Yf ix σ σ')(s:aO K H1 σ fs)(g:cg σ' ay H1 H2 fsC)(s2:aO K H2 σ' (bc ix N0))(ev:Ev fs N0)(hc:∀j:Nat,fs[j]?=N0[j]?\/∃i':Nat,ix[i']?=bn (bn j)):aO K H2 σ N0/\cg σ fs H1 H2 N0:=by
 have gf:cg σ fs H1 H2 N0:=⟨λa o e n t=>g.keep a o e (λψ m z=>n ψ m (h.dI z)) t,g.there,ev,g.x⟩;have er:∀{i j:Nat}{t:SL},ix[i]?=bn (bn j)->N0[j]?=bn (bn t)->(bc ix N0)[i]?=bn (bn t):=λ{i j t} e1 e2=>by
  unfold bc;rw[Ap,e1];show bn ((N0[j]?).getD cr)=_;rw[e2];rfl
 have tk:=gf.dn s;refine⟨⟨s.len.trans ev.len,λj t e=>?_,ev.nd s,s2.tb⟩,gf⟩
 .rcases hc j with e0|⟨i,hi⟩
  .rw[<- e0]at e;obtain⟨u,h1,h2⟩:=s.at' j t e;refine⟨u,h1,?_⟩;rcases h2 with⟨v,q,r⟩|⟨a,q,r⟩
   .exact .inl ⟨v,q,VR.tk tk r⟩
   .subst q;refine .inr ⟨a,rfl,?_⟩;by_cases c:∃b,t.own=true/\t.has a b/\bP σ' ay b
    .obtain⟨b,ow,hb,i,t',x,c1,c2,c3,c4⟩:=c;obtain⟨j',k1,k2,k3⟩:=h.own i t' c1 c2;have jj:=s.nd j j' t t' a x b e k2 ow c2 h1 (k3▸c3) hb c4;subst jj;rw[e]at k2;cases k2;exact s2.ownAt (er k1 (e0▸e)) c2 (k3.trans h1)
    .exact r.mono tk (λb o ow hb z nt=>g.vj z (λy=>c ⟨b,ow,hb,y⟩) nt)
  .obtain⟨u',h3,h4⟩:=s2.at' i t (er hi e);have he:∃t',fs[j]?=bn (bn t'):=by
    rcases ev.get e with z|⟨_,_,_,_,_,z⟩
    .exact⟨_,z⟩
    .exact⟨_,z⟩
   obtain⟨t',he⟩:=he;obtain⟨u,h1,_⟩:=s.at' j t' he;have:=cp i j u hi h1;rw[h3]at this;cases this;exact⟨_,h1,h4⟩
theorem jK:∀{is:O Nat}{us:O V}{σ:L2.St}{i:Nat},i∉is->(rS is us σ)[i]?=σ[i]?
 |[],us,σ,i,_=>by cases us<;>rfl
 |j::is,[],σ,i,_=>rfl
 |j::is,u::us,σ,i,h=>by
  rw[rS,jK (λz=>h (AN _ z))];exact aE (λz=>h (by rw[z];exact Bo))
end
section
variable{T2:Type}{wt:PV->W T2}{fs2:T2->aH}{tf:T2->W Bool}{te:T2->W PV}
structure FF(X:Cx)(K:Ab)(fs:aH)(Æ:List lc)(w:W Bool):Prop where p:Uv X Æ (fT K fs w)
def KA:FF X K fs [] (.ret true):=⟨λU s σ H Q I ⟨sr,q⟩=>MN U s σ H Q I (q H .refl sr)⟩
def Kz{c:lc}{w:W Bool}(h:TF X K fs c w):FF X K fs [c] w:=⟨MM h.p⟩
def mW(is:O Nat)(mB:aH)(fs2:T2->aH):Prop:=∀t,(fs2 t).length=mB.length/\∀(i:Nat) (s:SL),(fs2 t)[i]?=bn (bn s)->(i∈is/\s.own=false)\/(i∉is/\mB[i]?=bn (bn s))
theorem PQ{hd:Nat->aH}{fs2 fs3:Nat->T2->aH}(S:bh X.env.scope X.N sc N' ix)(h0:ub au (hd 0))(hx:∀i,i<=sizeLine->ub (hd i) LR)(hv:∀i,i<sizeLine->Ev (hd i) (hd (i+1)))(Ua:∀i j:Nat,(hd i)[j]?=(hd (i+1))[j]?\/∃i':Nat,ix[i']?=bn (bn j))(hf:∀p,f p=.bind (wt p) λt=>.bind (tf t) λk=>if k=true then .bind (te t) λv=>.ret (bn v) else .ret cr)(hl:∀i,mW is (bc ix (hd i)) (fs2 i))(WM:∀i t,i<sizeLine->cZ (fs2 i t) (bc ix (hd (i+1))))(WK:∀i t,i<sizeLine->cZ (fs3 i t) (bc ix (hd (i+1))))(nr:∀j∈is,ix[j]?=bn cr):∀σ H Q,fL K fs (.bind wl λl=>kc l f) LR σ H Q->tLc ix (fIt K fs wl au) (λv σ H Q=>∃i,fG K (bc ix (hd i)) is wt (fs2 i) v σ H Q) (λσ H Q=>∃i t,fT K (fs2 i t) (tf t) (fs2 i t) σ H Q) (λσ H Q=>∃i t,i<sizeLine/\fE K (fs2 i t) (te t) (fs3 i t) σ H Q) σ H Q:=by
 rintro σ H Q ⟨sr,q⟩;refine⟨sr,wl.mono (λl q1 J H1 g1 s1 jf D hD=>?_) q⟩;have hz:=jf.1;have inj:∀i i' j:Nat,ix[i]?=bn (bn j)->ix[i']?=bn (bn j)->i=i':=λi i' j h1 h2=>by
  have hi:i<N'.length:=by rw[<- S.len];exact(Aj.mp h1).1
  have wd:i'<N'.length:=by rw[<- S.len];exact(Aj.mp h2).1
  have e2:=(S.at h2 (Ai wd)).1;rw[((S.at h1 (Ai hi)).1)]at e2;exact(List.getElem_inj S.nd).mp (Option.some.inj e2)
 have g1:=g1.le h0;have s1:=s1.le h0.f;have nD:∀i,Ev (hd 0) (hd i)->¬bP σ (hd i) D:=λi e z=>s1.noOwn hD (e.ff z);refine⟨λi m σ' ys H'=>∃Á,Ev (hd 0) (hd i)/\aO K H' σ (hd i)/\cg σ fs H H' (hd i)/\aO K H' σ' (bc ix (hd i))/\Yf ix σ σ'/\JF K H' J l/\H' D=bn (.lst ys)/\aA K [] H' ys Á/\Á.length<=i/\m=l.length-i/\i<=l.length/\
  (kc (l.drop i) f).run λr=>∀a vs H',cg σ fs H H' LR->aO K H' σ LR->H a=cr->H' a=bn (.lst vs)->aA K [] H' vs (Á++r)->Q (.ref a) H',⟨l.length,[],?_⟩,?_⟩
 .have sm:=fZ hD (.lst []);exact⟨.refl _,s1.same sm,g1.trans (cg.same sm),(s1.same sm).er inj,λi j u h1 h3=>jd h1 h3,jf.tk sm.eF,aM,.nil,A7 _,by simp,A7 _,by simpa using q1⟩
 rintro i m σ2 ys H2 ⟨Á,ev0,sO,gO,s2,cp,NH,hy,vy,Hd,rfl,hi,q2⟩;refine⟨hy,?_⟩;obtain⟨j1,j2⟩:=NH.2 H2 (a8.refl H2);have J5:=cp.J5 sO;by_cases gr:i<l.length
 .have T8:i<sizeLine:=by lia
  have ÿ:=ev0.trans (hv i T8);obtain⟨go,yl⟩:=j1 i _ (Ai gr);rw[(BM gr)]at q2;refine .inr ⟨go,λv H3 y=>?_⟩;obtain⟨sm,vx⟩:=yl v H3 y;have q2:(f l[i]).run λo=>(kc (l.drop (i+1)) f).run λr=>∀a vs H',cg σ fs H H' LR->aO K H' σ LR->H a=cr->H' a=bn (.lst vs)->aA K [] H' vs (Á++(o.toList++r))->Q (.ref a) H':=q2;rw[hf]at q2;refine⟨_,_,(s2.same sm),vx,(wt l[i]).mono (λt q4 us g4 s4=>?_) q2⟩;have XN:Yf ix σ (rS is us σ2):=λi' j u h1 h3=>by
   rw[jK λz=>by have:=nr i' z;rw[h1]at this;cases this];exact cp i' j u h1 h3
  have Si:Qc ix σ (hd i) (rS is us σ2) (fs2 i t):=⟨λj u e o=>by
   rcases (hl i t).2 j u e with⟨_,z⟩|⟨n,z⟩
   .rw[z]at o;cases o
   .obtain⟨j',k1,k2,k3⟩:=J5.own j u z o;exact⟨j',k1,k2,by rw[jK n];exact k3⟩⟩
  refine⟨i,t,s4,(tf t).mono (λkk q5 H5 g5 s5=>?_) q4⟩;have nD4:¬bP (rS is us σ2) (fs2 i t) D:=λz=>nD i ev0 (Si.ff z);have hy5:=g5.vj (sm _ _ hy) nD4;have vy5:=aA.tk (g5.dn s4) (aA.tk sm.eF vy);have jf5:=(NH.tk sm.eF).tk (g5.dn s4);have x5:∀φ,H2 D≠bn (.ext φ):=λφ=>by rw[hy];simp
  cases kk with
  |false=>
   have s5':=s5.le (WM i t T8);obtain⟨sO5,gO5⟩:=Si.out XN (sO.same sm) g5 s5' (hv i T8) (Ua i);exact sY ⟨l.length-(i+1),by lia,Á,ÿ,sO5,(gO.trans (cg.same sm)).trans gO5,s5',XN,jf5,hy5,vy5,by lia,rfl,gr,q5⟩
  |true=>
   refine sX ⟨i,t,T8,s5,(te t).mono (λv6 q6 u6 H6 g6 s6 v6'=>?_) q5⟩;have s6':=s6.le (WK i t T8);obtain⟨sO6,abY⟩:=Si.out XN (sO.same sm) (g5.trans g6) s6' (hv i T8) (Ua i);have gO6:=(gO.trans (cg.same sm)).trans abY;have TZ:=g6.vj hy5 nD4;have vy6:=aA.tk (g6.dn s5) vy5;have x6:∀φ,H6 D≠bn (.ext φ):=λφ=>by rw[TZ];simp
   have nDi:=nD (i+1) ÿ;refine⟨TZ,by rw[vy6.length];have:=NH.1;lia,l.length-(i+1),by lia,Á++[v6],ÿ,sO6.side nDi TZ _,gO6.side (g1.there D hD) x6 _,s6'.side (λz=>nDi ((XN.J5 sO6).ff z)) TZ _,XN,(jf5.tk (g6.dn s5)).tk (mY _ TZ),aM,aA.tk (mY (.lst (ys++[u6])) TZ) (vy6.append (.cons v6' .nil)),by rw[Ag];simp;lia,rfl,gr,?_⟩;refine(kc (l.drop (i+1)) f).mono (λr q7 a vs H7 g7 s7 n e v7=>q7 a vs H7 g7 s7 n e ?_) q6;simpa using v7
 .have e:i=l.length:=by lia
  subst e;rw[EE]at q2;have le:=hx l.length hz;exact .inl ⟨j2,q2 D ys H2 (gO.le le) (sO.le le.f) (g1.there D hD) hy (by simpa using vy)⟩
end
end
end FL
namespace L2
def mN(l:f8)(items:Array db)(n:Nat)(b:f8)(cv:Array db)(n2:Nat)(sl:Array (Option db))(hc0:¬(!items.isEmpty&&Builtin.List.listTooLong (items.size+cv.size))=true)(hc1:items.size<=sizeLine)(G7:items.size+cv.size<=sizeLine+1):Meets (o0.«list.extend» ⟨[.ref l,.ref b],[]⟩) (λ_ R s=>s.heap.get? l=bn {cls:=.type "list",dict:=cr,data:=.seq items n,slots:=#[]}/\s.heap.get? b=bn {cls:=.type "list",dict:=cr,data:=.seq cv n2,slots:=sl}/\R (.ok (.ret Value.none)) {s with heap:=s.heap.update l (BC λx=>x++cv),toks:=s.toks}):=
 .of_wp λprog w A R s h=>by
  obtain⟨hp,g,d,tk,os⟩:=s;obtain⟨hl,hb,h⟩:=h;have f5:=DB;
  wp_walk using (Dc hl rfl),BO hl,BO hb;exact⟨_,rfl,h⟩
def VI(K:Ab):V->O V->Hp->VK->Prop:=λx vs H Q=>∃l b xs zs,x=.ref l/\vs=[.ref b]/\H l=bn (.lst xs)/\(bO K H b zs\/cG K H b zs)/\xs.length+zs.length<=sizeLine/\wx H l (.lst (xs++zs)) (Q .az)
theorem Nj(K:Ab)(hK:X.K=K):FY X "list.extend" (VI K):=by
 subst hK;intro U s σ H x vs v us Q I rx rv h;obtain⟨l,b,xs,zs,rfl,rfl,hH,hB|hB,hz,q⟩:=h
 .cases rx;obtain⟨u,rfl,ru⟩:=rv.one;cases ru;obtain⟨z,aj,n,r,hl,e⟩:=I.pB hH;obtain⟨cI,r2,⟨⟨cls,dd,data,sl⟩,n2,e2,hc,hd,Hb⟩,z2⟩:=I.list hB;subst hc hd Hb;have LN:=r2.length;have pf:aj.toArray.size+cI.toArray.size<=sizeLine:=by rw[Ah,Ah];lia
  have vw:¬(!aj.toArray.isEmpty&&Builtin.List.listTooLong (aj.toArray.size+cI.toArray.size))=true:=by
   rw[nX pf,CB];exact A6
  refine ss D6 ⟨_,e,rfl⟩ DP (DA _ _)
   (mN l aj.toArray n b cI.toArray n2 sl vw (by rw[Ah];lia) ∅) ⟨e,e2,?_⟩
  refine⟨.az,_,I.GD hH e (by simp) (r.append r2) ?_,rfl,q.at⟩;rw[Ag];lia
 .exact u5 U s σ H _ _ v us Q I rx rv ⟨l,b,xs,zs,rfl,rfl,hH,hB,hz,q⟩
end L2
variable{z:B0}{we:FL.W PL.PV}
namespace FL
section
variable[cu]
variable{K:Ab}
section
variable{T2:Type}{wt:PV->W T2}{fs2:T2->aH}{tf:T2->W Bool}{te:T2->W PV}
def Ws{hd:Nat->aH}{fs2 fs3:Nat->T2->aH}(hc:X.calm=true)(S:bh X.env.scope X.N sc N' ix)(hi:pe X K fs tg iter wl au)(hg:∀cl C s2 H2 fp i,GF (er X sc N' cl C s2 H2 fp) K (bc ix (hd i)) tg is wt (fs2 i))(NV:∀cl C s2 H2 fp i t,FF (er X sc N' cl C s2 H2 fp) K (fs2 i t) Æ (tf t))(he:∀cl C s2 H2 fp i t,i<sizeLine->EF (er X sc N' cl C s2 H2 fp) K (fs2 i t) Å (te t) (fs3 i t))(hf:∀p,f p=.bind (wt p) λt=>.bind (tf t) λk=>if k=true then .bind (te t) λv=>.ret (bn v) else .ret cr)(hl:∀i,mW is (bc ix (hd i)) (fs2 i))(nr:∀j∈is,ix[j]?=bn cr)(h0:ub au (hd 0))(hx:∀i,i<=sizeLine->ub (hd i) LR)(hv:∀i,i<sizeLine->Ev (hd i) (hd (i+1)))(Ua:∀i j:Nat,(hd i)[j]?=(hd (i+1))[j]?\/∃i':Nat,ix[i']?=bn (bn j))(WM:∀i t,i<sizeLine->cZ (fs2 i t) (bc ix (hd (i+1))))(WK:∀i t,i<sizeLine->cZ (fs3 i t) (bc ix (hd (i+1))))(hs:ph X iter:=by intro _;rfl):LF X K fs (.ListComp Å [⟨tg,iter,Æ,0⟩] sc pos) (.bind wl λl=>kc l f) LR:=
 ⟨PE.imp (VQ hc S hi.p (λcl C s2 H2 fp U s σ H v u Q I r ⟨i,q⟩=>(hg cl C s2 H2 fp i).p U s σ H v u Q I r q) (λcl C s2 H2 fp U s σ H Q I ⟨i,t,q⟩=>(NV cl C s2 H2 fp i t).p U s σ H Q I q) (λcl C s2 H2 fp U s σ H Q I ⟨i,t,h,q⟩=>(he cl C s2 H2 fp i t h).p U s σ H Q I q) hs) (PQ S h0 hx hv Ua hf hl WM WK nr)⟩
def R3(hc:X.calm=true)(S:bh X.env.scope X.N sc N' ix)(hi:pe X K fs tg iter wl au)(hg:∀cl C s2 H2 fp,GF (er X sc N' cl C s2 H2 fp) K (bc ix au) tg is wt fs2)(NV:∀cl C s2 H2 fp t,FF (er X sc N' cl C s2 H2 fp) K (fs2 t) Æ (tf t))(he:∀cl C s2 H2 fp t,EF (er X sc N' cl C s2 H2 fp) K (fs2 t) Å (te t))(hf:∀p,f p=.bind (wt p) λt=>.bind (tf t) λk=>if k=true then .bind (te t) λv=>.ret (bn v) else .ret cr)(hl:mW is (bc ix au) fs2/\∀t,cZ (fs2 t) (bc ix au))(nr:∀j∈is,ix[j]?=bn cr)(hs:ph X iter:=by intro _;rfl):LF X K fs (.ListComp Å [⟨tg,iter,Æ,0⟩] sc pos) (.bind wl λl=>kc l f) au:=Ws (hd:=λ_=>au) (fs2:=λ_=>fs2) (fs3:=λ_=>fs2) hc S hi (λcl C s2 H2 fp _=>hg cl C s2 H2 fp) (λcl C s2 H2 fp _=>NV cl C s2 H2 fp) (λcl C s2 H2 fp _ t _=>he cl C s2 H2 fp t) hf (λ_=>hl.1) nr (.refl _) (λ_ _=>.refl _) (λ_ _=>.refl _) (λ_ _=>.inl rfl) (λ_ t _=>hl.2 t) (λ_ t _=>hl.2 t) hs
def Nl{f:PV->W PV}(hf:∀p,f p=.bind (wt p) te):(λl=>bU l f)=λl=>kc l λp=>.bind (wt p) λt=>.bind (.ret true) λk=>if k=true then .bind (te t) λv=>.ret (bn v) else .ret cr:=funext λl=>by
 rw[sC];congr 1;funext p;rw[hf];rfl
def Pj{f:PV->W PV}(hc:X.calm=true)(S:bh X.env.scope X.N sc N' ix)(hi:pe X K fs tg iter wl au)(hg:∀cl C s2 H2 fp,GF (er X sc N' cl C s2 H2 fp) K (bc ix au) tg is wt fs2)(he:∀cl C s2 H2 fp t,EF (er X sc N' cl C s2 H2 fp) K (fs2 t) Å (te t))(hf:∀p,f p=.bind (wt p) te)(hl:mW is (bc ix au) fs2/\∀t,cZ (fs2 t) (bc ix au))(nr:∀j∈is,ix[j]?=bn cr)(hs:ph X iter:=by intro _;rfl):LF X K fs (.ListComp Å [⟨tg,iter,[],0⟩] sc pos) (.bind wl λl=>bU l f) au:=by
 rw[Nl hf];exact R3 hc S hi hg (λ_ _ _ _ _ _=>KA) he (λp=>rfl) hl nr hs
def fAs(K:Ab)(fs:aH)(i:Nat)(w:W (O PV))(ay:aH:=fs):TS:=λD σ H=>aO K H σ fs/\w.run λl=>∀a vs H',cg σ fs H H' ay->aO K H' σ ay->H a=cr->H' a=bn (.lst vs)->aA K [] H' vs l->D.nx (σ.set i (bn (.ref a))) H'
structure AS(X:Cx)(K:Ab)(fs:aH)(st:u8)(i:Nat)(w:W (List PV))(ay:aH:=fs):Prop where p:PS X st (fAs K fs i w ay)
variable{rest:O u8}{T:Type}{out:T->End}{x:Bool}{k:O PV->W T}
def SF.as{st:u8}(h:AS X K fs st i wl au)(hr:∀l,SF X K x (au.set i (bn (.ol cr l))) rest (k l) out):SF X K x fs (st::rest) (.bind wl k) out:=SF.step h.p λD σ H ⟨sr,q⟩=>⟨sr,wl.mono (λl q1 a ws H1 g1 s1 n e v1=>by
 have no:¬bP σ au a:=λz=>sr.noOwn n (g1.ev.ff z);have s2:=s1.Jg (t:=.ol cr l) ⟨by simp,ws,e,v1⟩ no i;exact⟨_,k l,hr l,s2,(k l).mono (λt q2=>q2.go (bX.Jg s1 g1 no n i) sr s2) q1⟩) q⟩
def Tg{hd:Nat->aH}{fs2 fs3:Nat->T2->aH}(hc:X.calm=true)(hN:X.N.Nodup)(wd:X.N[i]?=bn y)(vt:X.env.scope.names.lookup y=bn .local)(S:bh X.env.scope X.N sc N' ix)(hi:pe X K fs tg iter wl au)(hg:∀cl C s2 H2 fp i,GF (er X sc N' cl C s2 H2 fp) K (bc ix (hd i)) tg is wt (fs2 i))(NV:∀cl C s2 H2 fp i t,FF (er X sc N' cl C s2 H2 fp) K (fs2 i t) Æ (tf t))(he:∀cl C s2 H2 fp i t,i<sizeLine->EF (er X sc N' cl C s2 H2 fp) K (fs2 i t) Å (te t) (fs3 i t))(hf:∀p,f p=.bind (wt p) λt=>.bind (tf t) λk=>if k=true then .bind (te t) λv=>.ret (bn v) else .ret cr)(hl:∀i,mW is (bc ix (hd i)) (fs2 i))(nr:∀j∈is,ix[j]?=bn cr)(h0:ub au (hd 0))(hx:∀i,i<=sizeLine->ub (hd i) LR)(hv:∀i,i<sizeLine->Ev (hd i) (hd (i+1)))(Ua:∀i j:Nat,(hd i)[j]?=(hd (i+1))[j]?\/∃i':Nat,ix[i']?=bn (bn j))(WM:∀i t,i<sizeLine->cZ (fs2 i t) (bc ix (hd (i+1))))(WK:∀i t,i<sizeLine->cZ (fs3 i t) (bc ix (hd (i+1))))(vv:‹sn (.ListComp Å [⟨tg,iter,Æ,0⟩] sc pos) (bn (.Name y px)) mI.line X.env=pure true›)(hs:ph X iter:=by intro _;rfl):AS X K fs (.Assign [.Name y px] (.ListComp Å [⟨tg,iter,Æ,0⟩] sc pos) mI) i (.bind wl λl=>kc l f) LR:=
 ⟨PS.imp (Ji hc hN wd vt S hi.p (λcl C s2 H2 fp U s σ H v u Q I r ⟨i,q⟩=>(hg cl C s2 H2 fp i).p U s σ H v u Q I r q) (λcl C s2 H2 fp U s σ H Q I ⟨i,t,q⟩=>(NV cl C s2 H2 fp i t).p U s σ H Q I q) (λcl C s2 H2 fp U s σ H Q I ⟨i,t,h,q⟩=>(he cl C s2 H2 fp i t h).p U s σ H Q I q) vv hs) λD σ H ⟨sr,q⟩=>PQ (K:=K) S h0 hx hv Ua hf hl WM WK nr σ H _ ⟨sr,q⟩⟩
def X1(hc:X.calm=true)(hN:X.N.Nodup)(wd:X.N[i]?=bn y)(hx:X.env.scope.names.lookup y=bn .local)(S:bh X.env.scope X.N sc N' ix)(hi:pe X K fs tg iter wl au)(hg:∀cl C s2 H2 fp,GF (er X sc N' cl C s2 H2 fp) K (bc ix au) tg is wt fs2)(NV:∀cl C s2 H2 fp t,FF (er X sc N' cl C s2 H2 fp) K (fs2 t) Æ (tf t))(he:∀cl C s2 H2 fp t,EF (er X sc N' cl C s2 H2 fp) K (fs2 t) Å (te t))(hf:∀p,f p=.bind (wt p) λt=>.bind (tf t) λk=>if k=true then .bind (te t) λv=>.ret (bn v) else .ret cr)(hl:mW is (bc ix au) fs2/\∀t,cZ (fs2 t) (bc ix au))(nr:∀j∈is,ix[j]?=bn cr)(vv:‹sn (.ListComp Å [⟨tg,iter,Æ,0⟩] sc pos) (bn (.Name y px)) mI.line X.env=pure true›)(hs:ph X iter:=by intro _;rfl):AS X K fs (.Assign [.Name y px] (.ListComp Å [⟨tg,iter,Æ,0⟩] sc pos) mI) i (.bind wl λl=>kc l f) au:=
 Tg (hd:=λ_=>au) (fs2:=λ_=>fs2) (fs3:=λ_=>fs2) hc hN wd hx S hi (λcl C s2 H2 fp _=>hg cl C s2 H2 fp) (λcl C s2 H2 fp _=>NV cl C s2 H2 fp) (λcl C s2 H2 fp _ t _=>he cl C s2 H2 fp t) hf (λ_=>hl.1) nr (.refl _) (λ_ _=>.refl _) (λ_ _=>.refl _) (λ_ _=>.inl rfl) (λ_ t _=>hl.2 t) (λ_ t _=>hl.2 t) vv hs
def SF.Vo(hc:X.calm=true)(hN:X.N.Nodup)(wd:X.N[i]?=bn y)(hx:X.env.scope.names.lookup y=bn .local)(S:bh X.env.scope X.N sc N' ix)(hi:pe X K fs tg iter wl au)(hg:∀cl C s2 H2 fp,GF (er X sc N' cl C s2 H2 fp) K (bc ix au) tg is wt fs2)(NV:∀cl C s2 H2 fp t,FF (er X sc N' cl C s2 H2 fp) K (fs2 t) Æ (tf t))(he:∀cl C s2 H2 fp t,EF (er X sc N' cl C s2 H2 fp) K (fs2 t) Å (te t))(hf:∀p,f p=.bind (wt p) λt=>.bind (tf t) λk=>if k=true then .bind (te t) λv=>.ret (bn v) else .ret cr)(hl:mW is (bc ix au) fs2/\∀t,cZ (fs2 t) (bc ix au))(nr:∀j∈is,ix[j]?=bn cr)(hr:∀l,SF X K x (au.set i (bn (.ol cr l))) rest (k l) out)(vv:‹sn (.ListComp Å [⟨tg,iter,Æ,0⟩] sc pos) (bn (.Name y px)) mI.line X.env=pure true›)(hs:ph X iter:=by intro _;rfl):SF X K x fs (.Assign [.Name y px] (.ListComp Å [⟨tg,iter,Æ,0⟩] sc pos) mI::rest) (.bind (.bind wl λl=>kc l f) k) out:=SF.as (X1 hc hN wd hx S hi hg NV he hf hl nr vv hs) hr
end
section
theorem sP:∀{l:aH}{i:Nat} (s:Option SL),l[i]?=bn cr->cZ (l.set i s) l
 |[],_,_,h=>by simp at h
 |x::l,0,s,h=>by
  simp at h;subst h;exact .drop (cZ.refl l)
 |x::l,i+1,s,h=>by
  exact .keep (sP s (by simpa using h))
def cZ.trans{a b c:aH}(h1:cZ a b)(h2:cZ b c):cZ a c:=by
 induction h1 generalizing c with
 |nil=>exact h2
 |drop h ih=>cases h2 with|drop h2=>exact .drop (ih h2)|keep h2=>exact .drop (ih h2)
 |keep h ih=>cases h2 with|drop h2=>exact .drop (ih h2)|keep h2=>exact .keep (ih h2)|bump h2 k=>exact .bump (ih h2) k
 |bump h k ih=>cases h2 with|drop h2=>exact .drop (ih h2)|keep h2=>exact .bump (ih h2) k|bump h2 k2=>exact .bump (ih h2) ⟨AI k.1 k2.1,k2.2⟩
def oB{l:aH}(hl:l.length=mB.length/\∀(j:Nat) (s:SL),l[j]?=bn (bn s)->(j∈is/\s.own=false)\/(j∉is/\mB[j]?=bn (bn s)))(hi:mB[i]?=bn cr):(l.set i (bn (.val v))).length=mB.length/\∀(j:Nat) (s:SL),(l.set i (bn (.val v)))[j]?=bn (bn s)->(j∈is++[i]/\s.own=false)\/(j∉is++[i]/\mB[j]?=bn (bn s)):=by
 refine⟨by rw[CJ];exact hl.1,λj s e=>?_⟩;rcases cj e with⟨rfl,rfl⟩|⟨n,e⟩
 .exact .inl ⟨by simp,rfl⟩
 .rcases hl.2 j s e with⟨h1,h2⟩|⟨h1,h2⟩
  .exact .inl ⟨by simp[h1],h2⟩
  .exact .inr ⟨by simp[h1,n],h2⟩
def Pg(mB:aH):mB.length=mB.length/\∀(j:Nat) (s:SL),mB[j]?=bn (bn s)->(j∈([]:O Nat)/\s.own=false)\/(j∉([]:O Nat)/\mB[j]?=bn (bn s)):=⟨rfl,λj s e=>.inr ⟨by simp,e⟩⟩
def RX(hi:mB[i]?=bn cr):mW [i] mB (λp=>mB.set i (bn (.val p)))/\∀t,cZ (mB.set i (bn (.val t))) mB:=⟨λt=>oB (Pg mB) hi,λt=>sP _ hi⟩
def IM{l:aH}{s:Option SL}(h:l[j]?=bn cr)(n:j≠i):(l.set i s)[j]?=bn cr:=by rw[aE n];exact h
def Wo(hi:mB[i]?=bn cr)(hj:mB[j]?=bn cr)(n:j≠i):mW [i,j] mB (λt:PV×PV=>(mB.set i (bn (.val t.1))).set j (bn (.val t.2)))/\∀t:PV×PV,cZ ((mB.set i (bn (.val t.1))).set j (bn (.val t.2))) mB:=
 ⟨λt=>oB (oB (Pg mB) hi) hj,λt=>(sP _ (IM hj n)).trans (sP _ hi)⟩
end
section
variable{rest:O u8}{wC:Pos}{T:Type}{out:T->End}{x:Bool}{wi:W PV}
def fH(sr:aO K H σ fs)(hs:fs[i]?=bn (bn (.ol q0 l))):∃a ws,σ[i]?=bn (bn (.ref a))/\H a=bn (.lst ws)/\aA K [] H ws l:=by
 obtain⟨u,e1,r⟩:=sr.at' i _ hs;rcases r with⟨v,e,_⟩|⟨a,e,z,ws,q1,q2⟩
 .cases e
 .subst e;exact⟨a,ws,e1,q1,q2⟩
def ng{Il:O V}{l':O PV}(sr:aO K H σ fs)(hs:fs[i]?=bn (bn (.ol q0 l)))(e1:σ[i]?=bn (bn (.ref a)))(sx:jI a H H')(h':H' a=bn (.lst Il))(r:aA K [] H Il l'):aO K H' σ (fs.set i (bn (.ol q0 l')))/\bX σ fs H σ (fs.set i (bn (.ol q0 l'))) H':=
 nT sr hs rfl (by simp) e1 sx λtk=>⟨(sr.ownAt hs rfl e1).1,Il,h',aA.tk tk r⟩
def k6(l:O PV)(v:PV):W (O PV):=.gm (l.length<sizeLine) (.ret (l++[v]))
theorem SF.append(i:Nat){k:O PV->W T}(hs:fs[i]?=bn (bn (.ol q0 l)))(hK:X.K=K)(hN:X.N[i]?=bn y)(hv:FV X.env.scope y)(he:EF X K fs e we au)(hr:∀l',SF X K x (au.set i (bn (.ol q0 l'))) rest (k l') out)(hd: ~~~(iM y))(iC: ~~~(HQ y))(d7:‹sK (.Name y p) "append" X.env (r6 (.Name y p) X.env)=r6 (.Name y p) X.env›)(tu:‹Ya X bW [e]›)(d6:‹OP Â bW›)(wc:‹hV X e []›)(gP:‹kb X bW []›)(vv:‹sn (.Call (.Attribute (.Name y p) "append" Â) [e] [] bW) cr pos.line X.env=pure false›):SF X K x fs (.Expr (.Call (.Attribute (.Name y p) "append" Â) [e] [] bW) pos::rest) (.bind we λv=>.bind (k6 l v) k) out:=
 SF.step (m8 (sg K hK BX PySem.F.slot_list_append PySem.F.type_list_append xj (fF hN hv hd iC) (bo he.p cf wc) d7 tu d6 wc gP) vv) λD σ H ⟨sr,q⟩=>by
  obtain⟨a,ws,e1,h1,r1⟩:=fH sr hs;refine⟨_,e1,.inl ⟨rfl,_,bO.of h1⟩,sr,we.mono (λv q1 u H1 g1 s1 v1=>?_) q⟩;obtain⟨a',Il,Hw,gk,Gm⟩:=fH s1 (g1.ev.same hs (by simp));rw[e1]at Hw;cases Hw;refine⟨a,Il,u,rfl,rfl,gk,by rw[Gm.length];exact q1.1,λH2 sx h2=>?_⟩;obtain⟨s2,g2⟩:=ng s1 (g1.ev.same hs (by simp)) e1 sx h2 (Gm.append (.one v1));exact⟨_,k _,hr _,s2,(k _).mono (λt q2=>q2.go (g1.f.trans g2) sr s2) q1.2⟩
def oT(l m:O PV):W (O PV):=.gm (l.length+m.length<=sizeLine) (.ret (l++m))
theorem SF.extend(i:Nat){k:O PV->W T}(hs:fs[i]?=bn (bn (.ol q0 l)))(hK:X.K=K)(hN:X.N[i]?=bn y)(hv:FV X.env.scope y)(he:QF X K fs e wl au)(hr:∀l',SF X K x (au.set i (bn (.ol q0 l'))) rest (k l') out)(hd: ~~~(iM y))(iC: ~~~(HQ y))(d7:‹sK (.Name y p) "extend" X.env (r6 (.Name y p) X.env)=r6 (.Name y p) X.env›)(tu:‹Ya X bW [e]›)(d6:‹OP Â bW›)(wc:‹hV X e []›)(gP:‹kb X bW []›)(vv:‹sn (.Call (.Attribute (.Name y p) "extend" Â) [e] [] bW) cr pos.line X.env=pure false›):SF X K x fs (.Expr (.Call (.Attribute (.Name y p) "extend" Â) [e] [] bW) pos::rest) (.bind wl λm=>.bind (oT l m) k) out:=
 SF.step (m8 (sg K hK BX PySem.F.slot_list_extend PySem.F.type_list_extend (Nj K hK) (fF hN hv hd iC) (bo he.p cf wc) d7 tu d6 wc gP) vv) λD σ H ⟨sr,q⟩=>by
  obtain⟨a,ws,e1,h1,r1⟩:=fH sr hs;refine⟨_,e1,.inl ⟨rfl,_,bO.of h1⟩,sr,wl.mono (λm q1 u H1 g1 s1 v1=>?_) q⟩;obtain⟨a',Il,Hw,gk,Gm⟩:=fH s1 (g1.ev.same hs (by simp));rw[e1]at Hw;cases Hw;obtain⟨b,zs,rfl,hb,rb⟩:=v1.sq s1;refine⟨a,b,Il,zs,rfl,rfl,gk,hb,by rw[Gm.length,rb.length];exact q1.1,λH2 sx h2=>?_⟩;obtain⟨s2,g2⟩:=ng s1 (g1.ev.same hs (by simp)) e1 sx h2 (Gm.append rb);exact⟨_,k _,hr _,s2,(k _).mono (λt q2=>q2.go (g1.f.trans g2) sr s2) q1.2⟩
def rZ(l:O PV):W (O PV×PV):=match l.getLast? with
 |some v=>.ret (l.dropLast,v)
 |none=>.fail
def IH{l:O PV}(h:l.getLast?=bn v):l=l.dropLast++[v]:=by
 rw[List.getLast?_eq_some_iff]at h;obtain⟨ys,rfl⟩:=h;simp
theorem aA.snoc:∀{ws:O V}{l:O PV}{v:PV},aA K [] H ws (l++[v])->∃TJ u,ws=TJ++[u]/\aA K [] H TJ l/\VR K [] H u v
 |_,[],_,.cons r .nil=>⟨[],_,rfl,.nil,r⟩
 |_,x::l,v,.cons r t=>by
  obtain⟨TJ,u,rfl,h1,h2⟩:=aA.snoc t;exact⟨_::TJ,u,rfl,.cons r h1,h2⟩
def SF.se(i j:Nat){k:O PV×PV->W T}(hs:fs[i]?=bn (bn (.ol q0 l)))(YW:j≠i)(hK:X.K=K)(hN:X.N[i]?=bn y)(hv:FV X.env.scope y)(hNd:X.N.Nodup)(hj:X.N[j]?=bn z)(hx:Loc X.env.scope z)(hr:∀t:O PV×PV,SF X K x ((fs.set i (bn (.ol q0 t.1))).set j (bn (.val t.2))) rest (k t) out)(hd: ~~~(iM y))(iC: ~~~(HQ y))(d7:‹sK (.Name y p) "pop" X.env (r6 (.Name y p) X.env)=r6 (.Name y p) X.env›)(d6:‹OP Â bW›)(vv:‹sn (.Call (.Attribute (.Name y p) "pop" Â) [] [] bW) (bn (.Name z p')) pos.line X.env=pure false›)(hf:LX X z:=by first | exact .inl rfl | exact .inr rfl | assumption):SF X K x fs (.Assign [.Name z p'] (.Call (.Attribute (.Name y p) "pop" Â) [] [] bW) pos::rest) (.bind (rZ l) k) out:=
 SF.step (lA hNd hj hx (zc K hK BX EY EW Nh (fF hN hv hd iC) d7 d6) vv hf) λD σ H ⟨sr,q⟩=>by
  obtain⟨a,ws,e1,h1,r1⟩:=fH sr hs;have q:(rZ l).run λt=>(k t).run λt=>bI K x σ fs H D (out t):=q;unfold rZ at q;cases hl:l.getLast? with
  |none=>rw[hl]at q;exact q.elim
  |some v=>
   rw[hl]at q;have el:=IH hl;rw[el]at r1;obtain⟨TJ,u,rfl,r0,ru⟩:=aA.snoc r1;refine⟨_,e1,.inl ⟨rfl,_,bO.of h1⟩,a,TJ,u,rfl,rfl,h1,λH2 sx h2=>?_⟩;obtain⟨s2,g2⟩:=ng sr hs e1 sx h2 r0;have ru2:VR K [] H2 u v:=g2.vr sr ru;have s3:=s2.cW ru2 j;exact⟨_,k _,hr (l.dropLast,v),s3,(k _).mono (λt q2=>q2.go (g2.trans (bX.cW s2 _ _ j)) sr s3) q⟩
def Gf(l:O PV)(i v:PV):W (O PV):=match i with
 |.int k=>match qR l.length k with
  |some j=>.ret (l.set j v)
  |none=>.fail
 |_=>.fail
def SF.aar(i:Nat){ei:lc}{k:O PV->W T}(hs:fs[i]?=bn (bn (.ol q0 l)))(hN:X.N[i]?=bn y)(hv:FV X.env.scope y)(he:EF X K fs e we au)(hi:EF X K au ei wi fs2)(hr:∀l',SF X K x (fs2.set i (bn (.ol q0 l'))) rest (k l') out)(ha:∀v,GM (.Subscript (.Name y p) ei wC) X.env v=(do
   let ov <- EQ [v] (r6 (.Name y p) X.env)
   let iv <- EQ [v,ov] (r6 ei X.env)
   standAt wC
   EQ [v,ov,iv] (setItem ov iv v)
   release [v,ov,iv] []):=by intro _;rfl)(hd: ~~~(iM y))(iC: ~~~(HQ y))(hss:‹Gt [.Subscript (.Name y p) ei wC] e pos.line X.env=pure false›)(hw:‹GE [.Subscript (.Name y p) ei wC] e X.env=pure cr›)(h1:‹(Ch [.Subscript (.Name y p) ei wC] X.env).map (·.2)=[GM (.Subscript (.Name y p) ei wC) X.env]›):SF X K x fs (.Assign [.Subscript (.Name y p) ei wC] e pos::rest) (.bind we λv=>.bind wi λn=>.bind (Gf l n v) k) out:=
 SF.step (rY he.p (wV (fF hN hv hd iC) hi.p ly ha) hss hw h1) λD σ H ⟨sr,q⟩=>by
  refine⟨sr,we.mono (λv q1 u H1 g1 s1 v1=>?_) q⟩;obtain⟨a,ws,e1,h1,r1⟩:=fH s1 (g1.ev.same hs (by simp));refine⟨_,e1,s1,wi.mono (λn q2 u2 H2 g2 s2 v2=>?_) q1⟩;obtain⟨a',Il,Hw,gk,Gm⟩:=fH s2 ((g1.trans g2).ev.same hs (by simp));rw[e1]at Hw;cases Hw;cases v2 with
  |int kk=>
   have q2:(match qR l.length kk with|some j=>ci (l.set j v)|none=>W.fail).run _:=q2;cases hj:qR l.length kk with
   |none=>rw[hj]at q2;exact q2.elim
   |some j=>
    rw[hj]at q2;refine⟨a,Il,kk,j,rfl,rfl,gk,by rw[Gm.length];exact hj,λH3 sx h3=>?_⟩;obtain⟨s3,g3⟩:=ng s2 ((g1.trans g2).ev.same hs (by simp)) e1 sx h3 (Gm.set (g2.vr s1 v1) j);exact⟨_,k _,hr _,s3,(k _).mono (λt q3=>q3.go ((g1.trans g2).f.trans g3) sr s3) q2⟩
  |_=>exact q2.elim
end
end
section
variable[cu]
variable{K:Ab}
def fq(n:Nat):O AK->O PV->aH
 |[],_=>[]
 |.v::ks,x::l=>bn (.val x)::fq n ks l
 |.v::_,[]=>[]
 |.p ψ d::ks,l=>bn (.dI ψ n (n+d))::fq n ks l
 |.f a us ps fz::ks,l=>bn (.adr a us ps fz)::fq n ks l
def o9(n:Nat)(ks:O AK)(l:O PV)(N:Nat):aH:=fq n ks l++Av (N-ks.length) cr
def mV(ks:O AK):Prop:=∀i j:Nat,(∃ψ d,ks[i]?=bn (.p ψ d))->(∃ψ d,ks[j]?=bn (.p ψ d))->i=j
theorem mX:∀{n:Nat}{m:wg R n}{l:O PV}{Q:R->Prop},(rJ n m l).run Q->l.length=n
 |0,_,[],_,_=>rfl
 |0,_,_::_,_,h=>h.elim
 |n+1,_,[],_,h=>h.elim
 |n+1,m,x::l,Q,h=>by rw[Ay,mX (n:=n) h]
section
theorem gq.len(h:gq K H n vs ks l):vs.length=ks.length:=by induction h<;>simp_all
def gq.slot(h:gq K H n vs ks l):(fq n ks l).length=vs.length/\∀(i:Nat) (s:SL),(fq n ks l)[i]?=bn (bn s)->∃u,vs[i]?=bn u/\mG K H u s/\(s.own=true->∃ψ d,s=.dI ψ n (n+d)/\ks[i]?=bn (.p ψ d)):=by
 induction h with
 |nil=>exact⟨rfl,λi s e=>by simp[fq]at e⟩
 | @v u x vs ks l r t ih=>
  refine⟨by simp[fq,ih.1],λi s e=>?_⟩;cases i with
  |zero=>simp[fq]at e;subst e;exact⟨u,rfl,.inl ⟨x,rfl,r⟩,λz=>by cases z⟩
  |succ i=>simp[fq]at e;obtain⟨w,h1,h2,h3⟩:=ih.2 i s e;exact⟨w,by simpa using h1,h2,by simpa using h3⟩
 | @p a ψ d vs ks l e0 r t ih=>
  refine⟨by simp[fq,ih.1],λi s e=>?_⟩;cases i with
  |zero=>simp[fq]at e;subst e;exact⟨_,rfl,.inr ⟨a,rfl,e0,BA _ _,r⟩,λ_=>⟨ψ,d,rfl,rfl⟩⟩
  |succ i=>simp[fq]at e;obtain⟨w,h1,h2,h3⟩:=ih.2 i s e;exact⟨w,by simpa using h1,h2,by simpa using h3⟩
 | @f a us vs ps fz ks l r z t ih=>
  refine⟨by simp[fq,ih.1],λi s e=>?_⟩;cases i with
  |zero=>simp[fq]at e;subst e;exact⟨_,rfl,.inr ⟨a,rfl,rfl,r,z⟩,λz=>by cases z⟩
  |succ i=>simp[fq]at e;obtain⟨w,h1,h2,h3⟩:=ih.2 i s e;exact⟨w,by simpa using h1,h2,by simpa using h3⟩
def gq.Rh(h:gq K H n vs ks l)(e:ks[i]?=bn (.p ψ d)):(fq n ks l)[i]?=bn (bn (.dI ψ n (n+d))):=by
 induction h generalizing i with
 |nil=>simp at e
 |v r t ih=>cases i with|zero=>simp at e|succ i=>simp[fq];exact ih (by simpa using e)
 |p e0 r t ih=>cases i with|zero=>simp at e;obtain⟨rfl,rfl⟩:=e;rfl|succ i=>simp[fq];exact ih (by simpa using e)
 |f r z t ih=>cases i with|zero=>simp at e|succ i=>simp[fq];exact ih (by simpa using e)
theorem kX{N:Nat}{s:SL}(h:(o9 n ks l N)[i]?=bn (bn s)):(fq n ks l)[i]?=bn (bn s):=by
 unfold o9 at h;by_cases c:i<(fq n ks l).length
 .rw[A8 c]at h;exact h
 .rw[Bm ∅,Cy]at h
  split at h<;>cases h
def qu{N:O Str}(h:vs[i]?=bn u):(L2.start N vs)[i]?=bn (bn u):=by
 unfold L2.start;rw[A8 (by rw[Aq];exact(Aj.mp h).1),Ap,h];rfl
def F7{N:O Str}(h:(L2.start N vs)[i]?=bn (bn u)):vs[i]?=bn u:=by
 unfold L2.start at h;by_cases c:i<vs.length
 .rw[A8 (by simpa using c),Ap]at h;cases z:vs[i]? with
  |none=>rw[z]at h;cases h
  |some q=>rw[z]at h;cases h;rfl
 .rw[Bm (by simpa using c),Cy]at h
  split at h<;>cases h
def gq.beg(h:gq K H n vs ks l)(tb:TB H)(one:mV ks)(N:O Str):aO K H (L2.start N vs) (o9 n ks l N.length):=by
 obtain⟨hl,hs⟩:=h.slot;refine⟨?_,λi s e=>?_,λi j s t x y a e1 e2 o1 o2 q1 q2 z1 z2=>?_,tb⟩
 .unfold L2.start o9;rw[Ag,Ag,Aq,hl,Cd,Cd,h.len]
 .obtain⟨u,h1,h2,_⟩:=hs i s (kX e);exact⟨u,qu h1,h2⟩
 .obtain⟨_,_,_,h3⟩:=hs i s (kX e1);obtain⟨_,_,_,h4⟩:=hs j t (kX e2);obtain⟨φ,d,_,k1⟩:=h3 o1;obtain⟨ψ,d',_,k2⟩:=h4 o2;exact one i j ⟨φ,d,k1⟩ ⟨ψ,d',k2⟩
def gq.go(h:gq K H n vs ks l){N:O Str}(g:bX (L2.start N vs) (o9 n ks l N.length) H σ' ay H')(s':aO K H' σ' ay):Qd n vs ks H H':=by
 obtain⟨hl,hs⟩:=h.slot;refine⟨λa o e q=>(g.keep a o e λz=>?_).1,s'.tb,g.there,λa ψ d p=>?_,g.x⟩
 .obtain⟨i,s,x,e1,e2,e3,e4⟩:=z;obtain⟨u,h1,h2,h3⟩:=hs i s (kX e1);obtain⟨ψ,d,rfl,k⟩:=h3 e2;rcases e4 with rfl|e4
  .exact q ψ d ⟨i,k,F7 e3⟩
  .cases e4
 .obtain⟨i,e1,e2⟩:=p;have e3:=h.Rh e1;have e4:(o9 n ks l N.length)[i]?=bn (bn (.dI ψ n (n+d))):=by unfold o9;rw[A8 ((Aj.mp e3).1)];exact e3
  rcases g.pk a ψ (n+d) ⟨i,n,e4,qu e2⟩ with p|⟨_,k⟩
  .exact s'.free p
  .exact k
end
section
variable{st:u8}{f:f8}{N:O Str}
def fnV{m:wg PV n}(Fn:OJ K x qual st f fd)(S:dZ N ps (aB st))(NU:ks.length=ps.length)(one:mV ks)(Í:∀(j:Nat) (l:O PV),l.length=n->∀(ek:db) (A:sB) (outer:O Env) (s:em) (H:Hp) (E:XK),cY k (A.deeper (FM qual (aB st) s.heap.objs.size f ek))->SF (qb v9 P w K mg base N qual (aB st) f ek A outer s H E).Pb K false (o9 j ks l N.length) (ck st) (rJ n m l) .rt):js P w K mg base v9 (k+1) f fd ps (Ga K ks (rJ n m)):=by
 refine Fn.ok S (λvs H Q E h=>?_) (λek A outer s H vs Q E hr h=>?_)
 .obtain⟨_,_,l,h,_⟩:=h;rw[h.len];exact NU
 obtain⟨tb,j,l,h,q⟩:=h;refine⟨_,(Í j l (mX q) ek A outer s H E hr).p,h.beg tb one N,(rJ n m l).mono (λv q1 u σ' ay H' g s' r=>q1 u H' (h.go g s') r) q⟩
def fnL{m:wg (O PV) n}(Fn:OJ K x qual st f fd)(S:dZ N ps (aB st))(NU:ks.length=ps.length)(one:mV ks)(Í:∀(j:Nat) (l:O PV),l.length=n->∀(ek:db) (A:sB) (outer:O Env) (s:em) (H:Hp) (E:XK),cY k (A.deeper (FM qual (aB st) s.heap.objs.size f ek))->SF (qb v9 P w K mg base N qual (aB st) f ek A outer s H E).Pb K false (o9 j ks l N.length) (ck st) (rJ n m l) .rl):js P w K mg base v9 (k+1) f fd ps (F9 K ks (rJ n m)):=by
 refine Fn.ok S (λvs H Q E h=>?_) (λek A outer s H vs Q E hr h=>?_)
 .obtain⟨_,_,l,h,_⟩:=h;rw[h.len];exact NU
 obtain⟨tb,j,l,h,q⟩:=h;refine⟨_,(Í j l (mX q) ek A outer s H E hr).p,(h.beg tb one N),(rJ n m l).mono (λz q1 a ws σ' ay H' g s' fr e r=>q1 a ws H' (h.go g s') ?_ e r) q⟩;rcases fr with fr|⟨i,t,x,e1,e2,np,e3,e4⟩
 .exact fr
 .obtain⟨_,_,_,h3⟩:=h.slot.2 i t (kX e1);obtain⟨ψ,d,e,_⟩:=h3 e2;exact absurd e (np _ _ _)
end
def M7:mV []:=λi j ⟨_,_,h⟩=>by simp at h
def O8{k:AK}(h:mV ks)(hk:∀ψ d,k≠.p ψ d):mV (k::ks):=λi j ⟨φ,d,a⟩ ⟨ψ,d',b⟩=>by
 cases i with
 |zero=>simp at a;exact absurd a (hk _ _)
 |succ i=>
  cases j with
  |zero=>simp at b;exact absurd b (hk _ _)
  |succ j=>rw[h i j ⟨φ,d,by simpa using a⟩ ⟨ψ,d',by simpa using b⟩]
def V4(h:mV ks):mV (.v::ks):=O8 h (by simp)
def V6{fa:f8}{us:O V}{qs:O PV}(h:mV ks):mV (.f fa us qs fz::ks):=O8 h (by simp)
def V5:mV (.p ψ d::Av n .v):=λi j ⟨χ,d1,a⟩ ⟨ψ',d2,b⟩=>by
 have z:∀{i:Nat}{χ:Nat->O V->Prop}{e:Nat},(AK.p ψ d::Av n .v)[i]?=bn (.p χ e)->i=0:=λ{i χ e} a=>by
  cases i with
  |zero=>rfl
  |succ i=>
   have a:(Av n AK.v)[i]?=bn (.p χ e):=by simpa using a
   rw[Cy]at a
   split at a<;>simp at a
 rw[z a,z b]
end
end FL
namespace L2
def VL(K:Ab):R2:=λx y H Q=>∃a b xs zs,x=.ref a/\y=.ref b/\bO K H a xs/\bO K H b zs/\xs.length+zs.length<=sizeLine/\jk H (.lst (xs++zs)) Q
theorem M5(K:Ab)(hK:X.K=K):gp X (ut .Add) (VL K):=by
 subst hK;intro U s σ H x y v u Q I rx ry h;obtain⟨l,b,xs,zs,rfl,rfl,hH,hB,hz,q⟩:=h;cases rx;cases ry;obtain⟨aj,r,⟨⟨cls,dd,data,sl⟩,n,ho,hc,hd,Hb⟩,_⟩:=I.list hH;obtain⟨cI,r2,⟨⟨Td,Oj,data2,LD⟩,n2,G9,PB,Ø,W4⟩,_⟩:=I.list hB;subst hc hd Hb PB Ø W4;have e:aj.toArray++cI.toArray=(aj++cI).toArray:=by simp
 have hl:=r.length;have LN:=r2.length;refine concat_meets ⟨_,ho,rfl⟩ ⟨_,G9,rfl⟩ noFill_list_add seq_list_add PySem.F.slot_list_add PySem.F.entry_list_add (PySem.F.args_list_add_2 _ _) (list_addW l b aj.toArray cI.toArray n n2 cr cr sl LD (by simp;lia)) ⟨ho,G9,?_⟩;rw[e];exact⟨.ref _,_,I.Wn (r.append r2) (by rw[Ag];lia),rfl,q.at _ I.fresh⟩
end L2
variable{o:B6}{hi:FL.W (Option Int)}
namespace FL
section
variable[cu]
variable{K:Ab}
section
variable{a c:lc}{w:W PV}
def qc(l m:O PV):W (O PV):=.gm (l.length+m.length<=sizeLine) (.ret (l++m))
def fQL(K:Ab)(fs:aH)(w:W (O PV))(ay:aH:=fs):TE:=λσ H Q=>aO K H σ fs/\w.run λl=>∀u H',cg σ fs H H' ay->aO K H' σ ay->OC K σ ay H' u l->(∀f2 ZH,cg σ ay H' ZH f2->aO K ZH σ f2->∃a vs,u=.ref a/\bO K ZH a vs/\aA K [] ZH vs l)->Q u H'
structure Lv(X:Cx)(K:Ab)(fs:aH)(e:lc)(w:W (List PV))(ay:aH:=fs):Prop where p:PE X e (fQL K fs w ay)
def dE(h:LF X K fs e wl au):Lv X K fs e wl au:=⟨PE.imp h.p λσ H Q ⟨sr,q⟩=>⟨sr,wl.mono (λl q1 a vs H1 g1 s1 n e v=>q1 _ H1 g1 s1 (.inr ⟨a,rfl,.inl ⟨λz=>sr.noOwn n (g1.ev.ff z),vs,e,v⟩⟩) λ_ H2 g2 s2=>⟨a,vs,rfl,bO.of (g2.vj e λz=>sr.noOwn n (g1.ev.ff z)),g2.L6 s1 v⟩) q⟩⟩
def rX(i:Nat)(hs:‹fs[i]?=bn (bn (.ol q0 l))›)(hN:‹X.N[i]?=bn x›)(hv:FV X.env.scope x:=by first|exact Ca rfl|exact B3 (Ca rfl)|exact B3 (B3 rfl))(hd: ~~~(iM x))(iC: ~~~(HQ x)):Lv X K fs (.Name x pos) (.ret l):=
 ⟨PE.imp (fF hN hv hd iC) λσ H Q ⟨sr,q⟩=>by
  obtain⟨a,ws,e1,h1,r1⟩:=fH sr hs;refine⟨_,e1,q _ H .refl sr (.inr ⟨a,rfl,.inr ⟨i,q0,hs,e1⟩⟩) λ_ H2 g2 s2=>?_⟩;obtain⟨a',Il,Hw,gk,Gm⟩:=fH s2 (g2.ev.same hs (by simp));rw[e1]at Hw;cases Hw;exact⟨a,Il,rfl,bO.of gk,Gm⟩⟩
def sD:PV->W (O PV)
 |.cl l=>.ret l
 |_=>.fail
def jL(h:EF X K fs e w au):Lv X K fs e (.bind w sD) au:=⟨PE.imp h.p λσ H Q ⟨sr,q⟩=>⟨sr,w.mono (λx q1 u1 H1 g1 s1 v1=>by
 cases v1 with
 |cl e r=>exact q1 _ H1 g1 s1 (.inl ⟨_,_,rfl,.inl e,r⟩) λ_ H2 g2 s2=>⟨_,_,rfl,((g2.dn s1).f _ _ e).sq,g2.L6 s1 r⟩
 |_=>exact q1.elim) q⟩⟩
def qO(hK:X.K=K)(ha:Lv X K fs a wl au)(hb:Lv X K au b wm fs2):LF X K fs (.BinOp a .Add b pos) (.bind wl λl=>.bind wm λm=>qc l m) fs2:=⟨PE.imp (cH (M5 K hK) ha.p hb.p) λσ H Q ⟨sr,q⟩=>⟨sr,wl.mono (λl q1 u1 H1 g1 s1 _ v1=>⟨s1,wm.mono (λm q2 u2 H2 g2 s2 _ v2=>by
 obtain⟨a,vs,rfl,h1,r1⟩:=v1 _ H2 g2 s2;obtain⟨b,ws,rfl,h2,r2⟩:=v2 _ H2 .refl s2;refine⟨a,b,vs,ws,rfl,rfl,h1,h2,by rw[r1.length,r2.length];exact q2.1,λp H3 s3 h3 n3=>?_⟩;have gg:=g1.trans g2;exact q2.2 p _ H3 (gg.trans (cg.same s3)) (s2.same s3) (gg.there p n3) h3 (aA.tk s3.eF (r1.append r2))) q1⟩) q⟩⟩
def zk{Q:VK}(g1:cg σ fs H H1 au)(s1:aO K H1 σ au)(r:aA K [] H1 vs l)(q:∀a vs H',cg σ fs H H' au->aO K H' σ au->H a=cr->H' a=bn (.lst vs)->aA K [] H' vs l->Q (.ref a) H'):jk H1 (.lst vs) Q:=λp H2 s2 h2 n2=>q p vs H2 (g1.trans (cg.same s2)) (s1.same s2) (g1.there p n2) h2 (aA.tk s2.eF r)
def JM(K:Ab):CL K (Jb K) .ret:=λ{fs σ H Q u l} s v q=>by
 obtain⟨a,vs,rfl,h,rs⟩:=v.sq s;exact⟨a,vs,rfl,h,zk .refl s rs q⟩
def xq(hK:X.K=K)(hg:Gl X "list")(hm:X.mg "list"=cr)(ha:QF X K fs e wl au)(he:‹hV X e []›)(cX:‹kb X pos []›):LF X K fs (.Call (.Name "list" p) [e] [] pos) wl au:=JN (yj K hK) (JM K) hg hm boot_list ha ⋯ ⋯ he cX
def jb(hK:X.K=K)(hg:Gl X "tuple")(hm:X.mg "tuple"=cr)(ha:QF X K fs e wl au)(he:‹hV X e []›)(cX:‹kb X pos []›):EF X K fs (.Call (.Name "tuple" p) [e] [] pos) (.bind wl nH) au:=Hu (HC K hK) (L9 K) hg hm boot_tuple ha ⋯ ⋯ he cX
def S6(hK:X.K=K)(hg:Gl X "len")(hm:X.mg "len"=cr)(ha:QF X K fs e wl au)(he:‹hV X e []›)(cX:‹kb X pos []›):EF X K fs (.Call (.Name "len" p) [e] [] pos) (.bind wl Nr) au:=K3 (q8 K hK) (Nt K) hg hm boot_len ha ⋯ ⋯ he cX
def X2(ha:EF X K fs e w au)(he:ii [e] X.env=(false,r6 e X.env)::ii [] X.env):AF X K fs [e] (Av 1 .v) (R:=R) (λk=>.bind w λx=>k [x]) au:=aa ha af he
def jD(hK:X.K=K)(hg:Gl X "len")(hm:X.mg "len"=cr)(ha:EF X K fs e w au)(he:‹hV X e []›)(cX:‹kb X pos []›):EF X K fs (.Call (.Name "len" p) [e] [] pos) (.bind w λx=>Pa jq [x]) au:=Oe (q8 K hK) (Ou K) hg hm boot_len (X2 ha he) ⋯ ⋯ he cX
def Ph(hK:X.K=K)(hc:X.calm=true)(Kl:Gl X "list")(Kg:X.mg "list"=cr)(Kk:Gl X "reversed")(Kf:X.mg "reversed"=cr)(he:Lv X K fs e wl au)(s9:‹ii [.Call (.Name "reversed" p3) [e] [] p4] X.env=(false,r6 (.Call (.Name "reversed" p3) [e] [] p4) X.env)::ii [] X.env›)(G7:‹hV X e []›):LF X K fs (.Call (.Name "list" p1) [.Call (.Name "reversed" p3) [e] [] p4] [] p2) (.bind wl λl=>.ret l.reverse) au:=⟨PE.imp (wY K hK hc Kl Kg Kk Kf he.p s9 G7) λσ H Q ⟨sr,q⟩=>⟨sr,wl.mono (λl q1 u1 H1 g1 s1 _ v1=>by
 obtain⟨a,vs,rfl,h1,r1⟩:=v1 _ H1 .refl s1;exact⟨a,vs,rfl,h1,zk g1 s1 r1.reverse q1⟩) q⟩⟩
def Ur:O PV->W (O Bool)
 |[]=>.ret []
 |.bl b::r=>.bind (Ur r) λl=>.ret (b::l)
 |_=>.fail
theorem tU:∀{l:O PV}{Q:O Bool->Prop},(Ur l).run Q->∃bs:O Bool,l=bs.map PV.bl/\Q bs
 |[],Q,h=>⟨[],rfl,h⟩
 |.bl b::r,Q,h=>by
  obtain⟨bs,e,q⟩:=tU (l:=r) h;exact⟨b::bs,by rw[e];rfl,q⟩
 |.az::r,Q,h=>h.elim
 |.int _::r,Q,h=>h.elim
 |.str _::r,Q,h=>h.elim
 |.tup _::r,Q,h=>h.elim
 |.ref _::r,Q,h=>h.elim
 |.ty _::r,Q,h=>h.elim
 |.cl _::r,Q,h=>h.elim
def Li(l:O PV):W PV:=.bind (Ur l) λbs=>.ret (.bl (bs.all id))
def Ov(l:O PV):W PV:=.bind (Ur l) λbs=>.ret (.bl (bs.any id))
def PZ(hK:X.K=K)(hc:X.calm=true)(hg:Gl X "all")(hm:X.mg "all"=cr)(ha:Lv X K fs e wl au)(he:‹hV X e []›)(cX:‹kb X pos []›):EF X K fs (.Call (.Name "all" p) [e] [] pos) (.bind wl Li) au:=⟨PE.imp (f6 (HG K hK hc) hg hm boot_all (bo ha.p cf he) ⋯ ⋯ he cX) λσ H Q ⟨sr,q⟩=>⟨sr,wl.mono (λl q1 u1 H1 g1 s1 _ v1=>by
 obtain⟨bs,e,q2⟩:=tU q1;obtain⟨a,vs,rfl,h1,r1⟩:=v1 _ H1 .refl s1;rw[e]at r1;have:=mf r1;subst this;exact⟨a,bs,rfl,h1,q2 _ H1 g1 s1 (.bl _)⟩) q⟩⟩
def XE(hK:X.K=K)(hc:X.calm=true)(hg:Gl X "any")(hm:X.mg "any"=cr)(ha:Lv X K fs e wl au)(he:‹hV X e []›)(cX:‹kb X pos []›):EF X K fs (.Call (.Name "any" p) [e] [] pos) (.bind wl Ov) au:=⟨PE.imp (f6 (HF K hK hc) hg hm boot_any (bo ha.p cf he) ⋯ ⋯ he cX) λσ H Q ⟨sr,q⟩=>⟨sr,wl.mono (λl q1 u1 H1 g1 s1 _ v1=>by
 obtain⟨bs,e,q2⟩:=tU q1;obtain⟨a,vs,rfl,h1,r1⟩:=v1 _ H1 .refl s1;rw[e]at r1;have:=mf r1;subst this;exact⟨a,bs,rfl,h1,q2 _ H1 g1 s1 (.bl _)⟩) q⟩⟩
def fJ(k:Kd)(x:PV):W PV:=match x with
 |.ref _=>.fail
 |.ty _=>.fail
 |.ob _ _=>.fail
 |.hand=>.fail
 |x=>.ret (.bl (k.is x))
def O6(K:Ab):O V->Hp->VK->Prop:=λxs H Q=>∃x c t b,xs=[x,.ty c]/\(jr K H x t\/(t=.type "tuple"/\∃a vs,x=.ref a/\cG K H a vs)\/(t=.type "list"/\∃a vs,x=.ref a/\bO K H a vs)\/(t=.type "dict"/\∃a,x=.ref a/\IsD H a))/\Bt K t (.type c)=bn b/\Q (.bl b) H
def HE(hK:X.K=K):cq X (.builtin "isinstance") (O6 K):=by
 subst hK;intro U s σ H xs us Q I r h;obtain⟨x,c,t,b,rfl,ty|ty|⟨rfl,a,vs,rfl,hL⟩|⟨rfl,a,rfl,hD⟩,e,q⟩:=h
 .exact mF U s σ H _ us Q I r ⟨x,c,t,b,rfl,ty,e,q⟩
 .exact HD X.K rfl U s σ H _ us Q I r ⟨x,c,t,b,rfl,.inr ty,e,q⟩
 .obtain⟨u,w,rfl,r1,r2⟩:=vals2 r;cases r1;cases r2;obtain⟨aj,_,⟨o,n,h1,h2,_⟩,_⟩:=I.list hL;exact Bd Ej I.qQ ⟨o,h1,h2⟩ e (λz=>nomatch z) λtk=>⟨.bl b,H,I.tok _,rfl,q⟩
 .obtain⟨u,w,rfl,r1,r2⟩:=vals2 r;cases r1;cases r2;have:∃o,s.heap.get? a=bn o/\o.cls=.type "dict":=by
   rcases hD with⟨aD,e⟩|⟨aD,e⟩
   .obtain⟨_,_,vs,_,o,_,_,h1,h2,_⟩:=vK I.bC e;exact⟨o,h1,h2.1⟩
   .obtain⟨_,_,xs,_,o,_,_,h1,h2,_⟩:=zX I.bC e;exact⟨o,h1,h2.1⟩
  obtain⟨o,h1,h2⟩:=this;exact Bd Ek I.qQ ⟨o,h1,h2⟩ e (λz=>nomatch z) λtk=>⟨.bl b,H,I.tok _,rfl,q⟩
def jE(hK:X.K=K)(k:Kd)(hg:Gl X "isinstance")(hm:X.mg "isinstance"=cr)(ha:EF X K fs a wa au)(hgx:Gl X x)(hmx:X.mg x=cr)(hv:pi x=bn (.type k.name))(hn: ~~~(x≠"__name__"))(hd: ~~~(iM x))(he:‹ii [a,.Name x p2] X.env=(false,r6 a X.env)::ii [.Name x p2] X.env›)(õ:‹ii [Expr.Name x p2] X.env=(false,r6 (.Name x p2) X.env)::ii [] X.env›)(cX:‹(backTo pos (ii [Expr.Name x p2] X.env)).any (·.1)=false›):EF X K fs (.Call (.Name "isinstance" p) [a,.Name x p2] [] pos) (.bind wa (fJ k)) au:=
 ⟨PE.imp (f6 (HE hK) hg hm boot_isinstance (bo ha.p (bo (MW (v:=.ty k.name) hgx hmx hv rfl hn hd) cf õ) he) ⋯ ⋯ he cX) λσ H Q ⟨sr,q⟩=>⟨sr,wa.mono (λx q1 u1 H1 g1 s1 v1=>by
  have fin:∀{t:db}{y:PV},jr K H1 u1 t->Bt K t (.type k.name)=bn (k.is y)->Q (.bl (k.is y)) H1->O6 K [u1,.ty k.name] H1 Q:=λty e q=>⟨_,_,_,_,rfl,.inl ty,e,q⟩;cases v1 with
  |az=>exact fin .az (by rw[(ni K).1 k];cases k<;>rfl) (q1 _ H1 g1 s1 (.bl _))
  |bl b=>exact fin (.bl b) (R5 K b k) (q1 _ H1 g1 s1 (.bl _))
  |int b=>exact fin (.int b) (NC K b k) (q1 _ H1 g1 s1 (.bl _))
  |str b=>exact fin (.str b) (NA K b k) (q1 _ H1 g1 s1 (.bl _))
  |ty n=>exact q1.elim
  |ref n=>exact q1.elim
  |ob _ _ _ _ _=>exact q1.elim
  |hand _=>exact q1.elim
  | @dk a o aD ks l e k1 r=>exact⟨_,_,_,_,rfl,.inr (.inr (.inr ⟨rfl,_,rfl,.inl ⟨_,.inr ⟨_,e⟩⟩⟩)),(show _=bn (k.is (.dv ks l)) by rw[(ni K).2.2 k];cases k<;>rfl),q1 _ H1 g1 s1 (.bl _)⟩
  | @dt a o aD ks l e k1 r=>exact⟨_,_,_,_,rfl,.inr (.inr (.inr ⟨rfl,_,rfl,.inr ⟨_,.inr ⟨_,e⟩⟩⟩)),(show _=bn (k.is (.dv ks l)) by rw[(ni K).2.2 k];cases k<;>rfl),q1 _ H1 g1 s1 (.bl _)⟩
  | @cl p vs l e r=>exact⟨_,_,_,_,rfl,.inr (.inr (.inl ⟨rfl,_,_,rfl,e.sq⟩)),(show _=bn (k.is (.cl l)) by rw[(ni K).2.1 k];cases k<;>rfl),q1 _ H1 g1 s1 (.bl _)⟩
  | @tup p vs l e r=>exact⟨_,_,_,_,rfl,.inr (.inl ⟨rfl,_,_,rfl,cG.of e⟩),Nz K _ k,q1 _ H1 g1 s1 (.bl _)⟩) q⟩⟩
def aaw(l:O PV):PV->W (O PV)
 |.int k=>.gm (-(2 ^ 63)<=k/\k<2 ^ 63/\l.length*k.toNat<=sizeLine) (.ret (Av k.toNat l).flatten)
 |_=>.fail
def part:PV->W (Option Int)
 |.int i=>.ret (bn i)
 |_=>.fail
def eB:OF X K fs cr (.ret cr):=⟨PO.imp MH λσ H Q ⟨sr,q⟩=>q H .refl sr⟩
def eA(h:EF X K fs e w au):OF X K fs (bn e) (.bind w part) au:=⟨PO.imp (MF h.p) λσ H Q ⟨sr,q⟩=>⟨sr,w.mono (λx q1 u1 H1 g1 s1 v1=>by
 cases v1 with
 |int i=>exact⟨_,rfl,q1 H1 g1 s1⟩
 |_=>exact q1.elim) q⟩⟩
variable{el eh:Option lc}{lo:W (Option Int)}
def RY(hK:X.K=K)(he:Lv X K fs e wl au)(hl:OF X K au el lo fs2)(hh:OF X K fs2 eh hi fs3):LF X K fs (.Subscript e (.Slice el eh cr p2) pos) (.bind wl λl=>.bind lo λi=>.bind hi λj=>.ret (bz l i j)) fs3:=⟨PE.imp (uI (II K hK) he.p hl.p hh.p) λσ H Q ⟨sr,q⟩=>⟨sr,wl.mono (λl q1 u1 H1 g1 s1 _ v1=>⟨s1,lo.mono (λi q2 H2 g2 s2=>⟨s2,hi.mono (λj q3 H3 g3 s3=>by
 obtain⟨a,vs,rfl,h1,r1⟩:=v1 _ H3 (g2.trans g3) s3;exact⟨a,vs,rfl,h1,zk ((g1.trans g2).trans g3) s3 (r1.cut i j) q3⟩) q2⟩) q1⟩) q⟩⟩
end
end
end FL
variable{f1 f2:FL.aH}{k2:Nat}
namespace FL
section
variable[cu]
variable{K:Ab}
abbrev b2(m:M2)(wa wb:W PV):W PV:=.bind wa λx=>.bind wb λy=>of2 m x y
abbrev t2(m:M2)(wa wb:W PV):W Bool:=.bind wa λx=>.bind wb λy=>.bind (of2 m x y) P9
abbrev c1(m:LV)(w:W PV):W PV:=.bind w λx=>Pa m [x]
abbrev fm(wl:W (O PV))(wb:W PV):W PV:=.bind wl λl=>.bind wb λy=>mQ l y
abbrev Md(a b:W Bool):W Bool:=.bind a λk=>if k=true then b else .ret false
abbrev tor(a b:W Bool):W Bool:=.bind a λk=>if k=true then .ret true else b
abbrev F5(a:W Bool):W Bool:=.bind a λk=>.ret (!k)
abbrev jN{α:Type}(t:W Bool)(a b:W α):W α:=.bind t λk=>if k=true then a else b
section
variable{a:lc}{rest:O u8}{S T T2:Type}{hd:S->aH}{s0:S}{w:W PV}{wt:PV->W T2}{fs2:S->T2->aH}{k:S->W T}{out:T->End}{x:Bool}
def SF.Hl{f:PV->S->W S}(hp:wT (ge X.prog X.w) X.A X.env X.xe)(hc:X.calm=true)(hi:pe X K fs tg iter wl f1)(hl:cZ f1 (hd s0))(hg:PG X tg (cD i))(hb:∀s p,SF X K false ((hd s).set i (bn (.val p))) body (f p s) λs'=>.nc (hd s'))(hr:∀s,SF X K x (hd s) rest (k s) out)(hs:ph X iter:=by intro _;rfl):SF X K x fs (.For tg iter body [] pos::rest) (.bind wl λl=>.bind (dw l s0 f) k) out:=SF.for hp hc hi hl (λs=>Ud hg) (λ_ _=>rfl) hb hr hs
def SF.SU{wb:T2->S->W S}(hp:wT (ge X.prog X.w) X.A X.env X.xe)(hc:X.calm=true)(hi:pe X K fs tg iter wl f1)(hl:cZ f1 (hd s0))(hg:∀s,GF X K (hd s) tg is wt (fs2 s))(hb:∀s t,SF X K false (fs2 s t) body (wb t s) λs'=>.nc (hd s'))(hr:∀s,SF X K x (hd s) rest (k s) out)(hs:ph X iter:=by intro _;rfl):SF X K x fs (.For tg iter body [] pos::rest) (.bind wl λl=>.bind (dw l s0 λp s=>.bind (wt p) λt=>wb t s) k) out:=SF.for hp hc hi hl hg (λ_ _=>rfl) hb hr hs
def SF.IP{fs3:T2->aH}{k:T2->W T}(he:EF X K fs e we f1)(hg:GF X K f1 tg is wt fs3)(hr:∀t,SF X K x (fs3 t) rest (k t) out)(hs:‹Gt [tg] e pos.line X.env=pure false›)(hw:‹GE [tg] e X.env=pure cr›)(h1:‹(Ch [tg] X.env).map (·.2)=[GM tg X.env]›):SF X K x fs (.Assign [tg] e pos::rest) (.bind we λv=>.bind (wt v) k) out:=SF.step (rY he.p hg.p hs hw h1) λD σ H ⟨sr,q⟩=>
 ⟨sr,we.mono (λv q1 u H1 g1 s1 v1=>⟨v,s1,v1,(wt v).mono (λt q2 us g2 s2=>⟨_,k t,hr t,s2,(k t).mono (λt' q3=>q3.go (g1.f.trans g2) sr s2) q2⟩) q1⟩) q⟩
def SF.par{Rc:Pos}{kt:Nat}{k:PV->PV->W T}(hc:X.calm=true)(hN:X.N.Nodup)(hi:X.N[i]?=bn y)(hj:X.N[j]?=bn z)(YW:i≠j)(hx:X.env.scope.names.lookup y=bn .local)(hy:X.env.scope.names.lookup z=bn .local)(ha:EF X K fs a wa f1)(hb:EF X K f1 b wb f2)(hr:∀u v,SF X K x ((f2.set i (bn (.val u))).set j (bn (.val v))) rest (k u v) out)(hw:‹GE [.Tuple [.Name y px,.Name z py] kt pt] (.Tuple [a,b] k2 Rc) X.env=pure (bn [y,z])›)(hs:‹Gt [.Tuple [.Name y px,.Name z py] kt pt] (.Tuple [a,b] k2 Rc) pos.line X.env=pure false›)(he:‹ii [a,b] X.env=(false,r6 a X.env)::ii [b] X.env›)(õ:‹hV X b []›):SF X K x fs (.Assign [.Tuple [.Name y px,.Name z py] kt pt] (.Tuple [a,b] k2 Rc) pos::rest) (.bind wa λu=>.bind wb λv=>k u v) out:=
 SF.step (Rf hc hN hi hj YW hx hy (bo ha.p (bo hb.p cf õ) he) hw hs) λD σ H ⟨sr,q⟩=>⟨sr,wa.mono (λu q1 u1 H1 g1 s1 v1=>⟨s1,wb.mono (λv q2 u2 H2 g2 s2 v2=>by
  have s3:=s2.cW (g2.vr s1 v1) i;have s4:=s3.cW v2 j;exact⟨_,_,rfl,_,k u v,hr u v,s4,(k u v).mono (λt q3=>q3.go (((g1.trans g2).f.trans (bX.cW s2 _ _ i)).trans (bX.cW s3 _ _ j)) sr s4) q2⟩) q1⟩) q⟩
end
end
end FL
variable{f:PL.PV->FL.W PL.PV}
namespace FL
section
variable[cu]
variable{K:Ab}
abbrev Ox(wa wb:W PV):W PV:=.bind wa λx=>Ow x wb
abbrev mS(wl:W (O PV)):W PV:=.bind wl λl=>.ret (.cl l)
abbrev ud(t:W Bool)(w:W PV):W (Option PV):=.bind t λk=>if k=true then .bind w λv=>.ret (bn v) else .ret cr
section
variable{c:lc}{W':W PV}{WL:W (O PV)}
def Oc{m:O PV->W PV}(G:LA X.prog X.w X.K X.mg X.base x k ps (Ga K ks m))(hr:cY k' X.A)(hk:k<=k')(hg:Gl X x)(ha:AF X K fs (e::es) ks B f1)(hW:W'=B m)(jO: ~~~(iM x))(he:‹hV X e es›)(cX:‹kb X pos es›):EF X K fs (.Call (.Name x p) (e::es) [] pos) W' f1:=hW▸S7 G hr hk hg ha jO he cX
def Nx{m:O PV->W (O PV)}{B:(O PV->W (O PV))->W (O PV)}(G:LA X.prog X.w X.K X.mg X.base x k ps (F9 K ks m))(hr:cY k' X.A)(hk:k<=k')(hg:Gl X x)(ha:AF X K fs (e::es) ks B f1)(hW:WL=B m)(jO: ~~~(iM x))(he:‹hV X e es›)(cX:‹kb X pos es›):LF X K fs (.Call (.Name x p) (e::es) [] pos) WL f1:=hW▸R4 G hr hk hg ha jO he cX
def ao{x1}(h:AF X K fs es (Av n .v) B f1)(hW:W'=B λl=>.ret (.tup l))(hn: ~~~(n<=1000)):EF X K fs (.Tuple es x1 pos) W' f1:=hW▸Xw h hn
def bB{B:(O PV->W (O PV))->W (O PV)}(h:AF X K fs es (Av n .v) B f1)(hW:WL=B λl=>.ret l)(hn: ~~~(n<=1000)):LF X K fs (.List es pos) WL f1:=hW▸Wq h hn
variable{T2:Type}{wt:PV->W T2}{fs2:T2->aH}{tf:T2->W Bool}{te:T2->W PV}
def iu(hc:X.calm=true)(S:bh X.env.scope X.N sc N' ix)(hi:pe X K fs tg iter wl f1)(hg:∀cl C s2 H2 fp,PG (er X sc N' cl C s2 H2 fp) tg (cD i))(he:∀cl C s2 H2 fp t,EF (er X sc N' cl C s2 H2 fp) K ((bc ix f1).set i (bn (.val t))) Å (f t))(h0:ix[i]?=bn cr)(hs:ph X iter:=by intro _;rfl):LF X K fs (.ListComp Å [⟨tg,iter,[],0⟩] sc pos) (.bind wl λl=>bU l f) f1:=
 have h1:(bc ix f1)[i]?=bn cr:=by unfold bc;rw[Ap,h0];rfl
 Pj hc S hi (λcl C s2 H2 fp=>Ud (hg cl C s2 H2 fp)) he (λ_=>rfl) (RX h1) (λj hj=>by rw[Au]at hj;subst hj;exact h0) hs
def oC{tf:PV->W Bool}{te:PV->W PV}(hc:X.calm=true)(S:bh X.env.scope X.N sc N' ix)(hi:pe X K fs tg iter wl f1)(hg:∀cl C s2 H2 fp,PG (er X sc N' cl C s2 H2 fp) tg (cD i))(hf:∀cl C s2 H2 fp t,TF (er X sc N' cl C s2 H2 fp) K ((bc ix f1).set i (bn (.val t))) c (tf t))(he:∀cl C s2 H2 fp t,EF (er X sc N' cl C s2 H2 fp) K ((bc ix f1).set i (bn (.val t))) Å (te t))(h0:ix[i]?=bn cr)(hs:ph X iter:=by intro _;rfl):LF X K fs (.ListComp Å [⟨tg,iter,[c],0⟩] sc pos) (.bind wl λl=>kc l λp=>ud (tf p) (te p)) f1:=
 have h1:(bc ix f1)[i]?=bn cr:=by unfold bc;rw[Ap,h0];rfl
 R3 hc S hi (λcl C s2 H2 fp=>Ud (hg cl C s2 H2 fp)) (λcl C s2 H2 fp t=>Kz (hf cl C s2 H2 fp t)) he (λ_=>rfl) (RX h1) (λj hj=>by rw[Au]at hj;subst hj;exact h0) hs
def RZ(hc:X.calm=true)(S:bh X.env.scope X.N sc N' ix)(hi:pe X K fs tg iter wl f1)(hg:∀cl C s2 H2 fp,GF (er X sc N' cl C s2 H2 fp) K (bc ix f1) tg is wt fs2)(he:∀cl C s2 H2 fp t,EF (er X sc N' cl C s2 H2 fp) K (fs2 t) Å (te t))(hl:mW is (bc ix f1) fs2/\∀t,cZ (fs2 t) (bc ix f1))(nr:∀j∈is,ix[j]?=bn cr)(hs:ph X iter:=by intro _;rfl):LF X K fs (.ListComp Å [⟨tg,iter,[],0⟩] sc pos) (.bind wl λl=>bU l λp=>.bind (wt p) te) f1:=Pj hc S hi hg he (λ_=>rfl) hl nr hs
def Wr(hc:X.calm=true)(S:bh X.env.scope X.N sc N' ix)(hi:pe X K fs tg iter wl f1)(hg:∀cl C s2 H2 fp,GF (er X sc N' cl C s2 H2 fp) K (bc ix f1) tg is wt fs2)(hf:∀cl C s2 H2 fp t,TF (er X sc N' cl C s2 H2 fp) K (fs2 t) c (tf t))(he:∀cl C s2 H2 fp t,EF (er X sc N' cl C s2 H2 fp) K (fs2 t) Å (te t))(hl:mW is (bc ix f1) fs2/\∀t,cZ (fs2 t) (bc ix f1))(nr:∀j∈is,ix[j]?=bn cr)(hs:ph X iter:=by intro _;rfl):LF X K fs (.ListComp Å [⟨tg,iter,[c],0⟩] sc pos) (.bind wl λl=>kc l λp=>.bind (wt p) λt=>ud (tf t) (te t)) f1:=R3 hc S hi hg (λcl C s2 H2 fp t=>Kz (hf cl C s2 H2 fp t)) he (λ_=>rfl) hl nr hs
variable{rest:O u8}{T:Type}{out:T->End}{x0:Bool}{kk:O PV->W T}
def Nm{wt:PV->W T2}{te:T2->W PV}:(λl=>bU l λp=>.bind (wt p) te)=λl=>kc l λp=>.bind (wt p) λt=>.bind (.ret true) λk=>if k=true then .bind (te t) λv=>.ret (bn v) else .ret cr:=funext λl=>by
 rw[sC];rfl
def SF.Mn(hc:X.calm=true)(hN:X.N.Nodup)(wd:X.N[i]?=bn y)(hx:X.env.scope.names.lookup y=bn .local)(S:bh X.env.scope X.N sc N' ix)(hi:pe X K fs tg iter wl f1)(hg:∀cl C s2 H2 fp,GF (er X sc N' cl C s2 H2 fp) K (bc ix f1) tg is wt fs2)(he:∀cl C s2 H2 fp t,EF (er X sc N' cl C s2 H2 fp) K (fs2 t) Å (te t))(hl:mW is (bc ix f1) fs2/\∀t,cZ (fs2 t) (bc ix f1))(nr:∀j∈is,ix[j]?=bn cr)(hr:∀l,SF X K x0 (f1.set i (bn (.ol cr l))) rest (kk l) out)(vv:‹sn (.ListComp Å [⟨tg,iter,[],0⟩] sc pos) (bn (.Name y px)) mI.line X.env=pure true›)(hs:ph X iter:=by intro _;rfl):SF X K x0 fs (.Assign [.Name y px] (.ListComp Å [⟨tg,iter,[],0⟩] sc pos) mI::rest) (.bind (.bind wl λl=>bU l λp=>.bind (wt p) te) kk) out:=by
 rw[Nm];exact SF.Vo hc hN wd hx S hi hg (λ_ _ _ _ _ _=>KA) he (λp=>rfl) hl nr hr vv hs
def SF.rR(hc:X.calm=true)(hN:X.N.Nodup)(wd:X.N[i]?=bn y)(hx:X.env.scope.names.lookup y=bn .local)(S:bh X.env.scope X.N sc N' ix)(hi:pe X K fs tg iter wl f1)(hg:∀cl C s2 H2 fp,PG (er X sc N' cl C s2 H2 fp) tg (cD j))(he:∀cl C s2 H2 fp t,EF (er X sc N' cl C s2 H2 fp) K ((bc ix f1).set j (bn (.val t))) Å (f t))(h0:ix[j]?=bn cr)(hr:∀l,SF X K x0 (f1.set i (bn (.ol cr l))) rest (kk l) out)(vv:‹sn (.ListComp Å [⟨tg,iter,[],0⟩] sc pos) (bn (.Name y px)) mI.line X.env=pure true›)(hs:ph X iter:=by intro _;rfl):SF X K x0 fs (.Assign [.Name y px] (.ListComp Å [⟨tg,iter,[],0⟩] sc pos) mI::rest) (.bind (.bind wl λl=>bU l f) kk) out:=
 have h1:(bc ix f1)[j]?=bn cr:=by unfold bc;rw[Ap,h0];rfl
 SF.Mn hc hN wd hx S hi (λcl C s2 H2 fp=>Ud (hg cl C s2 H2 fp)) he (RX h1) (λm hj=>by rw[Au]at hj;subst hj;exact h0) hr vv hs
end
def Xl{f:f8}(h:∀vs H Q E,¬sp vs H Q E):js P w K mg base v9 k f fd ps sp:=⟨λvs H Q E q=>(h _ _ _ _ q).elim,λA outer s H args us vs Q E _ _ _ _ q=>(h _ _ _ _ q).elim⟩
def QI{m:wg PV n}(h:∀l Q,l.length=n->¬(rJ n m l).run Q):∀vs H Q E,¬Ga K ks (rJ n m) vs H Q E:=λvs H Q E ⟨_,_,l,_,q⟩=>h l _ (mX q) q
theorem bu(hr:cY k A):A.units+200<nn:=by have:=hr.un;lia
end
end FL
variable{x:PL.PV}
namespace FL
section
variable[cu]
variable{K:Ab}
mutual
def PV.de:PV->Bool
 |.tup l=>cB l
 |.cl l=>cB l
 |.ref _=>false
 |.ty _=>false
 |.dv _ _=>false
 |.ob _ _=>false
 |.hand=>false
 |_=>true
def cB:O PV->Bool
 |[]=>true
 |x::l=>PV.de x&&cB l
end
mutual
def PV.bb:PV->Nat
 |.tup l=>aK l+1
 |.cl l=>aK l+1
 |_=>0
def aK:O PV->Nat
 |[]=>0
 |x::l=>max (PV.bb x) (aK l)
end
mutual
def ez:PV->PV->Bool
 |.az,.az=>true
 |.bl a,.bl b=>a==b
 |.bl a,.int b=>(if a then 1 else 0)==b
 |.int a,.bl b=>a==(if b then 1 else 0)
 |.int a,.int b=>a==b
 |.str a,.str b=>a==b
 |.tup l,.tup m=>cJ l m
 |.cl l,.cl m=>cJ l m
 |_,_=>false
def cJ:O PV->O PV->Bool
 |[],[]=>true
 |x::l,y::m=>ez x y&&cJ l m
 |_,_=>false
end
theorem oP:∀{l:O PV}{j:Nat}{x:PV},cB l=true->l[j]?=bn x->PV.de x=true
 |[],_,_,_,e=>by simp at e
 |y::l,0,x,h,e=>by
  simp at e;subst e;rw[cB,AH]at h;exact h.1
 |y::l,j+1,x,h,e=>by
  rw[cB,AH]at h;exact oP h.2 (by simpa using e)
theorem qX:∀{l:O PV}{j:Nat}{x:PV},l[j]?=bn x->PV.bb x<=aK l
 |[],_,_,e=>by simp at e
 |y::l,0,x,e=>by
  simp at e;subst e;rw[aK];lia
 |y::l,j+1,x,e=>by
  have:=qX (by simpa using e);rw[aK];lia
mutual
theorem KD:∀(x:PV),PV.de x=true->ez x x=true
 |.az,_=>by rw[ez]
 |.bl b,_=>by rw[ez];simp
 |.int i,_=>by rw[ez];simp
 |.str i,_=>by rw[ez];simp
 |.tup l,h=>by rw[ez];exact i6 l (by rw[PV.de]at h;exact h)
 |.cl l,h=>by rw[ez];exact i6 l (by rw[PV.de]at h;exact h)
 |.ref _,h=>by rw[PV.de]at h;cases h
 |.ty _,h=>by rw[PV.de]at h;cases h
 |.dv _ _,h=>by rw[PV.de]at h;cases h
 |.ob _ _,h=>by rw[PV.de]at h;cases h
 |.hand,h=>by rw[PV.de]at h;cases h
theorem i6:∀(l:O PV),cB l=true->cJ l l=true
 |[],_=>by rw[cJ]
 |x::l,h=>by
  rw[cB,AH]at h;rw[cJ,KD x h.1,i6 l h.2];rfl
end
def KR(l m:O PV)(j:Nat):Bool:=match l[j]?,m[j]? with|some x,bn y=>ez x y|_,_=>true
theorem kH:∀(l m:O PV),((Ax (min l.length m.length)).all (KR l m)&&l.length==m.length)=cJ l m
 |[],[]=>by rw[cJ];rfl
 |[],_::_=>by
  rw[cJ]
  .simp
  .intros;simp_all
  .intros;simp_all
 |_::_,[]=>by
  rw[cJ]
  .simp
  .intros;simp_all
  .intros;simp_all
 |x::l,y::m=>by
  rw[cJ,<- kH l m];have e:min (x::l).length (y::m).length=min l.length m.length+1:=by simp only[Ay];lia
  rw[e,Ds,Et,Fz];have e2:((x::l).length==(y::m).length)=(l.length==m.length):=by simp
  rw[e2,Bool.and_assoc];rfl
def KC{m:O PV}(h:l.length≠m.length):cJ l m=false:=by
 rw[<- kH];have:(l.length==m.length)=false:=by simpa using h
 rw[this,CB]
section
def vA(I:Inv X U σ H s)(h:Ly X.K H a xs):H a≠bn (.ext φ):=λe=>by
 rcases h with⟨o,h⟩|⟨o,_,_,h,_⟩
 .rw[e]at h;cases h
 .have:=(I.bs a o (I.mod.YL a o h)).2;rw[e]at this;cases this
mutual
theorem VR.Ic(I:Inv X U σ H s):∀{v:V}{x y:PV},VR X.K [] H v x->VR X.K [] H v y->x=y
 |_,_,_,.az,h=>by cases h;rfl
 |_,_,_,.bl b,h=>by cases h;rfl
 |_,_,_,.int b,h=>by cases h;rfl
 |_,_,_,.str b,h=>by cases h;rfl
 |_,_,_,.ty b,h=>by cases h;rfl
 |_,_,_,.ref e,h=>by simp at e
 |_,_,_,.tup e r,h=>by
  cases h with
  |tup e' r'=>
   have ee:=I.iO (cG.of e) (cG.of e');subst ee;rw[aA.Ic I r r']
  |ref e=>simp at e
  |cl e' r'=>
   obtain⟨aj,_,⟨o,n,h1,h2,_⟩,_⟩:=I.list e'.sq;obtain⟨dc,_,⟨o',gk,pM,_⟩,_⟩:=I.tuple (cG.of e);rw[h1]at gk;cases gk;rw[h2]at pM;simp at pM
  |dk e' _ _=>rw[e]at e';cases e'
  |dt e' _ _=>rw[e]at e';cases e'
  |ob e' _ _ _ _=>rw[e]at e';cases e'
  |hand e'=>have e':_=_:=e';rw[e]at e';cases e'
 |_,_,_,.ob e c na k r,h=>by
  cases h with
  |ob e' _ _ k' r'=>rw[e]at e';cases e';rw[k,k',aA.Ic I r r']
  |hand e'=>have e':_=_:=e';rw[e]at e';cases e'
  |dk e' _ _=>rw[e]at e';cases e'
  |dt e' _ _=>rw[e]at e';cases e'
  |ref e=>simp at e
  |tup e' _=>rw[e]at e';cases e'
  |cl e' r'=>
   obtain⟨aj,_,⟨o,n,h1,h2,_⟩,_⟩:=I.list e'.sq;obtain⟨_,_,_,_,gk,_⟩:=I.bC _ _ e;rw[h1]at gk;cases gk;simp at h2
 |_,_,_,.dk e k r,h=>by
  cases h with
  |dk e' k' r'=>rw[e]at e';cases e';rw[k,k',aA.Ic I r r']
  |dt e' _ _=>rw[e]at e';cases e'
  |ob e' _ _ _ _=>rw[e]at e';cases e'
  |hand e'=>have e':_=_:=e';rw[e]at e';cases e'
  |ref e=>simp at e
  |tup e' _=>rw[e]at e';cases e'
  |cl e' r'=>
   obtain⟨aj,_,⟨o,n,h1,h2,_⟩,_⟩:=I.list e'.sq;obtain⟨_,_,vs,_,o',_,_,gk,pM,_⟩:=vK I.bC (.inr ⟨_,e⟩);rw[h1]at gk;cases gk;have h3:=pM.1;rw[h2]at h3;simp at h3
 |_,_,_,.dt e k r,h=>by
  cases h with
  |dt e' k' r'=>rw[e]at e';cases e';rw[k,k',aA.Ic I r r']
  |ob e' _ _ _ _=>rw[e]at e';cases e'
  |hand e'=>have e':_=_:=e';rw[e]at e';cases e'
  |dk e' _ _=>rw[e]at e';cases e'
  |ref e=>simp at e
  |tup e' _=>rw[e]at e';cases e'
  |cl e' r'=>
   obtain⟨aj,_,⟨o,n,h1,h2,_⟩,_⟩:=I.list e'.sq;obtain⟨_,_,vs,_,o',_,_,gk,pM,_⟩:=zX I.bC (.inr ⟨_,e⟩);rw[h1]at gk;cases gk;have h3:=pM.1;rw[h2]at h3;simp at h3
 |_,_,_,.hand e,h=>by
  have e:_=bn _:=e;cases h with
  |hand _=>rfl
  |ob e' _ _ _ _=>rw[e]at e';cases e'
  |dk e' _ _=>rw[e]at e';cases e'
  |dt e' _ _=>rw[e]at e';cases e'
  |ref e=>simp at e
  |tup e' _=>rw[e]at e';cases e'
  |cl e' r'=>exact absurd e (vA I e')
 |_,_,_,.cl e r,h=>by
  cases h with
  |hand e'=>exact absurd (show _=bn _ from e') (vA I e)
  |ob e' _ _ _ _=>
   obtain⟨aj,_,⟨o,n,h1,h2,_⟩,_⟩:=I.list e.sq;obtain⟨_,_,_,_,gk,_⟩:=I.bC _ _ e';rw[h1]at gk;cases gk;simp at h2
  |dk e' _ _=>
   obtain⟨aj,_,⟨o,n,h1,h2,_⟩,_⟩:=I.list e.sq;obtain⟨_,_,vs,_,o',_,_,gk,pM,_⟩:=vK I.bC (.inr ⟨_,e'⟩);rw[h1]at gk;cases gk;have h3:=pM.1;rw[h2]at h3;simp at h3
  |dt e' _ _=>
   obtain⟨aj,_,⟨o,n,h1,h2,_⟩,_⟩:=I.list e.sq;obtain⟨_,_,vs,_,o',_,_,gk,pM,_⟩:=zX I.bC (.inr ⟨_,e'⟩);rw[h1]at gk;cases gk;have h3:=pM.1;rw[h2]at h3;simp at h3
  |cl e' r'=>
   obtain⟨aj,k,⟨o,n,h1,h2,h3,h4⟩,_⟩:=I.list e.sq;obtain⟨dc,k',⟨o',n',gk,pM,SQ,SO⟩,_⟩:=I.list e'.sq;rw[h1]at gk;cases gk;rw[h4]at SO;have:aj=dc:=by injection SO with a b;simpa using a
   subst this;have ee:=Vals.inj k k';subst ee;rw[aA.Ic I r r']
  |ref e=>simp at e
  |tup e' r'=>
   obtain⟨aj,_,⟨o,n,h1,h2,_⟩,_⟩:=I.list e.sq;obtain⟨dc,_,⟨o',gk,pM,_⟩,_⟩:=I.tuple (cG.of e');rw[h1]at gk;cases gk;rw[h2]at pM;simp at pM
theorem aA.Ic(I:Inv X U σ H s):∀{v:O V}{x y:O PV},aA X.K [] H v x->aA X.K [] H v y->x=y
 |_,_,_,.nil,h=>by cases h;rfl
 |_,_,_,.cons r t,h=>by
  cases h with
  |cons r' t'=>rw[VR.Ic I r r',aA.Ic I t t']
end
structure Cmp(A:sB)(s:em)(w w':db)(b:Bool):Prop where
 rc:SeqAt.RcAt A s w w' b
 ne:SeqAt.RcNeAt A s w w' (!b)
 eq:CD A s w w' b
def Xv(I:Inv X U σ H s){ws:O V}{m:O PV}(r:Vals vs aj)(r':Vals ws dc)(r1:aA X.K [] H vs l)(r2:aA X.K [] H ws m)(ih:∀(j:Nat) (x y:PV) (v v':V) (w w':db),l[j]?=bn x->m[j]?=bn y->VR X.K [] H v x->VR X.K [] H v' y->RelV v w->RelV v' w'->CD A s w w' (ez x y)):∀j (g1:j<aj.toArray.size) (g2:j<dc.toArray.size),CD A s aj.toArray[j] dc.toArray[j] (KR l m j):=λj g1 g2=>by
 have h1:j<aj.length:=by simpa using g1
 have h2:j<dc.length:=by simpa using g2
 have hl:j<l.length:=by rw[<- r1.length,r.length];exact h1
 have hm:j<m.length:=by rw[<- r2.length,r'.length];exact h2
 obtain⟨v,v1,v2⟩:=r1.get (Ai hl);obtain⟨v',L7,Z8⟩:=r2.get (Ai hm);obtain⟨u,u1,u2⟩:=r.get v1;obtain⟨u',u1',u2'⟩:=r'.get L7;rw[Ai h1]at u1;rw[Ai h2]at u1';cases u1;cases u1';unfold KR;rw[Ai hl,Ai hm];have:=ih j _ _ v v' _ _ (Ai hl) (Ai hm) v2 Z8 u2 u2';simpa using this
inductive Sh(X:Cx)(H:Hp)(s:em):PV->db->Prop
 |az:Sh X H s .az .none
 |bl (b:Bool):Sh X H s (.bl b) (.bool b)
 |int (i:Int) (t:Tok):Sh X H s (.int i) (.int i t)
 |str (x:Str) (t:Tok):Sh X H s (.str x) (.str x t)
 |tup {p:f8}{vs:List V}{aj:List db}{l:List PV} (e:VR X.K [] H (.ref p) (.tup l)) (k:Vals vs aj) (r:aA X.K [] H vs l) (h:s.heap.IsTuple p aj.toArray):Sh X H s (.tup l) (.ref p)
 |cl {p:f8}{vs:List V}{aj:List db}{l:List PV} (e:VR X.K [] H (.ref p) (.cl l)) (k:Vals vs aj) (r:aA X.K [] H vs l) (h:s.heap.IsList p aj.toArray):Sh X H s (.cl l) (.ref p)
def Sh.of(I:Inv X U σ H s){v:V}{w:db}(h:VR X.K [] H v x)(r:RelV v w)(d:PV.de x=true):Sh X H s x w:=by
 cases h with
 |ref e=>simp at e
 |az=>cases r;exact .az
 |bl a=>cases r;exact .bl a
 |int a=>obtain⟨t,rfl⟩:=r;exact .int a t
 |str a=>obtain⟨t,rfl⟩:=r;exact .str a t
 |tup e q=>
  cases r;obtain⟨aj,k,ht,_⟩:=I.tuple (cG.of e);exact .tup (.tup e q) k q ht
 |cl e q=>
  cases r;obtain⟨aj,k,pl,_⟩:=I.list e.sq;exact .cl (.cl e q) k q pl.isList
 |_=>rw[PV.de]at d;cases d
set_option maxHeartbeats 8000000 in
theorem La(hK:X.K=K)(I:Inv X U σ H s):∀(n:Nat) (x y:PV) (A:sB) (v v':V) (w w':db),PV.bb x<=n->PV.de x=true->PV.de y=true->VR K [] H v x->VR K [] H v' y->RelV v w->RelV v' w'->A.units+n+1<nn->Cmp A s w w' (ez x y):=by
 subst hK;intro n
 induction n using Nat.strongRecOn with
 |ind n ih=>
 intro x y A v v' w w' hd dx dy hv Pr r1 r2 hu;have a:=Sh.of I hv r1 dx;have b:=Sh.of I Pr r2 dy;clear hv Pr r1 r2;have el:∀{l m:O PV}{vs ws:O V}{aj cI:O db},cB l=true->cB m=true->aK l<n->Vals vs aj->Vals ws cI->aA X.K [] H vs l->aA X.K [] H ws m->aj.toArray.size=l.length/\cI.toArray.size=m.length/\∀j g1 (g2:j<cI.toArray.size),CD A.in1 s aj.toArray[j] cI.toArray[j] (KR l m j):=λd1 d2 hd k1 k2 r r'=>⟨by rw[Ah,<- k1.length,r.length],by rw[Ah,<- k2.length,r'.length],Xv I k1 k2 r r' λj x y v v' w w' hx hy vx vy rx ry=>(ih _ hd x y A.in1 v v' w w' (qX hx) (oP d1 hx) (oP d2 hy) vx vy rx ry (by show A.units+1+_+1<_;lia)).eq⟩;have fin:∀{pa pb:f8}{l m:O PV},(pa=pb->l=m)->cB l=true->SeqAt.RcAt A s (.ref pa) (.ref pb) (cJ l m)->CD A s (.ref pa) (.ref pb) (cJ l m):=λ{pa pb l m} h d q=>by
  by_cases xJ:pa=pb
  .rw[h xJ,i6 _ (h xJ▸d),xJ];exact CD.same _
  .exact Ft xJ q
 cases a<;>cases b
 case tup.tup pa vs aj l e k r ht pb ws cI m e2 k2 r2 G5=>
  rw[PV.bb]at hd;obtain⟨z1,z2,ie⟩:=el dx dy ∅ k k2 r r2;have q1:=Fw ht G5 ∅ ie;have q2:=Ff ht G5 (A:=A) ∅ ie;rw[z1,z2,kH]at q1 q2;exact⟨q1,q2,fin (λz=>by subst z;have:=VR.Ic I e e2;injection this) dx q1⟩
 case cl.cl pa vs aj l e k r ht pb ws cI m e2 k2 r2 G5=>
  rw[PV.bb]at hd;obtain⟨z1,z2,ie⟩:=el dx dy ∅ k k2 r r2;by_cases hz:l.length=m.length
  .have q1:=SeqAt.RcAt.lists ht G5 (by rw[z1,z2];exact hz) (A:=A) ∅ ie;have q2:=Fq ht G5 (by rw[z1,z2];exact hz) (A:=A) ∅ ie;have ef:(Ax l.length).all (KR l m)=cJ l m:=by rw[<- kH,hz,Nat.min_self,beq_self_eq_true,Eu]
   rw[z1,ef]at q1 q2;exact⟨q1,q2,fin (λz=>by subst z;have:=VR.Ic I e e2;injection this) dx q1⟩
  .have q1:=SeqAt.RcAt.lists_lengths (A:=A) ht G5 (by rw[z1,z2];simpa using hz) ∅;have q2:=D3 (A:=A) ht G5 (by rw[z1,z2];simpa using hz) ∅;have ef:=KC hz;rw[<- ef]at q1;have q2:SeqAt.RcNeAt A s (.ref pa) (.ref pb) (!cJ l m):=by rw[ef];exact q2
   exact⟨q1,q2,fin (λz=>by subst z;have:=VR.Ic I e e2;injection this) dx q1⟩
 all_goals
  clear ih el fin;rw[ez]<;>try (intros;simp_all;done)
  refine⟨?_,?_,?_⟩<;>(try simp)<;>first|with_reducible exact .none_none|with_reducible exact .none_bool _|with_reducible exact .none_int _ _|with_reducible exact .none_str _ _|with_reducible exact .none_tuple ‹_› ∅ | with_reducible exact .none_list ‹_› ∅ | with_reducible exact .bool_none _|with_reducible exact .bool_str _ _ _|with_reducible exact .bool_tuple _ ‹_› ∅ | with_reducible exact .bool_list _ ‹_› ∅ | with_reducible exact .int_none _ _|with_reducible exact .int_str _ _ _ _|with_reducible exact .int_tuple _ _ ‹_› ∅ | with_reducible exact .int_list _ _ ‹_› ∅ | with_reducible exact .str_none _ _|with_reducible exact .str_bool _ _ _|with_reducible exact .str_int _ _ _ _|with_reducible exact .str_tuple _ _ ‹_› ∅ | with_reducible exact .str_list _ _ ‹_› ∅ | with_reducible exact .tuple_none ‹_› ∅ | with_reducible exact .tuple_bool _ ‹_› ∅ | with_reducible exact .tuple_int _ _ ‹_› ∅ | with_reducible exact .tuple_str _ _ ‹_› ∅ | with_reducible exact .tuple_list ‹_› ‹_› ∅ | with_reducible exact .list_none ‹_› ∅ | with_reducible exact .list_bool _ ‹_› ∅ | with_reducible exact .list_int _ _ ‹_› ∅ | with_reducible exact .list_str _ _ ‹_› ∅ | with_reducible exact .list_tuple ‹_› ‹_› ∅ | exact .same _|exact .bool_bool _ _|exact .bool_int _ _ _|exact .int_bool _ _ _|exact .int_int _ _ _ _|exact .str_str _ _ _ _
end
end
section
variable[cu]
variable{K:Ab}
mutual
theorem VR.g0{ι:O f8}{H:Hp}:∀{v:V}{q:PV},VR K ι H v q->PV.de q=true->VR K [] H v q
 |_,_,.az,_=>.az
 |_,_,.bl b,_=>.bl b
 |_,_,.int i,_=>.int i
 |_,_,.str x,_=>.str x
 |_,_,.ty n,h=>by rw[PV.de]at h;cases h
 |_,_,.dk _ _ _,h=>by rw[PV.de]at h;cases h
 |_,_,.dt _ _ _,h=>by rw[PV.de]at h;cases h
 |_,_,.ob _ _ _ _ _,h=>by rw[PV.de]at h;cases h
 |_,_,.hand _,h=>by rw[PV.de]at h;cases h
 |_,_,.tup e r,h=>.tup e (aA.g0 r (by rw[PV.de]at h;exact h))
 |_,_,.cl e r,h=>.cl e (aA.g0 r (by rw[PV.de]at h;exact h))
 |_,_,.ref e,h=>by rw[PV.de]at h;cases h
theorem aA.g0{ι:O f8}{H:Hp}:∀{v:O V}{q:O PV},aA K ι H v q->cB q=true->aA K [] H v q
 |_,_,.nil,_=>.nil
 |_,_,.cons r s,h=>by
  rw[cB,AH]at h;exact .cons (VR.g0 r h.1) (aA.g0 s h.2)
end
def Hm(x y:PV):Prop:=PV.de x=true/\PV.de y=true/\PV.bb x<=150
def gF:M2:=⟨λx y h Q=>Hm x y/\Q (.bl (ez x y)) h,λf q=>⟨q.1,f _ _ q.2⟩⟩
def Gy:M2:=⟨λx y h Q=>Hm x y/\Q (.bl (!ez x y)) h,λf q=>⟨q.1,f _ _ q.2⟩⟩
def MB(K:Ab)(Î:Bool):R2:=λu v H Q=>∃x y,VR K [] H u x/\VR K [] H v y/\Hm x y/\Q (.bl (if Î then !ez x y else ez x y)) H
section
theorem Rv(hK:X.K=K)(hu:X.A.units+200<nn):gp X (re .Eq) (MB K false):=λU s σ H u v w w' Q I r1 r2 ⟨x,y,h1,h2,⟨o1,o2,o3⟩,q⟩=>by
 exact EqBoolInt.of_rc (La hK I 150 x y X.A u v w w' o3 o1 o2 h1 h2 r1 r2 ∅).rc ⟨.bl _,H,I,rfl,q⟩
theorem Rt(hK:X.K=K)(hu:X.A.units+200<nn):gp X (re .NotEq) (MB K true):=λU s σ H u v w w' Q I r1 r2 ⟨x,y,h1,h2,⟨o1,o2,o3⟩,q⟩=>by
 exact CV (La hK I 150 x y X.A u v w w' o3 o1 o2 h1 h2 r1 r2 ∅).ne ⟨.bl _,H,I,rfl,q⟩
def Nd:M2.Ok K (MB K false) gF:=λ{ι H h u v x y Q} hr hu hv q=>⟨x,y,VR.g0 hu q.1.1,VR.g0 hv q.1.2.1,q.1,q.2 ι _ H (Go.refl _ _) hr (.bl _)⟩
def Nb:M2.Ok K (MB K true) Gy:=λ{ι H h u v x y Q} hr hu hv q=>⟨x,y,VR.g0 hu q.1.1,VR.g0 hv q.1.2.1,q.1,q.2 ι _ H (Go.refl _ _) hr (.bl _)⟩
def iy(hK:X.K=K)(hu:X.A.units+200<nn):JC X K .Eq b gF:=⟨⟨_,Rv hK hu,Nd⟩,fg _⟩
def Wy(hK:X.K=K)(hu:X.A.units+200<nn):JC X K .NotEq b Gy:=⟨⟨_,Rt hK hu,Nb⟩,fg _⟩
end
end
end FL
variable{xs ys:Array AV}{b b1:Bool}{t a1 a2:Bi}
namespace L2
def ka(b:Bool)(h:im)(it a:f8)(k:Nat):Prop:=match b with
 |true=>h.IsListIter it a k
 |false=>h.IsTupleIter it a k
def gZ(b:Bool)(h:im)(a:f8)(xs:Array db):Prop:=match b with
 |true=>h.IsList a xs
 |false=>h.IsTuple a xs
def ka.move(x:ka b h it a k)(g:∀o,h.get? it=bn o->h'.get? it=bn o):ka b h' it a k:=by
 cases b with
 |true=>obtain⟨o,e,p⟩:=(x);exact(⟨o,g o e,p⟩)
 |false=>obtain⟨o,e,p⟩:=(x);exact(⟨o,g o e,p⟩)
def gZ.move(x:gZ b h a xs)(g:∀o,h.get? a=bn o->h'.get? a=bn o):gZ b h' a xs:=by
 cases b with
 |true=>obtain⟨o,e,p⟩:=(x);exact(⟨o,g o e,p⟩)
 |false=>obtain⟨o,e,p⟩:=(x);exact(⟨o,g o e,p⟩)
def ka.obj(x:ka b h it a k):∃o,h.get? it=bn o/\∀v,o.data≠.cell v:=by
 cases b with
 |true=>obtain⟨o,e,_,d⟩:=(x);exact⟨o,e,λv z=>by rw[d]at z;cases z⟩
 |false=>obtain⟨o,e,_,d⟩:=(x);exact⟨o,e,λv z=>by rw[d]at z;cases z⟩
def gZ.lt(x:gZ b h a xs):a<h.objs.size:=by
 cases b with
 |true=>obtain⟨o,e,p⟩:=(x);exact Ak e
 |false=>obtain⟨o,e,p⟩:=(x);exact Ak e
section
def fv{x:db}(h:ka b s.heap it t i)(ht:gZ b s.heap t items)(hx:items[i]?=bn x)(q:∀h':im,ka b h' it t (i+1)->A9 it s.heap h'->Q x {s with heap:=h'}):ga (ge prog w) A (Builtin.SmallTypes.nextOf (.ref it)) Q E s:=by
 cases b with
 |true=>exact wpAny_nextOf_list_item h ht hx λh' a b=>q h' a b
 |false=>exact fu h ht hx q
def nY(hA:A.handled=cr)(h:ka b s.heap it t i)(ht:gZ b s.heap t items)(hx:items[i]?=cr)(q:∀(h':im) (e:f8),E6 it s.heap h'->(∃o,h'.get? e=bn o/\o.cls=.type "StopIteration")->E (.ref e) {s with heap:=h'}):ga (ge prog w) A (Builtin.SmallTypes.nextOf (.ref it)) Q E s:=by
 cases b with
 |true=>exact wpAny_nextOf_list_end hA h ht hx λh' e a b=>q h' e a b
 |false=>exact f9 hA h ht hx q
def GW:Bool->String
 |true=>"list_iterator"
 |false=>"tuple_iterator"
def qB(h:gZ b s.heap a xs)(q:Q (.ref s.heap.objs.size) {s with heap:=s.heap.push {cls:=.type (GW b),data:=.fields #[.ref a,.int 0 0]}}):ga (ge prog w) A (pyIter (.ref a)) Q E s:=by
 cases b with
 |true=>exact CW h q
 |false=>exact Dg h q
def yR(e:h.get? it=bn {cls:=.type (GW b),data:=.fields #[.ref a,.int 0 0]}):ka b h it a 0:=by
 cases b with
 |true=>exact(⟨_,e,rfl,rfl⟩)
 |false=>exact(⟨_,e,rfl,rfl⟩)
end
structure yy(b1 b2:Bool)(h:im)(z TI TO i1 i2 a1 a2:f8)(f0:db)(k1 k2:Nat):Prop where
 zip:IsZip h z TI TO f0
 ti:Da h TI (.ref i1) (.ref i2)
 to:∃a b,Da h TO a b
 LJ:ka b1 h i1 a1 k1
 LI:ka b2 h i2 a2 k2
def n6(b1 b2:Bool)(a1 a2:f8)(xs ys:Array db):Meets (o0.«zip.__new__» {pos:=[.type "zip",.ref a1,.ref a2]}) (λ_ R s=>gZ b1 s.heap a1 xs/\gZ b2 s.heap a2 ys/\
  ∀h':im,yy b1 b2 h' (s.heap.objs.size+4) (s.heap.objs.size+2) (s.heap.objs.size+3) s.heap.objs.size (s.heap.objs.size+1) a1 a2 .none 0 0->(∀b o,s.heap.get? b=bn o->h'.get? b=bn o)->R (.ok (.ret (.ref (s.heap.objs.size+4)))) {s with heap:=h'}):=
 .of_wp λprog w A R s h=>by
  obtain⟨h1,h2,q⟩:=h;refine Aa ?_;refine Aa (BW rfl ?_);refine Aa (BW sub_zip ?_);refine Ae ?_;refine Aa ?_;refine Aa ?_;rw[Bx];refine Aa ?_;refine Aa (AZ (qB h1 (Ae ?_)));have k1:∀b o,s.heap.get? b=bn o->(s.heap.push {cls:=.type (GW b1),data:=.fields #[.ref a1,.int 0 0]}).get? b=bn o:=λb o e=>Af _ e;have g1:(s.heap.push {cls:=.type (GW b1),data:=.fields #[.ref a1,.int 0 0]}).get? s.heap.objs.size=bn {cls:=.type (GW b1),data:=.fields #[.ref a1,.int 0 0]}:=Al _ rfl;have z1:(s.heap.push {cls:=.type (GW b1),data:=.fields #[.ref a1,.int 0 0]}).objs.size=s.heap.objs.size+1:=A1 ..;generalize s.heap.push {cls:=.type (GW b1),data:=.fields #[.ref a1,.int 0 0]}=tj at k1 g1 z1 ⊢;show ga _ _ (forIn [Value.ref a2] _ _) _ _ _;rw[Bx];refine Aa ?_;refine Aa (AZ (qB (h2.move λo e=>k1 _ _ e) (Ae ?_)));show ga _ _ (forIn [] _ _) _ _ _;refine Ae (Ae ?_);have k2:∀b o,tj.get? b=bn o->(tj.push {cls:=.type (GW b2),data:=.fields #[.ref a2,.int 0 0]}).get? b=bn o:=λb o e=>Af _ e;have g2:(tj.push {cls:=.type (GW b2),data:=.fields #[.ref a2,.int 0 0]}).get? tj.objs.size=bn {cls:=.type (GW b2),data:=.fields #[.ref a2,.int 0 0]}:=Al _ rfl;have z2:(tj.push {cls:=.type (GW b2),data:=.fields #[.ref a2,.int 0 0]}).objs.size=tj.objs.size+1:=A1 ..;show ga _ _ (newTuple [.ref s.heap.objs.size,.ref tj.objs.size] >>= λr=>_) _ _ {s with heap:=tj.push {cls:=.type (GW b2),data:=.fields #[.ref a2,.int 0 0]}};generalize tj.push {cls:=.type (GW b2),data:=.fields #[.ref a2,.int 0 0]}=H0 at k2 g2 z2 ⊢;refine Aa (B8 ?_ (by show 2<=sizeLine;decide));have k3:∀b o,H0.get? b=bn o->(H0.push {cls:=.type "tuple",data:=.seq [Value.ref s.heap.objs.size,Value.ref tj.objs.size].toArray}).get? b=bn o:=λb o e=>Af _ e;have g3:(H0.push {cls:=.type "tuple",data:=.seq [Value.ref s.heap.objs.size,Value.ref tj.objs.size].toArray}).get? H0.objs.size=bn {cls:=.type "tuple",data:=.seq #[.ref s.heap.objs.size,.ref tj.objs.size]}:=Al _ rfl;have z3:(H0.push {cls:=.type "tuple",data:=.seq [Value.ref s.heap.objs.size,Value.ref tj.objs.size].toArray}).objs.size=H0.objs.size+1:=A1 ..;generalize H0.push {cls:=.type "tuple",data:=.seq [Value.ref s.heap.objs.size,Value.ref tj.objs.size].toArray}=td at k3 g3 z3 ⊢;refine Aa (B8 ?_ (by show 2<=sizeLine;decide));have k4:∀b o,td.get? b=bn o->(td.push {cls:=.type "tuple",data:=.seq [Value.none,Value.none].toArray}).get? b=bn o:=λb o e=>Af _ e;have g4:(td.push {cls:=.type "tuple",data:=.seq [Value.none,Value.none].toArray}).get? td.objs.size=bn {cls:=.type "tuple",data:=.seq #[.none,.none]}:=Al _ rfl;have z4:(td.push {cls:=.type "tuple",data:=.seq [Value.none,Value.none].toArray}).objs.size=td.objs.size+1:=A1 ..;show ga _ _ (newObj (.type "zip") (.fields #[.none,.bool false,.bool false,.ref H0.objs.size,.ref td.objs.size]) >>= λr=>_) _ _ {s with heap:=td.push {cls:=.type "tuple",data:=.seq [Value.none,Value.none].toArray}};generalize td.push {cls:=.type "tuple",data:=.seq [Value.none,Value.none].toArray}=T7 at k4 g4 z4 ⊢;refine Aa (AR ?_ (by simp[sizeOk];decide));have k5:∀b o,T7.get? b=bn o->(T7.push {cls:=.type "zip",data:=.fields #[.none,.bool false,.bool false,.ref H0.objs.size,.ref td.objs.size]}).get? b=bn o:=λb o e=>Af _ e;have g5:(T7.push {cls:=.type "zip",data:=.fields #[.none,.bool false,.bool false,.ref H0.objs.size,.ref td.objs.size]}).get? T7.objs.size=bn {cls:=.type "zip",data:=.fields #[.none,.bool false,.bool false,.ref H0.objs.size,.ref td.objs.size]}:=Al _ rfl;have e1:=z1;have e2:H0.objs.size=s.heap.objs.size+2:=by rw[z2,e1]
  have e3:td.objs.size=s.heap.objs.size+3:=by rw[z3,e2]
  have e4:T7.objs.size=s.heap.objs.size+4:=by rw[z4,e3]
  refine Ae ⟨.ref T7.objs.size,rfl,?_⟩;rw[e2,e3]at g5 k5 ⊢;rw[e4]at g5 ⊢;rw[e3]at g4;rw[e1,e2]at g3;rw[e1]at g2;refine q _ ⟨g5,k5 _ _ (k4 _ _ g3),⟨_,_,k5 _ _ g4⟩,yR (k5 _ _ (k4 _ _ (k3 _ _ (k2 _ _ g1)))),yR (k5 _ _ (k4 _ _ (k3 _ _ g2)))⟩ λb o e=>k5 _ _ (k4 _ _ (k3 _ _ (k2 _ _ (k1 _ _ e))))
def HB{b2:Bool}(h1:gZ b1 s.heap a1 xs)(h2:gZ b2 s.heap a2 ys)(q:∀h':im,yy b1 b2 h' (s.heap.objs.size+4) (s.heap.objs.size+2) (s.heap.objs.size+3) s.heap.objs.size (s.heap.objs.size+1) a1 a2 .none 0 0->(∀b o,s.heap.get? b=bn o->h'.get? b=bn o)->Q (.ref (s.heap.objs.size+4)) {s with heap:=h'}):ga (ge prog w) A (call (.type "zip") [.ref a1,.ref a2]) Q E s:=
 callType_new F.called_zip ⋯ (F.typeCall_zip_2 _ _) (F.newCall_zip_2 _ _) (λo=>F.args_object_init_3 o _ _) F.entry_zip_new (n6 b1 b2 a1 a2 xs ys) ⟨h1,h2,λh' z k=>⟨⟨_,z.zip,rfl⟩,q h' z k⟩⟩
def Lu(b:Bool)(K:Ab)(H:Hp)(a:f8)(xs:O V):Prop:=match b with
 |true=>bO K H a xs
 |false=>cG K H a xs
def Inv.Vm{xs:O V}(I:Inv X U σ H s)(h:Lu b X.K H a xs):∃aj:O db,Vals xs aj/\gZ b s.heap a aj.toArray/\xs.length<=sizeLine:=by
 cases b with
 |true=>obtain⟨aj,r,p,z⟩:=I.list (h);exact⟨aj,r,p.isList,z⟩
 |false=>obtain⟨aj,r,p,z⟩:=I.tuple (h);exact⟨aj,r,p,z⟩
def Inv.yQ{xs ys:O V}(I:Inv X U σ H s)(h:Lu b X.K H a xs)(h':Lu b X.K H a ys):xs=ys:=by
 cases b with
 |true=>
  obtain⟨aj,k,⟨o,n,h1,h2,h3,h4⟩,_⟩:=I.list (h);obtain⟨dc,k',⟨o',n',gk,pM,SQ,SO⟩,_⟩:=I.list (h');rw[h1]at gk;cases gk;rw[h4]at SO;have:aj=dc:=by injection SO with a b;simpa using a
  subst this;exact Vals.inj k k'
 |false=>exact I.iO h h'
def Vz(K:Ab):V->Option Int->Option Int->Hp->VK->Prop:=λx lo hi H Q=>∃a xs,x=.ref a/\cG K H a xs/\
 ((HT.cS xs.length 0 lo=0/\HT.cS xs.length xs.length hi=xs.length)->Q x H)/\(¬(HT.cS xs.length 0 lo=0/\HT.cS xs.length xs.length hi=xs.length)->jk H (.tup (vQ xs lo hi)) Q)
def Ml(K:Ab)(hK:X.K=K):OD X (Vz K):=by
 subst hK;intro U s σ H x v vl vu lo hi sl Q I rx hs pl pu h;obtain⟨a,xs,rfl,hT,qw,qn⟩:=h;by_cases c:HT.cS xs.length 0 lo=0/\HT.cS xs.length xs.length hi=xs.length
 .cases rx;obtain⟨aj,r,ht,hz⟩:=I.tuple hT;have À:aj.toArray.size=xs.length:=by rw[Ah];exact r.length.symm
  refine⟨"tuple",_,Bg.lookup,ht.typeIs,?_⟩;obtain⟨os,So,Y0,W2⟩:=id hs;unfold getItem
  try with_reducible refine AZ ?_
  first|refine Aa (Ae ?_)|skip
  refine Aa (wpAny_sequenceKey ht.typeIs ⋯ ?_);refine Aa (AM ht.typeIs Bg
   (AU Bg ht.typeIs entry_tuple_getitem ?_ (args_tuple_getitem _ _)))
  show ga _ _ (Builtin.Tuple.tupleItemsOf (.ref a) >>= _) _ _ s;refine Aa (tupleItemsOf_ ht ?_);refine Aa (CF (⟨os,So,Y0⟩) ?_);refine Aa (HT.fY hs pl pu ?_);show ga _ _ (if (((HT.cS aj.toArray.size 0 lo):Int)==0&&1==1&&(HT.cS aj.toArray.size aj.toArray.size hi-HT.cS aj.toArray.size 0 lo)==aj.toArray.size)=true then _ else _) _ _ s;rw[if_pos (by rw[À,c.1,c.2];simp)];refine Aa ?_
  first
   |refine Aa (CF ht.typeIs (Ae ?_))
   |refine CF ht.typeIs (Ae ?_)
  first
   |rw[if_pos ⋯]
   |rw[if_pos rfl]
  exact Aa (Df (Ae ⟨_,rfl,Ae ⟨.ref a,H,I,rfl,(qw c)⟩⟩))
 .exact QJ U s σ H _ v vl vu lo hi sl Q I rx hs pl pu ⟨a,xs,rfl,hT,c,λp hp=>(qn c).at p hp⟩
def VJ(K:Ab):R2:=λx y H Q=>∃a b xs ys,x=.ref a/\y=.ref b/\cG K H a xs/\cG K H b ys/\xs.length+ys.length<=sizeLine/\
 (xs=[]->Q (.ref b) H)/\(xs≠[]->ys=[]->Q (.ref a) H)/\(xs≠[]->ys≠[]->jk H (.tup (xs++ys)) Q)
def M4(K:Ab)(hK:X.K=K):gp X (ut .Add) (VJ K):=by
 subst hK;intro U s σ H x y v u Q I rx ry h;obtain⟨a,b,xs,ys,rfl,rfl,ha,hb,hz,q0,q1,q2⟩:=h;by_cases c:xs=[]
 .cases rx;cases ry;obtain⟨aj,r1,p1,_⟩:=I.tuple ha;obtain⟨cI,r2,p2,_⟩:=I.tuple hb;obtain⟨⟨cls,dd,data,sl⟩,ho,hc,n,hd⟩:=id p1;obtain⟨⟨Td,Oj,data2,LD⟩,G9,PB,n2,Ø⟩:=id p2;subst hc hd PB Ø;exact concat_meets ⟨_,ho,rfl⟩ ⟨_,G9,rfl⟩ noFill_tuple_add seq_tuple_add Dm Dk (C8 _ _)
   (tuple_addW0 a b aj.toArray cI.toArray n n2 dd Oj sl LD (by rw[r1.gG.mpr c];rfl)) ⟨ho,G9,.ref b,H,I,rfl,q0 c⟩
 .exact zf U s σ H _ _ v u Q I rx ry ⟨a,b,xs,ys,rfl,rfl,ha,hb,c,hz,q1 c,λn p hp=>(q2 c n).at p hp⟩
end L2
variable{b:B6}
namespace FL
section
variable[cu]
variable{K:Ab}
section
variable{a c:lc}{w:W PV}
def addW:PV->PV->W PV
 |.int i,.int j=>.ret (.int (i+j))
 |.str a,.str b=>.gm (a.length+b.length<=sizeLine) (.ret (.str (a++b)))
 |.tup a,.tup b=>.gm (a.length+b.length<=sizeLine) (.ret (.tup (a++b)))
 |_,_=>.fail
def cF(hK:X.K=K)(ha:EF X K fs a wa f1)(hb:EF X K f1 b wb f2):EF X K fs (.BinOp a .Add b pos) (.bind wa λx=>.bind wb λy=>addW x y) f2:=
 ⟨PE.imp (cH ((iT K hK).or (M4 K hK)) ha.p hb.p) λσ H Q ⟨sr,q⟩=>⟨sr,wa.mono (λx q1 u1 H1 g1 s1 v1=>⟨s1,wb.mono (λy q2 u2 H2 g2 s2 v2=>by
  have L7:=g2.vr s1 v1;cases L7 with
  |int i=>
   cases v2 with
   |int j=>exact .inl ⟨_,rfl,q2 _ H2 (g1.trans g2) s2 (.int _)⟩
   |_=>exact q2.elim
  |str i=>
   cases v2 with
   |str j=>exact .inl ⟨_,rfl,q2.1,q2.2 _ H2 (g1.trans g2) s2 (.str _)⟩
   |_=>exact q2.elim
  | @tup p vs l e r=>
   cases v2 with
   | @tup p' vs' l' e' r'=>
    refine .inr ⟨p,p',vs,vs',rfl,rfl,cG.of e,cG.of e',by rw[r.length,r'.length];exact q2.1,λz=>?_,λ_ z=>?_,λ_ _ q H3 s3 h3 n3=>?_⟩
    .have z':=(PL.aA.gG r).mp z;subst z';exact q2.2 _ H2 (g1.trans g2) s2 (.tup e' r')
    .have z':=(PL.aA.gG r').mp z;subst z';have q2:=q2.2;rw[CK]at q2;exact q2 _ H2 (g1.trans g2) s2 (.tup e r)
    .exact q2.2 _ H3 ((g1.trans g2).trans (cg.same s3)) (s2.same s3) (.tup h3 (aA.tk s3.eF (r.append r')))
   |_=>exact q2.elim
  |_=>exact q2.elim) q1⟩) q⟩⟩
theorem rC:∀(l m:O PV),(jJ l m).length=min l.length m.length
 |[],m=>by rw[jJ];simp;intros;simp_all
 |x::l,[]=>by rw[jJ];simp;intros;simp_all
 |x::l,y::m=>by rw[jJ,Ay,rC l m];simp only[Ay];lia
def O2(h:Tq K H u l):∃(b:Bool) (a:f8) (vs:O V),u=.ref a/\aA K [] H vs l/\∀H',a8 K H H'->Lu b K H' a vs:=by
 obtain⟨a,vs,e,h|h,r⟩:=h
 .exact⟨true,a,vs,e,r,λH' t=>(t.f _ _ h).sq⟩
 .exact⟨false,a,vs,e,r,λH' t=>cG.of (t.t _ _ h)⟩
variable{el eh:Option lc}{lo:W (Option Int)}
def mJ(x:PV)(i j:Option Int):W PV:=match x with
 |.tup l=>.ret (.tup (bz l i j))
 |_=>.fail
def Hx{i j:Option Int}(h:HT.cS l.length 0 i=0/\HT.cS l.length l.length j=l.length):bz l i j=l:=by
 unfold bz;rw[h.1,h.2];simp
def kL{f3:aH}(hK:X.K=K)(he:EF X K fs e w f1)(hl:OF X K f1 el lo f2)(hh:OF X K f2 eh hi f3):EF X K fs (.Subscript e (.Slice el eh cr p2) pos) (.bind w λx=>.bind lo λi=>.bind hi λj=>mJ x i j) f3:=⟨PE.imp (uI (Ml K hK) he.p hl.p hh.p) λσ H Q ⟨sr,q⟩=>⟨sr,w.mono (λx q1 u1 H1 g1 s1 v1=>⟨s1,lo.mono (λi q2 H2 g2 s2=>⟨s2,hi.mono (λj q3 H3 g3 s3=>by
 have L7:=g3.vr s2 (g2.vr s1 v1);have gg:=(g1.trans g2).trans g3;cases L7 with
 | @tup p vs l e r=>
  refine⟨p,vs,rfl,cG.of e,λc=>?_,λc q H4 s4 h4 n4=>?_⟩
  .rw[r.length]at c;have q3:(ci (PV.tup (bz l i j))).run _:=q3;rw[Hx c]at q3;exact q3 _ H3 gg s3 (.tup e r)
  .exact q3 _ H4 (gg.trans (cg.same s4)) (s3.same s4) (.tup h4 (aA.tk s4.eF (r.cut i j)))
 |_=>exact q3.elim) q2⟩) q1⟩) q⟩⟩
end
end
section
variable[cu]
variable{K:Ab}
section
open Classical in
noncomputable def xV(K:Ab)(H:Hp)(x:PV)(w:db):Bool:=decide (∃p v,RelV v w/\VR K [] H v p/\ez p x=true)
open Classical in
def KS(hK:X.K=K)(I:Inv X U σ H s){x p:PV}{v:V}{w:db}(r:RelV v w)(h:VR K [] H v p):xV K H x w=ez p x:=by
 subst hK;cases e:ez p x with
 |true=>exact decide_eq_true ⟨p,v,r,h,e⟩
 |false=>
  refine decide_eq_false ?_;rintro⟨p',v',r',h',e'⟩;have:=IV r r';subst this;rw[VR.Ic I h h',e']at e;cases e
theorem ny(hK:X.K=K)(I:Inv X U σ H s):∀{vs:O V}{aj:O db}{l:O PV},Vals vs aj->aA K [] H vs l->aj.map (xV K H x)=l.map λy=>ez y x
 |_,_,_,.nil,.nil=>rfl
 |_,_,_,.cons r t,.cons q z=>by rw[Bq,Bq,KS hK I r q,ny hK I t z]
def xC(x:PV)(l:O PV):Prop:=PV.de x=true/\cB l=true/\aK l<=150
theorem lW(hK:X.K=K)(I:Inv X U σ H s){v:V}{w:db}(hx:VR K [] H v x)(rx:RelV v w)(dx:PV.de x=true)(hu:A.units+150+1<nn):∀{vs:O V}{aj:O db}{l:O PV},Vals vs aj->aA K [] H vs l->cB l=true->aK l<=150->∀u∈aj,CD A s u w (xV K H x u)
 |_,_,_,.nil,.nil,_,_,u,hu=>by cases hu
 |_,_,_,.cons r t,.cons q z,d,dd,u,hm=>by
  rw[cB,AH]at d;rw[aK]at dd;rcases Aw.mp hm with rfl|hm
  .rw[KS hK I r q];exact(La hK I 150 _ x A _ v _ w ∅ d.1 dx q hx r rx hu).eq
  .exact lW hK I hx rx dx hu t z d.2 ∅ u hm
end
def jP(x:PV)(l:O PV):Bool:=l.any λy=>ez y x
def Mx(K:Ab)(Î:Bool):R2:=λx y H Q=>∃p vs l xp,y=.ref p/\(bO K H p vs\/cG K H p vs)/\aA K [] H vs l/\VR K [] H x xp/\xC xp l/\Q (.bl (if Î then !jP xp l else jP xp l)) H
section
theorem any_map'(f:α->Bool):∀l:List α,l.any f=(l.map f).any id
 |[]=>rfl
 |x::l=>by rw[CP,Bq,CP,any_map' f l];rfl
theorem Jr(K:Ab)(hK:X.K=K)(hu:X.A.units+200<nn):gp X (re .In) (Mx K false):=by
 intro U s σ H x y v u Q I rx ry h;obtain⟨p,vs,l,xp,rfl,hq,hl,hx,ok,q⟩:=h;cases ry;have G4:X.A.in1.units+150+1<nn:=by show X.A.units+1+150+1<_;lia
 have fin:∀{aj:O db},Vals vs aj->aj.toArray.any (xV K H xp)=jP xp l:=λ{aj} r=>by
  rw[show aj.toArray.any (xV K H xp)=aj.any (xV K H xp) by simp,any_map',ny hK I r hl,<- any_map'];rfl
 rcases hq with hq|hq
 .obtain⟨aj,r,pl,hz⟩:=I.list (show bO X.K H p vs by rw[hK];exact hq);refine SeqAt.in_listAt (xV K H xp) pl.isList (λw hw=>lW hK I hx rx ok.1 G4 r hl ok.2.1 ok.2.2 w (by simpa using hw)) ⟨.bl _,H,I,rfl,?_⟩;rw[fin r];exact q
 .obtain⟨aj,r,pl,hz⟩:=I.tuple (show cG X.K H p vs by rw[hK];exact hq);refine SeqAt.in_tupleAt (xV K H xp) pl (λw hw=>lW hK I hx rx ok.1 G4 r hl ok.2.1 ok.2.2 w (by simpa using hw)) ⟨.bl _,H,I,rfl,?_⟩;rw[fin r];exact q
theorem M3(K:Ab)(hK:X.K=K)(hu:X.A.units+200<nn):gp X (re .NotIn) (Mx K true):=by
 intro U s σ H x y v u Q I rx ry h;obtain⟨p,vs,l,xp,rfl,hq,hl,hx,ok,q⟩:=h;cases ry;have G4:X.A.in1.units+150+1<nn:=by show X.A.units+1+150+1<_;lia
 have fin:∀{aj:O db},Vals vs aj->aj.toArray.any (xV K H xp)=jP xp l:=λ{aj} r=>by
  rw[show aj.toArray.any (xV K H xp)=aj.any (xV K H xp) by simp,any_map',ny hK I r hl,<- any_map'];rfl
 rcases hq with hq|hq
 .obtain⟨aj,r,pl,hz⟩:=I.list (show bO X.K H p vs by rw[hK];exact hq);refine SeqAt.notIn_listAt (xV K H xp) pl.isList (λw hw=>lW hK I hx rx ok.1 G4 r hl ok.2.1 ok.2.2 w (by simpa using hw)) ⟨.bl _,H,I,rfl,?_⟩;rw[fin r];exact q
 .obtain⟨aj,r,pl,hz⟩:=I.tuple (show cG X.K H p vs by rw[hK];exact hq);refine SeqAt.notIn_tupleAt (xV K H xp) pl (λw hw=>lW hK I hx rx ok.1 G4 r hl ok.2.1 ok.2.2 w (by simpa using hw)) ⟨.bl _,H,I,rfl,?_⟩;rw[fin r];exact q
def kE(x:PV)(l:O PV):Nat:=l.findIdx λy=>ez y x
def VH(K:Ab):V->O V->Hp->VK->Prop:=λx us H Q=>∃p vs l y q,x=.ref p/\us=[y]/\bO K H p vs/\aA K [] H vs l/\VR K [] H y q/\xC q l/\jP q l=true/\Q (.int (kE q l)) H
theorem Ni(K:Ab)(hK:X.K=K)(hu:X.A.units+200 < nn):FY X "list.index" (VH K):=by
 intro U s σ H x vs v us Q I rx rv h;obtain⟨p,ws,l,y,q,rfl,rfl,hq,hl,hy,ok,has,qq⟩:=h;cases rx;obtain⟨u,rfl,ru⟩:=rv.one;have G4:X.A.in1.units+150+1<nn:=by show X.A.units+1+150+1<_;lia
 obtain⟨aj,r,⟨⟨cls,dd,data,sl⟩,n,ho,hc,hd,Hb⟩,hz⟩:=I.list (show bO X.K H p ws by rw[hK];exact hq);simp only at hc hd Hb;subst hc hd Hb;have À:aj.length=l.length:=by rw[<- r.length,hl.length]
 have gr:kE q l<l.length:=List.findIdx_lt_length_of_exists (by simpa[jP]using has);have at':∀j h1 (h2:j<l.length),xV K H q aj[j]=ez l[j] q:=λj h1 h2=>by
  have e:=congrArg (λz=>z[j]?) (ny (x:=q) hK I r hl);simp only[Ap,Ai h1,Ai h2,Ci]at e;exact Option.some.inj e
 have hsm:((kE q l):Int)<2 ^ 63-1:=by
  have h8:l.length<=sizeLine:=by rw[<- hl.length];exact hz
  have h9:sizeLine<2 ^ 63-1:=by decide
  lia
 refine ss F.slot_list_index ⟨_,ho,rfl⟩ F.entry_list_index (F.args_list_index_2 _ _) (SeqAt.list_indexAt p aj.toArray n cr sl u (xV K H q) (kE q l) (by rw[Ah];lia) hsm ?_ ?_) ⟨ho,?_,?_⟩
 .have h1:kE q l<aj.length:=by lia
  rw[show aj.toArray[kE q l]'(by rw[Ah];lia)=aj[kE q l] by simp,at' _ h1 gr];exact Fd (w:=gr)
 .intro m hm hmj;have h1:m<aj.length:=by rw[Ah]at hm;exact hm
  rw[show aj.toArray[m]=aj[m] by simp,at' _ h1 ∅];have:=List.not_of_lt_findIdx hmj;simpa using this
 .intro w hw;exact lW hK I hy ru ok.1 G4 r hl ok.2.1 ok.2.2 w (by simpa using hw)
 .exact⟨.int _,H,I.tok _,⟨_,rfl⟩,qq⟩
end
end
end FL
variable{Î:Bool}
namespace FL
section
variable[cu]
variable{K:Ab}
section
variable{a:lc}{w:W PV}
def gj(Î:Bool)(x:PV)(l:O PV):W Bool:=.gm (xC x l) (.ret (if Î then !jP x l else jP x l))
def Us(b:Bool):W PV:=.ret (.bl b)
def SY:∀σ H Q,fE K fs (.bind wa λx=>.bind wl λl=>.bind (gj Î x l) Us) fs σ H Q->OV (Mx K Î) (fE K fs wa) (fQ K fs wl) σ H Q:=λσ H Q ⟨sr,q⟩=>
 ⟨sr,wa.mono (λx q1 u1 H1 g1 s1 v1=>⟨s1,wl.mono (λl q2 u2 H2 g2 s2 v2=>by
  obtain⟨ad,vs,rfl,h,rs⟩:=v2.sq s2;exact⟨ad,vs,l,x,rfl,h,rs,g2.vr s1 v1,q2.1,q2.2 _ H2 (g1.trans g2) s2 (.bl _)⟩) q1⟩) q⟩
def KG:∀σ H Q,fT K fs (.bind wa λx=>.bind wl λl=>gj Î x l) fs σ H Q->OV (Mx K Î) (fE K fs wa) (fQ K fs wl) σ H λx H'=>∃k,x=.bl k/\Q k H':=λσ H Q ⟨sr,q⟩=>
 ⟨sr,wa.mono (λx q1 u1 H1 g1 s1 v1=>⟨s1,wl.mono (λl q2 u2 H2 g2 s2 v2=>by
  obtain⟨ad,vs,rfl,h,rs⟩:=v2.sq s2;exact⟨ad,vs,l,x,rfl,h,rs,g2.vr s1 v1,q2.1,_,rfl,q2.2 H2 (g1.trans g2) s2⟩) q1⟩) q⟩
def XB(hK:X.K=K)(hu:X.A.units+200<nn)(ha:EF X K fs a wa)(hb:QF X K fs b wl)(hk:‹wE .In b=false›):EF X K fs (.Compare a [.In] [b] pos) (.bind wa λx=>.bind wl λl=>.bind (gj false x l) Us):=⟨PE.imp (zb (Jr K hK hu) ha.p hb.p hk) (SY)⟩
def U5(hK:X.K=K)(hu:X.A.units+200<nn)(ha:EF X K fs a wa)(hb:QF X K fs b wl)(hk:‹wE .In b=false›):TF X K fs (.Compare a [.In] [b] pos) (.bind wa λx=>.bind wl λl=>gj false x l):=⟨PT.imp (iP (Jr K hK hu) ha.p hb.p hk) (KG)⟩
def wG(hK:X.K=K)(hu:X.A.units+200<nn)(ha:EF X K fs a wa)(hb:QF X K fs b wl)(hk:‹wE .NotIn b=false›):TF X K fs (.Compare a [.NotIn] [b] pos) (.bind wa λx=>.bind wl λl=>gj true x l):=⟨PT.imp (iP (M3 K hK hu) ha.p hb.p hk) (KG)⟩
abbrev abj(Î:Bool)(wa:W PV)(wl:W (O PV)):W PV:=.bind wa λx=>.bind wl λl=>.bind (gj Î x l) Us
abbrev G3(Î:Bool)(wa:W PV)(wl:W (O PV)):W Bool:=.bind wa λx=>.bind wl λl=>gj Î x l
def NS(l:O PV)(x:PV):W PV:=.gm (xC x l/\jP x l=true) (.ret (.int (kE x l)))
def zV(hK:X.K=K)(hu:X.A.units+200 < nn)(ho:Lv X K fs o wl)(he:EF X K fs e w)(d7:‹sK o "index" X.env (r6 o X.env)=r6 o X.env›)(tu:‹Ya X bW [e]›)(d6:‹OP Â bW›)(wc:‹hV X e []›)(gP:‹kb X bW []›):EF X K fs (.Call (.Attribute o "index" Â) [e] [] bW) (.bind wl λl=>.bind w λx=>NS l x):=
 ⟨PE.imp (sg K hK BX PySem.F.slot_list_index PySem.F.type_list_index (Ni K hK hu) ho.p (bo he.p cf wc) d7 tu d6 wc gP) λσ H Q ⟨sr,q⟩=>⟨sr,wl.mono (λl q1 u1 H1 g1 s1 _ v1=>by
  obtain⟨a,vs,eu,h1,_⟩:=v1 _ H1 .refl s1;subst eu;refine⟨.inl ⟨rfl,_,h1⟩,s1,w.mono (λx q2 u2 H2 g2 s2 v2=>?_) q1⟩
  .obtain⟨a',vs,ea,h2,r2⟩:=v1 _ H2 g2 s2;cases ea;exact⟨a,vs,l,u2,x,rfl,rfl,h2,r2,v2,q2.1.1,q2.1.2,q2.2 _ H2 (g1.trans g2) s2 (.int _)⟩) q⟩⟩
end
end
section
variable[cu]
variable{K:Ab}
abbrev w2(f:PV->PV->W PV)(wa wb:W PV):W PV:=.bind wa λx=>.bind wb λy=>f x y
def JR:PV->W Key
 |.int i=>.ret (.inl i)
 |.str s=>.ret (.inr s)
 |_=>.fail
def acE(K:Ab)(H:Hp)(vs:O (Key×V))(aD:O (Key×PV)):Prop:=vs.map (·.1)=aD.map (·.1)/\aA K [] H (vs.map (·.2)) (aD.map (·.2))
section
def Ww{Q:Key->Prop}(r:VR K [] H u v)(q:(JR v).run Q):∃k,u=kV k/\Q k:=by
 cases r with
 |int i=>exact⟨.inl i,rfl,q⟩
 |str s=>exact⟨.inr s,rfl,q⟩
 |_=>exact q.elim
end
end
section
variable[cu]
variable{K:Ab}
def Yd(K:Ab)(H:Hp)(vs:O (O Key×V))(aD:O (O Key×PV)):Prop:=vs.map (·.1)=aD.map (·.1)/\aA K [] H (vs.map (·.2)) (aD.map (·.2))
def OL(K:Ab)(H:Hp)(ob:HO)(v:PV):Prop:=(∃vs aD,ob=.dK vs/\v=P1 aD/\acE K H vs aD)\/∃vs aD,ob=.dT vs/\v=dvT aD/\Yd K H vs aD
def fDv(K:Ab)(fs:aH)(w:W PV):TE:=λσ H Q=>aO K H σ fs/\w.run λv=>∀a ob H',cg σ fs H H'->aO K H' σ fs->H a=cr->H' a=bn ob->OL K H' ob v->Q (.ref a) H'
structure DVF(X:Cx)(K:Ab)(fs:aH)(e:lc)(w:W PV):Prop where p:PE X e (fDv K fs w)
section
variable{σ:L2.St}{fs:aH}{H:Hp}{a:f8}{ob:HO}{v:PV}
def aO.O3(s:aO K H σ fs)(n:¬bP σ fs a)(e:H a=bn ob)(n1:∀vs,ob≠.tup vs)(n2:∀o u,ob≠.dj o u)(n3:ob.ow=true)(o':HO):aO K (upd H a o') σ fs:=⟨s.len,λi t q=>by
 obtain⟨u,h1,h2⟩:=s.at' i t q;exact⟨u,h1,h2.mono (d3 o' e n1 n2) (λx b o eb ow hb z _=>by subst eb;rw[aw (λy:b=a=>n ⟨i,t,x,q,ow,h1,y▸hb⟩)];exact z)⟩,s.nd,s.tb.yV (λb o n z=>by rw[aw n];exact z) e (Jp n3) n2⟩
def OL.dj{X:Cx}{U:O (f8×Obj)}{s:em}{σ':L2.St}(I:Inv X U σ' H s)(e:H a=bn ob)(d:OL K H ob v):∃u,Inv X U σ' (upd H a u) s/\VR K [] (upd H a u) (.ref a) v/\(∀vs,ob≠.tup vs)/\(∀o u,ob≠.dj o u)/\ob.ow=true:=by
 rcases d with⟨vs,aD,rfl,rfl,d1,d2⟩|⟨vs,aD,rfl,rfl,d1,d2⟩
 .obtain⟨o,I2⟩:=I.zO e;exact⟨_,I2,.dk aM (Pl d1) (aA.tk (d3 _ e (by simp) (by simp)) d2),by simp,by simp,rfl⟩
 .obtain⟨o,I2⟩:=I.freeze e;exact⟨_,I2,.dt aM (Pk d1) (aA.tk (d3 _ e (by simp) (by simp)) d2),by simp,by simp,rfl⟩
end
section
variable{a:lc}{w:W PV}
def XD(h:DVF X K fs e w):EF X K fs e w:=⟨λU s σ H Q I ⟨sr,q⟩=>by
 refine bS (h.p U s σ H (λu H1=>∃a ob v,u=.ref a/\cg σ fs H H1/\aO K H1 σ fs/\H a=cr/\H1 a=bn ob/\OL K H1 ob v/\∀u H',cg σ fs H H'->aO K H' σ fs->VR K [] H' u v->Q u H') I ⟨sr,w.mono (λv q1 a ob H1 g1 s1 n e d=>⟨a,ob,v,rfl,g1,s1,n,e,d,q1⟩) q⟩) λu s1 ⟨v,H1,I1,r1,a,ob,v',e,g1,Vp,n,ea,d,q1⟩=>?_;subst e;obtain⟨o',I2,vr,n1,n2,n3⟩:=d.dj I1 ea;exact⟨.ref a,_,I2,r1,q1 _ _ (g1.side n (λφ z=>by rw[ea]at z;cases z;cases n3) _) (Vp.O3 (λz=>sr.noOwn n z) ea n1 n2 n3 _) vr⟩⟩
def XJ:DVF X K fs (.Dict [] [] pos) (.ret (P1 [])):=⟨PE.imp Jn λσ H Q ⟨sr,q⟩ p hp=>by
 have sm:=fZ hp (.dK []);exact q p _ _ (cg.same sm) (sr.same sm) hp aM (.inl ⟨[],[],rfl,rfl,rfl,.nil⟩)⟩
def XI(hk:EF X K fs a wa)(hv:EF X K fs b wb):DVF X K fs (.Dict [bn a] [b] pos) (.bind wa λx=>.bind wb λy=>.bind (JR x) λk=>.ret (P1 [(k,y)])):=⟨PE.imp (MV (Jk hk.p hv.p MD) rfl rfl (by simp) (show(1:Nat)<=15 by decide)) λσ H Q ⟨sr,q⟩ p hp=>by
 have sm:=fZ hp (.dK []);refine⟨sr.same sm,wa.mono (λx q1 u1 H1 g1 s1 v1=>⟨s1,wb.mono (λy q2 u2 H2 g2 s2 v2=>?_) q1⟩) q⟩;have np:∀ψ m,¬gn σ fs ψ m p:=λψ m z=>sr.noOwn hp z.ff;have e2:H2 p=bn (.dK []):=g2.keep p _ (g1.keep p _ aM np) np;have L7:=g2.vr s1 v1;obtain⟨k,rfl,q3⟩:=Ww L7 q2;refine⟨e2,[(k,u2)],rfl,by show(1:Nat)<=15;decide,?_⟩;have n1:∀vs,HO.dK []≠.tup vs:=by simp
 have n2:∀o u,HO.dK []≠.dj o u:=by simp
 exact q3 p _ _ (((cg.same sm).trans (g1.trans g2)).side hp (λφ=>by rw[e2];simp) _) (s2.O3 (λz=>sr.noOwn hp z) e2 n1 n2 rfl _) hp aM (.inl ⟨_,_,rfl,rfl,rfl,.cons (VR.tk (d3 _ e2 n1 n2) v2) .nil⟩)⟩
end
end
end FL
variable{κ:PyProof.Rows.SortKind}{vs:O AV}{p:Array Nat}
namespace L2
def dA(N:Nat)(P:α->Prop):DS α->Prop
 |.ret a=>P a
 |.ask i j k=>i<N/\j<N/\∀b,dA N P (k b)
theorem dA.mono{N:Nat}{P P':α->Prop}(h:∀a,P a->P' a):∀{t:DS α},dA N P t->dA N P' t
 |.ret a,q=>h a q
 |.ask i j k,q=>⟨q.1,q.2.1,λb=>dA.mono h (q.2.2 b)⟩
theorem dA.bind{N:Nat}{P:α->Prop}{P':β->Prop}{f:α->DS β}(hf:∀a,P a->dA N P' (f a)):∀{t:DS α},dA N P t->dA N P' (t.bind f)
 |.ret a,q=>hf a q
 |.ask i j k,q=>⟨q.1,q.2.1,λb=>dA.bind hf (q.2.2 b)⟩
theorem dA.wp{N:Nat}{P:α->Prop}{cmp:Nat->Nat->(Bool->em->Prop)->em->Prop}{Q:α->em->Prop}(hc:∀i j C,i<N->j<N->(∀b,C b s)->cmp i j C s)(hq:∀a,P a->Q a s):∀{t:DS α},dA N P t->t.kasWp cmp Q s
 |.ret a,q=>hq a q
 |.ask i j k,q=>hc i j _ q.1 q.2.1 λb=>dA.wp hc hq (q.2.2 b)
def cm(N:Nat)(p:Array Nat):Prop:=p.toList.Perm (Ax N)
def cm.lt{N:Nat}(h:cm N p)(h0:0<N)(k:Nat):p.getD k 0<N:=by
 by_cases c:k<p.size
 .have:p.getD k 0=p[k]:=by simp[c]
  rw[this];exact Bl.mp (h.mem_iff.mp (by simp))
 .have:p.getD k 0=0:=by simp[c]
  rw[this];exact h0
def cm.rev{N:Nat}(h:cm N p)(i j:Nat):cm N (PySem.W.kas_rev p i j):=(Eg.mp (mirror_perm p i j _)).trans h
def cm.bub{N:Nat}(h:cm N p)(i j:Nat):cm N (bubble p i j):=(Eg.mp (bubble_perm p i j)).trans h
section
variable{N:Nat}(h0:0<N)
include h0
theorem J0(h:cm N p):∀f n,dA N (λ_=>True) (PySem.W.kas_asc p f n)
 |0,n=>trivial
 |f+1,n=>⟨h.lt h0 _,h.lt h0 _,λb=>by
  cases b with
  |true=>exact trivial
  |false=>exact J0 h f (n+1)⟩
theorem sV:∀f (p:Array Nat) n q,cm N p->dA N (λr=>cm N r.1) (PySem.W.kas_desc f p n q)
 |0,p,n,q,h=>h
 |f+1,p,n,q,h=>⟨h.lt h0 _,h.lt h0 _,λb=>by
  cases b with
  |true=>
   split
   .exact sV f _ _ _ (h.rev _ _)
   .exact sV f _ _ _ h
  |false=>exact⟨h.lt h0 _,h.lt h0 _,λb=>by
    cases b with
    |true=>exact h
    |false=>exact sV f _ _ _ h⟩⟩
def JT{m:Nat}(h:cm N p):dA N (λr=>cm N r.2) (PySem.W.kas_tail3 n m p):=by
 exact dA.bind (P':=λr:Nat×Array Nat=>cm N r.2) (f:=λk=>.ret (k,PySem.W.kas_rev p 0 n)) (λk _=>(h.rev _ _)) (J0 h0 (h.rev _ _) _ _)
def JV{m:Nat}(h:cm N p):dA N (λr=>cm N r.2) (PySem.W.kas_descPart n m p):=dA.bind (λr hr=>by
 split
 .exact JT h0 (hr.rev _ _)
 .exact JT h0 hr) (sV h0 _ _ _ _ h)
def NG{m:Nat}(h:cm N p):dA N (λr=>cm N r.2) (PySem.W.kas_count m p):=dA.bind (λn _=>by
 split
 .exact h
 .split
  .exact⟨h.lt h0 _,h.lt h0 _,λb=>by
    cases b with
    |true=>exact h
    |false=>exact JV h0 (h.rev _ _)⟩
  .exact JV h0 h) (J0 h0 h _ _)
theorem sT(h:cm N p)(k:Nat):∀f l r,dA N (λ_=>True) (PySem.W.kas_place p k f l r)
 |0,l,r=>trivial
 |f+1,l,r=>by
  show dA N _ (if l≥r then _ else _)
  split
  .exact trivial
  .exact⟨h.lt h0 _,h.lt h0 _,λb=>by
    cases b with
    |true=>exact sT h k f _ _
    |false=>exact sT h k f _ _⟩
theorem Pm:∀f (p:Array Nat) k,cm N p->dA N (cm N) (PySem.W.kas_bin f p k)
 |0,p,k,h=>h
 |f+1,p,k,h=>dA.bind (λl _=>Pm f _ _ (h.bub _ _)) (sT h0 h k _ _ _)
def Sb:dA N (cm N) (FG N):=dA.bind (λr hr=>by
 split
 .exact Pm h0 _ _ _ hr
 .exact hr) (NG h0 (List.Perm.refl _))
end
section
theorem xn{P:FH->em->Prop}(ho:s.heap.get? a=bn (wP "list" vs.toArray n))(NX:vs.length < 64)(ò:2<=vs.length->∀h',(∀b o,b≠a->s.heap.get? b=bn o->h'.get? b=bn o)->ga (ge prog w) A (keyKind' vs.toArray) (λk s'=>k=κ/\s'={s with heap:=h'}) (λ_ _=>False) {s with heap:=h'})(gr:∀h',(∀b o,b≠a->s.heap.get? b=bn o->h'.get? b=bn o)->∀i j,i < vs.length->j < vs.length->∀C:Bool->em->Prop,(∀b,C b {s with heap:=h'})->ga (ge prog w) A (keyLt' κ (vs.getD i Value.none) (vs.getD j Value.none)) C (λ_ _=>False) {s with heap:=h'})(h:∀out:O db,out.Perm vs->P (.done (.ret .none)) {s with heap:=sortedHeap s.heap a vs out.toArray}):ga (ge prog w) A (o0.«list.sort» ⟨[.ref a],[]⟩) P E s:=by
 rw[list_sort_plain];have ha:=Ak ho;refine Aa (listItems_at ho rfl ?_);refine Aa (listUpdate_at ho rfl ?_);obtain⟨e1,ho1⟩:∃e1,(s.heap.update a (BC λ_=>#[])).get? a=bn (wP "list" #[] e1):=⟨_,get?_update_seq ho (λ_=>#[])⟩;refine Aa (seqEpoch_at ho1 rfl ?_);refine Aa (B8 ?_);refine Aa (wpAny_newList ?_);refine AZ ?_;have YT:(((s.heap.update a (BC λ_=>#[])).push (wP "tuple" vs.toArray 0)).push (wP "list" #[] 0)).get? a=bn (wP "list" #[] e1):=by
  rw[Heap.get?_push_ne _ _ _ (by rw[size_push',Heap.size_update];exact Ar (Be ha)),Heap.get?_push_ne _ _ _ (by rw[Heap.size_update];exact Ar ha)];exact ho1
 have kp:∀b o,b≠a->s.heap.get? b=bn o->(((s.heap.update a (BC λ_=>#[])).push (wP "tuple" vs.toArray 0)).push (wP "list" #[] 0)).get? b=bn o:=λb o n e=>Af _ (Af _ (by rw[Heap.get?_update_ne _ _ _ _ n];exact e));dsimp only;have pf:vs.toArray.size=vs.length:=by simp
 by_cases h2:vs.toArray.size<2
 .rw[if_pos h2,if_pos h2];refine Aa (Ae ?_);refine Aa (Ae ?_);dsimp only;refine Aa (seqEpoch_at YT rfl ?_);refine Aa (listUpdate_at YT rfl ?_ (hsz2:=by rw[Fe];show(pairsOf vs).size<=_;rw[pairsOf_size,r9];lia));simp only[bne_self_eq_false,if_false];refine Ae ?_;have e:(arrOf (SortSt.mk' general' (vs.toArray.zip vs.toArray) #[] 7 cr)).map (·.2)=vs.toArray:=by
   apply Array.toList_inj.mp;simp[List.map_snd_zip]
  rw[e];exact h vs (List.Perm.refl _)
 .rw[if_neg h2,if_neg h2];have pM:2<=vs.length:=by lia
  refine Aa (B9 (ò pM _ kp) (λk s0 hk=>?_) λ_ _ x=>x.elim);obtain⟨rfl,rfl⟩:=hk;have hw:(FG vs.length).kasWp (PySem.W.kas_ask prog w A k vs) (λp s'=>cm vs.length p/\s'={s with heap:=((s.heap.update a (BC λ_=>#[])).push (wP "tuple" vs.toArray 0)).push (wP "list" #[] 0)}) {s with heap:=((s.heap.update a (BC λ_=>#[])).push (wP "tuple" vs.toArray 0)).push (wP "list" #[] 0)}:=
   dA.wp (λi j C hi hj hC=>gr _ kp i j hi hj C hC) (λp hp=>⟨hp,rfl⟩) (Sb (show 0<vs.length by lia))
  refine Aa (B9 (PySem.W.kat_run (Q:=λF8 s'=>∃p:Array Nat,cm vs.length p/\arrOf F8=p.map (PySem.W.kas_item (vs.toArray.zip vs.toArray))/\failedOf F8=cr/\s'={s with heap:=((s.heap.update a (BC λ_=>#[])).push (wP "tuple" vs.toArray 0)).push (wP "list" #[] 0)})
   rfl pM NX (λp' F8 s' a1 a2 a3 a4=>⟨p',a4.1,a2,a3,a4.2⟩) hw) ?_ λ_ _ e=>e)
  rintro⟨⟨⟩,F8⟩ s' ⟨p,hp,har,hf,rfl⟩;have Pu:(p.toList.map λi=>vs.getD i Value.none).Perm vs:=by
   have e:(Ax vs.length).map (λi=>vs.getD i Value.none)=vs:=by
    apply Eo;intro i;by_cases c:i<vs.length
    .rw[Ap,Fh c,Ai c];show bn (vs.getD i Value.none)=_;rw[Ef,Ai c];rfl
    .rw[AW (by simp;lia),AW ∅]
   have:=hp.map (λi=>vs.getD i Value.none);rw[e]at this;exact this
  rw[(PySem.W.kat_snds rfl har)];refine Aa (seqEpoch_at YT rfl ?_);refine Aa (listUpdate_at YT rfl ?_ (hsz2:=by rw[Ah,Pu.length_eq,r9];lia));rw[hf];simp only[bne_self_eq_false,An,if_false];exact Ae (h _ Pu)
end
end L2
namespace FL
section
variable[cu]
def drawn(m:Int):W PV:=.any λv=>∃d:Int,v=.int d/\0<=d/\d<m
end
end FL
namespace My
def jM(cC:PV):W (O PV):=
 []\λcR=>
 ca (cC\λx3=>ci [x3]) λdD=>
 ca (lj (λs4=>(s4.2\λl5=>ci (!l5.isEmpty))) (λs4=>(
 ca (rZ s4.2) λt7=>
 t7.2\λx9=>ca (k6 s4.1 x9) λdG=>
 jN (F5 (ca (ca (ci t7.2) (fJ .str)) fk)) (
 ca (ca (ci t7.2) aF) λTX=>ca (oT t7.1 TX) λe7=>
 ci (dG,e7)) (
 ci (dG,t7.1)))) (cR,dD)) λs4=>
 (s4.1\λNy=>ci Ny.reverse)
def eS(cC:PV):W PV:=
 []\λgA=>
 []\λsJ=>
 ca (cC\λx3=>jM x3) λl30=>ca (dw l30 (gA,sJ) λsh s4=>(
 ca (ca (ca (ci sh) (fJ .str)) fk) λb=>ca (if b=true then (
 sh\λQm=>ca (k6 s4.1 Qm) λyK=>
 ci (yK,s4.2)) else (
 ca (rZ s4.2) λt20=>
 ca (rZ t20.1) λt22=>
 ca (t22.2\λU0=>t20.2\λL0=>ci (.tup [U0,L0])) λQj=>ca (k6 s4.1 Qj) λyJ=>
 ci (yJ,t22.1))) λQL=>
 ca (b2 RB (ca (ci QL.1) Nr) (ci (.int 1))) λUZ=>ca (k6 QL.2 UZ) λvc=>
 ci (QL.1,vc))) λs4=>
 (ca (ci s4.1) nH)
def gb(JB:PV):W PV:=
 (jN (ca (ca (ci JB) (fJ .str)) fk) (ci (.tup [])) (ci JB))
def gM(cC:PV):W PV:=
 ca (cC\λx2=>eS x2) λgA=>
 ca (ca (ca (ci gA) aF) λl4=>bU l4 λp5=>(ci .az)) λfy=>
 ca (ca (ca (ci gA) aF) λl6=>.gm (l6.length<=sizeLine) (.ret (fj 0 l6))) λl19=>ca (dw l19 fy λp8 s7=>ca (pq p8) λt9=>(
 ca (ca (t9.2\λrF=>gb rF) aF) λl17=>ca (dw l17 s7 λzL QN=>(
 t9.1\λF0=>zL\λrE=>ca (Gf QN rE F0) λvW=>
 ci vW)) λQN=>
 ci QN)) λs7=>
 (ca (ci s7) nH)
def gK(aL:PV):W PV:=
 (Ox (ca (ci aL) (fJ .int)) (ca (ca (ci aL) (fJ .bool)) RE))
def d4(aL:PV)(Pf:PV):W PV:=
 (Ox (ca (ci aL) (fJ .tup)) (b2 gF (c1 jq (ci aL)) (ci Pf)))
def gL(b9:PV):W PV:=
 (fm (ca (fm (ca (ci b9) aF) (ci (.int 0))) aF) (ci (.int 0)))
def gc(b9:PV):W PV:=
 (fm (ca (fm (ca (ci b9) aF) (ci (.int 0))) aF) (ca (ci (.int 1)) GB))
def ku(b9:PV):W PV:=
 (ca (ca (ca (b9\λx3=>ca (ca (ci (.int 2)) part) λi1=>cr\λj2=>mJ x3 i1 j2) aF) λl4=>bU l4 λp5=>(p5\λx6=>gL x6)) nH)
def dM(b9:PV):W (O PV):=
 []\λcR=>
 ca (b9\λx3=>ci [x3]) λdD=>
 ca (lj (λs4=>(s4.2\λl5=>ci (!l5.isEmpty))) (λs4=>(
 ca (rZ s4.2) λt7=>
 t7.2\λx9=>ca (k6 s4.1 x9) λdG=>
 ca (ca (t7.2\λF1=>ca (ca (ci (.int 2)) part) λi11=>cr\λj12=>mJ F1 i11 j12) aF) λHZ=>ca (oT t7.1 HZ) λe7=>
 ci (dG,e7))) (cR,dD)) λs4=>
 (s4.1\λl15=>ci l15.reverse)
end My
variable{t:PySem.SetTable}
namespace L2
open PySem PySem.Spec
theorem len_sub[DecidableEq α]:∀{l m:List α},l.Nodup->(∀x∈l,x∈m)->l.length<=m.length
 |[],_,_,_=>A7 _
 |x::l,m,nd,h=>by
  have nd:=Dd.mp nd;have hx:=h x (.head _);have:=len_sub (m:=m.erase x) nd.2 λy hy=>(List.mem_erase_of_ne (λe=>by subst e;exact nd.1 hy)).mpr (h y (.tail _ hy));rw[List.length_erase_of_mem hx]at this;have hm:=List.length_pos_of_mem hx;rw[Ay];lia
theorem KU(h:t.fill<=t.mask):∃j,j<=t.mask/\t.slot j=.empty:=by
 apply Ce;intro n;have hs:∀j∈Ax (t.mask+1),j∈t.place.toList++t.dummies.toList:=λj hj=>by
  have hj:j<=t.mask:=by have:=Bl.mp hj;lia
  have ne:t.slot j≠.empty:=λe=>n ⟨j,hj,e⟩;unfold SetTable.slot at ne;dsimp only at ne
  split at ne
  .rename_i e;have e:t.place[SetTable.below t.place j]?=bn j:=by simpa using e
   rw[<- AA]at e;exact DD _ (Ao e)
  .split at ne
   .rename_i e;unfold SetTable.has at e;have e:t.dummies[SetTable.below t.dummies j]?=bn j:=by simpa using e
    rw[<- AA]at e;exact A4 _ (Ao e)
   .exact(ne rfl).elim
 have:=len_sub List.nodup_range hs;rw[Du,Ag,AB,AB]at this;unfold SetTable.fill at h;lia
def zD(m:Nat):Nat->Nat->Nat
 |0,i=>i
 |a+1,i=>zD m a ((i*5+1) % (m+1))
theorem nk{m:Nat}:∀(a b i:Nat),zD m (a+b) i=zD m b (zD m a i)
 |0,b,i=>by rw[Cn];rfl
 |a+1,b,i=>by rw[CG];exact nk a b _
def OG(m:Nat):Prop:=m=7\/m=31\/m=127
theorem NM{m:Nat}(h:OG m):zD m (m+1) 0=0/\∀j,j<=m->∃a,a<=m/\zD m a 0=j:=by
 have go:∀m:Nat,(zD m (m+1) 0==0&&(Ax (m+1)).all λj=>(Ax (m+1)).any λa=>zD m a 0==j)=true->zD m (m+1) 0=0/\∀j,j<=m->∃a,a<=m/\zD m a 0=j:=λm h=>by
  simp only[AH,beq_iff_eq,AG,List.any_eq_true,Bl]at h;exact⟨h.1,λj hj=>let ⟨a,h1,h2⟩:=h.2 j ∅;⟨a,by lia,h2⟩⟩
 rcases h with rfl|rfl|rfl<;>exact go _ (by decide +kernel)
theorem NN{m:Nat}(h:OG m)(hi:i<=m)(hj:j<=m):∃a,a<=m/\zD m a i=j:=by
 obtain⟨p,q⟩:=NM h;obtain⟨b,hb,rfl⟩:=q i hi;obtain⟨c,hc,rfl⟩:=q j hj;have per:∀x,zD m (m+1+x) 0=zD m x 0:=λx=>by rw[nk,p]
 by_cases k:b<=c
 .exact⟨c-b,by lia,by rw[<- nk];congr 1;lia⟩
 .refine⟨m+1+c-b,by lia,?_⟩;rw[<- nk,<- per c];congr 1;lia
def pC(m:Nat):Nat->Nat×Nat->Nat×Nat
 |0,x=>x
 |k+1,x=>pC m k (SetTable.leap m x.1 x.2)
theorem sI{m:Nat}:∀(a b:Nat) (x:Nat×Nat),pC m (a+b) x=pC m b (pC m a x)
 |0,b,x=>by rw[Cn];rfl
 |a+1,b,x=>by rw[CG];exact sI a b _
theorem zu{m:Nat}:∀(k:Nat) (x:Nat×Nat),(pC m k x).2=x.2 / 32 ^ k
 |0,x=>by simp[pC]
 |k+1,x=>by
  show(pC m k _).2=_;rw[zu k,Nat.pow_succ,Nat.mul_comm,<- Nat.div_div_eq_div_mul];rfl
theorem vb{m:Nat}:∀(k i:Nat),pC m k (i,0)=(zD m k i,0)
 |0,i=>rfl
 |k+1,i=>by
  show pC m k (SetTable.leap m i 0)=_;have:SetTable.leap m i 0=((i*5+1) % (m+1),0):=by unfold SetTable.leap;simp
  rw[this,vb k];rfl
theorem zv{m:Nat}(h:OG m){x:Nat×Nat}(hx:x.2<2 ^ 64)(hj:j<=m):∃k,1<=k/\k<=m+13/\(pC m k x).1=j:=by
 have z:(pC m 13 x).2=0:=by
  rw[zu];exact Nat.div_eq_of_lt (Az hx ⋯)
 have hi:(pC m 13 x).1<=m:=by
  have:pC m 13 x=SetTable.leap m (pC m 12 x).1 (pC m 12 x).2:=by
   rw[show 13=12+1 from rfl,sI];rfl
  rw[this];unfold SetTable.leap;have:=Nat.mod_lt ((pC m 12 x).1*5+1+(pC m 12 x).2 / 32) (Nat.succ_pos m);exact Nat.le_of_lt_succ this
 obtain⟨a,ha,e⟩:=NN h hi hj;refine⟨13+a,by lia,by lia,?_⟩;rw[sI];have:pC m 13 x=((pC m 13 x).1,0):=by rw[<- z]
 rw[this,vb];exact e
def eQ(t:SetTable):Nat->SetTable.Probe->SetTable.Probe
 |0,p=>p
 |n+1,p=>eQ t n (t.advance p)
theorem nh:∀(a b:Nat) (p:SetTable.Probe),eQ t (a+b) p=eQ t b (eQ t a p)
 |0,b,p=>by rw[Cn];rfl
 |a+1,b,p=>by rw[CG];exact nh a b _
theorem lG:∀(n:Nat) (p:SetTable.Probe),(eQ t n p).dummy=p.dummy
 |0,p=>rfl
 |n+1,p=>by
  show(eQ t n (t.advance p)).dummy=_;rw[lG n];unfold SetTable.advance;split<;>rfl
theorem IT(m i:Nat):SetTable.runEnd m i-i<=9:=by unfold SetTable.runEnd;split<;>lia
theorem Iv:∀(n:Nat) (p:SetTable.Probe),p.more=n->((eQ t (n+1) p).i,(eQ t (n+1) p).perturb)=SetTable.leap t.mask p.i p.perturb/\(eQ t (n+1) p).j=(eQ t (n+1) p).i/\(eQ t (n+1) p).more<=9
 |0,p,h=>by
  have e:eQ t 1 p={p with j:=(SetTable.leap t.mask p.i p.perturb).1,more:=SetTable.runEnd t.mask (SetTable.leap t.mask p.i p.perturb).1-(SetTable.leap t.mask p.i p.perturb).1,i:=(SetTable.leap t.mask p.i p.perturb).1,perturb:=(SetTable.leap t.mask p.i p.perturb).2}:=by
   show t.advance p=_;unfold SetTable.advance;rw[if_neg ∅]
  rw[e];exact⟨rfl,rfl,IT _ _⟩
 |n+1,p,h=>by
  have e:t.advance p={p with j:=p.j+1,more:=p.more-1}:=by unfold SetTable.advance;rw[if_pos ∅]
  have:=Iv n (t.advance p) (by rw[e];simp;lia);have g:eQ t (n+1+1) p=eQ t (n+1) (t.advance p):=rfl;rw[g];rw[e]at this ⊢;exact this
theorem uo:∀(k:Nat) (p:SetTable.Probe),p.more<=9->∃n,n<=10*(k+1)/\((eQ t n p).i,(eQ t n p).perturb)=pC t.mask (k+1) (p.i,p.perturb)/\(eQ t n p).j=(eQ t n p).i/\(eQ t n p).more<=9
 |0,p,h=>⟨p.more+1,by lia,Iv _ p rfl⟩
 |k+1,p,h=>by
  obtain⟨e1,e2,e3⟩:=Iv (t:=t) _ p rfl;obtain⟨n,hn,f1,f2,f3⟩:=uo k _ e3;refine⟨p.more+1+n,by lia,?_⟩;rw[nh];refine⟨?_,f2,f3⟩;rw[f1,e1];rfl
theorem meets(h:OG t.mask)(hf:t.fill<=t.mask){p:SetTable.Probe}(h1:p.more<=9)(h2:p.perturb<2 ^ 64):∃n,n<10*SetTable.turns t.mask/\t.slot (eQ t n p).j=.empty:=by
 obtain⟨j,hj,e⟩:=KU hf;obtain⟨k,k1,k2,k3⟩:=zv h (x:=(p.i,p.perturb)) h2 hj;obtain⟨k,rfl⟩:∃k',k=k'+1:=⟨k-1,by lia⟩;obtain⟨n,hn,f1,f2,f3⟩:=uo (t:=t) k p h1;refine⟨n,by unfold SetTable.turns;lia,?_⟩;rw[f2,show(eQ t n p).i=_ from congrArg Prod.fst f1,k3];exact e
theorem uF(hd:t.dummies=#[]){ha:Nat->Int}{h:Int}:∀(n Ã:Nat) (p:SetTable.Probe),t.slot (eQ t n p).j=.empty->n < Ã->p.dummy=cr->(∃m,m<=n/\t.slot (eQ t m p).j=.empty/\SetTable.probe.go t ha h Ã p=bn (.empty (eQ t m p).j cr))\/ ∃m i,m<n/\t.slot (eQ t m p).j=.live i/\ha i=h/\SetTable.probe.go t ha h Ã p=bn (.candidate (eQ t m p).j i (eQ t (m+1) p))
 |n,0,p,_,hn,_=>by lia
 |n,Ã+1,p,he,hn,hp=>by
  have up:∀n',n=n'+1->SetTable.probe.go t ha h (Ã+1) p=SetTable.probe.go t ha h Ã (t.advance p)->(∃m,m<=n/\t.slot (eQ t m p).j=.empty/\SetTable.probe.go t ha h (Ã+1) p=bn (.empty (eQ t m p).j cr))\/
    ∃m i,m<n/\t.slot (eQ t m p).j=.live i/\ha i=h/\SetTable.probe.go t ha h (Ã+1) p=bn (.candidate (eQ t m p).j i (eQ t (m+1) p)):=λn' e g=>by
   subst e;rw[g];rcases uF hd n' Ã (t.advance p) he ∅ (by have:=lG (t:=t) 1 p;exact this.trans hp) with⟨m,a,b,c⟩|⟨m,i,a,b,c,d⟩
   .exact .inl ⟨m+1,by lia,b,c⟩
   .exact .inr ⟨m+1,i,by lia,b,c,d⟩
  cases hs:t.slot p.j with
  |empty=>exact .inl ⟨0,A7 _,hs,by rw[SetTable.probe.go,hs,hp];rfl⟩
  |dummy=>
   exfalso;unfold SetTable.slot at hs;dsimp only at hs
   split at hs
   .cases hs
   .split at hs
    .rename_i e;rw[hd]at e;unfold SetTable.has at e;simp at e
    .cases hs
  |live i=>
   have hn0:n≠0:=λe=>by subst e;rw[show(eQ t 0 p)=p from rfl,hs]at he;cases he
   by_cases c:ha i=h
   .exact .inr ⟨0,i,by lia,hs,c,by rw[SetTable.probe.go,hs];simp[c,eQ]⟩
   .exact up (n-1) ∅ (by rw[SetTable.probe.go,hs];simp[c])
end L2
variable{o:Ez}{aj:Array AV}
namespace L2
mutual
inductive HV(h:im):PV->db->Prop
 |str (x:Str) (t:Tok):HV h (.str x) (.str x t)
 |int (i:Int) (t:Tok):HV h (.int i) (.int i t)
 |tup {a:f8}{l:List PV}{aj:Array db}{n:Nat}{o:Obj} (e:h.get? a=bn o) (c:o.cls=.type "tuple") (d:o.data=.seq aj n) (r:dC h l aj.toList):HV h (.tup l) (.ref a)
inductive dC(h:im):List PV->List db->Prop
 |nil:dC h [] []
 |cons {x:PV}{v:db}{l:List PV}{vs:List db} (r:HV h x v) (t:dC h l vs):dC h (x::l) (v::vs)
end
mutual
theorem HV.keep{h h':im}(k:∀c o,h.get? c=bn o->o.cls=.type "tuple"->h'.get? c=bn o):∀{x:PV}{v:db},HV h x v->HV h' x v
 |_,_,.str x t=>.str x t
 |_,_,.int i t=>.int i t
 |_,_,.tup e c d r=>.tup (k _ _ e c) c d (dC.keep k r)
theorem dC.keep{h h':im}(k:∀c o,h.get? c=bn o->o.cls=.type "tuple"->h'.get? c=bn o):∀{x:O PV}{v:O db},dC h x v->dC h' x v
 |_,_,.nil=>.nil
 |_,_,.cons r t=>.cons (HV.keep k r) (dC.keep k t)
end
def dC.length:∀{l:O PV}{vs:O db},dC h l vs->l.length=vs.length
 |_,_,.nil=>rfl
 |_,_,.cons _ t=>by rw[Ay,Ay,t.length]
def dC.get:∀{l:O PV}{vs:O db}{j:Nat}{v:db},dC h l vs->vs[j]?=bn v->∃x,l[j]?=bn x/\HV h x v
 |_,_,_,_,.nil,e=>by simp at e
 |_,_,0,_,.cons r t,e=>by simp at e;subst e;exact⟨_,rfl,r⟩
 |_,_,j+1,_,.cons r t,e=>t.get (j:=j) (by simpa using e)
def dC.perm(p:us.Perm vs):∀{l:O PV},dC h l vs->∃m,dC h m us/\m.Perm l:=by
 induction p with
 |nil=>intro l r;exact⟨l,r,.refl _⟩
 |cons x p ih=>
  intro l r;cases r with
  |cons r t=>obtain⟨m,a,b⟩:=ih t;exact⟨_::m,.cons r a,.cons _ b⟩
 |swap x y l'=>
  intro l r;cases r with
  |cons r t=>
   cases t with
   |cons r2 t=>exact⟨_::_::_,.cons r2 (.cons r t),.swap _ _ _⟩
 |trans p1 p2 ih1 ih2=>
  intro l r;obtain⟨m,a,b⟩:=ih2 r;obtain⟨m',a',b'⟩:=ih1 a;exact⟨m',a',b'.trans b⟩
section
mutual
def cP(prog:pr)(w:t0):PV->Int
 |.str x=>(bp prog w).hash (.inr x)
 |.int i=>(bp prog w).hash (.inl i)
 |.tup l=>reduceHash (Builtin.Tuple.tupleHashOf (cM prog w l))
 |_=>0
def cM(prog:pr)(w:t0):O PV->O Int
 |[]=>[]
 |x::l=>cP prog w x::cM prog w l
end
def Yb(prog:pr)(w:t0)(h:im)(x:PV)(v:db):Prop:=∀(A:sB) (E:db->em->Prop) (s:em) (Q:Int->em->Prop),A.units+x.dep<nn->s.heap=h->(∀n,s.toks<=n->Q (cP prog w x) {s with toks:=n})->ga (ge prog w) A (pyHash v) Q E s
inductive HS(prog:pr)(w:t0)(h:im):List PV->List db->Prop
 |nil:HS prog w h [] []
 |cons {x:PV}{v:db}{l:List PV}{vs:List db} (r:Yb prog w h x v) (t:HS prog w h l vs):HS prog w h (x::l) (v::vs)
theorem Ko(ho:h.get? a=bn o)(hc:o.cls=.type "tuple")(hd:o.data=.seq aj n)(hi:HS prog w h l aj.toList):Yb prog w h (.tup l) (.ref a):=by
 intro A E s Q hu hs q;subst hs;have hT:s.TypeIs (.ref a) "tuple":=⟨o,ho,hc⟩;have G4:A.units < nn:=by lia
 rw[PV.dep]at hu;unfold pyHash
 first|unfold pyHashByItsType|skip
 first|refine Aa (wpAny_cRoomFor_or (.inr G4) ?_)|skip
 refine Aa (Cf hT CU.lookup ?_);show ga _ _ (if (bn (Value.builtin "tuple.__hash__")==bn Value.none)=true then _ else _) Q E s;rw[if_neg (by rw[beq_builtin_none];exact A6)];refine Aa (Cf hT CU.lookup ?_);show ga _ _ (callSpecialIfBoundUnlessNone? (.ref a) "__hash__" _ >>= _) Q E s;refine Aa (wpAny_callSpecialIfBoundUnlessNone?_slot hT CU (AU CU hT F.entry_tuple_hash ?_ (F.args_tuple_hash_1 _)));show ga _ _ (Builtin.Tuple.tupleItemsOf (.ref a) >>= _) _ _ s;refine Aa (wpAny_tupleItemsOf ho hd ?_);refine Aa ?_;rw[<- Cb];refine C3 _
  (λrest (b:Array Int) s'=>∃done left k,l=done++left/\HS prog w s.heap left rest/\b.toList=cM prog w done/\s.toks<=k/\s'={s with toks:=k})
  _ ?_ ?_ _ _ ⟨[],l,s.toks,rfl,hi,by rw[cM],Am _,rfl⟩
 .rintro x rest b s' ⟨done,left,k,rfl,hl,hb,hk,rfl⟩;cases hl with
  | @cons y _ l' _ h1 hl'=>
   have dl:y.dep<=dF (done++y::l'):=kM (j:=done.length) (by simp);have hh:∀d:O PV,cM prog w (d++[y])=cM prog w d++[cP prog w y]:=λd=>by
    induction d with
    |nil=>simp[cM]
    |cons z d ih=>simp only[EG,cM,ih]
   refine Aa (h1 _ _ _ _ ?_ rfl λk' Px=>?_)
   .show A.units+1+y.dep<nn;lia
   .first
     |exact Ae ⟨done++[y],l',k',by simp,hl',by simp[hb,hh],AI hk Px,rfl⟩
     |exact Aa (Ae (Ae ⟨done++[y],l',k',by simp,hl',by simp[hb,hh],AI hk Px,rfl⟩))
 .rintro b s' ⟨done,left,k,rfl,hl,hb,hk,rfl⟩;cases hl;rw[CK]at q;show ga _ _ (retInt (Builtin.Tuple.tupleHashOf b.toList)) _ _ _;rw[hb];refine wpAny_ret_mkInt ?_;show ga _ _ (if (decide (-(2:Int) ^ 63<=Builtin.Tuple.tupleHashOf (cM prog w done))&&decide (Builtin.Tuple.tupleHashOf (cM prog w done)<2 ^ 63))=true then _ else _) Q E _;rw[cP]at q;unfold reduceHash at q;by_cases hr:(decide (-(2:Int) ^ 63<=Builtin.Tuple.tupleHashOf (cM prog w done))&&decide (Builtin.Tuple.tupleHashOf (cM prog w done)<2 ^ 63))=true
  .rw[if_pos hr];rw[if_pos hr]at q;exact Ae (q _ (Nat.le_succ_of_le hk))
  .rw[if_neg hr];rw[if_neg hr]at q;exact Aa (Df (Ae (q _ (Nat.le_succ_of_le hk))))
end
section
def Kq(x:Str)(t:Tok):Yb prog w h (.str x) (.str x t):=λA E s Q _ _ q=>(bp prog w).pyHash (k:=.inr x) (mn _ _ _ _) (by rw[cP]at q;exact q _ (Em _))
def Kr(i:Int)(t:Tok):Yb prog w h (.int i) (.int i t):=λA E s Q _ _ q=>(bp prog w).pyHash (k:=.inl i) (mq _ _ _ _) (by rw[cP]at q;exact q _ (Em _))
mutual
theorem HV.hash:∀{x:PV}{v:db},HV h x v->Yb prog w h x v
 |_,_,.str x t=>Kq x t
 |_,_,.int i t=>Kr i t
 |_,_,.tup e c d r=>Ko e c d (dC.hash r)
theorem dC.hash:∀{l:O PV}{vs:O db},dC h l vs->HS prog w h l vs
 |_,_,.nil=>.nil
 |_,_,.cons r t=>.cons (HV.hash r) (dC.hash t)
end
mutual
theorem HV.inj{h:im}:∀{x y:PV}{v:db},HV h x v->HV h y v->x=y
 |_,_,_,.str x t,.str _ _=>rfl
 |_,_,_,.int x t,.int _ _=>rfl
 |_,_,_,.tup e c d r,.tup e' c' d' r'=>by
  have z:=Option.some.inj (e.symm.trans e');subst z;have z:=d.symm.trans d';injection z with z1 z2;subst z1;rw[dC.inj r r']
theorem dC.inj{h:im}:∀{x y:O PV}{v:O db},dC h x v->dC h y v->x=y
 |_,_,_,.nil,.nil=>rfl
 |_,_,_,.cons r t,.cons r' t'=>by rw[HV.inj r r',dC.inj t t']
end
mutual
theorem qZa{h:im}:∀{x:PV}{v:db},HV h x v->HY x x=true
 |_,_,.str _ _=>by simp[HY]
 |_,_,.int _ _=>by simp[HY]
 |_,_,.tup _ _ _ r=>by rw[HY];exact qZb r
theorem qZb{h:im}:∀{l:O PV}{vs:O db},dC h l vs->nR l l=true
 |_,_,.nil=>rfl
 |_,_,.cons a b=>by rw[nR,qZa a,qZb b];rfl
end
theorem KQ:∀(n:Nat) (x y:PV) (A:sB) (s:em) (v v':db),x.dep<=n->HV s.heap x v->HV s.heap y v'->A.units+n<nn->CD A s v v' (HY x y):=by
 intro n
 induction n with
 |zero=>
  intro x y A s v v' hd hx hy hu;cases hx with
  |str a t=>
   cases hy with
   |str b t'=>exact D4 a t b t'
   |int b t'=>exact Fs a t b t'
   |tup e c d r=>exact CD.str_tuple a t ⟨_,e,c,_,d⟩ ∅
  |int a t=>
   cases hy with
   |str b t'=>exact Fu a t b t'
   |int b t'=>exact D5 a t b t'
   |tup e c d r=>exact CD.int_tuple a t ⟨_,e,c,_,d⟩ ∅
  |tup e c d r=>rw[PV.dep]at hd;lia
 |succ n ih=>
  intro x y A s v v' hd hx hy hu;cases hx with
  |str a t=>exact ih _ y A s _ _ (by simp[PV.dep]) (.str a t) hy ∅
  |int a t=>exact ih _ y A s _ _ (by simp[PV.dep]) (.int a t) hy ∅
  | @tup a l aj k o e c d r=>
   have ht:s.heap.IsTuple a aj:=⟨o,e,c,k,d⟩;cases hy with
   |str b t'=>exact CD.tuple_str b t' ht ∅
   |int b t'=>exact CD.tuple_int b t' ht ∅
   | @tup b m dc k' o' e' c' d' r'=>
    have ht':s.heap.IsTuple b dc:=⟨o',e',c',k',d'⟩;by_cases xJ:a=b
    .subst xJ
     have z:PV.tup l=.tup m:=HV.inj (h:=s.heap) (.tup e c d r) (.tup e' c' d' r')
     rw[←z,show HY (.tup l) (.tup l)=true from qZa (HV.tup (h:=s.heap) e c d r)];exact CD.same _
    .refine Ft xJ ?_;have q:=Fw (A:=A) (e:=eqJ l m) ht ht' ∅ (λj g1 g2=>by
      obtain⟨x,x1,x2⟩:=r.get (j:=j) (v:=aj[j]) (by rw[AA];exact AE g1);obtain⟨y,y1,y2⟩:=r'.get (j:=j) (v:=dc[j]) (by rw[AA];exact AE g2);unfold eqJ;rw[x1,y1];rw[PV.dep]at hd;have:=kM x1;exact ih x y A.in1 s _ _ ∅ x2 y2 (by show A.units+1+n<nn;lia))
     have e1:aj.size=l.length:=by rw[r.length,AB]
     have e2:dc.size=m.length:=by rw[r'.length,AB]
     rw[e1,e2,uH]at q;rw[HY];exact q
end
end L2
variable{v:AV}
namespace L2
section
def X3(prog:pr)(w:t0)(h:im)(n:Nat)(v:db):Prop:=∀(A:sB) (E:db->em->Prop) (s:em) (Q:Bool->em->Prop),s.heap=h->Q true s->ga (ge prog w) A (eqIsQuiet n v) Q E s
def gB(c:carriedByValue v=true)(n:Nat):X3 prog w h n v:=λA E s Q _ q=>by
 rw[eqIsQuiet_byValue n c];exact Ae q
def Gn(ho:h.get? a=bn o)(hc:o.cls=.type "tuple")(hd:o.data=.seq aj k)(hi:∀v∈aj.toList,X3 prog w h n v):X3 prog w h (n+1) (.ref a):=λA E s Q hs q=>by
 subst hs;have hT:s.TypeIs (.ref a) "tuple":=⟨o,ho,hc⟩;unfold eqIsQuiet;refine Aa (Cf hT F.slot_tuple_eq.lookup ?_);show ga _ _ (isInstance (.ref a) (.type "tuple") >>= _) _ _ s;refine Aa (BH hT isSubtype_tuple_tuple ?_);simp only[BJ,An,if_false];refine Aa (Bj ho hd ?_);refine Aa ?_;show ga _ _ (forIn aj _ _) _ _ s;rw[<- Cb];refine C3 _ (λrest r s'=>r.1=cr/\s'=s/\∀v∈rest,X3 prog w s.heap n v) _ ?_ ?_ _ _ ⟨rfl,rfl,hi⟩
 .rintro v rest r s' ⟨hr,rfl,tB⟩;refine Aa (tB v Bo _ _ _ _ rfl ?_);simp only[BJ,An,if_false];exact Ae ⟨rfl,rfl,λu G4=>tB u (AN _ G4)⟩
 .rintro⟨r1,r2⟩ s' ⟨hr,rfl,_⟩;simp only at hr;subst hr;exact Ae q
def Yg(prog:pr)(w:t0)(h:im)(n:Nat)(v:db):Prop:=∀(A:sB) (E:db->em->Prop) (s:em) (Q:Bool->em->Prop),s.heap=h->Q false s->ga (ge prog w) A (ofAClassStatement n v) Q E s
def Hz(ho:h.get? a=bn o)(hc:o.cls=.type "tuple")(hd:o.data=.seq aj k)(hi:∀v∈aj.toList,Yg prog w h n v):Yg prog w h (n+1) (.ref a):=λA E s Q hs q=>by
 subst hs;have hT:s.TypeIs (.ref a) "tuple":=⟨o,ho,hc⟩;unfold ofAClassStatement;refine Aa (CF hT ?_);show ga _ _ (seqItems? (.ref a) >>= _) _ _ s;refine Aa (Bj ho hd ?_);refine Aa ?_;show ga _ _ (forIn aj _ _) _ _ s;rw[<- Cb];refine C3 _ (λrest r s'=>r.1=cr/\s'=s/\∀v∈rest,Yg prog w s.heap n v) _ ?_ ?_ _ _ ⟨rfl,rfl,hi⟩
 .rintro v rest r s' ⟨hr,rfl,tB⟩;refine Aa (tB v Bo _ _ _ _ rfl ?_);simp only[An,if_false];exact Ae ⟨rfl,rfl,λu G4=>tB u (AN _ G4)⟩
 .rintro⟨r1,r2⟩ s' ⟨hr,rfl,_⟩;simp only at hr;subst hr;exact Ae q
def vB:PV->Bool
 |.str _=>true
 |.tup (x::_)=>vB x
 |_=>false
def VSp(prog:pr)(w:t0)(h:im)(n:Nat)(v:db):Prop:=∀(A:sB) (E:db->em->Prop) (s:em) (Q:Bool->em->Prop),s.heap=h->Q false s->ga (ge prog w) A (hashByValue n v) Q E s
def HH(ho:h.get? a=bn o)(hc:o.cls=.type "tuple")(hd:o.data=.seq aj k)(e:aj.toList=v::vs)(hi:VSp prog w h n v):VSp prog w h (n+1) (.ref a):=λA E s Q hs q=>by
 subst hs;have hT:s.TypeIs (.ref a) "tuple":=⟨o,ho,hc⟩;unfold hashByValue;refine Aa (Cf hT CU.lookup ?_);show ga _ _ (seqItems? (.ref a) >>= _) _ _ s;refine Aa (Bj ho hd ?_);refine Aa ?_;show ga _ _ (forIn aj _ _) _ _ s;rw[<- Cb,e,Bx];refine Aa (Aa (hi _ _ _ _ rfl ?_));simp only[CA,if_true];exact Ae (Ae (Ae q))
def rH{h:im}{P:Nat->PV->db->Prop}(r:dC h l vs)(hv:v∈vs):∃x,x∈l/\HV h x v:=by
 obtain⟨j,hj⟩:=BI hv;obtain⟨x,e,k⟩:=r.get hj;exact⟨x,Ao e,k⟩
def gS:∀{l:O PV}{x:PV},x∈l->x.dep<=dF l:=λh=>let ⟨j,e⟩:=BI h;kM e
theorem HV.quiet:∀(n:Nat) {x:PV}{v:db},x.dep<=n->HV h x v->X3 prog w h n v:=by
 intro n
 induction n with
 |zero=>
  intro x v d r;cases r with
  |str x t=>exact gB rfl 0
  |int x t=>exact gB rfl 0
  |tup e c d' r=>rw[PV.dep]at d;lia
 |succ n ih=>
  intro x v d r;cases r with
  |str x t=>exact gB rfl _
  |int x t=>exact gB rfl _
  |tup e c d' r=>
   rw[PV.dep]at d;refine Gn e c d' λv hv=>?_;obtain⟨x,hx,k⟩:=rH (P:=λ_ _ _=>True) r hv;exact ih (by have:=gS hx;lia) k
theorem j7(r:HV h x v)(d:x.dep=0)(n:Nat):Yg prog w h n v:=λA E s Q _ q=>by
 cases r with
 |tup e c d' r=>rw[PV.dep]at d;lia
 |str x t=>cases n<;>exact Ae q
 |int x t=>cases n<;>exact Ae q
theorem HV.XQ:∀(n:Nat) {x:PV}{v:db},x.dep<=n->HV h x v->Yg prog w h n v:=by
 intro n
 induction n with
 |zero=>intro x v d r;exact j7 r ∅ 0
 |succ n ih=>
  intro x v d r;cases r with
  |str x t=>exact j7 (.str x t) rfl _
  |int x t=>exact j7 (.int x t) rfl _
  |tup e c d' r=>
   rw[PV.dep]at d;refine Hz e c d' λv hv=>?_;obtain⟨x,hx,k⟩:=rH (P:=λ_ _ _=>True) r hv;exact ih (by have:=gS hx;lia) k
theorem HV.XZ:∀(n:Nat) {x:PV}{v:db},x.dep<=n->vB x=true->HV h x v->VSp prog w h n v:=by
 intro n
 induction n with
 |zero=>
  intro x v d f r A E s Q _ q;cases r with
  |tup e c d' r=>rw[PV.dep]at d;lia
  |str x t=>exact Ae q
  |int x t=>cases f
 |succ n ih=>
  intro x v d f r;cases r with
  |str x t=>exact λA E s Q _ q=>Ae q
  |int x t=>cases f
  | @tup a l aj k o e c d' r=>
   rw[PV.dep]at d;generalize hl:aj.toList=us at r;cases r with
   |nil=>cases f
   |cons r1 t=>exact HH e c d' hl (ih (by rw[dF]at d;lia) (by rw[vB]at f;exact f) r1)
end
end L2
variable{x:AV}{es:Array (Int×AV)}{px:PL.PV}{ep:Nat}
namespace L2
theorem za(f:∀x y v v',HV h x v->HV h y v'->x.dep<=n->HY x y=true->x=y):∀{l m:O PV}{us vs:O db},dC h l us->dC h m vs->dF l<=n->nR l m=true->l=m
 |_,_,_,_,.nil,.nil,_,_=>rfl
 |_,_,_,_,.nil,.cons _ _,_,e=>by simp[nR]at e
 |_,_,_,_,.cons _ _,.nil,_,e=>by simp[nR]at e
 |_,_,_,_,.cons r t,.cons r' t',d,e=>by
  rw[nR,AH]at e;rw[dF]at d;rw[f _ _ _ _ r r' ∅ e.1,za f t t' ∅ e.2]
theorem Ri:∀(n:Nat) (x y:PV) (v v':db),HV h x v->HV h y v'->x.dep<=n->HY x y=true->x=y:=by
 intro n
 induction n with
 |zero=>
  intro x y v v' r r' d e;cases r<;>cases r'<;>simp_all[HY,PV.dep]
 |succ n ih=>
  intro x y v v' r r' d e;cases r with
  |tup _ _ _ r=>
   cases r' with
   |tup _ _ _ r'=>
    rw[HY]at e;rw[PV.dep]at d;rw[za ih r r' ∅ e]
   |_=>simp[HY]at e
  |_=>cases r'<;>simp_all[HY,PV.dep]
structure hO(t:SetTable)(n:Nat):Prop where
 pl:t.place.size=n
 du:t.dummies=#[]
 sz:(t.mask=7/\n<=4)\/(t.mask=31/\n<=18)\/(t.mask=127/\n<=76)
def hO.TV(h:hO t n):OG t.mask:=by rcases h.sz with h|h|h<;>simp[OG,h.1]
def hO.fill(h:hO t n):t.fill=n:=by unfold SetTable.fill;rw[h.pl,h.du];simp
theorem hO.le(h:hO t n):t.fill<=t.mask:=by rw[h.fill];rcases h.sz with h|h|h<;>lia
def hO.fits(h:hO t n):t.fits n=true:=by
 unfold SetTable.fits;rw[h.pl];simpa using h.le
def hO.abX(h:hO t n):t.gaveWay=false:=by
 unfold SetTable.gaveWay;rcases h.sz with h|h|h<;>rw[h.1]<;>rfl
section
def OE(h:im)(es:Array (Int×db))(m:O PV):Prop:=dC h m (es.toList.map (·.2))/\∀e∈es.toList,∃b,e.2=.ref b
theorem J7:∀{vs:O db},(∀v∈vs,∃x,HV h x v/\x.dep<=n)->∃m,dC h m vs/\dF m<=n
 |[],_=>⟨[],.nil,by rw[dF];lia⟩
 |v::vs,f=>by
  obtain⟨x,r,d⟩:=f v (.head _);obtain⟨m,r2,d2⟩:=J7 λv hv=>f v (.tail _ hv);exact⟨x::m,.cons r r2,by rw[dF];lia⟩
theorem Qn{m:O PV}{Q:Bool->em->Prop}(hx:HV s.heap px x)(dx:px.dep<=7)(hm:dC s.heap m vs)(dm:dF m<=7)(q:Q false s):ga (ge prog w) A (searchCouldBeSeen x vs) Q E s:=by
 unfold searchCouldBeSeen;refine Aa ?_;refine C3 _ (λrest r s'=>r.1=cr/\s'=s/\∃m,dC s.heap m rest/\dF m<=7) _ ?_ ?_ _ _ ⟨rfl,rfl,m,hm,dm⟩
 .rintro y rest r s' ⟨hr,rfl,m,hm,dm⟩;cases hm with
  | @cons z _ l _ r1 t1=>
   rw[dF]at dm;have dz:z.dep<=7:=by lia
   dsimp only;refine Bp (λ_=>Ae ⟨rfl,rfl,_,t1,by lia⟩) λ_=>?_;refine Aa (HV.quiet 8 ∅ hx _ _ _ _ rfl ?_);simp only[BJ,An,if_false];refine Aa (HV.quiet 8 ∅ r1 _ _ _ _ rfl ?_);simp only[BJ,An,if_false];refine Aa (HV.XQ 8 ∅ hx _ _ _ _ rfl ?_);simp only[An,if_false];refine Aa (HV.XQ 8 ∅ r1 _ _ _ _ rfl ?_);simp only[An,if_false];exact Ae ⟨rfl,rfl,_,t1,by lia⟩
 .rintro⟨r1,r2⟩ s' ⟨hr,rfl,_⟩;simp only at hr;subst hr;exact Ae q
theorem Gg{m:O PV}{h:Int}{adding:Bool}(ho:s.heap.get? a=bn o)(hd:o.data=.set es ep t)(T:hO t es.size)(R:OE s.heap es m)(dm:dF m<=7)(hx:HV s.heap px x)(dx:px.dep<=7)(hu:A.units+7<nn){Q:SetFound->em->Prop}(q1:∀r,px∈m->Q (.there r) s)(q2:∀j,Q (.free j false) s){N:Nat}{p0:SetTable.Probe}(hN:t.slot (eQ t N p0).j=.empty)(hN2:N<10*SetTable.turns t.mask)(hp:p0.dummy=cr):∀(k n Ã:Nat) (st:Option SetTable.Probe),st.getD (t.probeStart h)=eQ t n p0->N-n=k->n<=N->k < Ã->ga (ge prog w) A (ww a x h adding Ã st) Q E s:=by
 intro k
 induction k using Nat.strongRecOn with
 |_ k ih=>
  intro n Ã st e0 hk hn hf;obtain⟨Ã,rfl⟩:∃f,Ã=f+1:=⟨Ã-1,by lia⟩;unfold ww;refine Aa (Bs ho hd T.fits ?_);dsimp only;rw[T.abX];simp only[An,if_false];rw[e0];unfold SetTable.probe;have hN':t.slot (eQ t (N-n) (eQ t n p0)).j=.empty:=by rw[<- nh,Nat.add_sub_cancel' hn];exact hN
  rcases uF T.du (ha:=_) (h:=h) (N-n) _ (eQ t n p0) hN' (Dh (Nat.sub_le _ _) hN2) (by rw[lG];exact hp) with⟨j,_,_,e⟩|⟨j,i,hj,hs,_,e⟩
  .rw[e];exact Ae (q2 _)
  .rw[e,show eQ t (j+1) (eQ t n p0)=eQ t (n+(j+1)) p0 from (nh n (j+1) p0).symm];dsimp only;have hi:t.place[i]?=bn (eQ t j (eQ t n p0)).j:=by
    unfold SetTable.slot at hs;dsimp only at hs
    split at hs
    .rename_i c;injection hs with hs;rw[hs]at c;simpa using c
    .split at hs<;>cases hs
   have gr:i<es.size:=by
    rw[<- T.pl];exact(Array.getElem?_eq_some_iff.mp hi).1
   obtain⟨hy,ey⟩:∃y,es[i]?=bn y:=⟨_,AE gr⟩;obtain⟨hh,y⟩:=hy;have my:(es.toList.map (·.2))[i]?=bn y:=by rw[Ap,AA,ey];rfl
   obtain⟨py,m1,ry⟩:=R.1.get my;have mm:=Ao m1;obtain⟨b,eb⟩:=R.2 (hh,y) (Ao (by rw[AA];exact ey));have eb:y=.ref b:=eb;have jp:∀(C:Sem SetFound),C=(do
      let equal <- EQ [y] (eqBool y x)
      let __x <- setState a
      if (adding&&equal)=true then pure (D2 cr)
      else
       match __x.2.snd.sameMemory t.moves t.mask with
       |some same=>
        match if same=true then __x.2.snd.slot (eQ t j (eQ t n p0)).j else SetTable.Slot.empty with
        |SetTable.Slot.live i'=>
         match __x.fst[i']? with
         |some (fst,y')=>do
          let mh <- isSame y' y
          let uw <- pure (if mh=true then bn i' else cr)
          match uw with
           |none=>do
            rule "set.search.anew"
            ww a x h adding Ã cr
           |some i'=>
            if equal=true then pure (D2 (bn i'))
            else ww a x h adding Ã (bn (eQ t (n+(j+1)) p0))
         |none=>do
          let uw <- pure cr
          match uw with
           |none=>do
            rule "set.search.anew"
            ww a x h adding Ã cr
           |some i'=>
            if equal=true then pure (D2 (bn i'))
            else ww a x h adding Ã (bn (eQ t (n+(j+1)) p0))
        |x_1=>do
         let uw <- pure cr
         match uw with
          |none=>do
           rule "set.search.anew"
           ww a x h adding Ã cr
          |some i'=>
           if equal=true then pure (D2 (bn i'))
           else ww a x h adding Ã (bn (eQ t (n+(j+1)) p0))
       |x=>unsupported "set.changed-during-lookup:is-the-new-block-at-the-old-address")->ga (ge prog w) A C Q E s:=λC eC=>by
    rw[eC];refine Aa (AZ (KQ 7 py px A s y x (AI (gS mm) dm) ry hx hu prog w _ _ ?_));refine Aa (Bs ho hd T.fits ?_);dsimp only;by_cases c:HY py px=true
    .have:=Ri 7 py px _ _ ry hx (AI (gS mm) dm) c;subst this;rw[c];cases adding
     .simp only[Dv,An,if_false];have sm:t.sameMemory t.moves t.mask=bn true:=by unfold SetTable.sameMemory;simp
      rw[sm];simp only[if_true];rw[hs];dsimp only;rw[ey];dsimp only;rw[eb];unfold isSame;simp only[beq_self_eq_true,if_true];refine Aa (Ae ?_);refine Aa (Ae ?_);exact Ae (q1 _ mm)
     .exact Ae (q1 _ mm)
    .have c:HY py px=false:=by simpa using c
     rw[c];simp only[CB,An,if_false];have sm:t.sameMemory t.moves t.mask=bn true:=by unfold SetTable.sameMemory;simp
     rw[sm];simp only[if_true];rw[hs];dsimp only;rw[ey];dsimp only;rw[eb];unfold isSame;simp only[beq_self_eq_true,if_true];refine Aa (Ae ?_);refine Aa (Ae ?_);exact ih (N-(n+(j+1))) ∅ _ Ã (bn _) rfl rfl ∅ ∅
   by_cases l:t.led=true
   .rw[l];simp only[BJ,An,if_false];rw[ey];exact jp _ rfl
   .have l:t.led=false:=by simpa using l
    rw[l];simp only[CA,if_true];obtain⟨m2,r2,d2⟩:=J7 (h:=s.heap) (n:=7) (vs:=(Array.filter (λx=>x.1==h) es).toList.map (λx=>x.2)) λv hv=>by
     obtain⟨e,he,rfl⟩:=Bf.mp hv;rw[Array.toList_filter]at he;obtain⟨z,z1,z2⟩:=rH (P:=λ_ _ _=>True) R.1 (Bf.mpr ⟨e,(AX.mp he).1,rfl⟩);exact⟨z,z2,AI (gS z1) dm⟩
    refine Aa (Qn hx dx r2 d2 ?_);simp only[An,if_false];rw[ey];exact jp _ rfl
end
theorem uz:∀{l:O (Option Nat)}{j k:Nat},l[j]?=bn cr->((l.set j (bn k)).filterMap id).Perm (k::l.filterMap id)
 |[],_,_,e=>by simp at e
 |x::l,0,k,e=>by simp at e;subst e;simp
 |x::l,j+1,k,e=>by
  have ih:=uz (l:=l) (j:=j) (k:=k) (by simpa using e);cases x with
  |none=>simpa using ih
  |some y=>
   simp only[List.set_cons_succ,Bh,id];exact(ih.cons y).trans (.swap _ _ _)
theorem zh:∀{l:O (Option Nat)},(l.filterMap id).length<l.length->∃j:Nat,l[j]?=bn cr
 |[],h=>by simp at h
 |none::l,_=>⟨0,rfl⟩
 |some x::l,h=>by
  obtain⟨j,e⟩:=zh (l:=l) (by simpa using h);exact⟨j+1,by simpa using e⟩
theorem zP{m:Nat}{ow:Array (Option Nat)}:∀(f i x k:Nat),k<f->ow[(pC m k (i,x)).1]?=bn cr->∃j,SetTable.layClean.free m ow f i x=bn j/\ow[j]?=bn cr
 |0,i,x,k,h,_=>by lia
 |f+1,i,x,k,h,e=>by
  rw[SetTable.layClean.free];cases hf:(Ax (SetTable.runEnd m i+1-i)).find? λk=>(ow.getD (i+k) (bn 0)).isNone with
  |some c=>
   have:=List.find?_some hf;refine⟨i+c,rfl,?_⟩;rw[CY]at this;cases z:ow[i+c]? with
   |none=>rw[z]at this;cases this
   |some y=>rw[z]at this;cases y with
    |none=>rfl
    |some _=>cases this
  |none=>
   cases k with
   |zero=>
    exfalso;have hr:i<=SetTable.runEnd m i:=by unfold SetTable.runEnd;split<;>lia
    have:=List.find?_eq_none.mp hf 0 (Bl.mpr ∅);rw[CY]at this;have e:ow[i+0]?=bn cr:=e;rw[e]at this;exact this rfl
   |succ k=>exact zP f _ _ k ∅ e
theorem GL{m:Nat}(hm:OG m)(hs:O Int):hs.length<=m->∃ow:Array (Option Nat),SetTable.layClean m hs.toArray=bn ow/\ow.size=m+1/\(ow.toList.filterMap id).Perm (Ax hs.length):=by
 have É:∀(hs:O Int) (ow:Array (Option Nat)) (k:Nat),ow.size=m+1->(ow.toList.filterMap id).Perm (Ax k)->k+hs.length<=m->
   ∃VX,hs.foldl (λÁ h=>do
    let (owner,k) <- Á
    let j <- SetTable.layClean.free m owner (SetTable.turns m) (SetTable.bits h % (m+1)) (SetTable.bits h)
    pure (owner.setIfInBounds j (bn k),k+1)) (bn (ow,k))=bn (VX,k+hs.length)/\VX.size=m+1/\(VX.toList.filterMap id).Perm (Ax (k+hs.length)):=by
  intro hs
  induction hs with
  |nil=>intro ow k h1 h2 _;exact⟨ow,rfl,h1,h2⟩
  |cons h hs ih=>
   intro ow k h1 h2 h3;rw[Ay]at h3;obtain⟨j0,e0⟩:=zh (l:=ow.toList) (by rw[h2.length_eq,Du,AB];lia);have hj0:j0<=m:=by
    have:=(Aj.mp e0).1;rw[AB]at this;lia
   have hb:SetTable.bits h<2 ^ 64:=by
    unfold SetTable.bits;have:=Dj h (show(0:Int)<2 ^ 64 by decide);have:=DM h (show(2 ^ 64:Int)≠0 by decide);lia
   obtain⟨k',_,k2,k3⟩:=zv hm (x:=(SetTable.bits h % (m+1),SetTable.bits h)) hb hj0;obtain⟨j,ej,oj⟩:=zP (m:=m) (ow:=ow) (SetTable.turns m) (SetTable.bits h % (m+1)) (SetTable.bits h) k' (by unfold SetTable.turns;lia) (by rw[k3,<- AA];exact e0);obtain⟨VX,e1,e2,e3⟩:=ih (ow.setIfInBounds j (bn k)) (k+1) (by rw[Array.size_setIfInBounds];exact h1) (by
    rw[Array.toList_setIfInBounds];refine(uz (by rw[AA];exact oj)).trans ?_;rw[CI];exact(h2.cons k).trans (CZ k _).symm) ∅
   refine⟨VX,?_,e2,by rw[Ay,<- Cr,CG];exact e3⟩;rw[List.foldl_cons];have:(do
    let (owner,k) <- (bn (ow,k):Option (Array (Option Nat)×Nat))
    let j <- SetTable.layClean.free m owner (SetTable.turns m) (SetTable.bits h % (m+1)) (SetTable.bits h)
    pure (owner.setIfInBounds j (bn k),k+1))=bn (ow.setIfInBounds j (bn k),k+1):=by
    show(SetTable.layClean.free m ow (SetTable.turns m) (SetTable.bits h % (m+1)) (SetTable.bits h)).bind _=_;rw[ej];rfl
   rw[this,e1,Ay,<- Cr,CG]
 intro hl;obtain⟨ow,e1,e2,e3⟩:=É hs (Array.replicate (m+1) cr) 0 (by simp) (by
  have:∀n,((Av n (cr:Option Nat)).filterMap id)=[]:=λn=>by induction n<;>simp_all[List.replicate_succ]
  simp[this]) ∅
 refine⟨ow,?_,e2,by simpa using e3⟩;unfold SetTable.layClean;rw[<- Array.foldl_toList];show Option.map _ (List.foldl _ _ hs)=_;rw[e1];rfl
theorem Nw{m f mv:Nat}{ld pl:Bool}(hm:OG m)(hs:Array Int)(hl:hs.size<=m):∃(t:SetTable) (od:Array Nat),SetTable.laid m f mv ld pl hs=bn (t,od)/\t.mask=m/\t.place.size=hs.size/\t.dummies=#[]/\t.plain=pl/\t.led=ld/\od.toList.Perm (Ax hs.size):=by
 obtain⟨ow,e1,e2,e3⟩:=GL hm hs.toList (by simpa using hl);have e1:SetTable.layClean m hs=bn ow:=by simpa using e1
 have É:∀(l:O (Option Nat)) (g:Nat->Option Nat) (b:Nat),(∀j,j<l.length->l[j]?=bn (g (b+j)))->((List.range' b l.length).filterMap λj=>(g j).map (Prod.mk j)).map (·.2)=l.filterMap id:=by
  intro l
  induction l with
  |nil=>intro g b _;rfl
  |cons x l ih=>
   intro g b h;have h0:=h 0 (by simp);simp at h0;have ihh:=ih g (b+1) (λj hj=>by have:=h (j+1) (by simpa using hj);rw[List.getElem?_cons_succ]at this;rw[this];congr 2;lia);rw[Ay,List.range'_succ,Bh,Bh,<- h0];cases x with
   |none=>exact ihh
   |some y=>simp only[Ci,Bq,id];rw[ihh]
 have Pw:((Ax (m+1)).filterMap λj=>(ow.getD j cr).map (Prod.mk j)).map (·.2)=ow.toList.filterMap id:=by
  have:=É ow.toList (λj=>ow.getD j cr) 0 (λj hj=>by
   rw[AB]at hj;rw[AA,Cn,CY,AE hj];rfl)
  rw[AB,e2,<- List.range_eq_range']at this;exact this
 have À:((Ax (m+1)).filterMap λj=>(ow.getD j cr).map (Prod.mk j)).length=hs.size:=by
  have:=congrArg Dl Pw;rw[Aq,e3.length_eq,Du,AB]at this;exact this
 refine⟨_,_,by unfold SetTable.laid;rw[e1];rfl,rfl,?_,rfl,rfl,rfl,?_⟩
 .simpa using À
 .show(FO _ _).toArray.toList.Perm _;rw[Pw];simpa using e3
end L2
variable{b:Bi}{L:O AV}{h0:D9}
namespace L2
def dB(ld:Bool)(L:O db)(h0 h:im)(a:f8)(m:O PV):Prop:=∃o es ep t,h.get? a=bn o/\o.ExactSet/\o.data=.set es ep t/\OE h0 es m/\hO t es.size/\(es.size≠0->t.plain=false)/\dF m<=7/\t.led=ld/\∀e∈es.toList,e.2∈L
def dB.len{ld:Bool}{m:O PV}:dB ld L h0 h a m->∃o es ep t,h.get? a=bn o/\o.ExactSet/\o.data=.set es ep t/\t.fits es.size=true/\es.size=m.length:=λ⟨o,es,ep,t,h1,h2,h3,h4,h5,_⟩=>⟨o,es,ep,t,h1,h2,h3,h5.fits,by rw[h4.1.length];simp⟩
section
def dC.app:∀{l m:O PV}{us vs:O db},dC h l us->dC h m vs->dC h (l++m) (us++vs)
 |_,_,_,_,.nil,r=>r
 |_,_,_,_,.cons a b,r=>.cons a (b.app r)
theorem tP:∀{l:O PV}{n:Nat},(∀x∈l,x.dep<=n)->dF l<=n
 |[],n,_=>by rw[dF];lia
 |x::l,n,h=>by
  rw[dF];have:=h x (.head _);have:=tP λy hy=>h y (.tail _ hy);lia
theorem Ti{ld:Bool}{m:O PV}{Q:Bool->em->Prop}(hK:∀c o,h0.get? c=bn o->o.cls=.type "tuple"->s.heap.get? c=bn o)(hS:dB ld L h0 s.heap a m)(WG:HV h0 px (.ref b))(hbL:Value.ref b∈L)(dx:px.dep<=7)(fx:vB px=true)(hu:A.units+7 < nn)(hn:m.length < 76)(q1:px∈m->Q false s)(q2:∀h' m',A9 a s.heap h'->dB ld L h0 h' a m'->m'.Perm (px::m)->Q true {s with heap:=h'}):ga (ge prog w) A (setAddHashed a (.ref b) (cP prog w px)) Q E s:=by
 obtain⟨o,es,ep,t,ho,Ü,hd,R0,T,pl,dm,led,hL⟩:=hS;have hx:=HV.keep hK WG;have R:OE s.heap es m:=⟨dC.keep hK R0.1,R0.2⟩;have hes:es.size=m.length:=by rw[R.1.length];simp
 unfold setAddHashed setAddHashedIn;refine AZ (Aa (Bs ho hd T.fits ?_));dsimp only;have nb:byScan (.ref b) es=false:=by unfold byScan;simp[Value.scannable]
 rw[nb];simp only[An,if_false];obtain⟨N,N1,N2⟩:=meets T.TV T.le (p:=t.probeStart (cP prog w px)) (IT _ _) (by
  show SetTable.bits _<_;unfold SetTable.bits;have:=Dj (cP prog w px) (show(0:Int)<2 ^ 64 by decide);have:=DM (cP prog w px) (show(2 ^ 64:Int)≠0 by decide);lia)
 have hN:N<100000:=by
  have:SetTable.turns t.mask<=142:=by unfold SetTable.turns;rcases T.TV with h|h|h<;>lia
  lia
 refine Aa ?_;unfold setSearch;have go:=Gg (prog:=prog) (w:=w) (E:=E) (h:=cP prog w px) (adding:=true) ho hd T R dm hx dx hu (Q:=λr s'=>ga (ge prog w) A (match r with
  |.free slot Io=>do
   let (es,_,t) <- setState a
   let (t,p):=t.put slot
   let byValue <- if t.plain then hashByValue 8 (.ref b) else pure true
   let t:=if byValue then t else {t with plain:=false}
   storeSet a (SetTable.insertAt es p (cP prog w px,.ref b)) t
   if !Io&&t.tooFull then setRelay a (SetTable.grown (es.size+1))
   return true
  |x=>pure false) Q E s') (N:=N) (p0:=t.probeStart (cP prog w px)) (λr hm=>Ae (q1 hm)) (λj=>?_) N2 N1 rfl N 0 100000 cr rfl rfl (A7 _) hN
 .exact go
 .refine Aa (Bs ho hd T.fits ?_);dsimp only;have Kb:(t.put j).1.dummies=#[]:=by unfold SetTable.put;rw[T.du];simp[SetTable.has]
  have T6:(t.put j).1.place.size=es.size+1:=by
   unfold SetTable.put;dsimp only;have:=(SetTable.insertAt_perm t.place (SetTable.below t.place j) j).length_eq;simpa[T.pl]using this
  have YQ:(t.put j).1.mask=t.mask:=rfl;have cX:(t.put j).1.plain=t.plain:=rfl;have YR:(t.put j).1.led=t.led:=rfl;generalize hpt:t.put j=pt at Kb T6 YQ cX YR;obtain⟨t1,p⟩:=pt;dsimp only at Kb T6 YQ cX YR ⊢;have Ka:=SetTable.insertAt_perm es p (cP prog w px,Value.ref b);generalize afX:SetTable.insertAt es p (cP prog w px,Value.ref b)=tJ at Ka ⊢;have pf:tJ.size=es.size+1:=by have:=Ka.length_eq;simpa using this
  have fin:∀t2:SetTable,t2.mask=t.mask->t2.place.size=es.size+1->t2.dummies=#[]->t2.plain=false->t2.led=ld->ga (ge prog w) A (do
    storeSet a tJ t2
    if (!false&&t2.tooFull)=true then do
     setRelay a (SetTable.grown (es.size+1))
     pure true
    else pure true) Q E s:=λt2 k1 k2 k3 k4 k5=>by
   refine Aa (wpAny_storeSet_of ho hd ?_ (by rw[pf,hes,r9];lia));have hg:(s.heap.update a (De tJ t2)).get? a=bn {o with data:=.set tJ (ep+1) t2}:=by
    have:=A3 (De tJ t2) ho (by rw[putSet_of tJ t2 hd];rfl);rw[putSet_of tJ t2 hd]at this;exact this
   have LK:=A9.update s.heap a (De tJ t2);obtain⟨m1,r1,p1⟩:=dC.perm (Ka.map (·.2)) (l:=m++[px]) (h:=h0) (by
    rw[Dw,BL];exact dC.app R0.1 (.cons WG .nil))
   have R1:OE h0 tJ m1:=⟨r1,λe he=>by
    have:=Ka.mem_iff.mp he;rw[Dw]at this;rcases AD.mp this with h|h
    .exact R.2 e h
    .rw[Au]at h;subst h;exact⟨b,rfl⟩⟩
   have L1:∀e∈tJ.toList,e.2∈L:=λe he=>by
    have:=Ka.mem_iff.mp he;rw[Dw]at this;rcases AD.mp this with h|h
    .exact hL e h
    .rw[Au]at h;subst h;exact hbL
   have p2:m1.Perm (px::m):=p1.trans (CZ px m);have d1:dF m1<=7:=tP λx hx=>by
    rcases Aw.mp (p2.mem_iff.mp hx) with rfl|h
    .exact dx
    .exact AI (gS h) dm
   by_cases tf:t2.tooFull=true
   .rw[tf];simp only[CA,Bool.and_self,if_true];have YY:t2.fill=es.size+1:=by unfold SetTable.fill;rw[k2,k3];simp
    have Qu:=tf;unfold SetTable.tooFull at Qu;rw[YY,k1]at Qu;have Qu:=of_decide_eq_true Qu;obtain⟨mk,hmk,hsa,SE⟩:∃mk,OG mk/\SetTable.sizeAbove (SetTable.grown (es.size+1))=mk+1/\((mk=31/\es.size+1<=18)\/(mk=127/\es.size+1<=76)):=by
     rcases T.sz with h|h|h
     .have:es.size=4:=by rw[h.1]at Qu;lia
      exact⟨31,.inr (.inl rfl),by rw[this];decide,.inl ⟨rfl,by lia⟩⟩
     .have:es.size=18:=by rw[h.1]at Qu;lia
      exact⟨127,.inr (.inr rfl),by rw[this];decide,.inr ⟨rfl,by lia⟩⟩
     .rw[h.1]at Qu;lia
    refine Aa ?_;unfold setRelay;refine Aa (Bs hg rfl (by unfold SetTable.fits;rw[k2,pf,YY,k1];rcases T.sz with h|h|h<;>rw[h.1]<;>simp<;>lia) ?_);dsimp only;rw[if_neg (by rw[hsa,r9];rcases SE with h|h<;>lia)];unfold SetTable.relaid;rw[hsa,Nat.add_sub_cancel];obtain⟨t3,od,e3,a1,a2,a3,a4,a5,a6⟩:=Nw (f:=t2.finger) (mv:=t2.movedTo mk) (ld:=t2.led) (pl:=t2.plain) hmk (tJ.map (·.1)) (by rw[Fe,pf];rcases SE with h|h<;>lia);rw[e3];refine Aa ?_;show ga _ _ (ite _ _ _) _ _ _;rw[Fe]at a2 a6;have td:(EU (λx=>tJ[x]?) od).toList.Perm tJ.toList:=by
     rw[Array.toList_filterMap];exact(a6.filterMap _).trans (by rw[filterMap_getElem?_range])
    have QD:(EU (λx=>tJ[x]?) od).size=tJ.size:=by rw[<- AB,td.length_eq,AB]
    rw[if_neg (by simp only[bne_iff_ne,ne_eq,Decidable.not_not];exact QD)];refine Ae ?_;dsimp only;generalize af1:EU (λx=>tJ[x]?) od=S5 at td QD ⊢;refine wpAny_storeSet_of hg rfl ?_ (by rw[QD,pf,hes,r9];lia);have hg3:((s.heap.update a (De tJ t2)).update a (De S5 t3)).get? a=bn {o with data:=.set S5 (ep+1+1) t3}:=by
     have:=A3 (De S5 t3) hg (by rw[putSet_of S5 t3 rfl];rfl);rw[putSet_of S5 t3 rfl]at this;exact this
    have abr:=A9.update (s.heap.update a (De tJ t2)) a (De S5 t3);obtain⟨m3,r3,p3⟩:=dC.perm (td.map (·.2)) r1;refine Ae (q2 _ m3 (LK.trans abr) ⟨_,S5,_,t3,hg3,Ü,rfl,⟨r3,λe he=>R1.2 e (td.mem_iff.mp he)⟩,⟨by rw[a2,QD],a3,?_⟩,λ_=>a4.trans k4,tP λx hx=>AI (gS (p3.mem_iff.mp hx)) d1,a5.trans k5,λe he=>L1 e (td.mem_iff.mp he)⟩ (p3.trans p2));rw[a1,QD,pf];rcases SE with h|h
    .exact .inr (.inl h)
    .exact .inr (.inr h)
   .have tf:t2.tooFull=false:=by simpa using tf
    rw[tf];simp only[CB,An,if_false];refine Ae (q2 _ m1 LK ⟨_,tJ,ep+1,t2,hg,Ü,rfl,R1,⟨by rw[k2,pf],k3,?_⟩,λ_=>k4,d1,k5,L1⟩ p2);have YY:t2.fill=es.size+1:=by unfold SetTable.fill;rw[k2,k3];simp
    unfold SetTable.tooFull at tf;rw[YY,k1]at tf;have tf:=of_decide_eq_false tf;rw[k1,pf];rcases T.sz with h|h|h<;>rw[h.1]at tf ⊢ <;> lia
  have afN:(if t1.plain=true then false else false)=false:=by split<;>rfl
  by_cases c:t1.plain=true
  .rw[if_pos c];refine Aa (HV.XZ 8 ∅ fx hx _ _ _ _ rfl ?_);exact fin _ YQ T6 Kb rfl (YR.trans led)
  .rw[if_neg c];refine Aa (Ae ?_);exact fin _ YQ T6 Kb (by simpa using c) (YR.trans led)
end
end L2
variable{pl:Array AV}{tk:PySem.Tok}{I:Bi}{Up pk:Nat}{ot:Ez}
namespace L2
def me(w:t0):Bool:=w.params.followText "set-order"
section
theorem jZ:∀{l:List α}{i:Nat} (h:i<l.length),(l[i]::l.eraseIdx i).Perm l
 |[],_,h=>by simp at h
 |x::l,0,_=>.refl _
 |x::l,i+1,h=>by
  have:=jZ (l:=l) (i:=i) (by simpa using h);simp only[List.getElem_cons_succ,ED];exact(List.Perm.swap _ _ _).trans (this.cons x)
def rG{src:Source}{Q:Nat->em->Prop}(hn:n≠0)(q:∀i d,i<n->Q i {s with drawn:=d}):ga (ge prog w) A (choose src n) Q E s:=λΓ p _=>by
 unfold choose;rw[Sem.wp_choose];exact⟨hn,q _ _ (Nat.mod_lt _ (Nat.pos_of_ne_zero hn))⟩
def Og{Q:List α->em->Prop}:∀(n:Nat) (xs:List α) (s:em),xs.length=n->(∀ys dr,ys.Perm xs->Q ys {s with drawn:=dr})->ga (ge prog w) A (drawOrder n xs) Q E s:=by
 intro n
 induction n generalizing Q with
 |zero=>
  intro xs s h q;rw[EB]at h;subst h;unfold drawOrder;exact Ae (q [] s.drawn (.refl _))
 |succ n ih=>
  intro xs s h q;cases xs with
  |nil=>cases h
  |cons x xs=>
   unfold drawOrder;refine Aa ?_;refine rG (by simp) λi d hi=>?_;rw[Ai hi];refine Aa (ih _ _ (by rw[Ed hi];simpa using h) λys dr hp=>Ae (q _ _ ?_));exact(hp.cons _).trans (jZ hi)
def Iter(I a:f8)(x:db)(i n ep:Nat)(h:im):Prop:=h.get? I=bn {cls:=.type "set_iterator",data:=.fields #[x,.int i 0,.ref a,.int n 0,.int ep 0]}
def slot_next:Slot "set_iterator" "__next__" "set_iterator.__next__":=
 .of (owner:="set_iterator") (n:="__next__") (by rw[typeLookup_type,KB];kernel_rfl) (by decide +kernel) (by decide +kernel) (by decide +kernel)
  (by first|exact .inl (by decide +kernel)|exact .inr (by decide +kernel)) (by rw[wS];kernel_rfl)
def entry_next:entryFor table "set_iterator.__next__"=bn o0.«set_iterator.__next__»:=entryFor_of_tree (by kernel_rfl)
def uQ:Manifest.owners.lookup (String.ofList ['r','o','t','a','r','e','t','i','_','t','e','s'].reverse)=bn Manifest.sig_set_iterator:=by kernel_rfl
def args_next(a:db):argsOk "set_iterator.__next__" ⟨[a],[]⟩:=by
 unfold argsOk;rw[signature?_of (id:="set_iterator.__next__") (n:=['_','_','t','x','e','n','_','_']) (o:=['r','o','t','a','r','e','t','i','_','t','e','s']) (by kernel_rfl) uQ];kernel_rfl
def oW:entryFor table "set.__iter__"=bn o0.«frozenset.__iter__»:=
 entryFor_alias (id':="frozenset.__iter__") (by kernel_rfl) rfl (by decide +kernel) (by kernel_rfl)
def Nq:typeLookup (.type "set") "__len__"=pure (bn (.builtin "set.__len__")):=by rw[typeLookup_type,KB];kernel_rfl
def nK:Slot "set_iterator" "__iter__" "set_iterator.__iter__":=
 .of (owner:="set_iterator") (n:="__iter__") (by rw[typeLookup_type,KB];kernel_rfl) (by decide +kernel) (by decide +kernel) (by decide +kernel)
  (by first|exact .inl (by decide +kernel)|exact .inr (by decide +kernel)) (by rw[wS];kernel_rfl)
def vH:entryFor table "set_iterator.__iter__"=bn o0.«dict_keyiterator.__iter__»:=
 entryFor_alias (id':="dict_keyiterator.__iter__") (by kernel_rfl) rfl (by decide +kernel) (by kernel_rfl)
def yq(a:db):argsOk "set_iterator.__iter__" ⟨[a],[]⟩:=by
 unfold argsOk;rw[signature?_of (id:="set_iterator.__iter__") (n:=['_','_','r','e','t','i','_','_']) (o:=['r','o','t','a','r','e','t','i','_','t','e','s']) (by kernel_rfl) uQ];kernel_rfl
def lS(hI:Iter I a x i n ep s.heap)(q:Q (.ref I) s):ga (ge prog w) A (pyIter (.ref I)) Q E s:=by
 have hT:s.TypeIs (.ref I) "set_iterator":=⟨_,hI,rfl⟩;refine El hT nK (AU nK hT vH ?_ (yq _));show ga _ _ (ret (.ref I)) _ _ s;exact Ae ⟨_,rfl,"set_iterator",_,hT,slot_next.lookup,q⟩
def qH{sl:Nat}{nx:Nat}{Q:Option db->em->Prop}(ho:s.heap.get? a=bn o)(hd:o.data=.set es Up t)(hf:t.fits es.size=true)(hn:es.size=n)(hI:Iter I a (.int sl tk) i n ep s.heap)(st:∀(B:sB) (E':db->em->Prop) (C:Option (db×Nat)->em->Prop),C (bn (x,nx)) s->ga (ge prog w) B (setNext a sl i ep) C E' s)(q:∀h',A9 I s.heap h'->Iter I a (.int nx 0) (i+1) n ep h'->Q (bn x) {s with heap:=h'}):ga (ge prog w) A (BT (.ref I)) Q E s:=by
 have hT:s.TypeIs (.ref I) "set_iterator":=⟨_,hI,rfl⟩;unfold BT;refine Aa (Cq (AM (name:=C1 "__next__") hT slot_next (AU slot_next hT entry_next ?_ (args_next _))));refine Aa (Ae ?_);dsimp only;refine Aa (Ec hI rfl ?_);dsimp only;refine Aa (Cs ho hd hf ?_);rw[if_neg (by rw[hn];simp)];refine Aa (st _ _ _ ?_);dsimp only;refine Aa (B7 hI rfl (by simp) ?_);have h1:=A3 (Ep (·.setIfInBounds 0 (pc (nx:Int)))) hI (Cc (Bu rfl _));refine Aa (B7 h1 (Bu rfl _) (by simp) ?_);have h2:=A3 (Ep (·.setIfInBounds 1 (pc ((i:Int)+1)))) h1 (Cc (Bu (Bu rfl _) _));exact Ae ⟨_,rfl,Ae (q _ ((A9.update ..).trans (A9.update ..)) h2)⟩
def qI{sl:Nat}{Q:Option db->em->Prop}(hh:A.handled=cr)(ho:s.heap.get? a=bn o)(hd:o.data=.set es Up t)(hf:t.fits es.size=true)(hn:es.size=n)(hI:Iter I a (.int sl tk) i n ep s.heap)(st:∀(B:sB) (E':db->em->Prop) (C:Option (db×Nat)->em->Prop),C cr s->ga (ge prog w) B (setNext a sl i ep) C E' s)(q:∀h',E6 I s.heap h'->Q cr {s with heap:=h'}):ga (ge prog w) A (BT (.ref I)) Q E s:=by
 have hT:s.TypeIs (.ref I) "set_iterator":=⟨_,hI,rfl⟩;unfold BT;refine Aa (Cq (AM (name:=C1 "__next__") hT slot_next (AU slot_next hT entry_next ?_ (args_next _))));refine Aa (Ae ?_);dsimp only;refine Aa (Ec hI rfl ?_);dsimp only;refine Aa (Cs ho hd hf ?_);rw[if_neg (by rw[hn];simp)];refine Aa (st _ _ _ ?_);dsimp only;refine Aa (B7 hI rfl (by simp) ?_);show ga _ _ (newExc (.type "StopIteration") [] >>= _) _ _ _;refine Aa ?_;simp only[newExc,newTuple];refine Aa (AR ?_ (by size_fits));refine Aa (m:=firstArgMember _ _) (BW (a:=Value.none) (by first | rfl | (simp only[firstArgMember];rfl)) ?_);refine AR ?_ (by size_fits);simp only[raiseNew];refine Aa (Fm ?_);rw[show A.in1.handled=cr from hh];refine Aa (Ae (wpAny_throw ?_));refine Aa (BH (T:="StopIteration") (b:=true) ⟨_,Al _ rfl,rfl⟩ zn ?_);exact Ae (q _ (((A9.update ..).extBut.push _).push _))
def xh{tp:f8}{hx:Int}{Q:Option db->em->Prop}(ho:s.heap.get? a=bn o)(hd:o.data=.set es ep t)(hf:t.fits es.size=true)(hn:es.size=n)(hI:Iter I a (.ref tp) i n ep s.heap)(ht:s.heap.get? tp=bn ot)(Kb:ot.data=.seq pl pk)(hp:pl[i]?=bn (.int (k:Int) tk))(he:es[k]?=bn (hx,x))(q:∀h',A9 I s.heap h'->Iter I a (.ref tp) (i+1) n ep h'->Q (bn x) {s with heap:=h'}):ga (ge prog w) A (BT (.ref I)) Q E s:=by
 have hT:s.TypeIs (.ref I) "set_iterator":=⟨_,hI,rfl⟩;unfold BT;refine Aa (Cq (AM (name:=C1 "__next__") hT slot_next (AU slot_next hT entry_next ?_ (args_next _))));refine Aa (Ae ?_);dsimp only;refine Aa (Ec hI rfl ?_);dsimp only;refine Aa (Cs ho hd hf ?_);rw[if_neg (by rw[hn];simp)];refine Aa (Bj ht Kb ?_);dsimp only;rw[show((i:Int)).toNat=i from rfl,hp];dsimp only;refine Aa ?_;unfold setNextDrawn;refine Aa (Bs ho hd hf ?_);dsimp only;rw[if_neg (by simp)];rw[show((k:Int)).toNat=k from rfl,he];refine Ae ?_;refine Aa (B7 hI rfl (by simp) ?_);have h2:=A3 (Ep (·.setIfInBounds 1 (pc ((i:Int)+1)))) hI (Cc (Bu rfl _));exact Ae ⟨_,rfl,Ae (q _ (A9.update ..) h2)⟩
def uY{tp:f8}{Q:Option db->em->Prop}(hh:A.handled=cr)(ho:s.heap.get? a=bn o)(hd:o.data=.set es ep t)(hf:t.fits es.size=true)(hn:es.size=n)(hI:Iter I a (.ref tp) i n ep s.heap)(ht:s.heap.get? tp=bn ot)(Kb:ot.data=.seq pl pk)(hp:pl[i]?=cr)(q:∀h',E6 I s.heap h'->Q cr {s with heap:=h'}):ga (ge prog w) A (BT (.ref I)) Q E s:=by
 have hT:s.TypeIs (.ref I) "set_iterator":=⟨_,hI,rfl⟩;unfold BT;refine Aa (Cq (AM (name:=C1 "__next__") hT slot_next (AU slot_next hT entry_next ?_ (args_next _))));refine Aa (Ae ?_);dsimp only;refine Aa (Ec hI rfl ?_);dsimp only;refine Aa (Cs ho hd hf ?_);rw[if_neg (by rw[hn];simp)];refine Aa (Bj ht Kb ?_);dsimp only;rw[show((i:Int)).toNat=i from rfl,hp];dsimp only;refine Aa (B7 hI rfl (by simp) ?_);have h1:=A3 (Ep (·.setIfInBounds 0 (pc 0))) hI (Cc (Bu rfl _));refine Aa (B7 h1 (Bu rfl _) (by simp) ?_);show ga _ _ (newExc (.type "StopIteration") [] >>= _) _ _ _;refine Aa ?_;simp only[newExc,newTuple];refine Aa (AR ?_ (by size_fits));refine Aa (m:=firstArgMember _ _) (BW (a:=Value.none) (by first | rfl | (simp only[firstArgMember];rfl)) ?_);refine AR ?_ (by size_fits);simp only[raiseNew];refine Aa (Fm ?_);rw[show A.in1.handled=cr from hh];refine Aa (Ae (wpAny_throw ?_));refine Aa (BH (T:="StopIteration") (b:=true) ⟨_,Al _ rfl,rfl⟩ zn ?_);exact Ae (q _ ((((A9.update ..).trans (A9.update ..)).extBut.push _).push _))
end
def wu(z:Str):Str:=⟨placed z λ_ c=>Unicode.upperOf c⟩
def Ip(z:Str):Prop:=Builtin.Str.tooLong (wu z).cps.size=false/\(wu z).length<=sizeLine
def Q5:V->O V->Hp->VK->Prop:=λx vs H Q=>∃z,x=.str z/\vs=[]/\Ip z/\Q (.str (wu z)) H
def JI:FY X "str.upper" Q5:=by
 intro U s σ H x vs v us Q I rx rv h;obtain⟨z,rfl,rfl,hz,q⟩:=h;obtain⟨t,rfl⟩:=rx;cases rv;refine ss F.slot_str_upper (typeIs_str _ _ _) F.entry_str_upper (F.args_str_upper_1 _) (gives_str_upper z t hz.1).meets ?_;exact⟨hz.2,⟨.str _,H,I.tok _,⟨_,rfl⟩,q⟩⟩
end L2
namespace FL
section
variable[cu]
def upW(x:PV):W PV:=match x with
 |.str z=>.gm (Ip z) (.ret (.str (wu z)))
 |_=>.fail
def N7{K:Ab}{o:lc}{w:W PV}(hK:X.K=K)(ho:EF X K fs o w)(d7:‹sK o "upper" X.env (r6 o X.env)=r6 o X.env›)(d6:‹OP Â bW›):EF X K fs (.Call (.Attribute o "upper" Â) [] [] bW) (.bind w upW):=
 ⟨PE.imp (zc K hK PySem.F.plainAttrs_str PySem.F.slot_str_upper PySem.F.type_str_upper JI ho.p d7 d6) λσ H Q ⟨sr,q⟩=>⟨sr,w.mono (λx q1 u1 H1 g1 s1 v1=>by
  cases v1<;>first|exact q1.elim|skip
  exact⟨rfl,_,rfl,rfl,q1.1,q1.2 _ H1 g1 s1 (.str _)⟩) q⟩⟩
end
section
variable[cu]
def xc{i j:Int}:of2 (aI g) (.int i) (.int j)=.ret (g i j):=Gc λQ=>⟨DV,λq=>⟨rfl,q⟩⟩
def sA{C:Int->Int->Prop}{i j:Int}:of2 (Uu C g) (.int i) (.int j)=.gm (C i j) (.ret (g i j)):=Gc λQ=>⟨λq=>⟨q.1,q.2.2⟩,λq=>⟨q.1,rfl,q.2⟩⟩
section
variable(i j:Int)(a b:Bool)(x y:PV)(l m:O PV)(s t:Str)
@[simp] theorem acg:of2 RB (.int i) (.int j)=.ret (.int (i-j)):=xc
@[simp] theorem S3:of2 RC (.int i) (.int j)=.gm (Fk i j) (.ret (.int (i*j))):=sA
@[simp] theorem S4:of2 oMod (.int i) (.int j)=.gm (0<j) (.ret (.int (i % j))):=sA
@[simp] theorem KJ:of2 M9 (.int i) (.int j)=.gm (LB i j) (.ret (.int (i ^ j.toNat))):=sA
@[simp] theorem KO:of2 oLt (.int i) (.int j)=.ret (.bl (decide (i<j))):=xc
@[simp] theorem Xu:of2 oGe (.int i) (.int j)=.ret (.bl (decide (j<=i))):=xc
def oU:of2 gF x y=.gm (Hm x y) (.ret (.bl (ez x y))):=Gc λQ=>⟨λq=>⟨q.1,q.2.2⟩,λq=>⟨q.1,rfl,q.2⟩⟩
def PR:of2 Gy x y=.gm (Hm x y) (.ret (.bl (!ez x y))):=Gc λQ=>⟨λq=>⟨q.1,q.2.2⟩,λq=>⟨q.1,rfl,q.2⟩⟩
@[simp] theorem acn:of2 aaQ (.bl a) (.bl b)=.ret (.bl (a==b)):=Gc λQ=>⟨DV,λq=>⟨rfl,q⟩⟩
@[simp] theorem qY:of2 eO (.bl a) (.bl b)=.ret (.bl (!(a==b))):=Gc λQ=>⟨DV,λq=>⟨rfl,q⟩⟩
@[simp] theorem acm:of2 Jx x .az=.ret (.bl x.jB):=Gc λQ=>⟨DV,λq=>⟨rfl,q⟩⟩
@[simp] theorem N4:of2 zg x .az=.ret (.bl (!x.jB)):=Gc λQ=>⟨DV,λq=>⟨rfl,q⟩⟩
@[simp] theorem kK:addW (.int i) (.int j)=.ret (.int (i+j)):=(rfl)
@[simp] theorem Zw:addW (.str s) (.str t)=.gm (s.length+t.length<=sizeLine) (.ret (.str (s++t))):=(rfl)
@[simp] theorem Zv:addW (.tup l) (.tup m)=.gm (l.length+m.length<=sizeLine) (.ret (.tup (l++m))):=(rfl)
@[simp] theorem xT:GB (.int i)=.ret (.int (-i)):=(rfl)
@[simp] theorem df:P9 (.bl a)=.ret a:=(rfl)
@[simp] theorem Ul(w:W PV):Lb (.bl true) w=w:=(rfl)
@[simp] theorem Um(w:W PV):Lb (.bl false) w=.ret (.bl false):=(rfl)
@[simp] theorem N6(w:W PV):Ow (.bl true) w=w:=(rfl)
@[simp] theorem Zu(w:W PV):Ow (.bl false) w=.ret (.bl false):=(rfl)
@[simp] theorem aci:RE (.bl a)=.ret (.bl (!a)):=(rfl)
@[simp] theorem eV:fk (.bl a)=.ret a:=(rfl)
@[simp] theorem Zc:fk (.int i)=.ret (i != 0):=(rfl)
@[simp] theorem Zb:fk .az=.ret false:=(rfl)
@[simp] theorem Za:fk (.tup l)=.ret (!l.isEmpty):=(rfl)
@[simp] theorem Zd:fk (.cl l)=.ret (!l.isEmpty):=(rfl)
@[simp] theorem bg:aF (.tup l)=.ret l:=(rfl)
@[simp] theorem cO:aF (.cl l)=.ret l:=(rfl)
@[simp] theorem nv:sD (.cl l)=.ret l:=(rfl)
@[simp] theorem KP:mQ l (.int i)=.Wd (kZ l i):=(rfl)
@[simp] theorem ack:Nr l=.ret (.int l.length):=(rfl)
@[simp] theorem acf:nH l=.ret (.tup l):=(rfl)
@[simp] theorem adO:Us a=.ret (.bl a):=(rfl)
@[simp] theorem eW:part (.int i)=.ret (bn i):=(rfl)
@[simp] theorem S0:pq (.tup [x,y])=.ret (x,y):=(rfl)
@[simp] theorem ace(z:PV):U3 (.tup [x,y,z])=.ret (x,y,z):=(rfl)
@[simp] theorem acd(z u:PV):TK (.tup [x,y,z,u])=.ret (x,y,z,u):=(rfl)
@[simp] theorem Zr(k:Kd):fJ k (.int i)=.ret (.bl (k.is (.int i))):=(rfl)
@[simp] theorem Zp(k:Kd):fJ k (.str s)=.ret (.bl (k.is (.str s))):=(rfl)
@[simp] theorem tI(k:Kd):fJ k (.tup l)=.ret (.bl (k.is (.tup l))):=(rfl)
@[simp] theorem Zs(k:Kd):fJ k (.cl l)=.ret (.bl (k.is (.cl l))):=(rfl)
@[simp] theorem Zt(k:Kd):fJ k (.bl a)=.ret (.bl (k.is (.bl a))):=(rfl)
@[simp] theorem Zq(k:Kd):fJ k .az=.ret (.bl (k.is .az)):=(rfl)
@[simp] theorem eX:Pa jq [.tup l]=.ret (.int l.length):=Gc λQ=>⟨DV,λq=>⟨rfl,q⟩⟩
@[simp] theorem zQ:Pa jq [.cl l]=.ret (.int l.length):=Gc λQ=>⟨DV,λq=>⟨rfl,q⟩⟩
@[simp] theorem Ze:Pa jq [.str s]=.gm (s.length<=sizeLine) (.ret (.int s.length)):=Gc λQ=>⟨λq=>⟨q.1,q.2.2⟩,λq=>⟨q.1,rfl,q.2⟩⟩
@[simp] theorem jS(p q:Option Int):mJ (.tup l) p q=.ret (.tup (bz l p q)):=(rfl)
@[simp] theorem zR:JR (.int i)=.ret (.inl i):=(rfl)
@[simp] theorem Zf:JR (.str s)=.ret (.inr s):=(rfl)
@[simp] theorem ja:mj (.int j)=.gm (okN 0 j) (.ret (iA 0 j.toNat)):=(rfl)
@[simp] theorem KL:rZ (l++[x])=.ret (l,x):=by unfold rZ;simp
@[simp] theorem ach:aaw l (.int i)=.gm (-(2 ^ 63)<=i/\i<2 ^ 63/\l.length*i.toNat<=sizeLine) (.ret (Av i.toNat l).flatten):=(rfl)
@[simp] theorem Zl:Kd.is .int (.int i)=true:=(rfl)
@[simp] theorem Zm:Kd.is .int (.bl a)=true:=(rfl)
@[simp] theorem Zo:Kd.is .bool (.bl a)=true:=(rfl)
@[simp] theorem Zn:Kd.is .bool (.int i)=false:=(rfl)
@[simp] theorem Zj:Kd.is .str (.str s)=true:=(rfl)
@[simp] theorem zS:Kd.is .str (.tup l)=false:=(rfl)
@[simp] theorem Zk:Kd.is .str (.int i)=false:=(rfl)
@[simp] theorem N5:Kd.is .tup (.tup l)=true:=(rfl)
@[simp] theorem Zg:Kd.is .tup (.str s)=false:=(rfl)
@[simp] theorem Zh:Kd.is .tup (.int i)=false:=(rfl)
@[simp] theorem Zi:Kd.is .tup (.bl a)=false:=(rfl)
def lX{m:Int}{Q:PV->Prop}(h:∀d:Int,0<=d->d<m->Q (.int d)):(drawn m).run Q:=λv ⟨d,e,h0,h1⟩=>e▸h d h0 h1
end
namespace W
variable{α β:Type}
def le(a b:W α):Prop:=∀Q,b.run Q->a.run Q
def le.refl(a:W α):a.le a:=λ_ h=>h
def le.trans{a b c:W α}(h:a.le b)(g:b.le c):a.le c:=λQ q=>h Q (g Q q)
def le.ret{a:W α}{v:α}{f:α->W β}{b:W β}(h:a.le (.ret v))(hf:(f v).le b):(a.bind f).le b:=λQ q=>h _ (hf Q q)
def le.use{a:W α}{v:α}{Q:α->Prop}(h:a.le (.ret v))(q:Q v):a.run Q:=h _ q
end W
section
variable{S R:Type}
@[simp] theorem Xf(s:S)(f:PV->S->W S):dw [] s f=.ret s:=(rfl)
@[simp] theorem Ug(x:PV)(r:O PV)(s:S)(f:PV->S->W S):dw (x::r) s f=.bind (f x s) λs'=>dw r s' f:=(rfl)
theorem oK{f:PV->S->W S}{Q:S->Prop}(I:O PV->S->Prop):∀{l:O PV}{s:S},I l s->(∀x r s,I (x::r) s->(f x s).run (I r))->(∀s,I [] s->Q s)->(dw l s f).run Q
 |[],s,h0,_,he=>he s h0
 |x::r,s,h0,hs,he=>(f x s).mono (λs' h=>oK I h hs he) (hs x r s h0)
theorem vC{f:PV->S->W (Lp S R)}{Q:Lp S R->Prop}(I:O PV->S->Prop):∀{l:O PV}{s:S},I l s->(∀x r s,I (x::r) s->(f x s).run λo=>match o with|.go s'=>I r s'|.out t=>Q (.out t))->(∀s,I [] s->Q (.go s))->(FL.oO l s f).run Q
 |[],s,h0,_,he=>he s h0
 |x::r,s,h0,hs,he=>(f x s).mono (λo h=>match o,h with
  |.go s',h=>vC I h hs he
  |.out t,h=>h) (hs x r s h0)
theorem gR{f:PV->S->W S}{Q:S->Prop}(I:Nat->S->Prop){s:S}(h0:I 0 s)(hs:∀(i:Nat) (x:PV) s,l[i]?=bn x->I i s->(f x s).run (I (i+1)))(he:∀s,I l.length s->Q s):(dw l s f).run Q:=by
 refine oK (λr s=>∃i,i<=l.length/\r=l.drop i/\I i s) ⟨0,A7 _,rfl,h0⟩ (λx r s ⟨i,hi,e,h⟩=>?_) (λs ⟨i,hi,e,h⟩=>?_)
 .have gr:i<l.length:=by
   rcases Nat.lt_or_ge i l.length with h|h
   .exact h
   .rw[EN h]at e;cases e
  rw[BM gr]at e;injection e with e1 e2;subst e1;exact(f _ s).mono (λs' h'=>⟨i+1,gr,e2,h'⟩) (hs i _ s (Ai gr) h)
 .have:i=l.length:=by
   have:=congrArg Dl e;rw[Br]at this;simp at this;lia
  subst this;exact he s h
theorem N3{f:PV->S->W (Lp S R)}{Q:Lp S R->Prop}(I:Nat->S->Prop){s:S}(h0:I 0 s)(hs:∀(i:Nat) (x:PV) s,l[i]?=bn x->I i s->(f x s).run λo=>match o with|.go s'=>I (i+1) s'|.out t=>Q (.out t))(he:∀s,I l.length s->Q (.go s)):(FL.oO l s f).run Q:=by
 refine vC (λr s=>∃i,i<=l.length/\r=l.drop i/\I i s) ⟨0,A7 _,rfl,h0⟩ (λx r s ⟨i,hi,e,h⟩=>?_) (λs ⟨i,hi,e,h⟩=>?_)
 .have gr:i<l.length:=by
   rcases Nat.lt_or_ge i l.length with h|h
   .exact h
   .rw[EN h]at e;cases e
  rw[BM gr]at e;injection e with e1 e2;subst e1;exact(f _ s).mono (λo h'=>match o,h' with
   |.go s',h'=>⟨i+1,gr,e2,h'⟩
   |.out t,h'=>h') (hs i _ s (Ai gr) h)
 .have:i=l.length:=by
   have:=congrArg Dl e;simp at this;lia
  subst this;exact he s h
def oM{f:PV->S->W S}{Q:S->Prop}(I:Nat->S->Prop){s:S}(h0:I 0 s)(hs:∀(i:Nat) s,i<n->I i s->(f (.int (i:Int)) s).run (I (i+1)))(he:∀s,I n s->Q s):(dw (iA 0 n) s f).run Q:=
 gR I h0 (λi x s hx h=>by obtain⟨hi,rfl⟩:=lT hx;rw[FA];exact hs i s hi h) (λs h=>he s (by rw[iZ]at h;exact h))
def Kx{f:PV->S->W (Lp S R)}{Q:Lp S R->Prop}(I:Nat->S->Prop){s:S}(h0:I 0 s)(hs:∀(i:Nat) s,i<n->I i s->(f (.int (i:Int)) s).run λo=>match o with|.go s'=>I (i+1) s'|.out t=>Q (.out t))(he:∀s,I n s->Q (.go s)):(FL.oO (iA 0 n) s f).run Q:=
 N3 I h0 (λi x s hx h=>by obtain⟨hi,rfl⟩:=lT hx;rw[FA];exact hs i s hi h) (λs h=>he s (by rw[iZ]at h;exact h))
theorem gs{c:S->W Bool}{b:S->W S}{Q:S->Prop}(I:Nat->S->Prop){s:S}(h0:I n s)(hs:∀n s,I n s->(c s).run λk=>if k=true then (b s).run (λs'=>∃m,m<n/\I m s') else Q s):(lj c b s).run Q:=by
 refine⟨n+1,?_⟩;have:∀k n s,n<k->I n s->(gw c b k s).run Q:=by
  intro k
  induction k with
  |zero=>intro n s h;lia
  |succ k ih=>
   intro n s hn h;refine(c s).mono (λz q=>?_) (hs n s h);cases z with
   |true=>exact(b s).mono (λs' ⟨m,hm,h'⟩=>ih m s' ∅ h') (q)
   |false=>exact q
 exact this (n+1) n s ∅ h0
theorem zr{g:PV->PV}:∀{l:O PV},(∀x∈l,(f x).le (.ret (g x)))->(bU l f).le (.ret (l.map g))
 |[],_=>W.le.refl _
 |x::r,h=>W.le.ret (h x (.head _)) (W.le.ret (zr λy hy=>h y (.tail _ hy)) (W.le.refl _))
theorem gJ{g:PV->PV}:∀{l:O PV},(∀x∈l,f x=.ret (g x))->bU l f=.ret (l.map g)
 |[],_=>rfl
 |x::r,h=>by
  show ca (f x) (λy=>ca (bU r f) λl=>ci (y::l))=_;rw[h x (.head _),gJ λy hy=>h y (.tail _ hy)];rfl
theorem oA{f:PV->W (Option PV)}{g:PV->Option PV}:∀{l:O PV},(∀x∈l,f x=.ret (g x))->kc l f=.ret (l.filterMap g)
 |[],_=>rfl
 |x::r,h=>by
  show ca (f x) (λo=>ca (kc r f) λl=>ci (o.toList++l))=_;rw[h x (.head _),oA λy hy=>h y (.tail _ hy),Bh];cases g x<;>rfl
end
section
variable(i j:Int)(a b:Bool)(x y:PV)(l m:O PV)(s t:Str)
@[simp] theorem PM:ez (.int i) (.int j)=(i==j):=by rw[ez]
@[simp] theorem Xm:ez (.str s) (.str t)=(s==t):=by rw[ez]
@[simp] theorem PN:ez (.bl a) (.bl b)=(a==b):=by rw[ez]
@[simp] theorem adJ:ez (.tup l) (.tup m)=cJ l m:=by rw[ez]
@[simp] theorem adK:ez (.cl l) (.cl m)=cJ l m:=by rw[ez]
@[simp] theorem ab6:cJ [] []=true:=by rw[cJ]
@[simp] theorem ab5:cJ (x::l) (y::m)=(ez x y&&cJ l m):=by rw[cJ]
@[simp] theorem Y7:PV.de (.int i)=true:=by rw[PV.de]<;>simp
@[simp] theorem ab4:PV.de (.bl a)=true:=by rw[PV.de]<;>simp
@[simp] theorem Y5:PV.de (.str s)=true:=by rw[PV.de]<;>simp
@[simp] theorem Y6:PV.de .az=true:=by rw[PV.de]<;>simp
@[simp] theorem Y4:PV.de (.tup l)=cB l:=by rw[PV.de]
@[simp] theorem ab3:PV.de (.cl l)=cB l:=by rw[PV.de]
@[simp] theorem Xj:cB []=true:=by rw[cB]
@[simp] theorem Uh:cB (x::l)=(PV.de x&&cB l):=by rw[cB]
@[simp] theorem Xq:PV.bb (.int i)=0:=by rw[PV.bb]<;>simp
@[simp] theorem Y9:PV.bb (.bl a)=0:=by rw[PV.bb]<;>simp
@[simp] theorem Xo:PV.bb (.str s)=0:=by rw[PV.bb]<;>simp
@[simp] theorem Xp:PV.bb .az=0:=by rw[PV.bb]<;>simp
@[simp] theorem Xn:PV.bb (.tup l)=aK l+1:=by rw[PV.bb]
@[simp] theorem Y8:PV.bb (.cl l)=aK l+1:=by rw[PV.bb]
@[simp] theorem Uj:aK []=0:=by rw[aK]
@[simp] theorem SW:aK (x::l)=max (PV.bb x) (aK l):=by rw[aK]
def vG:Hm (.int i) (.int j):=⟨by simp,by simp,by simp⟩
@[simp] theorem lV:of2 gF (.int i) (.int j)=.ret (.bl (i==j)):=by rw[oU,sw (vG i j),PM]
@[simp] theorem KN:of2 Gy (.int i) (.int j)=.ret (.bl (!(i==j))):=by rw[PR,sw (vG i j),PM]
@[simp] theorem aco:of2 gF (.bl a) (.bl b)=.ret (.bl (a==b)):=by rw[oU,sw ⟨by simp,by simp,by simp⟩,PN]
@[simp] theorem acj:of2 Gy (.bl a) (.bl b)=.ret (.bl (!(a==b))):=by rw[PR,sw ⟨by simp,by simp,by simp⟩,PN]
end
theorem d8:∀{l:O PV},cB l=true↔∀x∈l,PV.de x=true
 |[]=>by simp
 |x::l=>by rw[cB,AH,d8];simp
theorem kJ:∀{l:O PV},(∀x∈l,PV.bb x<=n)->aK l<=n
 |[],_=>by simp
 |x::l,h=>by
  have h1:=h x (.head _);have h2:=kJ λy hy=>h y (.tail _ hy);rw[aK];lia
instance (priority:=10) aey:cu:=⟨[]⟩
end
end FL
variable{x y0:B0}{p:Cu}
namespace FL
section
variable[cu]
structure EV where
 P:pr
 w:t0
 K:Ab
 mg:Str->Option db
 base:im
structure DF where
 x:Str
 s:u8
 ps:List Str
 k:Nat
 sp:Ab->Sp
abbrev DF.C(d:DF)(v:EV):=LA v.P v.w v.K v.mg v.base d.x d.k d.ps (d.sp v.K)
structure DI(v:EV)(d:DF) where
 f:f8
 fd:FuncData
 fn:OJ v.K d.x d.x d.s f fd
 bi:Binds v.K fd d.ps []
 at':v.mg d.x=bn (.ref f)
abbrev DI.O{v:EV}{d:DF}(D:DI v d):Prop:=js v.P v.w v.K v.mg v.base v9 d.k D.f D.fd d.ps (d.sp v.K)
def DI.c{v:EV}{d:DF}(D:DI v d)(h:D.O):d.C v:=⟨D.f,D.fd,h,D.bi,D.fn.kp,D.at'⟩
def DI.cN{v:EV}{d:DF}(D:DI v d)(h:js v.P v.w v.K v.mg v.base v9 k D.f D.fd d.ps sp):LA v.P v.w v.K v.mg v.base d.x k d.ps sp:=⟨D.f,D.fd,h,D.bi,D.fn.kp,D.at'⟩
structure DX(K:Ab)(x:Str)(st:u8):Prop where
 ex:∃f fd,AY K gt x=bn (bn (.ref f))/\OJ K x x st f fd
abbrev dnm(s:u8):Str:=match s with
 |.FunctionDef x _ _ _ _ _ _ _ _ _=>x
 |_=>""
def dx{K:Ab}{st:u8}{f:f8}{kV:db}(a:AY K gt x=bn (bn (.ref f)))(l:K.lookup f=bn ⟨oc,od,.func (BS x x (dX st) (ck st) (aB st) .none kV Ç pm an ek ct),M0⟩)(c:D1 K ek x=true)(k:DW K (.ref f)=true):DX K x st:=⟨f,_,a,SS l c k⟩
def Xd{N P:O Str}(h1:‹sc.kind=.function›)(h2:‹sc.isCoroutine=false›)(h3:‹sc.isGenerator=false›)(h4:N.Nodup:=by decide +kernel)(h5:‹N.take P.length=P›)(h6:∀x∈P,sc.names.lookup x=bn .local\/sc.names.lookup x=bn .cell:=by decide +kernel)(h7:∀y∈sc.names,y.2≠.free:=by decide +kernel):dZ N P sc:=⟨h1,h2,h3,h4,h5,h6,h7⟩
def lcs{N:O Str}(h1:‹sc.kind=.function›)(h2:∀y∈sc.names,y.2=.cell->sc.names.lookup y.1=bn .cell:=by decide +kernel)(h3:∀y∈sc.names,y.2=.local->sc.names.lookup y.1=bn .local:=by decide +kernel)(h4:∀y∈sc.names,y.2=.free->(Xs.names.lookup y.1=bn .cell\/Xs.names.lookup y.1=bn .free):=by decide +kernel)(h5:N'.Nodup:=by decide +kernel)(h6:‹ix.length=N'.length›)(h7:((ix.zip N').all λp=>match p.1 with|none=>true|some j=>decide (N[j]?=bn p.2)&&decide (sc.names.lookup p.2=bn .free))=true:=by decide +kernel):bh Xs N sc N' ix:=⟨h1,h2,h3,h4,h5,h6,h7⟩
abbrev qL(l:O (Str×v0)):ul:={kind:=.function,names:=(C1 ".0",.local)::l,isGenerator:=false,isCoroutine:=false,more:=[]}
abbrev lo:v0:=.local
abbrev gi:v0:=.globalImplicit
abbrev fr:v0:=.free
def uW:O AK->Nat
 |[]=>0
 |.p _ _::ks=>uW ks+1
 |_::ks=>uW ks
theorem kn:∀{ks:O AK}{i:Nat},ks[i]?=bn (.p ψ d)->uW ks≠0
 |[],i,h=>by simp at h
 |.p _ _::_,_,_=>Nat.succ_ne_zero _
 |.v::ks,0,h=>by simp at h
 |.f _ _ _ _::ks,0,h=>by simp at h
 |.v::ks,i+1,h=>kn (ks:=ks) (by simpa using h)
 |.f _ _ _ _::ks,i+1,h=>kn (ks:=ks) (i:=i) (by simpa using h)
theorem su:∀{ks:O AK},Nat.ble (uW ks) 1=true->mV ks
 |[],_=>M7
 |.v::ks,h=>V4 (su (ks:=ks) h)
 |.f _ _ _ _::ks,h=>V6 (su (ks:=ks) h)
 |.p _ _::ks,h=>λi j ⟨φ,d,a⟩ ⟨ψ,d',b⟩=>by
  have z:uW ks+1<=1:=CT h;cases i with|succ i=>exact absurd ∅ (kn (ks:=ks) (by simpa using a))|zero=>cases j with|succ j=>exact absurd ∅ (kn (ks:=ks) (by simpa using b))|zero=>rfl
abbrev zi(st:u8):O Str:=((aB st).names.filter λy=>y.2==.local||y.2==.cell).map (·.1)
abbrev Gu(st:u8):O Str:=(dX st).args.map (·.arg)
abbrev nml(sc:ul):O Str:=((sc.names.tail.filter λy=>y.2==.local||y.2==.cell)++sc.names.filter λy=>y.2==.free).map (·.1)
abbrev ixl(N:O Str)(sc:ul):O (Option Nat):=((sc.names.tail.filter λy=>y.2==.local||y.2==.cell).map λ_=>cr)++(sc.names.filter λy=>y.2==.free).map λy=>bn (N.idxOf y.1)
abbrev LS(st:u8)(sc:ul):Prop:=bh (aB st) (zi st) sc (nml sc) (ixl (zi st) sc)
def TV:Nat->aH->aH
 |_,[]=>[]
 |n,s::l=>(match n % 2 with|0=>s|_=>cr)::TV (n / 2) l
theorem cZ.m:∀(n:Nat) {fs:aH},cZ fs (TV n fs)
 |_,[]=>.refl _
 |n,s::l=>by
  unfold TV
  split
  .exact .keep (cZ.m _)
  .exact .drop (cZ.m _)
def HU:(n:Nat)->(O PV->W R->Prop)->wg R n->Prop
 |0,B,m=>B [] m
 |n+1,B,m=>∀x:PV,HU n (λl w=>B (x::l) w) (m x)
theorem HU.all:∀{n:Nat}{B:O PV->W R->Prop}{m:wg R n},HU n B m->∀l,l.length=n->B l (rJ n m l)
 |0,_,_,h,[],_=>h
 |n+1,_,_,h,x::l,e=>HU.all (h x) l (Nat.succ.inj e)
section
variable{v:EV}{st:u8}
abbrev BB{T:Type}(v:EV)(x:Str)(st:u8)(k:Nat)(ks:O AK)(f:f8)(n:Nat)(m:wg T n)(o:T->End):Prop:=∀{j:Nat}{ek:db}{A:sB}{outer:O Env}{s:em}{H:Hp}{E:XK},cY k (A.deeper (FM x (aB st) s.heap.objs.size f ek))->(zi st).Nodup->HU n (λl w=>SF (qb v9 v.P v.w v.K v.mg v.base (zi st) x (aB st) f ek A outer s H E).Pb v.K false (o9 j ks l (zi st).length) (ck st) w o) m
abbrev BP{T:Type}(v:EV)(x:Str)(st:u8)(k:Nat)(ks:O AK)(f:f8)(n:Nat)(m:wg T n)(o:T->End):Prop:=∀{ek:db}{A:sB}{outer:O Env}{s:em}{H:Hp}{E:XK} (j:Nat),cY k (A.deeper (FM x (aB st) s.heap.objs.size f ek))->(zi st).Nodup->HU n (λl w=>SF (qb v9 v.P v.w v.K v.mg v.base (zi st) x (aB st) f ek A outer s H E).Pb v.K false (o9 j ks l (zi st).length) (ck st) w o) m
def pA{m:wg PV n}(D:DI v ⟨x,st,Gu st,k+1,λK=>Ga K ks (rJ n m)⟩)(Í:BB v x st k ks D.f n m .rt)(NU:‹ks.length=(Gu st).length›)(one:‹Nat.ble (uW ks) 1=true›)(S:dZ (zi st) (Gu st) (aB st):=by exact Xd):D.O:=fnV D.fn S NU (su one) λj l e ek A outer s H E hr=>(Í hr S.nd).all l e
def Nk{m:wg (O PV) n}(D:DI v ⟨x,st,Gu st,k+1,λK=>F9 K ks (rJ n m)⟩)(Í:BB v x st k ks D.f n m .rl)(NU:‹ks.length=(Gu st).length›)(one:‹Nat.ble (uW ks) 1=true›)(S:dZ (zi st) (Gu st) (aB st):=by exact Xd):D.O:=fnL D.fn S NU (su one) λj l e ek A outer s H E hr=>(Í hr S.nd).all l e
def Wl{m:wg PV n}(D:DI v ⟨x,st,Gu st,k+1,λK=>Ga K ks (rJ n m)⟩)(Í:BP v x st k ks D.f n m .rt)(NU:‹ks.length=(Gu st).length›)(one:‹Nat.ble (uW ks) 1=true›)(S:dZ (zi st) (Gu st) (aB st):=by exact Xd):D.O:=pA D (λ{j _ _ _ _ _ _}=>Í j) NU one S
end
section
variable{K:Ab}{es:O lc}{W':W PV}{WL:W (O PV)}
theorem eC{m:O PV->W PV}(G:LA X.prog X.w X.K X.mg X.base x k ps (Ga K ks m))(hr:cY k' X.A)(ha:AF X K fs (e::es) ks B f1)(hk:k<=k':=by first|exact CT rfl|exact Am _|lia)(hg:‹Gl X x›)(hW:‹W'=B m›)(jO: ~~~(iM x))(he:‹hV X e es›)(cX:‹kb X pos es›):EF X K fs (.Call (.Name x p) (e::es) [] pos) W' f1:=Oc G hr hk hg ha hW jO he cX
theorem lC{m:O PV->W (O PV)}{B:(O PV->W (O PV))->W (O PV)}(G:LA X.prog X.w X.K X.mg X.base x k ps (F9 K ks m))(hr:cY k' X.A)(ha:AF X K fs (e::es) ks B f1)(hk:k<=k':=by first|exact CT rfl|exact Am _|lia)(hg:‹Gl X x›)(hW:‹WL=B m›)(jO: ~~~(iM x))(he:‹hV X e es›)(cX:‹kb X pos es›):LF X K fs (.Call (.Name x p) (e::es) [] pos) WL f1:=Nx G hr hk hg ha hW jO he cX
variable{n0 mx:Nat}
theorem eP(i:Nat){m:O PV->W PV}(G:LA X.prog X.w X.K X.mg X.base x k ps (Ga K (.p ψ d::ks) m))(hr:cY k' X.A)(ha:AF X K fs es ks B f1)(hs:‹fs[i]?=bn (bn (.dI ψ n0 mx))›)(s9:‹f1[i]?=bn (bn (.dI ψ n mx))›)(hd:n+d<=mx:=by omega)(hk:k<=k':=by first|exact CT rfl|exact Am _|lia)(hg:‹Gl X x›)(hW:‹W'=B m›)(jO: ~~~(iM x))(hN:‹X.N[i]?=bn y0›)(hv:FV X.env.scope y0:=by first|exact Ca rfl|exact B3 (Ca rfl)|exact B3 (B3 rfl))(é: ~~~(iM y0))(iC: ~~~(HQ y0))(he:‹ii (.Name y0 py::es) X.env=(false,r6 (.Name y0 py) X.env)::ii es X.env›)(cX:‹kb X pos es›):EF X K fs (.Call (.Name x p) (.Name y0 py::es) [] pos) W' (f1.set i (bn (.dI ψ (n+d) mx))):=hW▸Od i G hr hk hg hs ha s9 hd jO hN hv é iC he cX
def eN(i:Nat)(hN:X.N.Nodup)(hi:‹X.N[i]?=bn x›)(hx:Loc X.env.scope x:=by first|exact .inl rfl|exact .inr rfl)(hf:LX X x:=by first|exact .inl rfl|exact .inr rfl|assumption):PG X (.Name x pos) (cD i):=MK hN hi hx hf
variable{T:Type}{out:T->End}{b:Bool}{rest:O u8}
def sv(i:Nat){k:PV->W T}(hN:X.N.Nodup)(he:EF X K fs e we f1)(hr:∀v,SF X K b (f1.set i (bn (.val v))) rest (k v) out)(hi:‹X.N[i]?=bn y›)(hx:Loc X.env.scope y:=by first|exact .inl rfl|exact .inr rfl)(hs:‹sn e (bn (.Name y p')) pos.line X.env=pure false›)(hf:LX X y:=by first|exact .inl rfl|exact .inr rfl|assumption):SF X K b fs (.Assign [.Name y p'] e pos::rest) (.bind we k) out:=SF.set hN hi hx he hr hs hf
def sl(i:Nat){k:O PV->W T}(hN:X.N.Nodup)(he:LF X K fs e wl f1)(hr:∀l,SF X K b (f1.set i (bn (.ol cr l))) rest (k l) out)(hi:‹X.N[i]?=bn y›)(hx:Loc X.env.scope y:=by first|exact .inl rfl|exact .inr rfl)(hs:‹sn e (bn (.Name y p')) pos.line X.env=pure false›)(hf:LX X y:=by first|exact .inl rfl|exact .inr rfl|assumption):SF X K b fs (.Assign [.Name y p'] e pos::rest) (.bind wl k) out:=SF.aaq hN hi hx he hr hs hf
end
end
end FL
variable{m:PL.PV->FL.W PL.PV}{d:FL.DF}
namespace FL
section
variable[cu]
def Yi:(n:Nat)->(O db->Prop)->Prop
 |0,P=>P []
 |n+1,P=>∀x,Yi n λl=>P (x::l)
theorem usN:∀{n:Nat}{P:O db->Prop},Yi n P->∀us:O db,us.length=n->P us
 |0,_,h,[],_=>h
 |n+1,_,h,x::l,e=>usN (h x) l (Nat.succ.inj e)
def DX.mk2{v:EV}(D:DX v.K d.x d.s)(X:v.K.In h)(G:h.Ns gt v.mg)(hb:∀(kV Ç pm:db) (an:Option f8) (ek ct:db) (us:O db),us.length=d.ps.length->bindArgs (BS d.x d.x (dX d.s) (ck d.s) (aB d.s) .none kV Ç pm an ek ct) ⟨us,[]⟩=pure (d.ps.zip us):=by exact λ_ _ _ _ _ _=>usN (by (repeat intro _);rfl)):Nonempty (DI v d):=by
 obtain⟨f,fd,a,F⟩:=D.ex;exact⟨⟨f,fd,F,F.binds hb,CM X G a⟩⟩
def DX.go{v:EV}(D:DX v.K d.x d.s)(X:v.K.In h)(G:h.Ns gt v.mg){P:Prop}(k:∀D:DI v d,D.O)(r:d.C v->P)(hb:∀(kV Ç pm:db) (an:Option f8) (ek ct:db) (us:O db),us.length=d.ps.length->bindArgs (BS d.x d.x (dX d.s) (ck d.s) (aB d.s) .none kV Ç pm an ek ct) ⟨us,[]⟩=pure (d.ps.zip us):=by exact λ_ _ _ _ _ _=>usN (by (repeat intro _);rfl)):P:=by
 obtain⟨D⟩:=D.mk2 X G hb;exact r (D.c (k D))
def IE(K:Ab):Sp:=λvs H Q _=>TB H/\∃(a:f8) (ns:O Int),vs=[.ref a]/\Ly K H a (ns.map V.int)/\ns.length<=63/\∀H',Q (.bl true) H'
def Nu{K:Ab}(ok:∀ns:O Int,ns.length<=63->(m (.cl (ns.map PV.int))).run (·=.bl true)):∀vs H Q E,IE K vs H Q E->Ga K [.v] (rJ 1 m) vs H Q E:=λvs H Q E ⟨tb,a,ns,e,fz,hl,q⟩=>by
 subst e;refine⟨tb,0,[.cl (ns.map PV.int)],.v (.cl fz (zF _ _ ns)) .nil,(m (.cl (ns.map PV.int))).mono (λv e u H' _ r=>?_) (ok ns hl)⟩;subst e;cases r;exact q H'
structure Yj(K:Ab)(mg:Str->Option db)(d:DF):Prop where
 f:∀v:EV,v.K=K->v.mg=mg->∀D:DI v d,D.O
def mkAll{l:PySem.W.OpenLaw}{K:Ab}{fa:f8}{st:u8}(ok:∀ns:O Int,ns.length<=63->(m (.cl (ns.map PV.int))).run (·=.bl true))(X:K.In h)(G:h.Ns gt mg)(hfa:mg "law"=bn (.ref fa))(XA:DX K "law" st)(hb:∀(kV Ç pm:db) (an:Option f8) (ek ct:db) (us:O db),us.length=1->bindArgs (BS "law" "law" (dX st) (ck st) (aB st) .none kV Ç pm an ek ct) ⟨us,[]⟩=pure (([("_law_script":Str)]:O Str).zip us))(F:Yj K mg ⟨"law",st,["_law_script"],k,λK=>Ga K [.v] (rJ 1 m)⟩):∃fd:FuncData,(∀(s:em) (v:db),BindsTo s fd ⟨[v],[]⟩ [("_law_script",v)])/\∀base:im,K.In base->base.Ns gt mg->js l.prog w K mg base v9 k fa fd ["_law_script"] (IE K):=by
 obtain⟨f,fd,a,F'⟩:=XA.ex;have e:=hfa.symm.trans (CM X G a);cases e;obtain⟨oc,od,kV,Ç,pm,an,ek,ct,M0,rfl,_⟩:=id F'.ex;exact⟨BS "law" "law" (dX st) (ck st) (aB st) .none kV Ç pm an ek ct,λs v=>.of_eq (hb kV Ç pm an ek ct [v] rfl),λbase _ _=>(F.f ⟨l.prog,w,K,mg,base⟩ rfl rfl ⟨_,_,F',(F'.binds (ps:=["_law_script"]) hb),hfa⟩).imp (Nu ok)⟩
section
variable{K:Ab}{es:O lc}{R:Type}{B:(O PV->W R)->W R}
def av(i:Nat){v:PV}(hr:AF X K fs es ks B f1)(hs:‹fs[i]?=bn (bn (.val v))›)(hN:‹X.N[i]?=bn x›)(hv:FV X.env.scope x:=by first|exact Ca rfl|exact B3 (Ca rfl)|exact B3 (B3 rfl))(hd: ~~~(iM x))(iC: ~~~(HQ x))(h:‹ii (.Name x pos::es) X.env=(false,r6 (.Name x pos) X.env)::ii es X.env›):AF X K fs (.Name x pos::es) (.v::ks) (λk=>.bind (.ret v) λx=>B λl=>k (x::l)) f1:=aa (ag i hs hN hv hd iC) hr h
end
end
section
variable[cu]
structure Lm where
 q:Str
 ar:Arguments
 bd:lc
 sc:ul
end
end FL
variable{o:Option L2.HO}{ts:O Bi}{ns:O Int}
namespace L2
def wF(ts:O f8)(a:f8)(o:Option HO):Hp:=λb=>if b∈ts then bn (.uu #[]) else if b=a then o else cr
def Iz(h:b∈ts):wF ts a o b=bn (.uu #[]):=if_pos h
def Qv(h:a∉ts):wF ts a o a=o:=by unfold wF;rw[if_neg h,if_pos rfl]
def kf{u:HO}(h:wF ts a o b=bn u):(b∈ts/\u=.uu #[])\/(b=a/\o=bn u):=by
 unfold wF at h;by_cases c:b∈ts
 .rw[if_pos c]at h;cases h;exact .inl ⟨c,rfl⟩
 .rw[if_neg c]at h;by_cases d:b=a
  .rw[if_pos d]at h;exact .inr ⟨d,h⟩
  .rw[if_neg d]at h;cases h
def GN{K:Ab}{mb:Str->Option db}{fa:f8}{s₁:em}(KX:K.In s₁.heap)(ï:s₁.heap.Ns gt mg)(hb:s₁.heap.Ns FS mb)(hbb:∀x:Str,x≠"__name__"->mb x=pi x)(abB:s₁.heap.NoLimit)(hbm:∃bm ob,mg "__builtins__"=bn (.ref bm)/\bm≠FS/\s₁.heap.get? bm=bn ob/\ob.cls=.type "module"/\ob.dict=bn FS/\ob.data=.plain)(hg:s₁.gens=#[])(ha:s₁.heap.get? a=bn {cls:=.type "list",data:=.seq vs.toArray})(hi:IntsAre vs ns)(hl:ns.length<=sizeLine)(hr:cY k callerA)(ht:∀P∈ts,s₁.heap.get? P=bn (E3 #[]))(htK:∀P∈ts,K.lookup P=cr)(htC:∀P∈ts,isCodeTable s₁.heap P)(F:∀base:im,K.In base->base.Ns gt mg->js P w K mg base v9 k fa fd [x] sp)(W6:∀(s:em) (u:db),BindsTo s fd ⟨[u],[]⟩ [(x,u)])(T4:∀H:Hp,(∀P∈ts,H P=bn (.uu #[]))->PL.Ly K H a (ns.map V.int)->sp [.ref a] H (λv _=>v=.bl true) λ_ _ _=>False):FB (ge P w) callerA (.call (.ref fa) ⟨[.ref a],[]⟩) (λr s'=>r=.ok (.ret (.bool true))/\OldK s₁.heap s'.heap/\s'.os=s₁.os/\IR s'.gens) s₁:=by
 have rv:=qp hi;have aa1:=hi.length;have core:∀H:Hp,(∀P∈ts,H P=bn (.uu #[]))->PL.Ly K H a (ns.map V.int)->lg P w H s₁.heap->(∀b o,H b=bn o->(b∈ts/\o=.uu #[])\/(b=a/\K.lookup a=cr/\∃o' u,o=.dj o' u))->
   FB (ge P w) callerA (.call (.ref fa) ⟨[.ref a],[]⟩) (λr s'=>r=.ok (.ret (.bool true))/\OldK s₁.heap s'.heap/\s'.os=s₁.os/\IR s'.gens) s₁:=by
  intro H hT hS bC hA;have tV:∀{b:f8}{o:Obj},s₁.heap.get? b=bn o->H b=cr->(tq s₁.heap H).get? b=bn o:=λe n=>Kj e n;have Wf:∀{b:f8}{o:Obj}{es:Array Db}{ep:Nat},s₁.heap.get? b=bn o->o.data=.dict es ep->H b=cr:=λ{b o es ep} e d=>by
   cases q:H b with
   |none=>rfl
   |some u=>
    rcases hA b u q with⟨z,_⟩|⟨z,_⟩
    .rw[ht b z]at e;cases e;cases d
    .subst z;rw[ha]at e;cases e;cases d
  have YH:∀{b:f8}{m:Str->Option db},s₁.heap.Ns b m->(tq s₁.heap H).Ns b m:=λ{b m} ⟨o,es,ep,e,d,r⟩=>⟨o,es,ep,tV e (Wf e d),d,r⟩;have hKb:K.In (tq s₁.heap H):=λb o e=>tV (KX b o e) (by
   cases q:H b with
   |none=>rfl
   |some u=>
    rcases hA b u q with⟨z,_⟩|⟨z,z2,_⟩
    .rw[htK b z]at e;cases e
    .subst z;rw[z2]at e;cases e)
  have hM:Mod K mg (tq s₁.heap H):=⟨hKb,YH ï,⟨mb,YH hb,hbb⟩,let ⟨mc,h1,h2⟩:=abB;⟨mc,YH h1,h2⟩,let ⟨bm,ob,h1,h2,h3,h4,h5,h6⟩:=hbm;⟨bm,ob,h1,h2,tV h3 (by
   cases q:H bm with
   |none=>rfl
   |some u=>
    rcases hA bm u q with⟨z,_⟩|⟨z,_⟩
    .rw[ht bm z]at h3;cases h3;cases h6
    .subst z;rw[ha]at h3;cases h3;cases h6),h4,h5,h6⟩⟩
  have e0:OK P w K mg (tq s₁.heap H) callerA [] s₁ H:=⟨rfl,hM,λb o e=>M8 e,Nat.le_of_eq (Ha _ _),trivial,λb hb=>absurd (show b∈([]:O f8) from hb) (by simp),bC,.of_eq hg⟩;refine wf ((F _ hKb (YH ï)).run callerA [] s₁ H ⟨[.ref a],[]⟩ [.ref a] [.ref a] _ _ hr e0 (W6 s₁ (.ref a)) (.cons rfl .nil) (T4 H hT hS)) λr s' h=>?_;cases r with
  |error e=>exact h.elim
  |ok fl=>
   cases fl with
   |next=>exact BR h
   |brk=>exact BR h
   |cont=>exact BR h
   |ret u=>
    obtain⟨v,H',os,bare,un,WO,r',q⟩:=h;have q':v=.bl true:=q;subst q';obtain rfl:u=Value.bool true:=r';refine⟨rfl,⟨λb o e=>?_,λb o e=>un.there b o e (by simp)⟩,os,bare⟩;cases q:H b with
    |none=>exact .inl (un.keep b o e q (by intro z;exact absurd (show b∈([]:O f8) from z) (by simp)) (by simp))
    |some u=>
     rcases hA b u q with⟨z,rfl⟩|⟨z,_,o',u',rfl⟩
     .obtain⟨more,h2⟩:=un.rN b _ q;have h3:s'.heap.get? b=bn (E3 (#[]++more)):=WO b _ h2;rw[ht b z]at e;cases e;exact .inr (.inl ⟨htC b z,rfl,#[],more,rfl,h3⟩)
     .have z2:=un.tG b _ _ q;obtain⟨e1,_⟩:=bC b _ q;obtain⟨e2,_⟩:=WO b _ z2;rw[e]at e1;cases e1;exact .inl e2
 have naT:a∉ts:=λz=>by rw[ht a z]at ha;cases ha
 cases hk:K.lookup a with
 |some o=>
  have e:=KX a o hk;rw[ha]at e;cases e;refine core (wF ts a cr) (λb hb=>Iz hb) (.inr ⟨_,vs.toArray,_,hk,rfl,rfl,rfl,by rw[Ah,aa1];exact hl,by simpa using rv⟩) (λb u z=>?_) λb u z=>?_
  .rcases kf z with⟨y,rfl⟩|⟨_,y⟩
   .exact ht b y
   .cases y
  .rcases kf z with⟨y,rfl⟩|⟨_,y⟩
   .exact .inl ⟨y,rfl⟩
   .cases y
 |none=>
  refine core (wF ts a (bn (.dj {cls:=.type "list",data:=.seq vs.toArray} (.lst (ns.map V.int))))) (λb hb=>Iz hb) (.inl ⟨{cls:=.type "list",data:=.seq vs.toArray},Qv naT⟩) (λb u z=>?_) λb u z=>?_
  .rcases kf z with⟨y,rfl⟩|⟨rfl,y⟩
   .exact ht b y
   .cases y;exact⟨ha,by rw[Aq];exact hl,vs,_,rv,ha⟩
  .rcases kf z with⟨y,rfl⟩|⟨rfl,y⟩
   .exact .inl ⟨y,rfl⟩
   .cases y;exact .inr ⟨rfl,hk,_,_,rfl⟩
end L2
namespace FL
section
variable[cu]
abbrev EV.at(v:EV)(b:im):EV:=⟨v.P,v.w,v.K,v.mg,b⟩
def walkT{l:PySem.W.OpenLaw}{q:pr}{d:DefRec}{K:Params->Ab}(hn:l.most=bn 63)(ö:d.params.defaults=[])(hr:cY k callerA)(hY:∀(w:t0) (h:im),YP w h->(K w.params).In h/\∀P∈cu.ts.map (·.1),h.get? P=bn (E3 #[]))(hK:∀w:t0,∀P∈cu.ts.map (·.1),(K w.params).lookup P=cr)(hC:∀(w:t0) (h:im),(K w.params).In h->∀P∈cu.ts.map (·.1),isCodeTable h P)(F:∀(w:t0) (mg:Str->Option db) (fa:f8) (h:im),(K w.params).In h->h.Ns gt mg->mg d.name=bn (.ref fa)->
   ∃fd:FuncData,(∀(s:em) (u:db),BindsTo s fd ⟨[u],[]⟩ [("_law_script",u)])/\∀base:im,(K w.params).In base->base.Ns gt mg->js l.prog w (K w.params) mg base v9 k fa fd ["_law_script"] (IE (K w.params))):PySem.W.WalkO q Ô XP YP l.row.toRowW d [] (λf vs=>PySem.call f vs):=by
 refine Att.vU hn ö λw s₀ s₁ mg mb fa o pm cd Ç a vs ns G Y ho hd iC hmg Sq Õ À hg=>?_;obtain⟨KX,hT⟩:=hY w _ Y;obtain⟨fd,hb,hF⟩:=F w mg fa _ KX G.T.g hmg;exact GN KX G.T.g G.T.b G.T.builtins G.T.nolimit G.T.bmain hg Sq Õ (AI À ⋯) hr hT (hK w) (hC w _ KX) hF hb λH hT' hS=>⟨λp hp=>⟨#[],hT' _ (Bf.mpr ⟨p,hp,rfl⟩),trivial,λpos c z=>by simp[codeAmong]at z⟩,a,ns,rfl,hS,À,λ_=>rfl⟩
end
end FL
variable{m:O PL.PV}
namespace L2
inductive Ad:List PV->List PV->Prop
 |nil:Ad [] []
 |old {l m:List PV}{x:PV} (h:Ad l m) (e:x∈m):Ad (l++[x]) m
 |new {l m m':List PV}{x:PV} (h:Ad l m) (p:m'.Perm (x::m)):Ad (l++[x]) m'
theorem Ad.len(h:Ad l m):m.length<=l.length:=by
 induction h with
 |nil=>exact Am _
 |old _ _ ih=>rw[Ag];lia
 |new _ p ih=>rw[Ag,p.length_eq];simpa using ih
def Ad.mem(h:Ad l m):∀x,x∈m↔x∈l:=by
 induction h with
 |nil=>intro x;exact Iff.rfl
 |old _ e ih=>
  intro y;rw[AD,Au,ih];exact⟨.inl,λh=>h.elim id λq=>by subst q;exact(ih _).mp e⟩
 |new _ p ih=>
  intro y;rw[p.mem_iff,Aw,AD,Au,ih];exact or_comm
theorem Ad.nd(h:Ad l m):l.Nodup->m.Perm l:=by
 induction h with
 |nil=>intro _;exact .refl _
 |old h e ih=>
  intro nd;exact absurd ((h.mem _).mp e) (λq=>(En.mp nd).2.2 _ q _ (Au.mpr rfl) rfl)
 |new h p ih=>
  intro nd;exact p.trans (((ih (En.mp nd).1).cons _).trans (CZ _ _).symm)
def kD:PV->Bool
 |.tup l=>decide ((PV.tup l).dep<=7)&&vB (.tup l)
 |_=>false
section
variable{prog:pr}{w:t0}{A:sB}{R:Result->em->Prop}{I:f8}{fp wr:O f8}{G:Array GenState->Array GenState->Prop}{n:Nat}{P:Nat->db->Prop}{St:Nat->em->Prop}
def HV.ref{h:im}{x:PV}{v:db}(k:kD x=true)(r:HV h x v):∃b,v=.ref b/\x.dep<=7/\vB x=true:=by
 cases r with
 |str _ _=>cases k
 |int _ _=>cases k
 |tup e c d r=>
  unfold kD at k;simp only[AH,decide_eq_true_eq]at k;exact⟨_,rfl,k.1,k.2⟩
theorem qx{ld:Bool}(W:WalksS prog w A.in1 I fp wr G n P St)(S:f8)(LP:S∉fp)(l:O PV)(hl:l.length=n)(J8:∀i v,P i v->v∈L/\∃x,l[i]?=bn x/\kD x=true/\HV h0 x v)(hb:n < 70)(hu:A.units+20 < nn)(hwr:∀c o,h0.get? c=bn o->o.cls=.type "tuple"->c≠S/\c∉wr):∀(k i:Nat) (s:em) (m:O PV),n-i=k->i<=n->St i s->(∀c o,h0.get? c=bn o->o.cls=.type "tuple"->s.heap.get? c=bn o)->dB ld L h0 s.heap S m->Ad (l.take i) m->(∀s' m',Moved (S::wr) G s s'->dB ld L h0 s'.heap S m'->Ad l m'->R (.ok (.ret .none)) s')->FB (ge prog w) A (.builtin "set.update.loop" ⟨[.ref S,.ref I],[]⟩) R s:=by
 have hSw:S∉wr:=λh=>LP (W.sub _ h);have G6:∀b∈wr,b∈S::wr:=λb hb=>AN _ hb;have kp:∀{s s':em},Moved wr G s s'->(∀c o,h0.get? c=bn o->o.cls=.type "tuple"->s.heap.get? c=bn o)->∀c o,h0.get? c=bn o->o.cls=.type "tuple"->s'.heap.get? c=bn o:=λhm h c o e t=>hm.heap c o (hwr c o e t).2 (h c o e t);have kS:∀{s s':em}{m:O PV},Moved wr G s s'->dB ld L h0 s.heap S m->dB ld L h0 s'.heap S m:=λhm ⟨o,es,ep,t,h1,h2⟩=>⟨o,es,ep,t,hm.heap S _ hSw h1,h2⟩;intro k
 induction k with
 |zero=>
  intro i s m hk hi wc hK hS hA hR;have nr:i=n:=by lia
  subst nr;refine wv C5 ?_;rw[Cm BE _];show ga _ A.in1 (BT (.ref I) >>= _) _ _ s;refine Aa (W.done s _ _ wc λs' hm=>?_);show ga _ A.in1 (ret Value.none) _ _ s';exact Ae (hR s' m (hm.mono G6) (kS hm hS) (by rw[Dq ∅]at hA;exact hA))
 |succ k ih=>
  intro i s m hk hi wc hK hS hA hR;have gr:i<n:=by lia
  refine wv C5 ?_;rw[Cm BE _];show ga _ A.in1 (BT (.ref I) >>= _) _ _ s;refine Aa (W.item i s _ _ gr wc λv s' hP WJ hm=>?_);obtain⟨vL,x,ex,kx,rx⟩:=J8 i v hP;obtain⟨b,rfl,dx,fx⟩:=rx.ref kx;show ga _ A.in1 (EQ [Value.ref b] (setAdd S (.ref b)) >>= _) _ _ s';refine Aa (AZ ?_);unfold setAdd;refine AZ ?_;have hu1:A.in1.units+7<nn:=by show A.units+1+7<nn;lia
  refine Aa ((HV.keep (kp hm hK) rx).hash _ _ _ _ ∅ rfl λtk Sm=>?_);have â:l.take (i+1)=l.take i++[x]:=by rw[List.take_add_one,ex];rfl
  have al:=hA.len;refine Ti (s:={s' with toks:=tk}) (h0:=h0) (m:=m) (show ∀c o,h0.get? c=bn o->o.cls=.type "tuple"->s'.heap.get? c=bn o from kp (s':=s') hm hK) (kS (s':=s') hm hS) rx vL dx fx hu1 (by have:=List.length_take_le i l;lia) (λSx=>?_) (λh' m' LK hS2 hp=>?_)
  .refine Ae ⟨xz BE _,ih (i+1) _ m ∅ gr (W.frame _ s' _ _ WJ Sm λb _ o e=>e) (kp (s':=s') hm hK) (kS (s':=s') hm hS) (by rw[â];exact .old hA Sx) λMo æ Sw SN=>?_⟩;exact hR Mo æ (Moved.trans W.gtrans ((hm.mono G6).then_heap Sm λb o hb e=>e) Sw) SN
  .refine Ae ⟨xz BE _,ih (i+1) _ m' ∅ gr (W.frame _ s' _ _ WJ Sm λb hb o e=>?_) (λc o e t=>?_) hS2 (by rw[â];exact .new hA hp) λMo æ Sw SN=>?_⟩
   .rw[LK.2 b (λh:b=S=>LP (by rw[<- h];exact hb))];exact e
   .rw[LK.2 c (hwr c o e t).1];exact kp hm hK c o e t
   .refine hR Mo æ (Moved.trans W.gtrans ((hm.mono G6).then_heap Sm λb o hb e=>?_) Sw) SN;rw[LK.2 b (λh:b=S=>hb (by rw[h];exact Bo))];exact e
end
section
def mO(w:t0):Bool:=!(w.params.followText "set-order")
def qZ(a:db){Q₁:db->em->Prop}(h:Q₁ (.ref s.heap.objs.size) {s with heap:=s.heap.push {cls:=.type "set",dict:=cr,data:=.set #[] 0 (.fresh 0 0 (mO w))}}):FB (ge prog w) A (.call (.builtin "set.__new__") ⟨[.type "set",a],[]⟩) (wants Q₁ E) s:=by
 refine codeAny_of_tree ?_;show ga _ A.in1 (do checkBuiltinCall "set.__new__" ⟨[.type "set",a],[]⟩;again (.builtin "set.__new__" ⟨[.type "set",a],[]⟩)) _ _ s;refine Aa (BW (PySem.F.newCall_set_1 a) (Ae ⟨xz EZ _,wv PySem.F.entry_set_new ?_⟩));rw[Cm EZ _];unfold o0.«set.__new__» Builtin.Frozenset.newClass;have G6:=sub_set_self;obtain⟨hp,g,d,tk,os⟩:=s;dsimp only
 wp_walk
 refine Cv (Ae ?_);dsimp only;simp only[newObj];refine Aa (wpAny_alloc (Ae ?_));exact Ae h
set_option maxHeartbeats 3200000 in
theorem yh{l:f8}{items:Array db}{ps:O PV}{Q:db->em->Prop}(hh:A.handled=cr)(hl:s.heap.IsTuple l items)(hi:dC s.heap ps items.toList)(ñ:ps.all kD=true)(hb:items.size<70)(hu:A.units+40<nn)(h:∀(h':im) (tk:Nat),(∃m,dB (mO w) items.toList s.heap h' s.heap.objs.size m/\Ad ps m)->
   (∀b o,b < s.heap.objs.size->s.heap.get? b=bn o->h'.get? b=bn o)->Q (.ref s.heap.objs.size) {s with heap:=h',toks:=tk}):ga (ge prog w) A (call (.type "set") [.ref l]) Q E s:=by
 obtain⟨c,tl,abz⟩:=AJ.mro;have WR:=AJ.made;have G6:=AJ.sub;refine wpAny_call (codeAny_of_tree ?_);show ga _ _ (callAny (.type "set") _) _ _ _;refine Ae ⟨Code.quiet_builtin _ (by decide +kernel),wv Ex ?_⟩;rw[Fv (weight_type_call_type "set" [.ref l] []) rfl];have h1:=AJ.notType;have h2:=AJ.canCreate;have hct:=EI (.ref l)
 repeat (any_goals (first|assumption|wp_step))
 refine wf (qZ (.ref l) (E:=E) (Q₁:=λobj s₁=>∃led:Bool,led=mO w/\obj=.ref s.heap.objs.size/\s₁={s with heap:=s.heap.push {cls:=.type "set",dict:=cr,data:=.set #[] 0 (.fresh 0 0 led)}}) ⟨_,rfl,rfl,rfl⟩) λr s₁ hr=>?_;cases r with
 |error e=>exact hr
 |ok fl=>
  cases fl with
  |ret obj=>
   obtain⟨led,Sz,rfl,rfl⟩:=hr;have hS:(s.heap.push {cls:=.type "set",dict:=cr,data:=.set #[] 0 (.fresh 0 0 led)}).get? s.heap.objs.size=bn {cls:=.type "set",dict:=cr,data:=.set #[] 0 (.fresh 0 0 led)}:=Al _ rfl;have hT:Fi {s with heap:=s.heap.push {cls:=.type "set",dict:=cr,data:=.set #[] 0 (.fresh 0 0 led)}} (.ref s.heap.objs.size) "set":=⟨_,hS,rfl⟩;have hli:=AJ.init.lookup;have hbi:=AJ.init.bind (.ref s.heap.objs.size)
   repeat (any_goals (first|assumption|wp_step))
   refine wf (codeAny_call_builtin (R:=wants (λr s₂=>r=.none/\∃h' tk,s₂={s with heap:=h',toks:=tk}/\
     (∃m,dB (mO w) items.toList s.heap h' s.heap.objs.size m/\Ad ps m)/\
     (∀b o,b<s.heap.objs.size->s.heap.get? b=bn o->h'.get? b=bn o)) E) AJ.init.plain EJ (check_set_init_1 hT ?_)) λr₂ s₂ oG=>?_
   .obtain⟨ol,WN,W5,nl,W3⟩:=hl;obtain⟨aaP,Ju,We,w6⟩:=ol;simp only at W5 W3;subst W5;subst W3;have Kc:(s.heap.push {cls:=.type "set",dict:=cr,data:=.set #[] 0 (.fresh 0 0 led)}).get? l=bn {cls:=.type "tuple",dict:=Ju,data:=.seq items nl,slots:=w6}:=Af _ WN;have abp:=PySem.F.sub_tuple_set;have abq:=PySem.F.sub_tuple_frozenset;have uf:(Value.type "tuple"==Value.type "dict")=false:=by decide
    have WV:(s.heap.push {cls:=.type "set",dict:=cr,data:=.set #[] 0 (.fresh 0 0 led)}).IsTuple l items:=⟨_,Kc,rfl,nl,rfl⟩;unfold o0.«set.__init__» noKeywords Builtin.Frozenset.updateFrom;generalize hPI:pyIter=PI
    wp_walk
    subst hPI;refine Dg WV ?_;refine Aa (E9 ?_);have WU:l<s.heap.objs.size:=Ak WN;have ó:A.in1.in1.in1.handled=cr:=by simp[hh]
    have Ss:l≠(s.heap.push {cls:=.type "set",dict:=cr,data:=.set #[] 0 (.fresh 0 0 led)}).objs.size:=by
     rw[A1];exact Ar (Be WU)
    have LP:s.heap.objs.size∉[(s.heap.push {cls:=.type "set",dict:=cr,data:=.set #[] 0 (.fresh 0 0 led)}).objs.size,l]:=by
     rw[A1];simp only[Aw,Au,Bk,or_false,not_or];exact⟨Ar (C4 _),DU WU⟩
    have í:ps.length=items.size:=by rw[hi.length,AB]
    have J8:∀(i:Nat) (v:db),items[i]?=bn v->v∈items.toList/\∃x,ps[i]?=bn x/\kD x=true/\HV s.heap x v:=λi v hv=>by
     obtain⟨x,e,r⟩:=hi.get (j:=i) (v:=v) (by rw[AA];exact hv);exact⟨Ao (by rw[AA];exact hv),x,e,AG.mp ñ x (Ao e),r⟩
    refine qx (ld:=mO w) (L:=items.toList) ((Walks.tuple ó _ l Ss items).toS) s.heap.objs.size LP (h0:=s.heap) ps í J8 hb ?hU (λc o e t=>⟨Ar (Ak e),?hC⟩) (items.size-0) 0 _ [] ∅ (A7 _) ⟨⟨_,Al _ rfl,rfl,rfl⟩,?hI⟩ ?hK0 ?PF (by simpa using Ad.nil) ?hR
    case hU=>show A.units+1+1+20<nn;lia
    case hC=>
     rw[Au,A1];exact Ar (Be (Ak e))
    case hK0=>exact λc o e _=>Af _ (Af _ e)
    case hI=>exact⟨_,Af _ Kc,rfl,nl,rfl⟩
    case PF=>
     have SD:((s.heap.push {cls:=.type "set",dict:=cr,data:=.set #[] 0 (.fresh 0 0 led)}).push {cls:=.type "tuple_iterator",data:=.fields #[.ref l,.int 0 0]}).get? s.heap.objs.size
       = bn {cls:=.type "set",dict:=cr,data:=.set #[] 0 (.fresh 0 0 led)}:=Af _ hS
     exact⟨_,#[],0,_,SD,⟨rfl,rfl,rfl⟩,rfl,⟨.nil,λe he=>by simp at he⟩,⟨rfl,rfl,.inl ⟨rfl,by simp⟩⟩,λz=>(z rfl).elim,by rw[dF];lia,Sz,λe he=>by simp at he⟩
    case hR=>
     intro s' m' hm Ia hA';obtain⟨h',g',d',Qs,VY⟩:=s';have eg:g'=s.gens:=hm.gens;have ed:d'=s.drawn:=hm.drawn;have eo:VY=s.os:=hm.os;subst eg;subst ed;subst eo;show ga _ _ _ _ _ _;refine Ae ?_;show ga _ _ (ret Value.none) _ _ _;refine Ae ⟨rfl,h',Qs,rfl,⟨m',Ia,hA'⟩,λb o hb e=>?_⟩;have ú:b≠s.heap.objs.size:=Ar hb;have ù:b≠(s.heap.push {cls:=.type "set",dict:=cr,data:=.set #[] 0 (.fresh 0 0 led)}).objs.size:=by
      rw[A1];exact Ar (Be hb)
     exact hm.heap b o (by simp only[Aw,Au,Bk,or_false,not_or];exact⟨ú,ù⟩) (Af _ (Af _ e))
   .cases r₂ with
    |error e=>exact oG
    |ok Ky=>
     cases Ky with
     |ret r=>
      obtain⟨rfl,h',tk,rfl,Ia,Px⟩:=oG
      repeat (any_goals (first|assumption|wp_step))
      exact h _ _ Ia Px
     |_=>exact oG
  |_=>exact hr
set_option maxHeartbeats 3200000 in
theorem yi{l:f8}{items:Array db}{ps:O PV}{Q:db->em->Prop}(hh:A.handled=cr)(hl:s.heap.IsList l items)(hi:dC s.heap ps items.toList)(ñ:ps.all kD=true)(hb:items.size<70)(hu:A.units+40<nn)(h:∀(h':im) (tk:Nat),(∃m,dB (mO w) items.toList s.heap h' s.heap.objs.size m/\Ad ps m)->
   (∀b o,b < s.heap.objs.size->s.heap.get? b=bn o->h'.get? b=bn o)->Q (.ref s.heap.objs.size) {s with heap:=h',toks:=tk}):ga (ge prog w) A (call (.type "set") [.ref l]) Q E s:=by
 obtain⟨c,tl,abz⟩:=AJ.mro;have WR:=AJ.made;have G6:=AJ.sub;refine wpAny_call (codeAny_of_tree ?_);show ga _ _ (callAny (.type "set") _) _ _ _;refine Ae ⟨Code.quiet_builtin _ (by decide +kernel),wv Ex ?_⟩;rw[Fv (weight_type_call_type "set" [.ref l] []) rfl];have h1:=AJ.notType;have h2:=AJ.canCreate;have hct:=EI (.ref l)
 repeat (any_goals (first|assumption|wp_step))
 refine wf (qZ (.ref l) (E:=E) (Q₁:=λobj s₁=>∃led:Bool,led=mO w/\obj=.ref s.heap.objs.size/\s₁={s with heap:=s.heap.push {cls:=.type "set",dict:=cr,data:=.set #[] 0 (.fresh 0 0 led)}}) ⟨_,rfl,rfl,rfl⟩) λr s₁ hr=>?_;cases r with
 |error e=>exact hr
 |ok fl=>
  cases fl with
  |ret obj=>
   obtain⟨led,Sz,rfl,rfl⟩:=hr;have hS:(s.heap.push {cls:=.type "set",dict:=cr,data:=.set #[] 0 (.fresh 0 0 led)}).get? s.heap.objs.size=bn {cls:=.type "set",dict:=cr,data:=.set #[] 0 (.fresh 0 0 led)}:=Al _ rfl;have hT:Fi {s with heap:=s.heap.push {cls:=.type "set",dict:=cr,data:=.set #[] 0 (.fresh 0 0 led)}} (.ref s.heap.objs.size) "set":=⟨_,hS,rfl⟩;have hli:=AJ.init.lookup;have hbi:=AJ.init.bind (.ref s.heap.objs.size)
   repeat (any_goals (first|assumption|wp_step))
   refine wf (codeAny_call_builtin (R:=wants (λr s₂=>r=.none/\∃h' tk,s₂={s with heap:=h',toks:=tk}/\
     (∃m,dB (mO w) items.toList s.heap h' s.heap.objs.size m/\Ad ps m)/\
     (∀b o,b<s.heap.objs.size->s.heap.get? b=bn o->h'.get? b=bn o)) E) AJ.init.plain EJ (check_set_init_1 hT ?_)) λr₂ s₂ oG=>?_
   .obtain⟨ol,WN,W5,nl,W3⟩:=hl;obtain⟨aaP,Ju,We,w6⟩:=ol;simp only at W5 W3;subst W5;subst W3;have Kc:(s.heap.push {cls:=.type "set",dict:=cr,data:=.set #[] 0 (.fresh 0 0 led)}).get? l=bn {cls:=.type "list",dict:=Ju,data:=.seq items nl,slots:=w6}:=Af _ WN;have abp:=PySem.F.sub_list_set;have abq:=PySem.F.sub_list_frozenset;have uf:(Value.type "tuple"==Value.type "dict")=false:=by decide
    have WV:(s.heap.push {cls:=.type "set",dict:=cr,data:=.set #[] 0 (.fresh 0 0 led)}).IsList l items:=⟨_,Kc,rfl,nl,rfl⟩;unfold o0.«set.__init__» noKeywords Builtin.Frozenset.updateFrom;generalize hPI:pyIter=PI
    wp_walk
    subst hPI;refine CW WV ?_;refine Aa (E9 ?_);have WU:l<s.heap.objs.size:=Ak WN;have ó:A.in1.in1.in1.handled=cr:=by simp[hh]
    have Ss:l≠(s.heap.push {cls:=.type "set",dict:=cr,data:=.set #[] 0 (.fresh 0 0 led)}).objs.size:=by
     rw[A1];exact Ar (Be WU)
    have LP:s.heap.objs.size∉[(s.heap.push {cls:=.type "set",dict:=cr,data:=.set #[] 0 (.fresh 0 0 led)}).objs.size,l]:=by
     rw[A1];simp only[Aw,Au,Bk,or_false,not_or];exact⟨Ar (C4 _),DU WU⟩
    have í:ps.length=items.size:=by rw[hi.length,AB]
    have J8:∀(i:Nat) (v:db),items[i]?=bn v->v∈items.toList/\∃x,ps[i]?=bn x/\kD x=true/\HV s.heap x v:=λi v hv=>by
     obtain⟨x,e,r⟩:=hi.get (j:=i) (v:=v) (by rw[AA];exact hv);exact⟨Ao (by rw[AA];exact hv),x,e,AG.mp ñ x (Ao e),r⟩
    refine qx (ld:=mO w) (L:=items.toList) ((FN ó _ l Ss items).toS) s.heap.objs.size LP (h0:=s.heap) ps í J8 hb ?hU (λc o e t=>⟨Ar (Ak e),?hC⟩) (items.size-0) 0 _ [] ∅ (A7 _) ⟨⟨_,Al _ rfl,rfl,rfl⟩,?hI⟩ ?hK0 ?PF (by simpa using Ad.nil) ?hR
    case hU=>show A.units+1+1+20<nn;lia
    case hC=>
     rw[Au,A1];exact Ar (Be (Ak e))
    case hK0=>exact λc o e _=>Af _ (Af _ e)
    case hI=>exact⟨_,Af _ Kc,rfl,nl,rfl⟩
    case PF=>
     have SD:((s.heap.push {cls:=.type "set",dict:=cr,data:=.set #[] 0 (.fresh 0 0 led)}).push {cls:=.type "list_iterator",data:=.fields #[.ref l,.int 0 0]}).get? s.heap.objs.size
       = bn {cls:=.type "set",dict:=cr,data:=.set #[] 0 (.fresh 0 0 led)}:=Af _ hS
     exact⟨_,#[],0,_,SD,⟨rfl,rfl,rfl⟩,rfl,⟨.nil,λe he=>by simp at he⟩,⟨rfl,rfl,.inl ⟨rfl,by simp⟩⟩,λz=>(z rfl).elim,by rw[dF];lia,Sz,λe he=>by simp at he⟩
    case hR=>
     intro s' m' hm Ia hA';obtain⟨h',g',d',Qs,VY⟩:=s';have eg:g'=s.gens:=hm.gens;have ed:d'=s.drawn:=hm.drawn;have eo:VY=s.os:=hm.os;subst eg;subst ed;subst eo;show ga _ _ _ _ _ _;refine Ae ?_;show ga _ _ (ret Value.none) _ _ _;refine Ae ⟨rfl,h',Qs,rfl,⟨m',Ia,hA'⟩,λb o hb e=>?_⟩;have ú:b≠s.heap.objs.size:=Ar hb;have ù:b≠(s.heap.push {cls:=.type "set",dict:=cr,data:=.set #[] 0 (.fresh 0 0 led)}).objs.size:=by
      rw[A1];exact Ar (Be hb)
     exact hm.heap b o (by simp only[Aw,Au,Bk,or_false,not_or];exact⟨ú,ù⟩) (Af _ (Af _ e))
   .cases r₂ with
    |error e=>exact oG
    |ok Ky=>
     cases Ky with
     |ret r=>
      obtain⟨rfl,h',tk,rfl,Ia,Px⟩:=oG
      repeat (any_goals (first|assumption|wp_step))
      exact h _ _ Ia Px
     |_=>exact oG
  |_=>exact hr
end
end L2
variable{nx:Nat->Nat}
namespace L2
theorem y9:∀(f k:Nat) (l:List α) (out:Array α),l.length<=f->(pickOrder.go nx f k l out).toList.Perm (out.toList++l)
 |0,k,l,out,h=>by
  have:l=[]:=EB.mp ∅;subst this;rw[pickOrder.go,CK]
 |f+1,k,l,out,h=>by
  rw[pickOrder.go];cases hx:l[nx k % l.length]? with
  |none=>
   cases l with
   |nil=>simp
   |cons y l=>
    have:=Nat.mod_lt (nx k) (show 0<(y::l).length by simp);rw[Ai this]at hx;cases hx
  |some x=>
   obtain⟨hi,rfl⟩:=Aj.mp hx;dsimp only;refine(y9 f (k+1) _ _ (by rw[Ed hi];lia)).trans ?_;rw[Dw,A2];exact(jZ hi).append_left _
def iQ{xs:Array α}:(Ix nx xs).toList.Perm xs.toList:=by
 have:=y9 (nx:=nx) xs.size 0 xs.toList #[] (by simp);simpa[Ix]using this
section
structure Wk(prog:pr)(w:t0)(L:List db)(h0:im)(I a:f8)(lo:f8)(m:List PV)(h:im):Prop where
 hI:lo<=I/\I<h.objs.size
 wk:∃(St:Nat->im->Prop) (fp:List f8) (us:List db) (m':List PV),dC h0 m' us/\(∀v∈us,v∈L)/\m'.Perm m/\(∀b∈fp,b=a\/lo<=b)/\I∈fp/\(∀B:sB,B.handled=cr->Walks prog w B I fp [I] us.length (λi v=>us[i]?=bn v) St)/\St 0 h
theorem J2(hS:dB (mO w) L h0 s.heap a m)(q:∀h' dr I,(∀b o,s.heap.get? b=bn o->h'.get? b=bn o)->Wk prog w L h0 I a s.heap.objs.size m h'->Q (.ref I) {s with heap:=h',drawn:=dr}):ga (ge prog w) A (pyIter (.ref a)) Q E s:=by
 obtain⟨o,es,ep,t,ho,Ü,hd,R,T,pl,dm,led,hL⟩:=hS;have û:∀v∈es.toList.map (·.2),v∈L:=λv hv=>let ⟨e,h1,h2⟩:=Bf.mp hv;h2▸hL e h1;have hT:s.TypeIs (.ref a) "set":=⟨o,ho,Ü.1⟩;refine El hT EX (AU EX hT oW ?_ (PySem.F.args_set_iter_1 _));unfold o0.«frozenset.__iter__»;refine Aa (Ae ?_);unfold Builtin.Frozenset.sizeOf;refine Aa (Aa (Cs ho hd T.fits (Ae ?_)));refine Aa ?_;unfold setDrawn setsByText;refine Aa (Bs ho hd T.fits ?_);dsimp only;refine Aa (Aa (Cv (Ae ?_)));refine Ae ?_;refine Bp (λc=>?_) (λc=>?_)
 .have c:(!me w&&(!t.plain&&decide (es.size > 1)))=true:=c;refine Aa (Og _ _ _ (by simp) λys dr hp=>?_);have hyl:ys.length=es.size:=by rw[hp.length_eq,Du]
  have adx:es.size<=76:=by rcases T.sz with h|h|h<;>lia
  refine Aa (B8 (items:=ys.map λ(i:Nat)=>pc (i:Int)) ?_ (by rw[Aq,hyl,r9];lia));refine Aa (wpAny_setEpoch_of (Af _ ho) hd T.fits ?_);refine Aa (AR ?_ (by size_fits));generalize ue:({cls:=.type "tuple",data:=.seq (ys.map λ(i:Nat)=>pc (i:Int)).toArray}:Obj)=ot;generalize hoi:({cls:=.type "set_iterator",data:=.fields (List.toArray [.ref s.heap.objs.size,pc 0,.ref a,pc (es.size:Int),pc (ep:Int)])}:Obj)=oi;have pf:(s.heap.push ot).objs.size=s.heap.objs.size+1:=size_push' ..;have hI:Iter (s.heap.push ot).objs.size a (.ref s.heap.objs.size) 0 es.size ep ((s.heap.push ot).push oi):=by
   subst hoi;exact Al _ rfl
  have kp:∀b o,s.heap.get? b=bn o->((s.heap.push ot).push oi).get? b=bn o:=λb o e=>Af _ (Af _ e);have htp:((s.heap.push ot).push oi).get? s.heap.objs.size=bn ot:=Af _ (Al _ (by subst ue;rfl));have ha:=Ak ho;have Kb:ot.data=.seq (ys.map λ(i:Nat)=>pc (i:Int)).toArray 0:=by subst ue;rfl
  refine Ae ⟨_,rfl,"set_iterator",_,⟨_,hI,rfl⟩,slot_next.lookup,q _ dr _ kp ⟨⟨by rw[pf];exact Em _,Ak hI⟩,?_⟩⟩;have Ñ:∀k∈ys,k < es.size:=λk hk=>Bl.mp (hp.mem_iff.mp hk);obtain⟨m',r',p'⟩:=dC.perm (us:=ys.map λk=>(es[k]?.map (·.2)).getD Value.none) (vs:=es.toList.map (·.2)) (by
   have e:(Ax es.size).map (λk=>(es[k]?.map (·.2)).getD Value.none)=es.toList.map (·.2):=by
    apply Eo;intro i;by_cases c:i<es.size
    .rw[Ap,Fh c,Ap,AA];simp[c]
    .rw[AW (by simp;lia),AW (by simp;lia)]
   rw[<- e];exact hp.map _) R.1
  refine⟨λi h=>Iter (s.heap.push ot).objs.size a (.ref s.heap.objs.size) i es.size ep h/\h.get? a=bn o/\h.get? s.heap.objs.size=bn ot,[(s.heap.push ot).objs.size,a,s.heap.objs.size],_,m',r',λv hv=>?_,p',λb hb=>?_,.head _,λB hB=>?_,hI,kp _ _ ho,htp⟩
  .obtain⟨k,k1,rfl⟩:=Bf.mp hv;refine û _ (Bf.mpr ⟨es[k]'(Ñ k k1),by simp,?_⟩);simp[Ñ k k1]
  .rcases Aw.mp hb with rfl|hb
   .exact .inr (by rw[pf];exact Em _)
   .rcases Aw.mp hb with rfl|hb
    .exact .inl rfl
    .rw[Au]at hb;subst hb;exact .inr (Am _)
  .have na:a≠(s.heap.push ot).objs.size:=by rw[pf];exact Ar (Be ha)
   have nt:s.heap.objs.size≠(s.heap.push ot).objs.size:=by rw[pf];exact Ar (C4 _)
   exact {
    sub:=λb hb=>by rw[Au]at hb;subst hb;exact .head _
    frame:=λi h h' st k=>⟨k _ (.head _) _ st.1,k _ (.tail _ (.head _)) _ st.2.1,k _ (.tail _ (.tail _ (.head _))) _ st.2.2⟩
    item:=λi s2 Q2 E2 hi st hQ=>by
     rw[Aq]at hi;have hk:=Ñ _ (EC hi);have ex:es[ys[i]]?=bn (es[ys[i]].1,es[ys[i]].2):=AE hk;refine xh (k:=ys[i]) (tk:=0) st.2.1 hd T.fits rfl st.1 st.2.2 Kb (by simp[hi,pc]) ex λh' sb W9=>?_;exact hQ _ h' s2.toks (by rw[Ap,Ai hi];simp[ex]) ⟨W9,by rw[sb.2 _ na];exact st.2.1,by rw[sb.2 _ nt];exact st.2.2⟩ λb o hb e=>by
      rw[sb.2 b (λz=>hb (by rw[z];exact .head _))];exact e
    done:=λs2 Q2 E2 st hQ=>by
     have PJ:=st.1;rw[Aq]at PJ;exact uY hB st.2.1 hd T.fits rfl PJ st.2.2 Kb (by simp) λh' he=>hQ h' s2.toks λb o hb e=>he b o (λz=>hb (by rw[z];exact .head _)) e
    self:=λi s2 Q2 E2 st hQ=>lS st.1 hQ}
 .have c:¬(!me w&&(!t.plain&&decide (es.size > 1)))=true:=c;refine Aa (Ae ?_);refine Aa (wpAny_setEpoch_of ho hd T.fits ?_);refine Aa (AR ?_ (by size_fits));generalize hoi:({cls:=.type "set_iterator",data:=.fields (List.toArray [pc 0,pc 0,.ref a,pc (es.size:Int),pc (ep:Int)])}:Obj)=oi;have hI:Iter s.heap.objs.size a (.int 0 0) 0 es.size ep (s.heap.push oi):=by
   subst hoi;exact Al _ rfl
  have kp:∀b o,s.heap.get? b=bn o->(s.heap.push oi).get? b=bn o:=λb o e=>Af _ e;have ha:=Ak ho;have na:a≠s.heap.objs.size:=Ar ha;refine Ae ⟨_,rfl,"set_iterator",_,⟨_,hI,rfl⟩,slot_next.lookup,q _ s.drawn _ kp ⟨⟨Am _,Ak hI⟩,?_⟩⟩;have YX:∀b∈[s.heap.objs.size,a],b=a\/s.heap.objs.size<=b:=λb hb=>by
   rcases Aw.mp hb with rfl|hb
   .exact .inr (Am _)
   .rw[Au]at hb;exact .inl hb
  by_cases bt:me w=true
  .obtain⟨m',r',p'⟩:=dC.perm ((iQ (nx:=w.params.setOrder a ep) (xs:=es)).map (·.2)) R.1;have À:((Ix (w.params.setOrder a ep) es).toList.map (·.2)).length=es.size:=by rw[Aq,iQ.length_eq,AB]
   have Vn:∀(s2:em) (i:Nat) (B:sB) (E':db->em->Prop) (C:Option (db×Nat)->em->Prop),s2.heap.get? a=bn o->C (((Ix (w.params.setOrder a ep) es)[i]?).map λe=>(e.2,0)) s2->ga (ge prog w) B (setNext a 0 i ep) C E' s2:=λs2 i B E' C h2 q2=>by
    unfold setNext setsByText;refine Aa (Bs h2 hd T.fits ?_);dsimp only;refine Aa (Aa (Cv (Ae ?_)));refine Bp (λ_=>?_) (λh=>absurd (show w.params.followText "set-order"=true from bt) h);rw[if_neg (by simp)];refine Aa ?_;unfold setWalk setsByText;refine Aa (Bs h2 hd T.fits ?_);dsimp only;refine Aa (Aa (Cv (Ae ?_)));refine Bp (λ_=>?_) (λh=>absurd (show w.params.followText "set-order"=true from bt) h);refine Aa (Cv ?_);exact Ae (Ae q2)
   refine⟨λi h=>Iter s.heap.objs.size a (.int 0 0) i es.size ep h/\h.get? a=bn o,[s.heap.objs.size,a],_,m',r',λv hv=>û v ((iQ.map _).mem_iff.mp hv),p',YX,.head _,λB hB=>?_,hI,kp _ _ ho⟩;exact {
    sub:=λb hb=>by rw[Au]at hb;subst hb;exact .head _
    frame:=λi h h' st k=>⟨k _ (.head _) _ st.1,k _ (.tail _ (.head _)) _ st.2⟩
    item:=λi s2 Q2 E2 hi st hQ=>by
     rw[Aq]at hi;have wd:i<(Ix (w.params.setOrder a ep) es).size:=by rw[<- AB];exact hi
     refine qH (sl:=0) (nx:=0) (x:=(Ix (w.params.setOrder a ep) es)[i].2) st.2 hd T.fits rfl st.1 (λB' E' C q2=>Vn s2 i B' E' C st.2 (by rw[AE wd];exact q2)) λh' sb W9=>?_;exact hQ _ h' s2.toks (by rw[Ap,AA,AE wd];rfl) ⟨W9,by rw[sb.2 _ na];exact st.2⟩ λb o hb e=>by
      rw[sb.2 b (λz=>hb (by rw[z];exact .head _))];exact e
    done:=λs2 Q2 E2 st hQ=>by
     have hl:(Ix (w.params.setOrder a ep) es).size=es.size:=by rw[<- AB,iQ.length_eq,AB]
     have PJ:=st.1;rw[À]at PJ;exact qI (sl:=0) hB st.2 hd T.fits rfl PJ (λB' E' C q2=>Vn s2 _ B' E' C st.2 (by rw[EO (by rw[hl];exact Am _)];exact q2)) λh' he=>hQ h' s2.toks λb o hb e=>he b o (λz=>hb (by rw[z];exact .head _)) e
    self:=λi s2 Q2 E2 st hQ=>lS st.1 hQ}
  .have bt:me w=false:=by simpa using bt
   have h1:es.size<=1:=by
    apply Ce;intro n;refine c ?_;rw[bt,pl ∅];simp;lia
   have nd:¬(!t.plain&&decide (es.size > 1))=true:=by
    rw[bt]at c;simpa using c
   have aa2:t.led=true:=by rw[led];show(!me w)=true;rw[bt];rfl
   have Vn:∀(s2:em) (sl i:Nat) (B:sB) (E':db->em->Prop) (C:Option (db×Nat)->em->Prop),s2.heap.get? a=bn o->C (match es[SetTable.below t.place sl]?,t.place[SetTable.below t.place sl]? with|some (_,x),bn j=>bn (x,j+1)|_,_=>cr) s2->ga (ge prog w) B (setNext a sl i ep) C E' s2:=λs2 sl i B E' C h2 q2=>by
    unfold setNext setsByText;refine Aa (Bs h2 hd T.fits ?_);dsimp only;refine Aa (Aa (Cv (Ae ?_)));refine Bp (λh=>absurd (show me w=true from h) (by rw[bt];simp)) (λ_=>?_);refine Bp (λh=>absurd (show(!t.plain&&decide (es.size > 1))=true from h) nd) (λ_=>?_);refine Aa ?_;show ga _ _ (ite _ _ _) _ _ _;rw[if_neg (by rw[aa2];simp)];exact Ae (Ae q2)
   refine⟨λi h=>Iter s.heap.objs.size a (.int ((if i=0 then 0 else (t.place.getD (i-1) 0+1):Nat):Int) 0) i es.size ep h/\h.get? a=bn o,[s.heap.objs.size,a],_,m,R.1,û,.refl _,YX,.head _,λB hB=>?_,hI,kp _ _ ho⟩;exact {
    sub:=λb hb=>by rw[Au]at hb;subst hb;exact .head _
    frame:=λi h h' st k=>⟨k _ (.head _) _ st.1,k _ (.tail _ (.head _)) _ st.2⟩
    item:=λi s2 Q2 E2 hi st hQ=>by
     rw[Aq,AB]at hi;have i0:i=0:=by lia
     subst i0;have YS:0<t.place.size:=by rw[T.pl];exact hi
     have bl:SetTable.below t.place 0=0:=by
      unfold SetTable.below;rw[T.pl,show es.size=1 by lia];simp[SetTable.below.go]
     refine qH (sl:=0) (nx:=t.place.getD 0 0+1) (x:=es[0].2) st.2 hd T.fits rfl st.1 (λB' E' C q2=>Vn s2 0 0 B' E' C st.2 (by
      rw[bl,AE hi,AE YS];have:t.place.getD 0 0=t.place[0]:=by simp[Array.getD,YS]
      rw[this]at q2;exact q2)) λh' sb W9=>?_
     exact hQ _ h' s2.toks (by rw[Ap,AA,AE hi];rfl) ⟨W9,by rw[sb.2 _ na];exact st.2⟩ λb o hb e=>by
      rw[sb.2 b (λz=>hb (by rw[z];exact .head _))];exact e
    done:=λs2 Q2 E2 st hQ=>by
     have PJ:=st.1;rw[Aq,AB]at PJ;refine qI hB st.2 hd T.fits rfl PJ (λB' E' C q2=>Vn s2 _ _ B' E' C st.2 ?_) λh' he=>hQ h' s2.toks λb o hb e=>he b o (λz=>hb (by rw[z];exact .head _)) e;have hn:es[SetTable.below t.place (if es.size=0 then 0 else (t.place.getD (es.size-1) 0+1))]?=cr:=by
      apply EO;by_cases z:es.size=0
      .rw[z];exact A7 _
      .have e1:es.size=1:=by lia
       have YS:0<t.place.size:=by rw[T.pl];lia
       have g:∀d,t.place.getD 0 d=t.place[0]:=λd=>by simp[Array.getD,YS]
       rw[if_neg z,e1];unfold SetTable.below;rw[T.pl,e1];simp[SetTable.below.go,g]
     rw[hn];exact q2
    self:=λi s2 Q2 E2 st hQ=>lS st.1 hQ}
end
section
def Kh{r:f8}{Q:Bool->em->Prop}(hT:s.TypeIs (.ref r) "set")(h:Q false s):ga (ge prog w) A (Builtin.List.listLengthHint (.ref r)) Q E s:=by
 unfold Builtin.List.listLengthHint;refine Aa (Cf hT Nq ?_);generalize hid:("set.__len__":String)=id0
 wp_delta
 rw[show splitId id0=bn ("set","__len__") from by subst hid;decide +kernel];subst hid;refine Aa (BH (T:="set") (b:=true) hT (by rw[wS];kernel_rfl) ?_);refine Bp (λxJ=>absurd xJ ⋯) (λ_=>?_);refine Bp (λ_=>?_) (λxJ=>absurd (by decide +kernel) xJ);refine Aa (CF hT ?_);exact Ae h
def dB.keep{ld:Bool}(x:dB ld L h0 h a m)(k:∀o,h.get? a=bn o->h'.get? a=bn o):dB ld L h0 h' a m:=let ⟨o,es,ep,t,h1,h2⟩:=x;⟨o,es,ep,t,k _ h1,h2⟩
theorem ye{r:f8}{R:O db->em->Prop}(hS:dB (mO w) L h0 s.heap r m)(hh:A.handled=cr)(h:∀(h':im) (tk:Nat) dr (Á:Array db) m',s.heap.objs.size<=h'.objs.size->(∀b o,s.heap.get? b=bn o->h'.get? b=bn o)->dC h0 m' Á.toList->(∀v∈Á.toList,v∈L)->m'.Perm m->R Á.toList {s with heap:=h',toks:=tk,drawn:=dr}):ga (ge prog w) A (collect (.ref r)) R E s:=by
 have gr:r < s.heap.objs.size:=let ⟨o,_,_,_,ho,_⟩:=hS;Ak ho;refine Aa (E9 (wv entry_proto_collect' ?_));rw[Cm PySem.F.plain_proto_collect _];refine Aa (AR ?_);refine Ae ⟨xz Ew _,wv entry_list_iadd' ?_⟩;rw[Cm Ew _];generalize PF:s.heap.objs.size=S;have hL:(s.heap.push {cls:=.type "list",data:=.seq ([]:O db).toArray}).get? S=bn {cls:=.type "list",data:=.seq #[] 0}:=by subst PF;exact Al _ rfl
 have Wu:∀b o,s.heap.get? b=bn o->(s.heap.push {cls:=.type "list",data:=.seq ([]:O db).toArray}).get? b=bn o:=λb o e=>Af _ e;generalize hhp:s.heap.push {cls:=.type "list",data:=.seq ([]:O db).toArray}=hp at hL Wu ⊢;have Ub:S≠r:=by subst PF;exact DU gr
 have hSb:∀b o,s.heap.get? b=bn o->b≠S:=λb o e=>by subst PF;exact Ar (Ak e)
 have hT:Fi {s with heap:=hp} (.ref r) "set":=let ⟨o,_,_,_,ho,hx,_⟩:=hS;⟨o,Wu _ _ ho,hx.1⟩;show ga _ A.in1 (Builtin.List.listExtendWith (.ref S) (.ref r) (.ref S)) _ _ _;unfold Builtin.List.listExtendWith;refine Aa (CF (T:="set") hT ?_);have h1:Builtin.List.listSameRef (.ref S) (.ref r)=false:=by simp[Builtin.List.listSameRef,Ub]
 simp only[h1,show(Value.type "set"==Value.type "list")=false from by decide,show(Value.type "set"==Value.type "tuple")=false from by decide,Fo,An,if_false];refine Aa (J2 (s:={s with heap:=hp}) (hS.keep λo e=>Wu _ _ e) λh1 dr I ç W=>?_);have Uc:=ç _ _ hL;have kp:∀b o,s.heap.get? b=bn o->h1.get? b=bn o:=λb o e=>ç b o (Wu b o e);obtain⟨⟨lo,hi⟩,St,fp,us,m',r',uL,p',YX,hIf,W,st⟩:=W;have abO:S < hp.objs.size:=Ak hL;have LP:S∉fp:=λhm=>(YX S hm).elim Ub λq=>A0 _ (Az abO q);have hSI:S≠I:=λe=>LP (e▸hIf);have Wb:=W A.in1 hh;refine Aa (AZ (Kh (s:={s with heap:=h1,drawn:=dr}) (let ⟨o,ho,hc⟩:=hT;⟨o,ç _ _ ho,hc⟩) ?_));have É:∀(h2:im) (c₁ tk:Nat),St 0 h2->(∀b o,b≠S->h1.get? b=bn o->h2.get? b=bn o)->
   h2.get? S=bn {cls:=.type "list",data:=.seq #[] c₁}->FB (ge prog w) A (.builtin "list.extend.loop" ⟨[.ref S,.ref I,.ref S],[]⟩) (λq s'=>∃h' tk Á c,q=.ok (.ret (.ref S))/\s'={s with heap:=h',toks:=tk,drawn:=dr}/\(∀b o,s.heap.get? b=bn o->h'.get? b=bn o)/\h'.get? S=bn {cls:=.type "list",dict:=cr,data:=.seq Á c,slots:=#[]}/\Á.toList=us) {s with heap:=h2,toks:=tk,drawn:=dr}:=by
  intro h2 c₁ tk wc hk W8;refine codeAny_extend_loopS Wb.toS ?_ S LP (.ref S) us.length 0 _ #[] c₁ rfl (A7 _) wc W8 (ItemsOf.nil _) λs' Tj c' hm Ia Hd=>?_
  .obtain⟨o,es,ep,t,_,_,_,R0,T,_⟩:=hS;have hl:=R0.1.length;have h76:es.size<=76:=by rcases T.sz with h|h|h<;>lia
   have e:us.length=es.size:=by rw[<- r'.length,p'.length_eq,hl];simp
   rw[e,r9];exact AI h76 ⋯
  rw[Moved.eq_with hm];refine⟨s'.heap,s'.toks,Tj,c',rfl,rfl,λb o e=>hm.heap b o (λxG=>?_) (hk b o (hSb b o e) (kp b o e)),Ia,?_⟩
  .rcases Aw.mp xG with e'|xG
   .exact hSb b o e e'
   .rw[Au]at xG;subst xG;have:=Ak (Wu _ _ e);exact A0 _ (Az this lo)
  .apply Eo;intro i;by_cases c:i<us.length
   .have h3:i<Tj.size:=by rw[Hd.1];exact c
    have:=Hd.2 i Tj[i] (AE h3);rw[this,AA,AE h3]
   .rw[AW (by rw[AB,Hd.1];lia),AW ∅]
 have fin:∀(q:Result) (s2:em),(∃h' tk Á c,q=.ok (.ret (.ref S))/\s2={s with heap:=h',toks:=tk,drawn:=dr}/\(∀b o,s.heap.get? b=bn o->h'.get? b=bn o)/\h'.get? S=bn {cls:=.type "list",dict:=cr,data:=.seq Á c,slots:=#[]}/\Á.toList=us)->(match q with | .ok (.ret v)=>ga (ge prog w) A (match v with | .ref a=>do {match (<- load a).data with | .seq xs _=>pure xs.toList | _=>unsupported "internal:collect"} | _=>unsupported "internal:collect") R E s2 | _=>False):=λq s2 ⟨h',tk,Á,c,e1,e2,hk,Ia,ha⟩=>by
  subst e1 e2;refine Aa (Ea Ia (Ae ?_));rw[ha];have:=h h' tk dr us.toArray m' ?_ hk (by simpa using r') (by simpa using uL) p'
  .simpa using this
  .rw[PF];exact Dp (Ak Ia)
 refine Bp (λ_=>?_) (λ_=>?_)
 .refine Aa (Df ?_);refine Aa ?_;show ga _ _ (updateSeq S (·.push .none) >>= λ_=>updateSeq S (·.pop)) _ _ _;refine Aa (Dc Uc rfl ?_);have PC:=A3 (BC (·.push Value.none)) Uc rfl;refine Dc (hz:=by seq_fits) PC rfl ?_;have W7:=A3 (BC (·.pop)) PC rfl;refine Ae ⟨xz Eh _,wf (É _ _ s.toks ?_ (λb o hb e=>?_) W7) λq s2 x=>?_⟩
  .refine Wb.frame 0 _ _ st λb hb o e=>?_;have hbS:b≠S:=λh=>LP (h▸hb);exact(Bz _ _ (BU hbS)).trans ((Bz _ _ (BU hbS)).trans e)
  .exact(Bz _ _ (BU hb)).trans ((Bz _ _ (BU hb)).trans e)
  .have:=fin q s2 x;obtain⟨h',tk,Á,c,e1,_⟩:=x;subst e1;exact this
 .refine Ae ⟨xz Eh _,wf (É _ _ s.toks st (λb o _ e=>e) Uc) λq s2 x=>?_⟩;have:=fin q s2 x;obtain⟨h',tk,Á,c,e1,_⟩:=x;subst e1;exact this
end
end L2
namespace HT
open PySem PyProof.Rows
inductive Ck:List db->List db->Prop
 |l (ws:List db):Ck [] ws
 |r (vs:List db):Ck vs []
 |s (x:Str) (t:Tok) (y:Str) (u:Tok) {vs ws:List db} (h:Ck vs ws):Ck (.str x t::vs) (.str y u::ws)
 |i (x:Int) (t:Tok) (y:Int) (u:Tok) {vs ws:List db} (h:Ck vs ws):Ck (.int x t::vs) (.int y u::ws)
section
open PySem.SeqAt
open PySem.AutoSeq1 (wpAny_loadPart')
open PySem.MeetsSeq PySem.MeetsSeq2 PySem.MeetsSeq3
def uq(l b:f8)(items cv:Array db)(n n2:Nat)(dd Oj:Option f8)(sl LD:Array (Option db))(hi:Ck items.toList cv.toList):Meets (o0.«tuple.__lt__» ⟨[.ref l,.ref b],[]⟩) (λ_ R s=>s.heap.get? l=bn {cls:=.type "tuple",dict:=dd,data:=.seq items n,slots:=sl}/\s.heap.get? b=bn {cls:=.type "tuple",dict:=Oj,data:=.seq cv n2,slots:=LD}/\
    ∀c,R (.ok (.ret (.bool c))) s):=
 .of_wp λprog w A R s h=>by
  obtain⟨hp,g,d,tk,os⟩:=s;obtain⟨hl,hb,h⟩:=h;have f2:=AutoSeq1.sub_tuple_tuple
  wp_walk using BF hl,BF hb,C3 _ (λrest b s'=>b.1=cr/\s'=⟨hp,g,d,tk,os⟩/\∃(vs ws:O db),rest=vs.zip ws/\Ck vs ws) _
  case turn=>
   rintro⟨y,x⟩ rest b s' ⟨hb',rfl,vs,ws,hz,hc⟩;cases hc with
   |l ws=>rw[List.zip_nil_left]at hz;cases hz
   |r vs=>rw[List.zip_nil_right]at hz;cases hz
   |s p t q u hc=>
    rw[List.zip_cons_cons]at hz;injection hz with hyx J9;injection hyx with hy hx;subst hy hx;refine Aa (D4 p t q u prog w _ _ ?_);cases he:(p==q) with
    |true=>
     wp_walk
     exact⟨rfl,rfl,_,_,J9,hc⟩
    |false=>
     have ì:∀(E:db->em->Prop) (Q:db->em->Prop) (h:Q (.bool (decide (p.cps.toList<q.cps.toList))) ⟨hp,g,d,tk,os⟩),ga (ge prog w) A.in1 (richCompare .Lt (.str p t) (.str q u)) Q E ⟨hp,g,d,tk,os⟩:=λE Q h=>PyProof.Rows.lt_str h
     wp_walk using ì
     exact⟨_,rfl,h _⟩
   |i p t q u hc=>
    rw[List.zip_cons_cons]at hz;injection hz with hyx J9;injection hyx with hy hx;subst hy hx;refine Aa (D5 p t q u prog w _ _ ?_);cases he:(p==q) with
    |true=>
     wp_walk
     exact⟨rfl,rfl,_,_,J9,hc⟩
    |false=>
     have ì:=IW A.in1 ⟨hp,g,d,tk,os⟩ p t q u prog w
     wp_walk using ì
     exact⟨_,rfl,h _⟩
  case fin=>
   rintro⟨b1,b2⟩ s' ⟨hb',rfl,vs,ws,hz,hc⟩;subst hb'
   wp_walk
   exact⟨_,rfl,h _⟩
  case h=>
   exact⟨rfl,rfl,items.toList,cv.toList,rfl,hi⟩
end
section
def Wm{l:f8}{cv:Array db}(hl:IsTup s.heap l items)(hb:IsTup s.heap b cv)(hi:Ck items.toList cv.toList)(hu:A.units<nn)(h:∀c,Q (.bool c) s):ga (ge prog w) A (re .Lt (.ref l) (.ref b)) Q E s:=by
 obtain⟨⟨cls,dd,data,sl⟩,ho,hc,n,hd⟩:=id hl;obtain⟨⟨Td,Oj,data2,LD⟩,G9,PB,n2,Ø⟩:=id hb;subst hc hd PB Ø;exact richCompare_meets_room (op:=.Lt) ⟨_,ho,rfl⟩ ⟨_,G9,rfl⟩ PySem.F.slot_tuple_lt PySem.F.entry_tuple_lt (PySem.F.args_tuple_lt_2 _ _) (uq l b items cv n n2 dd Oj sl LD hi)
  ⟨ho,G9,λc=>⟨(λx=>nomatch x),h c⟩⟩ hu
end
end HT
variable{x:PL.PV}{m':O PL.PV}
namespace L2
mutual
def sQ:PV->Bool
 |.str _=>true
 |.int _=>true
 |.tup l=>mP l
 |_=>false
def mP:O PV->Bool
 |[]=>true
 |x::l=>sQ x&&mP l
end
section
mutual
theorem Pp(I:Inv X U σ H s):∀{v:V}{x:PV}{u:db},VR X.K [] H v x->sQ x=true->RelV v u->HV s.heap x u
 |_,_,_,.str x,_,r=>by obtain⟨t,rfl⟩:=r;exact .str x t
 |_,_,_,.int i,_,r=>by obtain⟨t,rfl⟩:=r;exact .int i t
 |_,_,_,.tup e q,k,r=>by
  cases r;obtain⟨aj,rv,⟨o,h1,h2,n,h3⟩,_⟩:=I.tuple (cG.of e);rw[sQ]at k;exact .tup h1 h2 h3 (nq I q k rv)
 |_,_,_,.az,k,_=>by simp[sQ]at k
 |_,_,_,.bl _,k,_=>by simp[sQ]at k
 |_,_,_,.ty _,k,_=>by simp[sQ]at k
 |_,_,_,.ref _,k,_=>by simp[sQ]at k
 |_,_,_,.cl _ _,k,_=>by simp[sQ]at k
 |_,_,_,.dk _ _ _,k,_=>by simp[sQ]at k
 |_,_,_,.dt _ _ _,k,_=>by simp[sQ]at k
 |_,_,_,.ob _ _ _ _ _,k,_=>by simp[sQ]at k
 |_,_,_,.hand _,k,_=>by simp[sQ]at k
theorem nq(I:Inv X U σ H s):∀{vs:O V}{l:O PV}{us:O db},aA X.K [] H vs l->mP l=true->Vals vs us->dC s.heap l us
 |_,_,_,.nil,_,r=>by cases r;exact .nil
 |_,_,_,.cons q t,k,r=>by
  cases r with
  |cons r1 r2=>
   rw[mP,AH]at k;exact .cons (Pp I q k.1 r1) (nq I t k.2 r2)
end
def ax:PV->Bool
 |.tup [.str _,.int _]=>true
 |_=>false
def aV:PV->Bool
 |.tup [.tup [.str _,.int _],.tup [.str _,.int _]]=>true
 |_=>false
def a7(h:ax x=true):∃a i,x=.tup [.str a,.int i]:=by
 unfold ax at h
 split at h
 .exact⟨_,_,rfl⟩
 .cases h
def eZ(h:aV x=true):∃a i b j,x=.tup [.tup [.str a,.int i],.tup [.str b,.int j]]:=by
 unfold aV at h
 split at h
 .exact⟨_,_,_,_,rfl⟩
 .cases h
def RM(h:ax x=true):kD x=true/\sQ x=true:=by
 obtain⟨a,i,rfl⟩:=a7 h;exact⟨by simp[kD,PV.dep,dF,vB],by simp[sQ,mP]⟩
def Rg(h:aV x=true):kD x=true/\sQ x=true:=by
 obtain⟨a,i,b,j,rfl⟩:=eZ h;exact⟨by simp[kD,PV.dep,dF,vB],by simp[sQ,mP]⟩
structure SetOf(l m:List PV):Prop where
 mem:∀x,x∈m↔x∈l
 len:m.length<=l.length
 nd:l.Nodup->m.Perm l
def Ad.so(h:Ad l m):SetOf l m:=⟨h.mem,h.len,h.nd⟩
def SetOf.perm(h:SetOf l m)(p:m'.Perm m):SetOf l m':=⟨λx=>p.mem_iff.trans (h.mem x),by rw[p.length_eq];exact h.len,λd=>p.trans (h.nd d)⟩
end
section
theorem sortedS{l:f8}(hS:dB (mO w) L h0 s.heap l m)(hh:A.in1.handled=cr)(NX:m.length < 64)(ò:∀(us:O db) m' (s2:em),dC h0 m' us->m'.Perm m->(∀b o,s.heap.get? b=bn o->s2.heap.get? b=bn o)->2<=us.length->ga (ge prog w) A.in1.in1 (keyKind' us.toArray) (λk s'=>k=κ/\s'=s2) (λ_ _=>False) s2)(gr:∀(u v:db) (x y:PV) (s2:em),HV h0 x u->HV h0 y v->x∈m->y∈m->(∀b o,s.heap.get? b=bn o->s2.heap.get? b=bn o)->∀C:Bool->em->Prop,(∀b,C b s2)->ga (ge prog w) A.in1.in1 (keyLt' κ u v) C (λ_ _=>False) s2)(h:∀(a:f8) (out:O db) m' e (s2:em),s2.gens=s.gens->s2.os=s.os->(∀b o,s.heap.get? b=bn o->s2.heap.get? b=bn o)->s.heap.objs.size<=a->s2.heap.get? a=bn (wP "list" out.toArray e)->dC h0 m' out->(∀v∈out,v∈L)->m'.Perm m->Q (.ref a) s2):ga (ge prog w) A (call (.builtin "sorted") [.ref l]) Q E s:=by
 refine Calls.call_function_entry kind_sorted plain_sorted entry_sorted (args_sorted1 _) ?_;unfold o0.«sorted»;refine Aa (m:=checkCount "sorted" 1 1 _) (Ae ?_);refine Aa (ye hS hh λh' tk dr Á m' Ñ kp hv uL hp=>?_);have À:Á.toList.length=m.length:=by rw[<- hv.length,hp.length_eq]
 generalize Á.toList=us at hv uL À ⊢;refine Aa (wpAny_newList ?_ (by rw[À,r9];lia));have WQ:(h'.push (wP "list" us.toArray 0)).get? h'.objs.size=bn (wP "list" us.toArray 0):=Al _ rfl;have nb:∀b o,s.heap.get? b=bn o->b≠h'.objs.size/\(h'.push (wP "list" us.toArray 0)).get? b=bn o:=λb o e=>by
  have:=kp b o e;exact⟨Ar (Ak this),Af _ this⟩
 have el:∀i,i<us.length->∃x,HV h0 x (us.getD i Value.none)/\x∈m:=λi hi=>by
  obtain⟨x,e,r⟩:=hv.get (Ai hi);refine⟨x,?_,hp.mem_iff.mp (Ao e)⟩;rw[Ef,Ai hi];exact r
 refine Aa (AZ (AU slot_list_sort ⟨_,WQ,rfl⟩ entry_list_sort (xn (κ:=κ) WQ (by rw[À];exact NX) (λh2 h3 k=>?_) (λh3 k i j hi hj C hC=>?_) λout hpo=>⟨_,rfl,?_⟩) (args_list_sort _)))
 .exact ò us m' _ hv hp (λb o e=>k b o (nb b o e).1 (nb b o e).2) h2
 .obtain⟨x,r1,x1⟩:=el i hi;obtain⟨y,r2,y1⟩:=el j hj;exact gr _ _ x y _ r1 r2 x1 y1 (λb o e=>k b o (nb b o e).1 (nb b o e).2) C hC
 .obtain⟨e,he⟩:=sortedHeap_at (out:=out.toArray) WQ;obtain⟨m2,r2,p2⟩:=dC.perm hpo hv;have k2:∀b o,s.heap.get? b=bn o->(sortedHeap (h'.push (wP "list" us.toArray 0)) h'.objs.size us out.toArray).get? b=bn o:=λb o q=>by
   have lt:=Ak (kp b o q);rw[sortedHeap_old (Ar lt) (by rw[size_push'];exact Be lt)];exact(nb b o q).2
  have fin:=h h'.objs.size out m2 e {s with heap:=sortedHeap (h'.push (wP "list" us.toArray 0)) h'.objs.size us out.toArray,toks:=tk,drawn:=dr} rfl rfl k2 Ñ he r2 (λv Pr=>uL v (hpo.mem_iff.mp Pr)) (p2.trans hp);exact Ae ⟨_,rfl,fin⟩
end
end L2
variable{u:AV}{ta:L2.TA}{y:PL.PV}{vs:O L2.V}{C:Bool->C2->Prop}
namespace L2
section
def iB(r:HV h x u)(k:ax x=true):∃(a:f8) (o:Obj) (st:Str) (i:Int) (t t':Tok) (n:Nat),u=.ref a/\h.get? a=bn o/\o.cls=.type "tuple"/\o.data=.seq #[.str st t,.int i t'] n:=by
 obtain⟨st,i,rfl⟩:=a7 k;cases r with
 | @tup a _ aj n o e c d r=>
  obtain⟨aj⟩:=aj;cases r with
  |cons r1 r2=>
  cases r1 with
  |str _ t=>
  cases r2 with
  |cons r2 r3=>
  cases r2 with
  |int _ t'=>
  cases r3;exact⟨a,o,st,i,t,t',n,rfl,e,c,d⟩
def xD(r:HV h x u)(k:aV x=true):∃(a b c:f8) (o:Obj) (n:Nat) (y z:PV),u=.ref a/\h.get? a=bn o/\o.cls=.type "tuple"/\o.data=.seq #[.ref b,.ref c] n/\ax y=true/\ax z=true/\HV h y (.ref b)/\HV h z (.ref c):=by
 obtain⟨s1,i1,s2,i2,rfl⟩:=eZ k;cases r with
 | @tup a _ aj n o e c d r=>
  obtain⟨aj⟩:=aj;cases r with
  |cons r1 r2=>
  cases r2 with
  |cons r2 r3=>
  cases r3;obtain⟨b,ob,_,_,_,_,_,rfl,_⟩:=iB r1 rfl;obtain⟨c',oc,_,_,_,_,_,rfl,_⟩:=iB r2 rfl;exact⟨a,b,c',o,n,_,_,rfl,e,c,d,rfl,rfl,r1,r2⟩
def RS(kx:ax x=true)(ky:ax y=true)(rx:HV s.heap x u)(ry:HV s.heap y v)(hC:∀b,C b s):ga (ge prog w) A (keyLt' (tuples' true) u v) C (λ_ _=>False) s:=by
 obtain⟨a,o,st,i,t,t',n,rfl,e,c,d⟩:=iB rx kx;obtain⟨a2,o2,HX,i2,t2,QC,n2,rfl,e2,c2,d2⟩:=iB ry ky;refine PySem.W.kat_lt e d e2 d2 (Dz (D4 st t HX t2 prog w _ _ (DZ (λ_=>DE ?_) λ_=>DY ?_)))
 .exact Dz (D5 i t' i2 QC prog w _ _ (DZ (λ_=>DE (PySem.W.kat_nil (hC _))) λ_=>DY (ER _ _ (Fg (hC _)))))
 .exact oneLt_str (hC _)
def FP{c:f8}(kx:ax x=true)(ky:ax y=true)(rx:HV s.heap x (.ref b))(ry:HV s.heap y (.ref c))(hu:A.units<nn)(h:∀c,Q (.bool c) s):ga (ge prog w) A (re .Lt (.ref b) (.ref c)) Q E s:=by
 obtain⟨a,o,st,i,t,t',n,e0,e,cl,d⟩:=iB rx kx;obtain⟨a2,o2,HX,i2,t2,QC,n2,e1,e2,HA,d2⟩:=iB ry ky;cases e0;cases e1;exact HT.Wm ⟨_,e,cl,n,d⟩ ⟨_,e2,HA,n2,d2⟩ (.s _ _ _ _ (.i _ _ _ _ (.l _))) hu h
theorem RQ(kx:aV x=true)(ky:aV y=true)(rx:HV s.heap x u)(ry:HV s.heap y v)(hu:A.units+10<nn)(hC:∀b,C b s):ga (ge prog w) A (keyLt' (tuples' false) u v) C (λ_ _=>False) s:=by
 obtain⟨a,b,c,o,n,y1,y2,rfl,e,cl,d,k1,k2,r1,r2⟩:=xD rx kx;obtain⟨a',b',c',o',n',z1,z2,rfl,e',cl',d',k1',k2',Gm,r2'⟩:=xD ry ky;have dm:∀{z:PV},ax z=true->z.dep<=7:=λk=>by obtain⟨_,_,rfl⟩:=a7 k;simp[PV.dep,dF]
 refine PySem.W.kat_lt e d e' d' (Dz (KQ 7 _ _ A s _ _ (dm k1) r1 Gm ∅ prog w _ _ (DZ (λ_=>DE ?_) λ_=>DY ?_)))
 .exact Dz (KQ 7 _ _ A s _ _ (dm k2) r2 r2' ∅ prog w _ _ (DZ (λ_=>DE (PySem.W.kat_nil (hC _))) λ_=>DY (ER _ _ (FP k2 k2' r2 r2' ∅ λb=>hC b))))
 .exact ER _ _ (FP k1 k1' r1 Gm ∅ λb=>hC b)
theorem JP(hk:∀x∈m,ax x=true)(r:dC s.heap m us)(h2:2<=us.length):ga (ge prog w) A (keyKind' us.toArray) (λk s'=>k=tuples' true/\s'=s) (λ_ _=>False) s:=by
 obtain⟨fs,f1,f2,f3⟩:∃fs,DG s.heap us fs/\fs.length=us.length/\∀v∈fs,∃st t,v=Value.str st t:=by
  clear h2
  induction us generalizing m with
  |nil=>exact⟨[],trivial,rfl,by simp⟩
  |cons v l ih=>
   cases r with
   |cons r t=>
   obtain⟨fs,f1,f2,f3⟩:=ih (λy hy=>hk y (.tail _ hy)) t;obtain⟨a,o,st,i,t,t',n,rfl,e,c,d⟩:=iB r (hk _ (.head _));refine⟨.str st t::fs,DG.cons e c d rfl f1,by simp[f2],λy hy=>?_⟩;rcases Aw.mp hy with rfl|hy
   .exact⟨st,t,rfl⟩
   .exact f3 y hy
 refine FE (T:=.type "str") f1 ∅ (λv hv=>?_) ⋯ ⟨rfl,rfl⟩;obtain⟨st,t,rfl⟩:=f3 v hv;exact PySem.W.Looks.now
theorem JO(hk:∀x∈m,aV x=true)(r:dC s.heap m us)(h2:2<=us.length):ga (ge prog w) A (keyKind' us.toArray) (λk s'=>k=tuples' false/\s'=s) (λ_ _=>False) s:=by
 obtain⟨fs,f1,f2,f3⟩:∃fs,DG s.heap us fs/\fs.length=us.length/\∀v∈fs,∃a o,v=Value.ref a/\s.heap.get? a=bn o/\o.cls=.type "tuple":=by
  clear h2
  induction us generalizing m with
  |nil=>exact⟨[],trivial,rfl,by simp⟩
  |cons v l ih=>
   cases r with
   |cons r t=>
   obtain⟨fs,f1,f2,f3⟩:=ih (λy hy=>hk y (.tail _ hy)) t;obtain⟨a,b,c,o,n,y1,y2,rfl,e,cl,d,k1,k2,r1,r2⟩:=xD r (hk _ (.head _));obtain⟨_,ob,_,_,_,_,_,e0,eb,cb,_⟩:=iB r1 k1;cases e0;refine⟨.ref b::fs,DG.cons e cl d rfl f1,by simp[f2],λy hy=>?_⟩;rcases Aw.mp hy with rfl|hy
   .exact⟨b,ob,rfl,eb,cb⟩
   .exact f3 y hy
 refine FE (T:=.type "tuple") f1 ∅ (λv hv=>?_) ⋯ ⟨rfl,rfl⟩;obtain⟨a,o,rfl,e,c⟩:=f3 v hv;rw[<- c];exact(PySem.W.Looks.ld e).andThen .now
end
section
def Inv.drw(I:Inv X U σ H {s with heap:=s2.heap,toks:=s2.toks})(g:s2.gens=s.gens)(o:s2.os=s.os):Inv X U σ H s2:=by
 obtain⟨hp,gg,dd,tk,oo⟩:=s2;obtain⟨tj,gg1,dd1,â,oo1⟩:=s;simp only at g o I;subst g o;exact⟨I.ok,I.os,I.bare,I.base,I.loc,I.cell,I.free,I.iE,I.pin,I.bC,I.len⟩
theorem vT(I:Inv X U σ H s){aj:O db}(r:aA X.K [] H vs l)(k:mP l=true)(rv:Vals vs aj):∀{m:O PV}{out:O db},dC s.heap m out->(∀v∈out,v∈aj)->∃ws,Vals ws out/\aA X.K [] H ws m
 |_,_,.nil,_=>⟨[],.nil,.nil⟩
 |_,_,.cons (x:=x) (v:=v) rx t,h=>by
  obtain⟨ws,w1,w2⟩:=vT I r k rv t λv hv=>h v (.tail _ hv);obtain⟨j,hj⟩:=BI (h v (.head _));have hl:j<vs.length:=by rw[rv.length];exact(Aj.mp hj).1
  obtain⟨y,y1,y2⟩:=r.Xa (Ai hl);obtain⟨u,u1,u2⟩:=Vals.get rv (Ai hl);rw[hj]at u1;cases u1;have ky:sQ y=true:=by
   have:∀{l:O PV},mP l=true->∀z∈l,sQ z=true:=λ{l}=>by
    induction l with
    |nil=>intro _ z hz;cases hz
    |cons a l ih=>
     intro h z hz;rw[mP,AH]at h;rcases Aw.mp hz with rfl|hz
     .exact h.1
     .exact ih h.2 z hz
   exact this k y (Ao y1)
  have:=HV.inj (Pp I y2 ky u2) rx;subst this;exact⟨_,.cons u2 w1,.cons y2 w2⟩
def u9(l:O PV):Bool:=l.all ax||l.all aV
def JL(h:u9 l=true):l.all kD=true/\mP l=true:=by
 have É:∀l:O PV,(∀x∈l,kD x=true/\sQ x=true)->l.all kD=true/\mP l=true:=λl=>by
  induction l with
  |nil=>intro _;exact⟨rfl,rfl⟩
  |cons a l ih=>
   intro h;obtain⟨i1,i2⟩:=ih λx hx=>h x (.tail _ hx);obtain⟨h1,h2⟩:=h a (.head _);exact⟨by rw[Et,h1,i1];rfl,by rw[mP,h2,i2];rfl⟩
 unfold u9 at h;rw[Bool.or_eq_true]at h;rcases h with h|h
 .exact É l λx hx=>RM (AG.mp h x hx)
 .exact É l λx hx=>Rg (AG.mp h x hx)
def IB(K:Ab)(ta:TA):TE:=λσ H Q=>ta σ H λvs H1=>∃(q:f8) (ws:O V) (l:O PV),vs=[.ref q]/\bO K H1 q ws/\aA K [] H1 ws l/\l.length<64/\u9 l=true/\∀m,SetOf l m->∀us,aA K [] H1 us m->jk H1 (.lst us) Q
theorem wX(K:Ab)(hK:X.K=K)(hc:X.calm=true)(hu:X.A.units+200 < nn)(Kl:Gl X "sorted")(Kg:X.mg "sorted"=cr)(Kk:Gl X "set")(Kf:X.mg "set"=cr)(ha:PA X [e] ta)(Pt:‹ii [.Call (.Name "set" p1) [e] [] p2] X.env=(false,r6 (.Call (.Name "set" p1) [e] [] p2) X.env)::ii [] X.env›)(hs:‹hV X e []›)(cX:‹kb X p2 []›):PE X (.Call (.Name "sorted" p) [.Call (.Name "set" p1) [e] [] p2] [] pos) (IB K ta):=by
 subst hK;intro U s σ H Q I h;refine Bv (eD I Kl Kg boot_sorted ?_ ⋯ ⋯);refine Cw ?_ Pt rfl;refine BG ?_;refine Call_ (eD I Kk Kf (show pi "set"=bn (.type "set") by rfl) (Ba (bS (ha p2 U s σ H _ I h) λus s1 ⟨vs,H1,I1,r1,q1⟩=>?_) hs cX));obtain⟨l,ws,ps,rfl,hq,hv,NX,hk,q⟩:=q1;obtain⟨u,rfl,rx⟩:=vals1 r1;cases rx;obtain⟨aj,r',pl,hz⟩:=I1.list hq;obtain⟨k1,k2⟩:=JL hk;have WH:=nq I1 hv k2 r';have À:aj.length=ps.length:=by rw[<- WH.length]
 refine yi (I1.ok.hd hc) (show s1.heap.IsList l aj.toArray from pl.isList) (by simpa using WH) k1 (by rw[Ah,À];lia) ∅ λh' Qs hS kp=>?_;obtain⟨m,hS,hA⟩:=hS;refine BZ ?_;have Sv:m.length < 64:=Dh hA.len NX;have kp':∀b o,s1.heap.get? b=bn o->h'.get? b=bn o:=λb o e=>kp b o (Ak e) e;have fin:∀(a:f8) (out:O db) m' e (s2:em),s2.gens=s1.gens->s2.os=s1.os->(∀b o,h'.get? b=bn o->s2.heap.get? b=bn o)->h'.objs.size<=a->s2.heap.get? a=bn (wP "list" out.toArray e)->dC s1.heap m' out->(∀v∈out,v∈aj.toArray.toList)->m'.Perm m->∃v H',Inv X U σ H' s2/\RelV v (.ref a)/\Q v H':=λa out m' e s2 hg ho k3 Ñ he r2 hL hp=>by
  obtain⟨zs,z1,z2⟩:=vT I1 hv k2 r' r2 (by simpa using hL);have WS:s1.heap.objs.size<=a:=Dp (Az (let ⟨_,_,_,_,ho,_⟩:=hS;Ak ho) Ñ);have I2:=I1.laid (h':=s2.heap) (a:=a) (o:=.lst zs) (t':=s2.toks) (λb o e=>k3 b o (kp' b o e)) WS (show bA X.prog X.w (upd H1 a (.lst zs)) s2.heap a (.lst zs) from⟨by rw[z2.length,hp.length_eq];rw[r9];lia,out,e,z1,he⟩);exact⟨.ref a,_,I2.drw hg ho,rfl,(q m' (hA.so.perm hp) zs z2).at _ (I1.bC.fresh WS)⟩
 unfold u9 at hk;rw[Bool.or_eq_true]at hk;have tk:∀{s2:em},(∀b o,h'.get? b=bn o->s2.heap.get? b=bn o)->∀c o,s1.heap.get? c=bn o->o.cls=.type "tuple"->s2.heap.get? c=bn o:=λk c o e _=>k c o (kp' c o e);have hu2:X.A.in1.in1.in1.units+100 < nn:=by show X.A.units+1+1+1+100 < nn;lia
 rcases hk with hk|hk
 .have hm:∀x∈m,ax x=true:=λx hx=>AG.mp hk x ((hA.mem x).mp hx);refine sortedS (s:={s1 with heap:=h',toks:=Qs}) (κ:=tuples' true) hS (I1.ok.hd hc) Sv (λus m' s2 r p k h2=>?_) (λu v x y s2 rx ry mx my k C hC=>?_) (λa out m' e s2 g o k le he r2 hL hp=>?_)
  .exact JP (λx hx=>hm x (p.mem_iff.mp hx)) (dC.keep (tk k) r) h2
  .exact RS (hm x mx) (hm y my) (HV.keep (tk k) rx) (HV.keep (tk k) ry) hC
  .exact fin a out m' e s2 g o k le he r2 hL hp
 .have hm:∀x∈m,aV x=true:=λx hx=>AG.mp hk x ((hA.mem x).mp hx);refine sortedS (s:={s1 with heap:=h',toks:=Qs}) (κ:=tuples' false) hS (I1.ok.hd hc) Sv (λus m' s2 r p k h2=>?_) (λu v x y s2 rx ry mx my k C hC=>?_) (λa out m' e s2 g o k le he r2 hL hp=>?_)
  .exact JO (λx hx=>hm x (p.mem_iff.mp hx)) (dC.keep (tk k) r) h2
  .exact RQ (hm x mx) (hm y my) (HV.keep (tk k) rx) (HV.keep (tk k) ry) (by show X.A.units+1+1+10<nn;lia) hC
  .exact fin a out m' e s2 g o k le he r2 hL hp
end
section
def IC(K:Ab)(ta:TA):TE:=λσ H Q=>ta σ H λvs H1=>∃(q:f8) (ws:O V) (l:O PV),vs=[.ref q]/\cG K H1 q ws/\aA K [] H1 ws l/\l.length<64/\l.all ax=true/\∀m,SetOf l m->Q (.int (m.length:Int)) H1
theorem wZ(K:Ab)(hK:X.K=K)(hc:X.calm=true)(hu:X.A.units+200 < nn)(Kl:Gl X "len")(Kg:X.mg "len"=cr)(Kk:Gl X "set")(Kf:X.mg "set"=cr)(ha:PA X [e] ta)(Pt:‹ii [.Call (.Name "set" p1) [e] [] p2] X.env=(false,r6 (.Call (.Name "set" p1) [e] [] p2) X.env)::ii [] X.env›)(hs:‹hV X e []›)(cX:‹kb X p2 []›):PE X (.Call (.Name "len" p) [.Call (.Name "set" p1) [e] [] p2] [] pos) (IC K ta):=by
 subst hK;intro U s σ H Q I h;refine Bv (eD I Kl Kg boot_len ?_ ⋯ ⋯);refine Cw ?_ Pt rfl;refine BG ?_;refine Call_ (eD I Kk Kf (show pi "set"=bn (.type "set") by rfl) (Ba (bS (ha p2 U s σ H _ I h) λus s1 ⟨vs,H1,I1,r1,q1⟩=>?_) hs cX));obtain⟨l,ws,ps,rfl,hq,hv,NX,hk,q⟩:=q1;obtain⟨u,rfl,rx⟩:=vals1 r1;cases rx;obtain⟨aj,r',pl,hz⟩:=I1.tuple hq;obtain⟨k1,k2⟩:=JL (l:=ps) (by unfold u9;rw[hk];rfl);have WH:=nq I1 hv k2 r';have À:aj.length=ps.length:=by rw[<- WH.length]
 refine yh (I1.ok.hd hc) (show s1.heap.IsTuple l aj.toArray from pl) (by simpa using WH) k1 (by rw[Ah,À];lia) ∅ λh' Qs hS kp=>?_;obtain⟨m,hS,hA⟩:=hS;refine BZ ?_;have Sv:m.length<64:=Dh hA.len NX;obtain⟨o,es,ep,t,ho,Ü,hd,hf,hn⟩:=hS.len;refine call_len_set ho Ü hd hf ∅ ?_;rw[hn];exact⟨.int _,H1,(I1.kept λb o e=>kp b o (Ak e) e).tok _,⟨_,rfl⟩,q m hA.so⟩
end
end L2
namespace FL
section
variable[cu]
variable{K:Ab}
section
variable{w:W PV}
def cT:Nat->Nat
 |0=>0
 |n+1=>cT n+cT n+1
def kh(l:O PV):W (O PV):=.gm (l.length<64/\u9 l=true) (.any λm=>SetOf l m)
def qN(hK:X.K=K)(hc:X.calm=true)(hu:X.A.units+200 < nn)(Kl:Gl X "sorted")(Kg:X.mg "sorted"=cr)(Kk:Gl X "set")(Kf:X.mg "set"=cr)(ha:Lv X K fs e wl)(Pt:‹ii [.Call (.Name "set" p1) [e] [] p2] X.env=(false,r6 (.Call (.Name "set" p1) [e] [] p2) X.env)::ii [] X.env›)(hs:‹hV X e []›)(cX:‹kb X p2 []›):LF X K fs (.Call (.Name "sorted" p) [.Call (.Name "set" p1) [e] [] p2] [] pos) (.bind wl kh):=⟨PE.imp (wX K hK hc hu Kl Kg Kk Kf (bo ha.p cf hs) Pt hs cX) λσ H Q ⟨sr,q⟩=>⟨sr,wl.mono (λl q1 u1 H1 g1 s1 _ v1=>by
 obtain⟨⟨c1,c2⟩,q2⟩:=q1;obtain⟨a,vs,rfl,h1,r1⟩:=v1 _ H1 .refl s1;exact⟨a,vs,l,rfl,h1,r1,c1,c2,λm hm ws hw=>zk g1 s1 hw (q2 m hm)⟩) q⟩⟩
def kA:PV->W PV
 |.tup l=>.gm (l.length<64/\l.all ax=true) (.bind (.any λm=>SetOf l m) λm=>.ret (.int (m.length:Int)))
 |_=>.fail
def Hq(hK:X.K=K)(hc:X.calm=true)(hu:X.A.units+200 < nn)(Kl:Gl X "len")(Kg:X.mg "len"=cr)(Kk:Gl X "set")(Kf:X.mg "set"=cr)(ha:EF X K fs e w)(Pt:‹ii [.Call (.Name "set" p1) [e] [] p2] X.env=(false,r6 (.Call (.Name "set" p1) [e] [] p2) X.env)::ii [] X.env›)(hs:‹hV X e []›)(cX:‹kb X p2 []›):EF X K fs (.Call (.Name "len" p) [.Call (.Name "set" p1) [e] [] p2] [] pos) (.bind w kA):=⟨PE.imp (wZ K hK hc hu Kl Kg Kk Kf (bo ha.p cf hs) Pt hs cX) λσ H Q ⟨sr,q⟩=>⟨sr,w.mono (λx q1 u1 H1 g1 s1 v1=>by
 cases v1<;>first|exact q1.elim|skip
 rename_i h1 r1;obtain⟨⟨c1,c2⟩,q2⟩:=q1;exact⟨_,_,_,rfl,cG.of h1,r1,c1,c2,λm hm=>q2 m hm _ _ g1 s1 (.int _)⟩) q⟩⟩
end
end
end FL
variable{z i1 i2:Bi}{f1:Bool}{k1:Nat}
namespace L2
section
def ib{Q:Option Obj->em->Prop}(h:Q (s.heap.get? a) s):ga (ge prog w) A (loadIfAlive a) Q E s:=λΓ p _=>by
 unfold loadIfAlive;rw[Sem.wp_loadIfAlive];exact h
abbrev Ih(f0:db)(f1:Bool)(TI TO:f8):Obj:={cls:=.type "zip",dict:=cr,data:=.fields #[f0,.bool f1,.bool false,.ref TI,.ref TO],slots:=#[]}
structure Lo(b1 b2:Bool)(h:im)(z TI TO i1 i2 a1 a2 p:f8)(f1:Bool)(k1 k2:Nat):Prop where
 zip:h.get? z=bn (Ih (pc p) f1 TI TO)
 alive:∃o,h.get? p=bn o
 ti:Da h TI (.ref i1) (.ref i2)
 to:∃a b,Da h TO a b
 LJ:ka b1 h i1 a1 k1
 LI:ka b2 h i2 a2 k2
def uh{b2:Bool}{TI TO p:f8}{x y:db}(hA:ZipApart z TI TO i1 i2 a1 a2)(np:p≠z/\p≠i1/\p≠i2)(hz:Lo b1 b2 s.heap z TI TO i1 i2 a1 a2 p f1 k1 k2)(Sn:gZ b1 s.heap a1 xs)(G5:gZ b2 s.heap a2 ys)(hx:xs[k1]?=bn x)(hy:ys[k2]?=bn y)(q:∀h':im,Lo b1 b2 h' z TI TO i1 i2 a1 a2 p true (k1+1) (k2+1)->Da h' s.heap.objs.size x y->(∀c o,c≠z->c≠TO->c≠i1->c≠i2->s.heap.get? c=bn o->h'.get? c=bn o)->Q (.ref s.heap.objs.size) {s with heap:=h'}):ga (ge prog w) A (o0.«zip.__next__» {pos:=[.ref z]}) (λfin s'=>∃v,fin=E8 (E7 v)/\Q v s') E s:=by
 obtain⟨hz,⟨op,ha⟩,zG,⟨ta,tb,T3⟩,SA,WZ⟩:=hz;show ga _ _ (field (.ref z) 2 >>= λr=>_) _ _ s;refine Aa (AL hz rfl rfl ?_);refine Aa (AL hz rfl rfl ?_);refine Aa (Bj zG rfl ?_);refine Aa ?_;refine Aa (AL hz rfl rfl ?_);show ga _ _ (loadIfAlive (Int.toNat (p:Int)) >>= λr=>_) _ _ s;refine Aa (ib ?_);rw[B1,ha];show ga _ _ (field (.ref z) 1 >>= λr=>_) _ _ s;refine Aa (AL hz rfl rfl ?_);have main:∀G:Bool->em->Prop,(∀h1:im,h1.get? z=bn (Ih (pc p) true TI TO)->A9 z s.heap h1->G false {s with heap:=h1})->ga (ge prog w) A (if (Value.bool f1 != .bool true)=true then (setField (.ref z) 1 (.bool true) >>= λ_=>pure false) else pure false) G E s:=λG r=>by
  cases f1 with
  |true=>exact Ae (r s.heap hz ⟨rfl,λ_ _=>rfl⟩)
  |false=>exact Aa (Bc hz (show 1<5 by decide) λh1 z1 b1=>Ae (r h1 z1 b1))
 refine main _ λh1 z1 Ut=>?_;have jQ:=Ut.2;show ga _ _ (forIn (#[Value.ref i1,Value.ref i2]:Array db) _ _ >>= λr=>_) _ _ _;rw[<- Cb];refine Aa ?_;show ga _ _ (forIn [Value.ref i1,Value.ref i2] _ _) _ _ _;rw[Bx];refine Aa ?_;refine Aa (AZ ?_);refine Aa (fv (SA.move λo e=>(jQ _ hA.i1z).trans e) (Sn.move λo e=>(jQ _ hA.l1z).trans e) hx λh2 j2 ā=>Ae ?_);have Hf:∀b,b≠z->b≠i1->h2.get? b=s.heap.get? b:=λb n1 n2=>(ā.2 b n2).trans (jQ b n1);refine Ae ?_;show ga _ _ (forIn [Value.ref i2] _ _) _ _ _;rw[Bx];refine Aa ?_;refine Aa (AZ ?_);refine Aa (fv (WZ.move λo e=>(Hf _ hA.i2z hA.i12.symm).trans e) (G5.move λo e=>(Hf _ hA.l2z hA.l2i1).trans e) hy λh3 j3 ZA=>Ae ?_);have Ð:∀b,b≠z->b≠i1->b≠i2->h3.get? b=s.heap.get? b:=λb n1 n2 n3=>(ZA.2 b n3).trans (Hf b n1 n2);refine Ae ?_;show ga _ _ (forIn [] _ _) _ _ _;rw[List.forIn_nil];refine Ae ?_;have QD:h3.objs.size=s.heap.objs.size:=ZA.1.trans (ā.1.trans Ut.1);show ga _ _ (newTuple [x,y] >>= λr=>_) _ _ _;refine Aa (B8 ?_ (by show 2<=sizeLine;decide));have kp:∀b o,h3.get? b=bn o->(h3.push {cls:=.type "tuple",data:=.seq #[x,y]}).get? b=bn o:=λb o e=>Af _ e;have GA:(h3.push {cls:=.type "tuple",data:=.seq #[x,y]}).get? h3.objs.size=bn {cls:=.type "tuple",data:=.seq #[x,y]}:=Al _ rfl;refine Ae ⟨.ref h3.objs.size,rfl,?_⟩;rw[QD]at GA ⊢;refine q _ ⟨kp _ _ ((ZA.2 _ hA.i2z.symm).trans ((ā.2 _ hA.i1z.symm).trans z1)),⟨op,kp _ _ ((Ð _ np.1 np.2.1 np.2.2).trans ha)⟩,kp _ _ ((Ð _ hA.TIz hA.TIi1 hA.TIi2).trans zG),⟨ta,tb,kp _ _ ((Ð _ hA.TOz hA.TOi1 hA.TOi2).trans T3)⟩,j2.move λo e=>kp _ _ ((ZA.2 _ hA.i12).trans e),j3.move λo e=>kp _ _ e⟩ GA λc o n1 n2 n3 n4 e=>kp _ _ ((Ð _ n1 n3 n4).trans e)
def rB{b2:Bool}{TI TO p:f8}{Q:FH->em->Prop}(hh:A.handled=cr)(hA:ZipApart z TI TO i1 i2 a1 a2)(hz:Lo b1 b2 s.heap z TI TO i1 i2 a1 a2 p f1 k1 k2)(Sn:gZ b1 s.heap a1 xs)(hx:xs[k1]?=cr)(q:∀(h':im) (e:f8),(∀c o,c≠z->c≠TO->c≠i1->c≠i2->s.heap.get? c=bn o->h'.get? c=bn o)->(∃o,h'.get? e=bn o/\o.cls=.type "StopIteration")->E (.ref e) {s with heap:=h'}):ga (ge prog w) A (o0.«zip.__next__» {pos:=[.ref z]}) Q E s:=by
 obtain⟨hz,⟨op,ha⟩,zG,⟨ta,tb,T3⟩,SA,WZ⟩:=hz;show ga _ _ (field (.ref z) 2 >>= λr=>_) _ _ s;refine Aa (AL hz rfl rfl ?_);refine Aa (AL hz rfl rfl ?_);refine Aa (Bj zG rfl ?_);refine Aa ?_;refine Aa (AL hz rfl rfl ?_);show ga _ _ (loadIfAlive (Int.toNat (p:Int)) >>= λr=>_) _ _ s;refine Aa (ib ?_);rw[B1,ha];show ga _ _ (field (.ref z) 1 >>= λr=>_) _ _ s;refine Aa (AL hz rfl rfl ?_);have main:∀G:Bool->em->Prop,(∀h1:im,h1.get? z=bn (Ih (pc p) true TI TO)->A9 z s.heap h1->G false {s with heap:=h1})->ga (ge prog w) A (if (Value.bool f1 != .bool true)=true then (setField (.ref z) 1 (.bool true) >>= λ_=>pure false) else pure false) G E s:=λG r=>by
  cases f1 with
  |true=>exact Ae (r s.heap hz ⟨rfl,λ_ _=>rfl⟩)
  |false=>exact Aa (Bc hz (show 1<5 by decide) λh1 z1 b1=>Ae (r h1 z1 b1))
 refine main _ λh1 z1 Ut=>?_;have jQ:=Ut.2;show ga _ _ (forIn (#[Value.ref i1,Value.ref i2]:Array db) _ _ >>= λr=>_) _ _ _;rw[<- Cb];refine Aa ?_;show ga _ _ (forIn [Value.ref i1,Value.ref i2] _ _) _ _ _;rw[Bx];refine Aa ?_;refine Aa (AZ ?_);refine Aa (nY hh (SA.move λo e=>(jQ _ hA.i1z).trans e) (Sn.move λo e=>(jQ _ hA.l1z).trans e) hx λh2 e k ex=>?_);exact q h2 e (λc o n1 n2 n3 n4 ec=>k _ _ n3 ((jQ _ n1).trans ec)) ex
end
end L2
namespace FL
section
variable[cu]
variable{K:Ab}
def eK:sizeLine=16777216:=by decide
section
variable{rest:O u8}{f1:aH}{S T:Type}{hd:Nat->S->aH}{hE:S->aH}{s0:S}{k:S->W T}{out:T->End}{x:Bool}{R:Type}{inj:R->T}
def SF.Xi{f:PV->S->W S}(hp:wT (ge X.prog X.w) X.A X.env X.xe)(hc:X.calm=true)(hi:pe X K fs tg iter wl f1)(hl:cZ f1 (hd 0 s0))(hg:PG X tg (cD i))(hb:∀j s p,j<16777216->SF X K false ((hd j s).set i (bn (.val p))) body (f p s) λs'=>.nc (hd (j+1) s'))(hx:∀j s,j<=16777216->cZ (hd j s) (hE s))(hr:∀s,SF X K x (hE s) rest (k s) out)(hs:ph X iter:=by intro _;rfl):SF X K x fs (.For tg iter body [] pos::rest) (.bind wl λl=>.bind (dw l s0 f) k) out:=SF.Xh hp hc hi hl (λ_ _=>Ud hg) (λ_ _=>rfl) (λj s p h=>hb j s p (eK▸h)) (λj s h=>hx j s (eK▸h)) hr hs
def SF.SV{f:PV->S->W (Lp S R)}(hp:wT (ge X.prog X.w) X.A X.env X.xe)(hc:X.calm=true)(hi:pe X K fs tg iter wl f1)(hl:cZ f1 (hd 0 s0))(hg:PG X tg (cD i))(ho:∀t,(out (inj t)).J3)(hb:∀j s p,j<16777216->SF X K false ((hd j s).set i (bn (.val p))) body (f p s) (lpE (hd (j+1)) λr=>out (inj r)))(hx:∀j s,j<=16777216->cZ (hd j s) (hE s))(hr:∀s,SF X K x (hE s) rest (k s) out)(hs:ph X iter:=by intro _;rfl):SF X K x fs (.For tg iter body [] pos::rest) (.bind wl λl=>.bind (FL.oO l s0 f) (LQ k inj)) out:=SF.Xg hp hc hi hl (λ_ _=>Ud hg) (λ_ _=>rfl) ho (λj s p h=>hb j s p (eK▸h)) (λj s h=>hx j s (eK▸h)) hr hs
end
end
end FL
variable{a:Int}
namespace FL
section
variable[cu]
variable{K:Ab}
def ia:Nat->O V->Prop:=λj vs=>∃(b:f8) (s c:Int),vs=[.ref b,.int s,.int c]/\0<=c/\c<=(j:Int)
section
def GZ(I:Inv X U σ H s)(e:di H b):∃ns:O Int,Inv X U σ (upd H b (.lst (ns.map V.int))) s:=by
 have e:H b=bn (.ext (v8 b)):=e;obtain⟨⟨ns,dc,n',z',v',g'⟩,_⟩:=(show bA X.prog X.w H s.heap b (.ext (v8 b)) from I.bC b _ e);exact⟨ns,I.write (x:=b) (e:=b) (o:=.lst (ns.map V.int)) (h':=s.heap) (t':=s.toks) (by rw[e];exact B4) (.inl rfl) (λb u _ z=>z) ⟨_,g'⟩ ⟨by rw[Aq];exact z',dc,n',v',g'⟩⟩
def G1:∀h1 h2:im,v8 b h1->(∀o,h1.get? b=bn o->h2.get? b=bn o)->v8 b h2:=λ_ _ ⟨ns,aj,n,z,v,e⟩ k=>⟨ns,aj,n,z,v,k _ e⟩
def qU(I:Inv X U σ H s)(e:H b=bn (.lst (ns.map V.int))):Inv X U σ (upd H b (.ext (v8 b))) s:=by
 obtain⟨z',dc,n',v',g'⟩:=(show bA X.prog X.w H s.heap b (.lst (ns.map V.int)) from I.bC b _ e);exact I.write (x:=b) (e:=b) (o:=.ext (v8 b)) (h':=s.heap) (t':=s.toks) (by rw[e];exact B4) (.inl rfl) (λb u _ z=>z) ⟨_,g'⟩ ⟨⟨ns,dc,n',by rw[Aq]at z';exact z',v',g'⟩,⟨_,g'⟩,G1⟩
def WY(b:f8)(D:Ends):Ends:={nx:=λ_ _=>False,rt:=λv H'=>∃ns:O Int,H' b=bn (.lst (ns.map V.int))/\D.rt v (upd H' b (.ext (v8 b)))}
def lh.shown{LC:O u8}{t:TS}(h:lh X LC t):lh X LC λD σ H=>∃b,di H b/\∀ns:O Int,t (WY b D) σ (upd H b (.lst (ns.map V.int))):=λU s σ H D I ⟨b,e,q⟩=>by
 obtain⟨ns,I1⟩:=GZ I e;refine bS (h U s σ _ _ I1 (q ns)) λfl s' z=>?_;cases fl with
 |next=>obtain⟨_,_,_,z⟩:=z;exact z.elim
 |brk=>obtain⟨_,_,_,z⟩:=z;exact z.elim
 |cont=>obtain⟨_,_,_,z⟩:=z;exact z.elim
 |ret u=>
  obtain⟨v,σ',H',I',r,ns,e1,z⟩:=z;exact⟨v,σ',_,qU I' e1,r,z⟩
end
section
variable{LC:O u8}{T:Type}{w:W T}{out:T->End}{x:Bool}
def XC(h:LF X K fs e wl au):EF X K fs e (.bind wl λl=>.gm (∃ns:O Int,l=ns.map PV.int) (.ret .hand)) au:=⟨λU s σ H Q I ⟨sr,q⟩=>by
 refine bS (h.p U s σ H (λu H1=>∃a vs l,u=.ref a/\cg σ fs H H1 au/\aO K H1 σ au/\H a=cr/\H1 a=bn (.lst vs)/\aA K [] H1 vs l/\(∃ns:O Int,l=ns.map PV.int)/\∀u H',cg σ fs H H' au->aO K H' σ au->VR K [] H' u .hand->Q u H') I ⟨sr,wl.mono (λl q1 a vs H1 g1 s1 n e v=>⟨a,vs,l,rfl,g1,s1,n,e,v,q1.1,q1.2⟩) q⟩) λu s1 ⟨v,H1,I1,r1,a,vs,l,e,g1,Vp,n,ea,vr,⟨ns,el⟩,q1⟩=>?_;subst e el;have:=zE vr;subst this;exact⟨.ref a,_,qU I1 ea,r1,q1 _ _ (g1.side n (λφ=>by rw[ea];simp) _) (Vp.side (λz=>sr.noOwn n (g1.ev.ff z)) ea _) (.hand aM)⟩⟩
def SF.ia(i m:Nat)(hs:fs[i]?=bn (bn (.ol cr l)))(hr:SF X K x (fs.set i (bn (.dI FL.ia 0 m))) LC w out)(hm: ~~~(m<=wQ)):SF X K x fs LC (.gm (∃s:Int,l=[.hand,.int s,.int 0]) w) out:=⟨λU s σ H D I ⟨sr,q⟩=>by
 obtain⟨⟨sd,el⟩,q⟩:=q;obtain⟨a,ws,e1,h1,r1⟩:=fH sr hs;subst el;cases r1 with
 |cons ra r1=>
 cases r1 with
 |cons rb r1=>
 cases r1 with
 |cons rc r1=>
 cases r1;cases ra with
 | @hand b hb=>
 cases rb;cases rc;obtain⟨s2,g2⟩:=nT (t':=.dI FL.ia 0 m) sr hs rfl (by simp) e1 (λ_ _ _ z=>z:jI a H H) λtk=>⟨⟨0,_,Am 0,h1,⟨b,sd,0,rfl,Int.le_refl 0,Int.le_refl 0⟩,λc hc=>by simp at hc;subst hc;exact hb⟩,A7 m,hm⟩;exact hr.p U s σ H D I ⟨s2,w.mono (λt q2=>q2.go g2 sr s2) q⟩⟩
end
theorem Ng{b:Int}(ha:-2037035976334486086268445688409378161051468393665936250636140449354381299763336706183397376<a/\a<2037035976334486086268445688409378161051468393665936250636140449354381299763336706183397376)(hb:-2037035976334486086268445688409378161051468393665936250636140449354381299763336706183397376<b/\b<2037035976334486086268445688409378161051468393665936250636140449354381299763336706183397376):Fk a b:=by
 have h:∀x:Int,-2037035976334486086268445688409378161051468393665936250636140449354381299763336706183397376<x/\x<2037035976334486086268445688409378161051468393665936250636140449354381299763336706183397376->Builtin.Int.intBits x<=300:=λx hx=>intBits_le_iff.mpr (Az (show x.natAbs<2037035976334486086268445688409378161051468393665936250636140449354381299763336706183397376 by lia) (by decide +kernel));unfold Fk;have k:=h a ha;have l:=h b hb;have:Builtin.Int.intTooBig ((Builtin.Int.intBits a:Int)+(Builtin.Int.intBits b:Int))=false:=by
  unfold Builtin.Int.intTooBig;have:bitsLine=134217728:=by decide +kernel
  rw[this];exact decide_eq_false ∅
 rw[this,CB];exact A6
def cz:PV->W PV
 |.int i=>.gm (0<i/\i<1073741824) (drawn i)
 |_=>.fail
@[simp] theorem d9{i:Int}(h0:0<i)(h1:i<1073741824):cz (.int i)=drawn i:=sw ⟨h0,h1⟩
def abV{a:f8}{s c:Int}(tb:TB H)(ea:∃ws,H a=bn (.lst ws))(eb:di H b)(k:∀x o,x≠a->x≠b->H x=bn o->H' x=bn o)(th:∀x,H' x=cr->H x=cr)(e1:H' a=bn (.lst [.ref b,.int s,.int c]))(e2:di H' b)(ab:a≠b)(hc:0<=c/\c<=((j+1:Nat):Int))(np:∀x ψ d,¬pd vs ks ψ d x):Qd j (.ref a::vs) (.p FL.ia 1::ks) H H':=by
 have keep:∀x o,H x=bn o->x≠a->H' x=bn o:=λx o h n=>by
  by_cases c:x=b
  .subst c;rw[show H x=_ from eb]at h;cases h;exact e2
  .exact k x o n c h
 obtain⟨ws,ea⟩:=ea;refine⟨λx o h n _=>keep x o h λy=>n FL.ia 1 ⟨0,rfl,by rw[y];rfl⟩,tb.mono (λx ps z=>keep x _ z λy=>by subst y;rw[ea]at z;cases z) λx o u _ z _=>⟨u,keep x _ z λy=>by subst y;rw[ea]at z;cases z⟩,th,λx ψ d ⟨i,p1,p2⟩=>?_,λx h=>keep x _ h λy=>by subst y;rw[show H x=_ from h]at ea;cases ea⟩;cases i with
 |zero=>simp at p1 p2;obtain⟨rfl,rfl⟩:=p1;subst p2;exact⟨j+1,_,Am _,e1,⟨b,s,c,rfl,hc.1,hc.2⟩,λy hy=>by simp at hy;subst hy;exact e2⟩
 |succ i=>exact(np x ψ d ⟨i,by simpa using p1,by simpa using p2⟩).elim
end
end FL
variable{f0:AV}
namespace L2
structure OB(b1 b2:Bool)(h:im)(z TI TO i1 i2 a1 a2:f8)(f0:db)(f1:Bool)(k1 k2:Nat):Prop where
 zip:h.get? z=bn (Ih f0 f1 TI TO)
 ti:Da h TI (.ref i1) (.ref i2)
 to:∃a b,Da h TO a b
 LJ:ka b1 h i1 a1 k1
 LI:ka b2 h i2 a2 k2
def OQ{TI TO:f8}{Q:Bool->em->Prop}(hz:s.heap.get? z=bn (Ih f0 f1 TI TO))(hf:f0=.none\/∃p:Nat,f0=pc p/\s.heap.get? p=cr)(q:Q true s):ga (ge prog w) A (Builtin.SmallTypes.ownedTupleIsFree (.ref z)) Q E s:=by
 unfold Builtin.SmallTypes.ownedTupleIsFree;refine Aa (AL hz rfl rfl ?_);rcases hf with rfl|⟨p,rfl,e⟩
 .exact Ae q
 .show ga _ _ (loadIfAlive (Int.toNat (p:Int)) >>= λr=>_) _ _ s;refine Aa (ib ?_);rw[B1,e];exact Ae q
def nC{E:db->em->Prop}{b2:Bool}{TI TO:f8}{x y:db}(hA:ZipApart z TI TO i1 i2 a1 a2)(hz:OB b1 b2 s.heap z TI TO i1 i2 a1 a2 f0 f1 k1 k2)(hf:f0=.none\/∃p:Nat,f0=pc p/\s.heap.get? p=cr)(Sn:gZ b1 s.heap a1 xs)(G5:gZ b2 s.heap a2 ys)(hx:xs[k1]?=bn x)(hy:ys[k2]?=bn y)(q:∀h':im,yy b1 b2 h' z TI TO i1 i2 a1 a2 (pc s.heap.objs.size) (k1+1) (k2+1)->Da h' s.heap.objs.size x y->(∀c o,c≠z->c≠TO->c≠i1->c≠i2->s.heap.get? c=bn o->h'.get? c=bn o)->Q (.ref s.heap.objs.size) {s with heap:=h'}):ga (ge prog w) A (o0.«zip.__next__» {pos:=[.ref z]}) (λfin s'=>∃v,fin=E8 (E7 v)/\Q v s') E s:=by
 obtain⟨hz,zG,⟨ta,tb,T3⟩,SA,WZ⟩:=hz;show ga _ _ (field (.ref z) 2 >>= λr=>_) _ _ s;refine Aa (AL hz rfl rfl ?_);refine Aa (AL hz rfl rfl ?_);refine Aa (Bj zG rfl ?_);refine Aa (OQ hz hf ?_);refine Aa (Df ?_);refine Aa (AL hz rfl rfl ?_);refine Aa (Bc hz (show 0 < 5 by decide) λh1 z1 b1=>?_);show ga _ _ ((forIn [(Value.ref i1,0),(Value.ref i2,1)] _ _) >>= λr=>_) _ _ _;refine Aa ?_;rw[Bx];have jQ:=b1.2;refine Aa ?_;refine Aa (Fj ?_);refine Aa (fv (SA.move λo e=>(jQ _ hA.i1z).trans e) (Sn.move λo e=>(jQ _ hA.l1z).trans e) hx λh2 j2 b2=>Ae ?_);have Hf:∀b,b≠z->b≠i1->h2.get? b=s.heap.get? b:=λb n1 n2=>(b2.2 b n2).trans (jQ b n1);have to2:=(Hf _ hA.TOz hA.TOi1).trans T3;refine Aa (Bj to2 rfl ?_);refine Aa (wpAny_updateSeq_pair to2 λh3 t3 b3=>?_);have Ð:∀b,b≠z->b≠i1->b≠TO->h3.get? b=s.heap.get? b:=λb n1 n2 n3=>(b3.2 b n3).trans (Hf b n1 n2);refine Aa (Fb (Ae ?_));show ga _ _ (forIn [(Value.ref i2,1)] _ _) _ _ _;rw[Bx];refine Aa ?_;refine Aa (Fj ?_);refine Aa (fv (WZ.move λo e=>(Ð _ hA.i2z hA.i12.symm hA.TOi2.symm).trans e) (G5.move λo e=>(Ð _ hA.l2z hA.l2i1 hA.l2TO).trans e) hy λh4 j4 b4=>Ae ?_);have to4:=(b4.2 _ hA.TOi2).trans t3;refine Aa (Bj to4 rfl ?_);refine Aa (wpAny_updateSeq_pair to4 λh5 t5 b5=>?_);have to5:=t5;refine Aa (Fb (Ae ?_));refine Ae ?_;refine Aa (Bj to5 rfl ?_);have ä:=b5.1.trans (b4.1.trans (b3.1.trans (b2.1.trans b1.1)));refine Aa (B8 ?_ (by show 2<=sizeLine;decide));have Xb:∀b,b≠z->b≠i1->b≠TO->b≠i2->h5.get? b=s.heap.get? b:=λb n1 n2 n3 n4=>(b5.2 b n3).trans ((b4.2 b n4).trans (Ð b n1 n2 n3));have kp:∀b o,h5.get? b=bn o->(h5.push {cls:=.type "tuple",data:=.seq #[x,y]}).get? b=bn o:=λb o e=>Af _ e;refine Aa ?_;refine Aa (Bc (kp _ _ ((b5.2 _ hA.TOz.symm).trans ((b4.2 _ hA.i2z.symm).trans ((b3.2 _ hA.TOz.symm).trans ((b2.2 _ hA.i1z.symm).trans z1))))) (show 0 < 5 by decide) λh7 z7 b7=>?_);refine Bc z7 (show 1 < 5 by decide) λh8 z8 b8=>?_;have He:∀b,b≠z->h8.get? b=(h5.push {cls:=.type "tuple",data:=.seq #[x,y]}).get? b:=λb n=>(b8.2 b n).trans (b7.2 b n);have nz:s.heap.objs.size≠z:=λe=>by have:=Ak hz;rw[<- e]at this;exact A0 _ this
 refine Ae ⟨.ref h5.objs.size,rfl,?_⟩;rw[ä];refine q h8 ⟨?_,?_,?_,?_,?_⟩ ?_ ?_
 .rw[<- ä];exact z8
 .rw[Da,He _ hA.TIz];exact kp _ _ ((Xb _ hA.TIz hA.TIi1 hA.TITO hA.TIi2).trans zG)
 .exact⟨x,y,by rw[Da,He _ hA.TOz];exact kp _ _ to5⟩
 .refine j2.move λo e=>?_;rw[He _ hA.i1z];exact kp _ _ ((b5.2 _ hA.TOi1.symm).trans ((b4.2 _ hA.i12).trans ((b3.2 _ hA.TOi1.symm).trans e)))
 .refine j4.move λo e=>?_;rw[He _ hA.i2z];exact kp _ _ ((b5.2 _ hA.TOi2.symm).trans e)
 .rw[Da,He _ nz,<- ä];exact(Al _ rfl)
 .intro c o n1 n2 n3 n4 e;rw[He _ n1];exact kp _ _ ((Xb _ n1 n3 n2 n4).trans e)
def jt{b2:Bool}{TI TO:f8}{Q:FH->em->Prop}(hh:A.handled=cr)(hA:ZipApart z TI TO i1 i2 a1 a2)(hz:OB b1 b2 s.heap z TI TO i1 i2 a1 a2 f0 f1 k1 k2)(hf:f0=.none\/∃p:Nat,f0=pc p/\s.heap.get? p=cr)(Sn:gZ b1 s.heap a1 xs)(hx1:xs[k1]?=cr)(q:∀(h':im) (e:f8),(∀c o,c≠z->c≠TO->c≠i1->c≠i2->s.heap.get? c=bn o->h'.get? c=bn o)->(∃o,h'.get? e=bn o/\o.cls=.type "StopIteration")->E (.ref e) {s with heap:=h'}):ga (ge prog w) A (o0.«zip.__next__» {pos:=[.ref z]}) Q E s:=by
 obtain⟨hz,zG,⟨ta,tb,T3⟩,SA,WZ⟩:=hz;show ga _ _ (field (.ref z) 2 >>= λr=>_) _ _ s;refine Aa (AL hz rfl rfl ?_);refine Aa (AL hz rfl rfl ?_);refine Aa (Bj zG rfl ?_);refine Aa (OQ hz hf ?_);refine Aa (Df ?_);refine Aa (AL hz rfl rfl ?_);refine Aa (Bc hz (show 0 < 5 by decide) λh1 z1 Ut=>?_);show ga _ _ ((forIn [(Value.ref i1,0),(Value.ref i2,1)] _ _) >>= λr=>_) _ _ _;refine Aa ?_;have jQ:=Ut.2;refine Aa ?_;refine Aa (Fj ?_);have fin:∀{h2:im}{e:f8}{R:db->em->Prop},h2.get? z=bn {cls:=.type "zip",data:=.fields #[.ellipsis,.bool f1,.bool false,.ref TI,.ref TO]}->(∃o,h2.get? e=bn o/\o.cls=.type "StopIteration")->(∀c o,c≠z->c≠TO->c≠i1->c≠i2->s.heap.get? c=bn o->h2.get? c=bn o)->ga (ge prog w) A (setField (.ref z) 0 .none) (λ_ s'=>E (.ref e) s') R {s with heap:=h2}:=λ{h2 e R} z2 ex k=>by
  refine Bc z2 (show 0<5 by decide) λh3 z3 b3=>?_;refine q h3 e (λc o n1 n2 n3 n4 ec=>?_) ?_
  .rw[b3.2 _ n1];exact k c o n1 n2 n3 n4 ec
  .obtain⟨o,eo,hc⟩:=ex;by_cases he:e=z
   .subst he;rw[z2]at eo;cases eo;exact absurd (show Value.type "zip"=Value.type "StopIteration" from hc) ⋯
   .exact⟨o,(b3.2 _ he).trans eo,hc⟩
 exact Aa (nY hh (SA.move λo e=>(jQ _ hA.i1z).trans e) (Sn.move λo e=>(jQ _ hA.l1z).trans e) hx1 λh2 e k ex=>fin (k _ _ hA.i1z.symm z1) ex λc o n1 n2 n3 n4 ec=>k _ _ n3 ((jQ _ n1).trans ec))
def Lx(b1 b2:Bool)(K:Ab)(a1 a2:f8):It where
 go:=λi H=>∃xs ys x y,Lu b1 K H a1 xs/\Lu b2 K H a2 ys/\xs[i]?=bn x/\ys[i]?=bn y
 Ij:=λi H v H'=>∃p x y,v=.ref p/\H p=cr/\H'=upd H p (.tup [x,y])/\(∀xs,Lu b1 K H a1 xs->xs[i]?=bn x)/\∀ys,Lu b2 K H a2 ys->ys[i]?=bn y
 stop:=λi H=>∃xs,Lu b1 K H a1 xs/\xs.length<=i
def Yk(b1 b2:Bool)(z TI TO i1 i2 a1 a2:f8)(i:Nat)(h:im):Prop:=∃f0 f1,OB b1 b2 h z TI TO i1 i2 a1 a2 f0 f1 i i/\(f0=.none\/∃p:Nat,f0=pc p/\p≠z/\p≠i1/\p≠i2)
theorem F2{K:Ab}{b2:Bool}{TI TO:f8}(hA:ZipApart z TI TO i1 i2 a1 a2):Turn P w K (.Name y0 pos) (Lx b1 b2 K a1 a2) [z,TI,TO,i1,i2] z (Yk b1 b2 z TI TO i1 i2 a1 a2) where
 mem:=by simp
 obj:=λi h ⟨f0,f1,st,_⟩ b hb=>by
  simp at hb;rcases hb with rfl|rfl|rfl|rfl|rfl
  .exact⟨_,st.zip,λv z=>by cases z⟩
  .exact⟨_,st.ti,λv z=>by cases z⟩
  .obtain⟨_,_,e⟩:=st.to;exact⟨_,e,λv z=>by cases z⟩
  .exact st.LJ.obj
  .exact st.LI.obj
 keep:=λi h h' ⟨f0,f1,st,q⟩ k=>⟨f0,f1,⟨k z (by simp) _ st.zip,k TI (by simp) _ st.ti,let ⟨a,b,e⟩:=st.to;⟨a,b,k TO (by simp) _ e⟩,st.LJ.move λo e=>k i1 (by simp) _ e,st.LI.move λo e=>k i2 (by simp) _ e⟩,q⟩
 item:=by
  intro X hP hw hK hc i U s σ H E I hf ⟨f0,f1,st,ô⟩ hg;subst hP hw hK;obtain⟨xs,ys,x,y,hx,hy,gx,gy⟩:=hg;obtain⟨aj,rx,tx,_⟩:=I.Vm hx;obtain⟨cI,ry,ty,_⟩:=I.Vm hy;obtain⟨u,gu,ru⟩:=ke rx gx;obtain⟨v,gv,rv⟩:=ke ry gy;have lt:∀b∈[z,TI,TO,i1,i2],b<s.heap.objs.size:=λb hb=>by
   simp only[Aw,Bk,or_false]at hb;rcases hb with rfl|rfl|rfl|rfl|rfl
   .exact Ak st.zip
   .exact Ak st.ti
   .obtain⟨_,_,e⟩:=st.to;exact Ak e
   .obtain⟨o,e,_⟩:=st.LJ.obj;exact Ak e
   .obtain⟨o,e,_⟩:=st.LI.obj;exact Ak e
  have nz:∀b∈[z,TI,TO,i1,i2],s.heap.objs.size≠b:=λb hb=>DU (lt b hb);have Þ:s.TypeIs (.ref z) "zip":=⟨_,st.zip,rfl⟩;refine Aa (Cq (AM Þ C9 (AU C9 Þ F.entry_zip_next ?_ (F.args_zip_next_1 _))));have fin:∀(h':im) (Xt:db) (þ:Bool),OB b1 b2 h' z TI TO i1 i2 a1 a2 Xt þ (i+1) (i+1)->(Xt=.none\/∃p:Nat,Xt=pc p/\p≠z/\p≠i1/\p≠i2)->Da h' s.heap.objs.size u v->(∀c o,c≠z->c≠TO->c≠i1->c≠i2->s.heap.get? c=bn o->h'.get? c=bn o)->
    ∃u',(bn (Value.ref s.heap.objs.size):Option db)=bn u'/\ga (ge X.prog X.w) X.A (wn (.Name y0 pos) (.ref z) u') (λ_ s2=>∃x H',Inv X U σ H' s2/\RelV x u'/\(Lx b1 b2 X.K a1 a2).Ij i H x H'/\Yk b1 b2 z TI TO i1 i2 a1 a2 (i+1) s2.heap/\∀b∈[z,TI,TO,i1,i2],H' b=cr) E {s with heap:=h'}:=λh' Xt þ zt q np k=>by
   refine⟨_,rfl,Ae ?_⟩;have Wv:∀b o,b∉[z,TI,TO,i1,i2]->s.heap.get? b=bn o->h'.get? b=bn o:=λb o hb e=>k b o (λq=>hb (by simp[q])) (λq=>hb (by simp[q])) (λq=>hb (by simp[q])) (λq=>hb (by simp[q])) e;refine⟨.ref s.heap.objs.size,upd H s.heap.objs.size (.tup [x,y]),I.nG hf Wv (Am _) ⟨by show 2<=sizeLine;decide,[u,v],.cons ru (.cons rv .nil),⟨_,np,rfl,_,rfl⟩,_,np,rfl⟩,rfl,⟨_,x,y,rfl,(I.bC.fresh (Am s.heap.objs.size)),rfl,λxs' h'=>?_,λys' h'=>?_⟩,⟨Xt,þ,zt,q⟩,λb hb=>?_⟩
   .rw[I.yQ h' hx];exact gx
   .rw[I.yQ h' hy];exact gy
   .rw[aw (Ar (lt b hb))];exact(hf b hb).1
  have new:∃p:Nat,pc (s.heap.objs.size:Int)=pc p/\p≠z/\p≠i1/\p≠i2:=⟨_,rfl,nz _ (by simp),nz _ (by simp),nz _ (by simp)⟩;have free:(f0=.none\/∃p:Nat,f0=pc p/\s.heap.get? p=cr)->ga (ge X.prog X.w) X.A.in1 (o0.«zip.__next__» {pos:=[.ref z]}) (λfin s'=>∃v,fin=E8 (E7 v)/\ga (ge X.prog X.w) X.A (pure (bn v)) (λr s1=>∃u',r=bn u'/\ga (ge X.prog X.w) X.A (wn (.Name y0 pos) (.ref z) u') (λ_ s2=>∃x H',Inv X U σ H' s2/\RelV x u'/\(Lx b1 b2 X.K a1 a2).Ij i H x H'/\Yk b1 b2 z TI TO i1 i2 a1 a2 (i+1) s2.heap/\∀b∈[z,TI,TO,i1,i2],H' b=cr) E s1) E s') (λe s'=>ga (ge X.prog X.w) X.A (do
     let mh <- isInstance e (Value.type "StopIteration")
     if mh=true then pure cr else throw e) (λr s1=>∃u',r=bn u'/\ga (ge X.prog X.w) X.A (wn (.Name y0 pos) (.ref z) u') (λ_ s2=>∃x H',Inv X U σ H' s2/\RelV x u'/\(Lx b1 b2 X.K a1 a2).Ij i H x H'/\Yk b1 b2 z TI TO i1 i2 a1 a2 (i+1) s2.heap/\∀b∈[z,TI,TO,i1,i2],H' b=cr) E s1) E s') s:=λhfr=>
   nC hA st hfr tx ty (by simpa using gu) (by simpa using gv) λh' a b c=>Ae (fin h' _ false ⟨a.zip,a.ti,a.to,a.LJ,a.LI⟩ (.inr new) b c)
  rcases ô with rfl|⟨p,rfl,p1,p2,p3⟩
  .exact free (.inl rfl)
  .cases ep:s.heap.get? p with
   |none=>exact free (.inr ⟨p,rfl,ep⟩)
   |some op=>exact uh hA ⟨p1,p2,p3⟩ ⟨st.zip,⟨op,ep⟩,st.ti,st.to,st.LJ,st.LI⟩ tx ty (by simpa using gu) (by simpa using gv) λh' a b c=>Ae (fin h' _ true ⟨a.zip,a.ti,a.to,a.LJ,a.LI⟩ (.inr ⟨p,rfl,p1,p2,p3⟩) b c)
 done:=by
  intro X hP hw hK hc i U s σ H E I hf ⟨f0,f1,st,ô⟩ hg;subst hP hw hK;obtain⟨xs,hx,hl⟩:=hg;obtain⟨aj,rx,tx,_⟩:=I.Vm hx;have el:=rx.length;have hn:aj.toArray[i]?=cr:=by simp;lia
  have Þ:s.TypeIs (.ref z) "zip":=⟨_,st.zip,rfl⟩;have fin:∀h':im,(∀c o,c≠z->c≠TO->c≠i1->c≠i2->s.heap.get? c=bn o->h'.get? c=bn o)->(cr:Option db)=cr/\Inv X U σ H {s with heap:=h'}:=λh' k=>⟨rfl,I.rK (t':=s.toks) hf λb o hb e=>k b o (λz=>hb (by simp[z])) (λz=>hb (by simp[z])) (λz=>hb (by simp[z])) (λz=>hb (by simp[z])) e⟩;refine Aa (Cq (AM Þ C9 (AU C9 Þ F.entry_zip_next ?_ (F.args_zip_next_1 _))));have hh:=I.ok.hd hc;rcases ô with rfl | ⟨p,rfl,p1,p2,p3⟩
  .exact jt (A:=X.A.in1) hh hA st (.inl rfl) tx hn λh' e k ⟨o,eo,hc⟩=>Aa (BH (T:="StopIteration") ⟨o,eo,hc⟩ zn (Ae (fin h' k)))
  .cases ep:s.heap.get? p with
   |none=>exact jt (A:=X.A.in1) hh hA st (.inr ⟨p,rfl,ep⟩) tx hn λh' e k ⟨o,eo,hc⟩=>Aa (BH (T:="StopIteration") ⟨o,eo,hc⟩ zn (Ae (fin h' k)))
   |some op=>exact rB (A:=X.A.in1) hh hA ⟨st.zip,⟨op,ep⟩,st.ti,st.to,st.LJ,st.LI⟩ tx hn λh' e k ⟨o,eo,hc⟩=>Aa (BH (T:="StopIteration") ⟨o,eo,hc⟩ zn (Ae (fin h' k)))
 self:=λA i s Q E ⟨f0,f1,st,_⟩ h=>by
  have hT:s.TypeIs (.ref z) "zip":=⟨_,st.zip,rfl⟩;refine El hT F.slot_zip_iter (AU F.slot_zip_iter hT F.entry_zip_iter ?_ (F.args_zip_iter_1 _));show ga _ _ (ret (.ref z)) _ _ s;exact Ae ⟨_,rfl,"zip",_,hT,C9.lookup,h⟩
def WC(K:Ab)(t1 t2:TE):TI:=λσ H R=>t1 σ H λx H1=>t2 σ H1 λy H2=>∃b1 b2 a b,x=.ref a/\y=.ref b/\(∃xs,Lu b1 K H2 a xs)/\(∃ys,Lu b2 K H2 b ys)/\R (Lx b1 b2 K a b) H2
def MJ(K:Ab)(hK:X.K=K){e1 e2:lc}{t1 t2:TE}(hg:Gl X "zip")(hm:X.mg "zip"=cr)(h1:PE X e1 t1)(h2:PE X e2 t2)(s9:‹ii [e1,e2] X.env=(false,r6 e1 X.env)::ii [e2] X.env›)(G7:‹hV X e2 []›)(cX:‹(backTo p2 (ii [e2] X.env)).any (·.1)=false›):PI X (.Name y0 tp) (.Call (.Name "zip" p1) [e1,e2] [] p2) (WC K t1 t2):=by
 subst hK;intro U s σ H R I h;refine Bv (eD I hg hm boot_zip ?_ ⋯ ⋯);refine Ba ?_ s9 cX;rw[s9,G7];refine BG (bS (h1 U s σ H _ I h) λu1 s1 ⟨x,H1,I1,r1,q1⟩=>?_);refine BG (bS (h2 U s1 σ H1 _ I1 q1) λu2 s2 ⟨y,H2,I2,r2,b1,b2,a,b,ex,ey,⟨xs,hx⟩,⟨ys,hy⟩,q⟩=>BZ ?_);subst ex;subst ey;cases r1;cases r2;obtain⟨aj,rx,tx,_⟩:=I2.Vm hx;obtain⟨cI,ry,ty,_⟩:=I2.Vm hy;refine HB tx ty λh' zt k=>?_;refine wpAny_pyIter_zip zt.zip ?_;have dd:∀i j:Nat,i≠j->s2.heap.objs.size+i≠s2.heap.objs.size+j:=λi j n e=>n (Nat.add_left_cancel e);have na:∀i:Nat,a≠s2.heap.objs.size+i:=λi=>Ar (Az tx.lt (BA _ _));have nb:∀i:Nat,b≠s2.heap.objs.size+i:=λi=>Ar (Az ty.lt (BA _ _));have hA:ZipApart (s2.heap.objs.size+4) (s2.heap.objs.size+2) (s2.heap.objs.size+3) s2.heap.objs.size (s2.heap.objs.size+1) a b:=
  ⟨dd 2 4 ⋯,dd 3 4 ⋯,dd 0 4 ⋯,dd 1 4 ⋯,dd 2 3 ⋯,dd 2 0 ⋯,dd 2 1 ⋯,dd 3 0 ⋯,dd 3 1 ⋯,dd 0 1 ⋯,na 4,na 3,na 0,na 1,nb 4,nb 3,nb 0,nb 1⟩
 refine⟨_,_,_,_,H2,rfl,I2.kept k,F2 hA,⟨_,false,⟨zt.zip,zt.ti,zt.to,zt.LJ,zt.LI⟩,.inl rfl⟩,λc hc=>?_,q⟩;have Ñ:s2.heap.objs.size<=c:=by
  simp at hc;rcases hc with rfl|rfl|rfl|rfl|rfl
  .exact BA _ _
  .exact BA _ _
  .exact BA _ _
  .exact Am _
  .exact BA _ _
 exact I2.Hk Ñ (I2.bC.fresh Ñ)
end L2
variable{b:B6}
namespace FL
section
variable[cu]
variable{K:Ab}
section
variable{a:lc}
def yF(l m:O PV):W (O PV):=.gm (l.length<=sizeLine/\l.length<=m.length) (.ret (jJ l m))
theorem NL(hK:X.K=K)(hg:Gl X "zip")(hm:X.mg "zip"=cr)(ha:IF X K fs a wl)(hb:IF X K fs b wm)(s9:‹ii [a,b] X.env=(false,r6 a X.env)::ii [b] X.env›)(G7:‹hV X b []›)(cX:‹(backTo p2 (ii [b] X.env)).any (·.1)=false›):pe X K fs (.Name y0 tp) (.Call (.Name "zip" p1) [a,b] [] p2) (.bind wl λl=>.bind wm λm=>yF l m):=
 ⟨PI.imp (MJ K hK hg hm ha.p hb.p s9 G7 cX) λσ H R ⟨sr,q⟩=>⟨sr,wl.mono (λl q1 u1 H1 g1 s1 v1=>⟨s1,wm.mono (λm q2 u2 H2 g2 s2 v2=>by
  obtain⟨b1,a1,vs,rfl,r1,x1⟩:=O2 (v1.tk (g2.dn s1));obtain⟨b2,a2,ws,rfl,r2,x2⟩:=O2 v2;have tr:a8 K H2 H2:=a8.refl H2;refine⟨b1,b2,a1,a2,rfl,rfl,⟨vs,x1 H2 tr⟩,⟨ws,x2 H2 tr⟩,q2.2 _ H2 (g1.trans g2) s2 ⟨by rw[rC];have:=q2.1.1;lia,λH' t=>⟨λi pp hp=>?_,vs,x1 H' t,?_⟩⟩⟩
  .obtain⟨x,y,hx,hy,rfl⟩:=ui hp;obtain⟨v,h3,h4⟩:=(aA.tk t r1).get hx;obtain⟨v',SQ,SO⟩:=(aA.tk t r2).get hy;refine⟨⟨vs,ws,v,v',x1 H' t,x2 H' t,h3,SQ⟩,λz H3 yl=>?_⟩;obtain⟨p,x',y',rfl,hn,rfl,e1,e2⟩:=yl;have e1:=e1 vs (x1 H' t);have e2:=e2 ws (x2 H' t);rw[h3]at e1;rw[SQ]at e2;cases e1;cases e2;have sm:=fZ hn (.tup [v,v']);exact⟨sm,.tup aM (.cons (VR.tk sm.eF h4) (.cons (VR.tk sm.eF SO) .nil))⟩
  .rw[rC,r1.length];have:=q2.1.2;lia) q1⟩) q⟩⟩
end
end
end FL
namespace L2
open PySem PySem.Spec PyProof.Rows PySem.AutoSeq1 PySem.MeetsSeq PySem.MeetsSeq2 PySem.MeetsSeq3 PySem.SeqAt
abbrev oY(es:Array Db)(ep:Nat):Obj:={cls:=.type "dict",dict:=cr,data:=.dict es ep,slots:=#[]}
def sub_dict_tuple:isSubtype (.type "dict") (.type "tuple")=pure false:=by rw[wS];kernel_rfl
def sub_tuple_dict:isSubtype (.type "tuple") (.type "dict")=pure false:=by rw[wS];kernel_rfl
def sub_str_dict:isSubtype (.type "str") (.type "dict")=pure false:=by rw[wS];kernel_rfl
def sub_int_dict:isSubtype (.type "int") (.type "dict")=pure false:=by rw[wS];kernel_rfl
def vO(d:f8)(es:Array Db)(ep:Nat)(b:Str)(u:Tok):Meets (o0.«dict.__eq__» ⟨[.ref d,.str b u],[]⟩) (λ_ R s=>s.heap.get? d=bn (oY es ep)/\R (.ok (.ret .notImplemented)) s):=
 .of_wp λprog w A R s h=>by obtain⟨hp,g,dr,tk,os⟩:=s;obtain⟨hl,h⟩:=h;have f1:=sub_str_dict;wp_walk using BF hl;exact⟨_,rfl,h⟩
def vP(d:f8)(es:Array Db)(ep:Nat)(b:Int)(u:Tok):Meets (o0.«dict.__eq__» ⟨[.ref d,.int b u],[]⟩) (λ_ R s=>s.heap.get? d=bn (oY es ep)/\R (.ok (.ret .notImplemented)) s):=
 .of_wp λprog w A R s h=>by obtain⟨hp,g,dr,tk,os⟩:=s;obtain⟨hl,h⟩:=h;have f1:=sub_int_dict;wp_walk using BF hl;exact⟨_,rfl,h⟩
def vN(d l:f8)(es:Array Db)(ep:Nat)(items:Array db)(n:Nat)(dd:Option f8)(sl:Array (Option db)):Meets (o0.«dict.__ne__» ⟨[.ref d,.ref l],[]⟩) (λ_ R s=>s.heap.get? d=bn (oY es ep)/\s.heap.get? l=bn {cls:=.type "tuple",dict:=dd,data:=.seq items n,slots:=sl}/\R (.ok (.ret .notImplemented)) s):=
 .of_wp λprog w A R s h=>by obtain⟨hp,g,dr,tk,os⟩:=s;obtain⟨hl,LN,h⟩:=h;have f1:=sub_tuple_dict;wp_walk using BF hl,BF LN;exact⟨_,rfl,h⟩
def uv(d:f8)(es:Array Db)(ep:Nat)(b:Str)(u:Tok):Meets (o0.«str.__eq__» ⟨[.str b u,.ref d],[]⟩) (λ_ R s=>s.heap.get? d=bn (oY es ep)/\R (.ok (.ret .notImplemented)) s):=
 .of_wp λprog w A R s h=>by obtain⟨hp,g,dr,tk,os⟩:=s;obtain⟨hl,h⟩:=h;wp_walk using BF hl,Ea hl;exact⟨_,rfl,h⟩
def vo(d:f8)(es:Array Db)(ep:Nat)(b:Int)(u:Tok):Meets (o0.«int.__eq__» ⟨[.int b u,.ref d],[]⟩) (λ_ R s=>s.heap.get? d=bn (oY es ep)/\R (.ok (.ret .notImplemented)) s):=
 .of_wp λprog w A R s h=>by obtain⟨hp,g,dr,tk,os⟩:=s;obtain⟨hl,h⟩:=h;wp_walk using BF hl,Ea hl;exact⟨_,rfl,h⟩
def ur(d l:f8)(es:Array Db)(ep:Nat)(items:Array db)(n:Nat)(dd:Option f8)(sl:Array (Option db)):Meets (o0.«tuple.__ne__» ⟨[.ref l,.ref d],[]⟩) (λ_ R s=>s.heap.get? d=bn (oY es ep)/\s.heap.get? l=bn {cls:=.type "tuple",dict:=dd,data:=.seq items n,slots:=sl}/\R (.ok (.ret .notImplemented)) s):=
 .of_wp λprog w A R s h=>by obtain⟨hp,g,dr,tk,os⟩:=s;obtain⟨hl,LN,h⟩:=h;have f1:=sub_dict_tuple;wp_walk using BF hl,BF LN;exact⟨_,rfl,h⟩
section
variable{d:f8}{es:Array Db}
def vE(b:Str)(u:Tok)(hd:s.heap.get? d=bn (oY es ep))(hu:A.units<nn):CD A s (.ref d) (.str b u) false:=λprog w E Q h=>by
 unfold eqBool;refine AZ ?_;refine Bp (λxJ=>absurd (eq_of_beq xJ) nofun) (λ_=>?_);refine Aa (rc_eq_decline_or (k:=false) ⟨_,hd,rfl⟩ (typeIs_str s b u) ⋯ sub_str_dict D7 F.slot_str_eq_refl
  (λ_ hq=>ss D7 ⟨_,hd,rfl⟩ F.entry_dict_eq (F.args_dict_eq_2 _ _) (vO d es ep b u) ⟨hd,hq⟩)
  (λ_ hq=>ss F.slot_str_eq_refl (typeIs_str s b u) F.entry_str_eq (F.args_str_eq_2 _ _) (uv d es ep b u) ⟨hd,hq⟩)
  (λ_ hq=>BW (rfl:isSame (.ref d) (.str b u)=pure false) hq) (.inr hu) (BK h))
def vF(b:Int)(u:Tok)(hd:s.heap.get? d=bn (oY es ep))(hu:A.units<nn):CD A s (.ref d) (.int b u) false:=λprog w E Q h=>by
 unfold eqBool;refine AZ ?_;refine Bp (λxJ=>absurd (eq_of_beq xJ) nofun) (λ_=>?_);refine Aa (rc_eq_decline_or (k:=false) ⟨_,hd,rfl⟩ (typeIs_int s b u) ⋯ sub_int_dict D7 F.slot_int_eq_refl
  (λ_ hq=>ss D7 ⟨_,hd,rfl⟩ F.entry_dict_eq (F.args_dict_eq_2 _ _) (vP d es ep b u) ⟨hd,hq⟩)
  (λ_ hq=>ss F.slot_int_eq_refl (typeIs_int s b u) F.entry_int_eq (F.args_int_eq_2 _ _) (vo d es ep b u) ⟨hd,hq⟩)
  (λ_ hq=>BW (rfl:isSame (.ref d) (.int b u)=pure false) hq) (.inr hu) (BK h))
def uZ{l:f8}(hd:s.heap.get? d=bn (oY es ep))(hl:s.heap.IsTuple l items)(hu:A.units<nn)(h:Q (.bool true) s):ga (ge prog w) A (re .NotEq (.ref d) (.ref l)) Q E s:=by
 obtain⟨⟨cls,dd,data,sl⟩,ho,hc,n,YZ⟩:=id hl;simp only at hc YZ;subst hc YZ;have uf:d≠l:=λe=>by subst e;rw[hd]at ho;have:=congrArg Obj.cls (Option.some.inj ho);simp at this
 exact rc_ne_decline_or (k:=false) ⟨_,hd,rfl⟩ ⟨_,ho,rfl⟩ ⋯ sub_tuple_dict F.slot_dict_ne F.slot_tuple_ne_refl
  (λ_ hq=>ss F.slot_dict_ne ⟨_,hd,rfl⟩ F.entry_dict_ne (F.args_dict_ne_2 _ _) (vN d l es ep items n dd sl) ⟨hd,ho,hq⟩)
  (λ_ hq=>ss F.slot_tuple_ne_refl ⟨_,ho,rfl⟩ F.entry_tuple_ne (F.args_tuple_ne_2 _ _) (ur d l es ep items n dd sl) ⟨hd,ho,hq⟩)
  (λ_ hq=>by
   unfold isSame;dsimp only;rw[if_neg (by simpa using uf)];exact Aa (Ea hd (Aa (Ea ho (Ae hq))))) (.inr hu) h
end
end L2
variable{w:AV}{v:L2.V}
namespace FL
section
variable[cu]
variable{K:Ab}
def NP:PV->Bool
 |.dv _ _=>true
 |_=>false
def Wa(x:PV):Prop:=NP x=true\/(PV.de x=true/\PV.bb x<=140)
def kI(x y:PV):Bool:=!NP x&&ez x y
def YF(x:PV):Prop:=Wa x\/∃a b,x=.tup [a,b]/\Wa a/\Wa b
def LU(x y:PV):Bool:=match x,y with
 |.tup [a,b],.tup [c,d]=>kI a c&&kI b d
 |x,y=>kI x y
section
def P0(I:Inv X U σ H s)(h:VR X.K ι H v x)(k:NP x=true)(r:RelV v w):∃d es ep,w=.ref d/\s.heap.get? d=bn (oY es ep):=by
 cases x with
 |dv ks vs=>
  have É:∀{T:Type} [DecidableEq T] {P:pr}{W:t0}{knd:KeyKind P W T}{a:f8}{xs:O (T×db)},s.heap.DictOf knd a xs->∃es ep,s.heap.get? a=bn (oY es ep):=λh=>by
   obtain⟨⟨c,d,dt,sl⟩,es,ep,h1,⟨c1,c2,c3⟩,h3,_⟩:=h;simp only at c1 c2 c3 h3;subst c1 c2 c3 h3;exact⟨es,ep,h1⟩
  cases h with
  | @dk a o aD ks l e k q=>
   cases r;obtain⟨_,h0,vs,kv,h1⟩:=vK I.bC (.inr ⟨_,e⟩);obtain⟨es,ep,g⟩:=É h1;exact⟨_,es,ep,rfl,g⟩
  | @dt a o aD ks l e k q=>
   cases r;obtain⟨_,h0,vs,kv,o,es,ep,h1,⟨c1,c2,c3⟩,h3,_⟩:=zX I.bC (.inr ⟨_,e⟩);obtain⟨c,d,dt,sl⟩:=o;simp only at c1 c2 c3 h3;subst c1 c2 c3 h3;exact⟨_,es,ep,rfl,h1⟩
 |_=>cases k
theorem Js(hK:X.K=K)(I:Inv X U σ H s){v':V}{w':db}(o:Wa x)(hy:(∃t,y=.str t)\/∃i,y=.int i)(hv:VR K ι H v x)(Pr:VR K [] H v' y)(r:RelV v w)(r':RelV v' w')(hu:A.units+150<nn):CD A s w w' (kI x y):=by
 subst hK;rcases o with k|⟨k1,k2⟩
 .obtain⟨d,es,ep,rfl,g⟩:=P0 I hv k r;have e:kI x y=false:=by unfold kI;rw[k];rfl
  rw[e];rcases hy with⟨t,rfl⟩|⟨i,rfl⟩
  .cases Pr;obtain⟨u,rfl⟩:=r';exact vE t u g ∅
  .cases Pr;obtain⟨u,rfl⟩:=r';exact vF i u g ∅
 .have e:kI x y=ez x y:=by
   unfold kI;cases x<;>first|rfl|(rw[PV.de]at k1;cases k1)
  rw[e];exact(La rfl I 140 x y A v v' w w' k2 k1 (by rcases hy with⟨t,rfl⟩|⟨i,rfl⟩<;>rfl) (VR.g0 hv k1) Pr r r' ∅).eq
def zT(h:PV.de x=true)(a:Str)(i:Int):LU x (.tup [.str a,.int i])=ez x (.tup [.str a,.int i]):=by
 have nd:∀{z:PV},PV.de z=true->NP z=false:=λ{z} h=>by cases z<;>first|rfl|(rw[PV.de]at h;cases h)
 unfold LU
 split
 .rename_i c d c' d' e;injection e with e;injection e with e1 e;injection e with e2 _;subst e1 e2;rw[PV.de,cB,cB,AH,AH]at h;unfold kI;rw[nd h.1,nd h.2.1,ez,cJ,cJ,cJ];simp
 .unfold kI;rw[nd h];rfl
def VC(K:Ab):R2:=λu v H Q=>∃x y ι,VR K ι H u x/\VR K [] H v y/\YF x/\ax y=true/\Q (.bl (!LU x y)) H
theorem Rr(hK:X.K=K)(hu:X.A.units+200<nn):gp X (re .NotEq) (VC K):=λU s σ H u v w w' Q I r1 r2 ⟨x,y,ι,h1,h2,o,hy,q⟩=>by
 obtain⟨a,i,rfl⟩:=a7 hy;rcases o with (k|⟨k1,k2⟩)|⟨c,d,rfl,o1,o2⟩
 .subst hK;obtain⟨dd,es,ep,rfl,g⟩:=P0 I h1 k r1;have e:LU x (.tup [.str a,.int i])=false:=by
   cases x with
   |dv _ _=>rfl
   |_=>cases k
  rw[e]at q;cases h2 with
  |tup e2 q2=>
  cases r2;obtain⟨aj,_,ht,_⟩:=I.tuple (cG.of e2);exact uZ g ht ∅ ⟨.bl _,H,I,rfl,q⟩
 .rw[zT k1]at q;exact CV (La hK I 140 x _ X.A u v w w' k2 k1 rfl (VR.g0 h1 k1) h2 r1 r2 ∅).ne ⟨.bl _,H,I,rfl,q⟩
 .subst hK;cases h1 with
  |tup e1 q1=>
  cases h2 with
  |tup e2 q2=>
  cases r1;cases r2;obtain⟨aj,rv,ht,_⟩:=I.tuple (cG.of e1);obtain⟨cI,Vq,G5,_⟩:=I.tuple (cG.of e2);cases q1 with
  |cons a1 q1=>
  cases q1 with
  |cons a2 q1=>
  cases q1;cases q2 with
  |cons b1 q2=>
  cases q2 with
  |cons b2 q2=>
  cases q2;cases rv with
  |cons v1 rv=>
  cases rv with
  |cons v2 rv=>
  cases rv;cases Vq with
  |cons L7 Vq=>
  cases Vq with
  |cons Z8 Vq=>
  cases Vq;have E1:=Js rfl I (A:=X.A.in1) o1 (.inl ⟨a,rfl⟩) a1 b1 v1 L7 (by show X.A.units+1+150<nn;lia);have E2:=Js rfl I (A:=X.A.in1) o2 (.inr ⟨i,rfl⟩) a2 b2 v2 Z8 (by show X.A.units+1+150<nn;lia);have R:=Ff ht G5 (A:=X.A) ∅ (e:=λj=>if j=0 then kI c (.str a) else kI d (.int i)) (λj g1 g2=>by
   have hj:j=0\/j=1:=by simp at g1;lia
   rcases hj with rfl|rfl
   .exact E1
   .exact E2)
  refine CV R ⟨.bl _,H,I,rfl,?_⟩;have e:LU (.tup [c,d]) (.tup [.str a,.int i])=(kI c (.str a)&&kI d (.int i)):=rfl;rw[e]at q;simpa[CI]using q
def Jw:M2:=⟨λx y h Q=>(YF x/\ax y=true)/\Q (.bl (!LU x y)) h,λf q=>⟨q.1,f _ _ q.2⟩⟩
def Na:M2.Ok K (VC K) Jw:=λ{ι H h u v x y Q} hr hu hv q=>⟨x,y,ι,hu,VR.g0 hv (by obtain⟨a,i,rfl⟩:=a7 q.1.2;rfl),q.1.1,q.1.2,q.2 ι _ H (Go.refl _ _) hr (.bl _)⟩
def Sd(hK:X.K=K)(hu:X.A.units+200<nn):JC X K .NotEq b Jw:=⟨⟨_,Rr hK hu,Na⟩,fg _⟩
def S2:of2 Jw x y=.gm (YF x/\ax y=true) (.ret (.bl (!LU x y))):=Gc λQ=>⟨λq=>⟨q.1,q.2.2⟩,λq=>⟨q.1,rfl,q.2⟩⟩
end
end
end FL
namespace My
def lH(O1:PV)(NR:PV):W PV:=
 (jN (t2 gF (fm (ca (ci NR) aF) (ci (.int 0))) (ci O1)) (fm (ca (ci NR) aF) (ci (.int 1))) (fm (ca (ci NR) aF) (ci (.int 0))))
def aJ(cA:PV)(tm:PV):W PV:=
 jN (tor (t2 Jx (ci tm) (ci .az)) (ca (ca (fm (ca (ci cA) aF) (ci tm)) (fJ .str)) fk)) (
 (ci .az)) (
 ((.str "house")\λx1=>tm\λx2=>ci (.tup [x1,x2])))
def aX(ft:PV)(fb:PV):W PV:=
 jN (t2 gF (fm (ca (ci fb) aF) (ci (.int 1))) (ci (.str "found"))) (
 (ci .az)) (
 (jN (t2 gF (fm (ca (ci fb) aF) (ci (.int 1))) (ci (.str "split"))) ((.str "house")\λx1=>ca (fb\λx2=>gc x2) λx3=>ci (.tup [x1,x3])) ((.str "thing")\λx4=>ft\λx5=>ci (.tup [x4,x5]))))
def dQ(cA:PV)(j8:PV):W (O PV):=
 (ca (ca (c1 jq (ci cA)) mj) λl2=>bU l2 λp3=>(ca (cA\λx4=>ca (fm (ca (ci j8) aF) (ci p3)) λx5=>aJ x4 x5) λx6=>ca (cA\λx7=>p3\λx8=>aJ x7 x8) λx9=>ci (.tup [x6,x9])))
def dN(c7:PV)(nS:PV):W (O PV):=
 []\λgE=>
 ca (ca (ca (c7\λx2=>eS x2) aF) λl3=>.gm (l3.length<=sizeLine) (.ret (fj 0 l3))) λl21=>ca (dw l21 gE λp5 s4=>ca (pq p5) λt6=>(
 ca (ca (t6.2\λx7=>gb x7) aF) λl19=>ca (dw l19 s4 λxI s8=>(
 ca (ca (t6.1\λuk=>ca (fm (ca (ci nS) aF) (ci t6.1)) λIk=>aX uk Ik) λF1=>ca (xI\λF0=>ca (fm (ca (ci nS) aF) (ci xI)) λrE=>aX F0 rE) λFZ=>ci (.tup [F1,FZ])) λL5=>ca (k6 s8 L5) λuO=>
 ci uO)) λs8=>
 ci s8)) λs4=>
 ci s4
def dP(fb:PV):W (O PV):=
 ca (fb\λx2=>gc x2) λrP=>
 (jN (t2 gF (fm (ca (ci fb) aF) (ci (.int 1))) (ci (.str "over"))) (rP\λx3=>ca (rP\λx4=>ca (fb\λx5=>ku x5) λx6=>lH x4 x6) λx7=>ci [x3,x7]) (rP\λx8=>ci [x8]))
def eR(cA:PV)(j8:PV)(ft:PV)(fb:PV):W (O PV):=
 ca (ft\λx2=>fb\λx3=>aX x2 x3) λqF=>
 []\λgD=>
 ca (t2 gF (ci qF) ((.str "thing")\λx5=>ft\λx6=>ci (.tup [x5,x6]))) λb=>ca (if b=true then (
 ca (fb\λL0=>dP L0) λl41=>ca (dw l41 gD λoH QK=>(
 ca (ca (cA\λUY=>ca (fm (ca (ci j8) aF) (ci oH)) λQh=>aJ UY Qh) λUX=>qF\λUW=>ci (.tup [UX,UW])) λUU=>ca (k6 QK UU) λuM=>
 ca (qF\λUT=>ca (cA\λUS=>oH\λUR=>aJ US UR) λUQ=>ci (.tup [UT,UQ])) λUP=>ca (k6 uM UP) λuK=>
 ci uK)) λQK=>
 ci QK) else (
 ci gD)) λYn=>
 ci Yn
def kr(bV:PV)(c7:PV)(b9:PV):W PV:=
 ca (bV\λx2=>eS x2) λd5=>
 ca (bV\λx4=>gM x4) λfy=>
 ca (b9\λx6=>dM x6) λm9=>
 ca (ca (d5\λx8=>fy\λx9=>dQ x8 x9) λNy=>ca (c7\λrF=>(.cl m9)\λuk=>dN rF uk) λl13=>qc Ny l13) λsi=>
 ca (ca (ca (ci (.cl m9)) aF) λHZ=>.gm (HZ.length<=sizeLine) (.ret (fj 0 HZ))) λl27=>ca (dw l27 si λp16 QM=>ca (pq p16) λã=>(
 ca (d5\λL4=>fy\λQl=>ã.1\λU1=>ã.2\λL3=>eR L4 Ql U1 L3) λl23=>ca (oT QM l23) λuN=>
 ci uN)) λQM=>
 (ca (ca (ca (ca (ci (.cl QM)) aF) λl24=>kc l24 λYA=>ud (G3 true (ci .az) (ca (ci YA) aF)) (ci YA)) kh) nH)
def eT(bV:PV)(b9:PV):W (O PV):=
 ca (bV\λx2=>eS x2) λd5=>
 ca (ca (ca (c1 jq (ci d5)) mj) λl5=>bU l5 λp6=>(d5\λx7=>p6\λx8=>aJ x7 x8)) λIy=>
 ca (ca (ca (b9\λrF=>dM rF) λTX=>.gm (TX.length<=sizeLine) (.ret (fj 0 TX))) λNy=>bU Ny λMY=>ca (pq MY) λHW=>(HW.1\λrE=>HW.2\λFZ=>aX rE FZ)) λl17=>ca (oT Iy l17) λIw=>
 (ca (ca (ca (ci (.cl Iw)) aF) λl18=>kc l18 λYB=>ud (t2 zg (ci YB) (ci .az)) (ci YB)) kh)
def da(fc:PV)(zm:PV)(kC:PV):W (O PV):=
 (ca (ca (ci fc) aF) λl1=>kc l1 λp2=>ca (pq p2) λt3=>ud (Md (t2 gF (ci t3.1) (ci zm)) (G3 false (ci t3.2) (ca (ci kC) aF))) (ci t3.2))
def kq(fc:PV)(nZ:PV):W PV:=
 []\λsj=>
 ca (ca (ci nZ) aF) λsM=>
 (.cl sM)\λxR=>
 ca (lj (λs4=>(ca (ci s4.2.2) fk)) (λs4=>(
 ca (ca (ca (ci s4.2.1) aF) λl6=>kc l6 λp7=>ud (F5 (ca (mS (fc\λx8=>p7\λx9=>s4.2.1\λrF=>da x8 x9 rF)) fk)) (ci p7)) λtH=>
 ca (ca (ci (.cl tH)) aF) λNy=>ca (oT s4.1 Ny) λuS=>
 ca (ca (ca (ci s4.2.1) aF) λHZ=>kc HZ λLH=>ud (G3 true (ci LH) (ca (ci (.cl tH)) aF)) (ci LH)) λzy=>
 ci (uS,(.cl zy),(.cl tH)))) (sj,(.cl sM),xR)) λs4=>
 ((.cl s4.1)\λFZ=>s4.2.1\λL5=>ci (.tup [FZ,L5]))
def oe(bV:PV)(Jq:PV):W PV:=
 ca (ca (ca (ci Jq) aF) λl2=>kc l2 λp3=>ud (t2 gF (fm (ca (ci p3) aF) (ci (.int 0))) (ci (.str "house"))) (ci p3)) λux=>
 ca (ca (ca (c1 jq (bV\λx5=>eS x5)) mj) λl7=>bU l7 λp8=>(ca (bV\λx9=>eS x9) λrF=>p8\λuk=>aJ rF uk)) λqJ=>
 (ca (ca (ca (ci (.cl qJ)) aF) λNy=>bU Ny λMY=>(jN (t2 Jx (ci MY) (ci .az)) (ci (.int 0)) (w2 addW (ca (ca (ci (.cl ux)) sD) λHZ=>MY\λrE=>NS HZ rE) (ci (.int 1))))) nH)
def iU(fc:PV)(kC:PV):W PV:=
 ca (ca (fm (ca (ci kC) aF) (ci (.int 0))) λx2=>ci [x2]) λrM=>
 ca (fm (fc\λx4=>ca (fm (ca (ci kC) aF) (ci (.int 0))) λx5=>kC\λx6=>da x4 x5 x6) (ci (.int 0))) λnV=>
 ca (lj (λs7=>(G3 true (ci s7.2) (ci s7.1))) (λs7=>(
 s7.2\λx9=>ca (k6 s7.1 x9) λyI=>
 ca (fm (fc\λuk=>s7.2\λIk=>kC\λF1=>da uk Ik F1) (ci (.int 0))) λqG=>
 ci (yI,qG))) (rM,nV)) λs7=>
 (ca (s7.1\λl16=>ca (ca (s7.1\λHZ=>s7.2\λrE=>NS HZ rE) part) λi17=>cr\λj18=>ci (bz l16 i17 j18)) nH)
def iV(bV:PV)(c7:PV)(b9:PV):W PV:=
 ca (bV\λx2=>c7\λx3=>b9\λx4=>kr x2 x3 x4) λgE=>
 ca (gE\λx6=>ca (mS (bV\λx7=>b9\λx8=>eT x7 x8)) λx9=>kq x6 x9) λnu=>
 jN (ca (fm (ca (ci nu) aF) (ci (.int 1))) fk) (
 ((.str "ring")\λrF=>ca (gE\λuk=>ca (fm (ca (ci nu) aF) (ci (.int 1))) λIk=>iU uk Ik) λF1=>ci (.tup [rF,F1]))) (
 ((.str "dates")\λF0=>ca (bV\λrE=>ca (fm (ca (ci nu) aF) (ci (.int 0))) λFZ=>oe rE FZ) λL5=>ci (.tup [F0,L5])))
def bQ(aL:PV):W PV:=
 (Ox (aL\λx2=>(.int 2)\λx3=>d4 x2 x3) (Ox (ca (fm (ca (ci aL) aF) (ci (.int 0))) (fJ .str)) (ca (fm (ca (ci aL) aF) (ci (.int 1))) λx1=>gK x1)))
def bq(bV:PV)(c7:PV)(b9:PV)(aL:PV):W PV:=
 jN (tor (F5 (ca (ca (ci aL) (fJ .tup)) fk)) (t2 oLt (c1 jq (ci aL)) (ci (.int 2)))) (
 (ci (.bl false))) (
 jN (tor (F5 (ca (ca (ca (ca (ci aL) aF) λl1=>bU l1 λp2=>(p2\λx3=>bQ x3)) Li) fk)) (t2 Gy (ca (ci aL) kA) (c1 jq (ci aL)))) (
 (ci (.bl false))) (
 ca (bV\λx5=>c7\λx6=>b9\λx7=>kr x5 x6 x7) λgD=>
 (ca (ca (ca (ca (ci aL) aF) λHZ=>ca (ca (w2 addW (aL\λrF=>ca (ca (ci (.int 1)) part) λi8=>cr\λj9=>mJ rF i8 j9) (aL\λF1=>cr\λi11=>ca (ca (ci (.int 1)) part) λj12=>mJ F1 i11 j12)) aF) λl15=>yF HZ l15) λl16=>bU l16 λTQ=>(abj false (ci TQ) (ca (ci gD) aF))) Li)))
def eU(dH:PV):W (O PV):=
 ca (w2 addW (c1 jq (ci dH)) (ci (.int 5))) λwL=>
 ca (ca (ca (ci dH) sD) λl2=>cr\λi3=>ca (ca (ci (.int 63)) part) λj4=>ci (bz l2 i3 j4)) λl18=>ca (dw l18 wL λLc s5=>(
 ca (b2 oMod (w2 addW (w2 addW (b2 RC (ci s5) (ci (.int 999979))) (b2 oMod (ci Lc) (b2 M9 (ci (.int 10)) (ci (.int 30))))) (ci (.int 17))) (ci (.int 2305843009213693951))) λIQ=>
 ci IQ)) λs5=>
 (ca (ca (ca (ca (ca (ci dH) sD) λl8=>cr\λi9=>ca (ca (ci (.int 63)) part) λj10=>ci (bz l8 i9 j10)) λTX=>kc TX λYC=>ud (t2 oGe (ci YC) (b2 M9 (ci (.int 10)) (ci (.int 18)))) (ci YC)) λl13=>W.gm (∃ns:O Int,l13=ns.map PV.int) (ci .hand)) λF0=>s5\λrE=>(.int 0)\λFZ=>ci [F0,rE,FZ])
def iW(IG:PV):W PV:=
 (fm (ca (ci IG) aF) (ca (c1 jq (ci IG)) λx1=>cz x1))
def aQ:Nat->PV->PV->W PV
 |0,_,_=>W.fail
 |n+1,cC,b9=>
 jN (t2 gF (c1 jq (ci b9)) (ci (.int 2))) (
 (cC\λx1=>b9\λx2=>ci (.tup [x1,x2]))) (
 ca (ca (fm (ca (ci cC) aF) (ci (.int 0))) λx3=>ca (fm (ca (ci b9) aF) (ci (.int 2))) λx4=>aQ n x3 x4) λx5=>ca (pq x5) λt6=>
 ca (ca (fm (ca (ci cC) aF) (ci (.int 1))) λx7=>ca (fm (ca (ci b9) aF) (ci (.int 3))) λx8=>aQ n x7 x8) λx9=>ca (pq x9) λVk=>
 ca (t2 gF ((.int 2)\λuk=>cz uk) (ci (.int 0))) λb=>ca (if b=true then (
 ca (Vk.1\λL4=>Vk.2\λQl=>t6.1\λU1=>t6.2\λL3=>ci (.tup [L4,Ql,U1,L3])) λQk=>ca (TK Qk) λVj=>
 ci (Vj.1,Vj.2.1,Vj.2.2.1,Vj.2.2.2)) else (
 ci (t6.1,t6.2,Vk.1,Vk.2))) λLG=>
 (ca (LG.1\λL0=>LG.2.2.1\λQj=>ci (.tup [L0,Qj])) λQi=>ca (w2 addW (b9\λQh=>cr\λi28=>ca (ca (ci (.int 2)) part) λj29=>mJ Qh i28 j29) (LG.2.1\λUX=>LG.2.2.2\λUW=>ci (.tup [UX,UW]))) λUU=>ci (.tup [Qi,UU])))
def dR:W PV:=
 ca (ca (mS (ca (mS ((.str "a")\λx2=>(.str "b")\λx3=>(.str "c")\λx4=>(.str "d")\λx5=>(.str "e")\λx6=>ci [x2,x3,x4,x5,x6])) λx7=>ca (mS ((.str "d")\λx8=>(.str "ab")\λx9=>(.str "b")\λrF=>(.str "aa")\λuk=>(.str "c")\λIk=>ci [x8,x9,rF,uk,Ik])) λF1=>ca (mS ((.str "zz")\λF0=>(.str "z")\λrE=>(.str "zzz")\λFZ=>(.str "zzzz")\λL5=>(.str "y")\λQm=>ci [F0,rE,FZ,L5,Qm])) λL4=>ci [x7,F1,L4])) λQl=>iW Ql) λbR=>
 ca (ca (ca (fm (ca (ci bR) aF) (ci (.int 0))) λL3=>ca (fm (ca (ci bR) aF) (ci (.int 1))) λQk=>ci (.tup [L3,Qk])) λU0=>ca (ca (fm (ca (ci bR) aF) (ci (.int 2))) λL0=>ca (fm (ca (ci bR) aF) (ci (.int 3))) λQj=>ci (.tup [L0,Qj])) λQi=>ci (.tup [U0,Qi])) λiD=>
 ca ((.int 2)\λUZ=>cz UZ) λrj=>ca ((.int 2)\λUY=>cz UY) λqr=>
 ca (ca ((.int 2)\λUU=>ci (.tup [UU])) λZS=>(.str "over")\λUT=>ca (ca ((.int 2)\λUS=>rj\λUR=>ci (.tup [US,UR])) λUQ=>(.str "found")\λUP=>ci (.tup [UQ,UP])) λZR=>ca (ca (ca (w2 addW (ci (.int 3)) (ci qr)) λx41=>ci (.tup [x41])) λx42=>(.str "found")\λx43=>ci (.tup [x42,x43])) λZQ=>ci (.tup [ZS,UT,ZR,ZQ])) λkB=>
 ca ((.int 2)\λx45=>cz x45) λf7=>ca ((.int 2)\λx46=>cz x46) λje=>
 ca (ca ((.int 5)\λZP=>ci (.tup [ZP])) λx51=>(.str "over")\λx52=>ca (ca ((.int 5)\λZO=>ca (w2 addW (ci (.int 3)) (ci f7)) λx54=>ci (.tup [ZO,x54])) λZN=>(.str "found")\λUO=>ci (.tup [ZN,UO])) λUN=>ca (ca (je\λUM=>ci (.tup [UM])) λUL=>(.str "found")\λQg=>ci (.tup [UL,Qg])) λZM=>ci (.tup [x51,x52,UN,ZM])) λip=>
 ca (ca (ca (fm (ca (ci bR) aF) (ci rj)) λZL=>ca (fm (ca (ci bR) aF) (w2 addW (ci (.int 2)) (ci qr))) λZK=>ci (.tup [ZL,ZK])) λUK=>ca (ca (fm (ca (ci bR) aF) (w2 addW (ci (.int 2)) (ci f7))) λZJ=>ca (fm (ca (ci bR) aF) (ci je)) λUJ=>ci (.tup [ZJ,UJ])) λUI=>ci (.tup [UK,UI])) λnJ=>
 ca (ca ((.int 6)\λUH=>ci (.tup [UH])) λUG=>(.str "split")\λUE=>kB\λx73=>ip\λx74=>ci (.tup [UG,UE,x73,x74])) λwq=>
 ca (ca ((.int 3)\λx75=>cz x75) mj) λabb=>ca (dw abb (nJ,wq) λabf wM=>(
 ca ((.int 2)\λx81=>cz x81) λsN=>
 ca (wM.1\λx82=>ca (fm (ca (ci bR) aF) (ci sN)) λx83=>ci (.tup [x82,x83])) λuy=>ca (ca ((.int 6)\λx84=>ci (.tup [x84])) λx85=>(.str "doubled")\λx86=>wM.2\λx87=>ca (ca ((.int 6)\λx88=>(.int 2)\λx89=>sN\λx90=>ci (.tup [x88,x89,x90])) λx91=>(.str "found")\λx92=>ci (.tup [x91,x92])) λx93=>ci (.tup [x85,x86,x87,x93])) λIm=>
 ci (uy,Im))) λwM=>
 ca (t2 gF ((.int 2)\λx96=>cz x96) (ci (.int 0))) λb=>ca (if b=true then (
 ca (iD\λZ7=>ca (fm (ca (ci bR) aF) (ci (.int 4))) λZ6=>ci (.tup [Z7,Z6])) λqW=>
 ca (wM.1\λZ5=>ca (fm (ca (ci bR) aF) (ci (.int 4))) λZ4=>ci (.tup [Z5,Z4])) λqv=>ca (ca ((.int 8)\λZ3=>ci (.tup [Z3])) λZ2=>(.str "split")\λZ1=>wM.2\λZ0=>ca (ca ((.int 7)\λZZ=>ci (.tup [ZZ])) λZY=>(.str "found")\λZX=>ci (.tup [ZY,ZX])) λZW=>ci (.tup [Z2,Z1,Z0,ZW])) λyH=>
 ci (qW,qv,yH)) else (
 ci (iD,wM.1,wM.2))) λuA=>
 (w2 addW (uA.1\λZV=>ci (.tup [ZV])) (uA.2.1\λZU=>uA.2.2\λZT=>aQ 7 ZU ZT))
def aU(aL:PV):W PV:=
 ca (aL\λx2=>ci (.tup [x2])) λyc=>
 ca (ca (ci (.int 30)) mj) λl75=>ca (dw l75 yc λk_5 s4=>(
 ca (s4\λx7=>ci (.tup [x7])) λK5=>
 ci K5)) λs4=>
 ca (.az\λx9=>(.bl true)\λrF=>(.int 3)\λuk=>ca (ca (ci (.int 1)) GB) λIk=>(.str "")\λF1=>(.str "ring")\λF0=>(.str "house")\λrE=>ca (mS (ci [])) λFZ=>(P1 [])\λL5=>ca ((.str "a")\λQm=>ci (.tup [Qm])) λL4=>ca (.az\λQl=>.az\λU1=>ci (.tup [Ql,U1])) λL3=>ca ((.int 0)\λQk=>(.int 0)\λU0=>ci (.tup [Qk,U0])) λL0=>s4\λQj=>ca (mS (aL\λQi=>ci [Qi])) λUZ=>ca ((.int 0)\λUY=>aL\λQh=>ca (JR UY) λk31=>ci (P1 [(k31,Qh)])) λUW=>ci [x9,rF,uk,Ik,F1,F0,rE,FZ,L5,L4,L3,L0,Qj,UZ,UW]) λwK=>
 ca (ca (ca (ci aL) (fJ .tup)) fk) λb=>ca (if b=true then (
 ca (ca (ca (ci (.cl wK)) sD) λl72=>ca (ca (mS (ca (ci aL) aF)) λZN=>ca (w2 addW (ci aL) (.az\λUO=>ci (.tup [UO]))) λUN=>ca (aL\λUM=>ci (.tup [UM])) λUL=>ca (aL\λQg=>aL\λZM=>ci (.tup [Qg,ZM])) λx62=>ca (w2 addW (aL\λUK=>cr\λi63=>ca (ca (ca (ci (.int 1)) GB) part) λj64=>mJ UK i63 j64) (ca (mS (ca (aL\λUI=>ca (ca (ca (ci (.int 1)) GB) part) λi66=>cr\λj67=>mJ UI i66 j67) aF)) λZI=>ci (.tup [ZI]))) λUH=>(.tup [])\λUG=>ci [ZN,UN,UL,x62,UH,UG]) λl73=>qc l72 l73) λyS=>
 ci (.cl yS)) else (
 ci (.cl wK))) λYm=>
 (ci Ym)
def n9(dH:PV):W PV:=
 ca (dH\λx2=>eU x2) λnQ=>W.gm (∃s:Int,nQ=[.hand,.int s,.int 0]) (
 ca (ca (ci (.int 8)) mj) λl74=>ca (oO l74 () λQq s4=>(
 ca (dR) λx7=>ca (U3 x7) λt8=>
 ca (fm (ca (t8.1\λrF=>t8.2.1\λuk=>t8.2.2\λIk=>iV rF uk Ik) aF) (ci (.int 1))) λfC=>
 ca (ca (c1 jq (ci fC)) λF0=>cz F0) λrq=>
 ca (fm (ca (ci fC) aF) (ci rq)) λrE=>ca (pq rE) λMg=>
 ca (ca (ca (ca (fm (ca (ci fC) aF) (ci rq)) λQm=>aU Qm) sD) λl24=>ca (ca (ca (Mg.2\λL4=>aU L4) aF) λl20=>bU l20 λp21=>(Mg.1\λL3=>p21\λQk=>ci (.tup [L3,Qk]))) λl25=>qc l24 l25) λzx=>
 ca (ca (ca (ca (ci (.cl zx)) sD) λl32=>ca (ca (ca (Mg.1\λQi=>aU Qi) aF) λl28=>bU l28 λp29=>(p29\λQh=>Mg.2\λUX=>ci (.tup [Qh,UX]))) λl33=>qc l32 l33) λl41=>ca (ca (ca (ca (ci Mg.1) upW) λZS=>Mg.2\λUT=>ci (.tup [ZS,UT])) λUS=>ca (Mg.1\λUR=>Mg.2\λUQ=>(.int 0)\λUP=>ci (.tup [UR,UQ,UP])) λZR=>ci [US,ZR]) λl42=>qc l41 l42) λzw=>
 ca (ca (ca (fC\λZQ=>aU ZQ) sD) λl54=>ca (ca (ca (ci (.cl zw)) aF) λl45=>kc l45 λYz=>ud (t2 Jw (ci Yz) (fm (ca (ci fC) aF) (ci rq))) (w2 addW (w2 addW (fC\λx49=>cr\λi47=>ca (ca (ci rq) part) λj48=>mJ x49 i47 j48) (Yz\λZP=>ci (.tup [ZP]))) (fC\λZO=>ca (ca (w2 addW (ci rq) (ci (.int 1))) part) λi51=>cr\λj52=>mJ ZO i51 j52))) λl55=>qc l54 l55) λvV=>
 jN (t2 eO (t8.1\λUO=>t8.2.1\λUN=>t8.2.2\λUM=>fC\λUL=>bq UO UN UM UL) (ci (.bl true))) (
 (.bl false)\λQg=>ci (Lp.out Qg)) (
 jN (ca (ca (ca (ca (ci (.cl vV)) aF) λl61=>bU l61 λYy=>(b2 eO (t8.1\λZL=>t8.2.1\λZK=>t8.2.2\λUK=>Yy\λZJ=>bq ZL ZK UK ZJ) (ci (.bl false)))) Ov) fk) (
 (.bl false)\λUJ=>ci (Lp.out UJ)) (
 jN (t2 eO (t8.1\λUI=>t8.2.1\λZI=>t8.2.2\λUH=>fC\λUG=>bq UI ZI UH UG) (ci (.bl true))) (
 (.bl false)\λUE=>ci (Lp.out UE)) (
 ci (.go ())))))) (LQ (λs4=>
 (ci (.bl true))) id))
end My
variable{mZ yO yN rO IA:PySem.Tok}
namespace My
section
def top(i:Nat):u8:=PySem.Challenge.pw_treewithin_k66_rings_of_anything.main.body.getD i (.Pass ⟨0,0,0,0⟩)
abbrev dV(i k:Nat)(ks:O AK)(n:Nat)(m:wg PV n):DF:=⟨dnm (top i),top i,Gu (top i),k,λK=>Ga K ks (rJ n m)⟩
abbrev dL(i k:Nat)(ks:O AK)(n:Nat)(m:wg (O PV) n):DF:=⟨dnm (top i),top i,Gu (top i),k,λK=>F9 K ks (rJ n m)⟩
abbrev dv(i k n:Nat)(m:wg PV n):DF:=dV i k (Av n .v) n m
abbrev ou:ul:=qL [("node",lo)]
def jy:LS (top 7) ou:=lcs
abbrev sG:ul:=qL [("half",lo),("comes_in",gi)]
def mz:LS (top 14) sG:=lcs
abbrev kz:ul:=qL [("house",lo),("house_moment",gi),("ahead",fr),("houses",fr)]
def gh:LS (top 22) kz:=lcs
abbrev va:ul:=qL [("pair",lo)]
def oz:LS (top 26) va:=lcs
abbrev lO:ul:=qL [("house",lo),("house_moment",gi),("houses",fr)]
abbrev lN:ul:=qL [("number",lo),("part",lo),("node_moment",gi)]
abbrev lK:ul:=qL [("moment",lo)]
def hJ:LS (top 27) lO:=lcs
def eE:LS (top 27) lN:=lcs
def hG:LS (top 27) lK:=lcs
abbrev sH:ul:=qL [("former",lo),("later",lo),("left",fr),("moment",fr)]
def iq:LS (top 28) sH:=lcs
abbrev sF:ul:=qL [("moment",lo),("behind",gi),("left",fr),("pairs",fr)]
abbrev sE:ul:=qL [("moment",lo),("free",fr)]
def mw:LS (top 29) sF:=lcs
def mr:LS (top 29) sE:=lcs
abbrev oq:ul:=qL [("moment",lo),("HOUSE",gi)]
abbrev om:ul:=qL [("house",lo),("house_moment",gi),("nodes",gi),("great",fr)]
abbrev og:ul:=qL [("moment",lo),("splits",fr)]
def jx:LS (top 30) oq:=lcs
def jw:LS (top 30) om:=lcs
def jv:LS (top 30) og:=lcs
abbrev lJ:ul:=qL [("moment",lo),("is_moment",gi)]
abbrev lI:ul:=qL [("pair",lo),("pairs",fr)]
def g9:LS (top 35) lJ:=lcs
def g8:LS (top 35) lI:=lcs
abbrev ox:ul:=qL [("_law_cell",lo)]
def jz:LS (top 37) ox:=lcs
def aY:dZ (zi (top 40)) (Gu (top 40)) (aB (top 40)):=Xd
abbrev GJ:ul:=qL [("_law_thing",lo),("_law_word",fr)]
abbrev GI:ul:=qL [("_law_thing",lo),("_law_number",fr)]
abbrev GH:ul:=qL [("_law_thing",lo),("_law_at",fr),("_law_ring",fr)]
abbrev GG:ul:=qL [("_law_thing",lo),("shows_ring",gi),("_law_great",fr),("_law_small",fr),("_law_way",fr)]
def vi:LS (top 43) GJ:=lcs
def vh:LS (top 43) GI:=lcs
def vg:LS (top 43) GH:=lcs
def vf:LS (top 43) GG:=lcs
structure NB(v:EV):Prop where
 isinstance:v.mg "isinstance"=cr
 bool:v.mg "bool"=cr
 int:v.mg "int"=cr
 len:v.mg "len"=cr
 tuple:v.mg "tuple"=cr
 str:v.mg "str"=cr
 list:v.mg "list"=cr
 reversed:v.mg "reversed"=cr
 enumerate:v.mg "enumerate"=cr
 range:v.mg "range"=cr
 sorted:v.mg "sorted"=cr
 set:v.mg "set"=cr
 all:v.mg "all"=cr
 zip:v.mg "zip"=cr
 any:v.mg "any"=cr
variable{v:EV}
abbrev jU:DF:=dv 1 1 1 gK
def xt(D:DI v jU)(q:NB v):D.O:=
 pA D λhr nd aL=>
 (SF.c8 (zW (jE rfl .int rfl q.isinstance (ag 0) rfl q.int boot_int) (KZ (Xy (jE rfl .bool rfl q.isinstance (ag 0) rfl q.bool boot_bool)))) λ_=>rfl)
abbrev o4:DF:=dv 2 1 2 d4
def JW(D:DI v o4)(q:NB v):D.O:=
 pA D λhr nd aL Pf=>
 (SF.c8 (zW (jE rfl .tup rfl q.isinstance (ag 0) rfl q.tuple boot_tuple) (KZ (PY (iy rfl (bu hr)) (jD rfl rfl q.len (ag 0)) (ag 1)))) λ_=>rfl)
abbrev jT:DF:=dL 4 1 [.v] 1 jM
def xr(D:DI v jT)(q:NB v):D.O:=
 Nk D λhr nd cC=>
 (sl 1 nd (bB (n:=0) af rfl) λcR=>
 (sl 2 nd (bB (n:=1) (av 0 af) rfl) λdD=>
 (SF.yG (hd:=(λ(s4:O PV×O PV)=>([bn (.val cC),bn (.ol cr s4.1),bn (.ol cr s4.2),cr]:aH))) (s0:=(cR,dD)) A5 (.refl _) (λs4=>(OT rfl (qA 2) (λ_=>rfl))) (λs4=>
 (SF.se 2 3 rfl ⋯ rfl rfl (.inl rfl) nd rfl (Ca rfl) λt7=>
 (SF.append 1 rfl rfl rfl (.inl rfl) (ag 3) λdG=>
 (SF.ifT (yM (ik rfl (jE rfl .str rfl q.isinstance (ag 3) rfl q.str boot_str) (λ_=>rfl)))
 (SF.extend 2 rfl rfl rfl (.inl rfl) (aG (ag 3)) λe7=>
 (SF.jh rfl (.m 8)))
 (SF.jh rfl (.m 8)))))) λs4=>
 (SF.nN (Ph rfl rfl rfl q.list rfl q.reversed (rX 1)) λ_=>rfl))))
abbrev gV:DF:=dv 5 2 1 eS
def ND(D:DI v gV)(q:NB v)(xK:jT.C v):D.O:=
 pA D λhr nd cC=>
 (sl 1 nd (bB (n:=0) af rfl) λgA=>
 (sl 2 nd (bB (n:=0) af rfl) λsJ=>
 (SF.Hl (hd:=(λ(s4:O PV×O PV)=>([bn (.val cC),bn (.ol cr s4.1),bn (.ol cr s4.2),cr,cr,cr]:aH))) (s0:=(gA,sJ)) A5 rfl (bK rfl (vq (lC xK hr (av 0 af)))) (.refl _) (eN 3 nd) (λs4 sh=>
 (SF.WB (out1:=λ(QL:O PV×O PV)=>.nx ([bn (.val cC),bn (.ol cr QL.1),bn (.ol cr QL.2),bn (.val sh),cr,cr]:aH)) (ik rfl (jE rfl .str rfl q.isinstance (ag 3) rfl q.str boot_str) (λ_=>rfl))
 (SF.append 1 rfl rfl rfl (.inl rfl) (ag 3) λyK=>
 (SF.nil rfl (.refl _)))
 (SF.se 2 4 rfl ⋯ rfl rfl (.inl rfl) nd rfl (Ca rfl) λt20=>
 (SF.se 2 5 rfl ⋯ rfl rfl (.inl rfl) nd rfl (Ca rfl) λt22=>
 (SF.append 1 rfl rfl rfl (.inl rfl) (ao (n:=2) (av 5 (av 4 af)) rfl) λyJ=>
 (SF.nil rfl (.m 48)))))
 λQL=>(SF.append 2 rfl rfl rfl (.inl rfl) (Xx (S6 rfl rfl q.len (qA 1)) ak) λvc=>
 (SF.jh rfl (.m 8))))) λs4=>
 (SF.c8 (jb rfl rfl q.tuple (qA 1)) λ_=>rfl))))
abbrev kN:DF:=dv 6 1 1 gb
def JY(D:DI v kN)(q:NB v):D.O:=
 pA D λhr nd JB=>
 (SF.c8 (Ob (ik rfl (jE rfl .str rfl q.isinstance (ag 0) rfl q.str boot_str) (λ_=>rfl)) (ao (n:=0) af rfl) (ag 0)) λ_=>rfl)
abbrev jX:DF:=dv 7 3 1 gM
def xw(D:DI v jX)(q:NB v)(dS:gV.C v)(oI:kN.C v):D.O:=
 pA D λhr nd cC=>
 (sv 1 nd (eC dS hr (av 0 af)) λgA=>
 (SF.rR (i:=3) rfl nd rfl rfl jy (bK rfl (cx (ag 1))) (λ_ _ _ _ _=>(eN 0 jy.nd)) (λ_ _ _ _ _ p5=>iG) rfl λfy=>
 (SF.SU (hd:=(λ(s7:O PV)=>([bn (.val cC),bn (.val gA),cr,bn (.ol cr s7),cr,cr]:aH))) (s0:=fy) A5 rfl (nj rfl rfl q.enumerate (cx (ag 1))) (.refl _) (λ_=>(PK rfl (fD rfl (aP (eN 4 nd) (aP (eN 2 nd) dJ))))) (λs7 t9=>
 (SF.Hl (hd:=(λ(QN:O PV)=>([bn (.val cC),bn (.val gA),bn (.val t9.2),bn (.ol cr QN),bn (.val t9.1),cr]:aH))) (s0:=s7) A5 rfl (bK rfl (cx (eC oI hr (av 2 af)))) (.refl _) (eN 5 nd) (λQN zL=>
 (SF.aar 3 rfl rfl (.inl rfl) (ag 4) (ag 5) λvW=>
 (SF.jh rfl (.m 32)))) λQN=>
 (SF.jh rfl (.m 20)))) λs7=>
 (SF.c8 (jb rfl rfl q.tuple (qA 3)) λ_=>rfl))))
abbrev jW:DF:=dv 12 1 1 gL
def xv(D:DI v jW):D.O:=
 pA D λhr nd b9=>
 (SF.c8 (bD rfl (aG (bD rfl (aG (ag 0)) ak)) ak) λ_=>rfl)
abbrev jc:DF:=dv 13 1 1 gc
def GU(D:DI v jc):D.O:=
 pA D λhr nd b9=>
 (SF.c8 (bD rfl (aG (bD rfl (aG (ag 0)) ak)) (zU ak)) λ_=>rfl)
abbrev o5:DF:=dv 14 2 1 ku
def JX(D:DI v o5)(q:NB v)(xO:jW.C v):D.O:=
 pA D λhr nd b9=>
 (SF.c8 (jb rfl rfl q.tuple (ml (iu rfl mz (bK rfl (cx (kL rfl (ag 0) (eA ak) eB))) (λ_ _ _ _ _=>(eN 0 mz.nd)) (λ_ _ _ _ _ p5=>(eC xO hr (av 0 af))) rfl))) λ_=>rfl)
abbrev l9:DF:=dv 15 1 2 lH
def GS(D:DI v l9):D.O:=
 pA D λhr nd O1 NR=>
 (SF.c8 (Ob (c6 (iy rfl (bu hr)) (bD rfl (aG (ag 1)) ak) (ag 0)) (bD rfl (aG (ag 1)) ak) (bD rfl (aG (ag 1)) ak)) λ_=>rfl)
abbrev dY:DF:=dL 16 1 [.v] 1 dM
def pE(D:DI v dY)(q:NB v):D.O:=
 Nk D λhr nd b9=>
 (sl 1 nd (bB (n:=0) af rfl) λcR=>
 (sl 2 nd (bB (n:=1) (av 0 af) rfl) λdD=>
 (SF.yG (hd:=(λ(s4:O PV×O PV)=>([bn (.val b9),bn (.ol cr s4.1),bn (.ol cr s4.2),cr]:aH))) (s0:=(cR,dD)) A5 (.refl _) (λs4=>(OT rfl (qA 2) (λ_=>rfl))) (λs4=>
 (SF.se 2 3 rfl ⋯ rfl rfl (.inl rfl) nd rfl (Ca rfl) λt7=>
 (SF.append 1 rfl rfl rfl (.inl rfl) (ag 3) λdG=>
 (SF.extend 2 rfl rfl rfl (.inl rfl) (aG (kL rfl (ag 3) (eA ak) eB)) λe7=>
 (SF.jh rfl (.m 8)))))) λs4=>
 (SF.nN (Ph rfl rfl rfl q.list rfl q.reversed (rX 1)) λ_=>rfl))))
abbrev bN:DF:=dv 20 1 2 aJ
def oD(D:DI v bN)(q:NB v)(dg:v.mg "HOUSE"=bn (.str "house" mZ)):D.O:=
 pA D λhr nd cA tm=>
 (SF.Po (Ie.t (Iu (c6 J1 (ag 1) iG) (wy (ik rfl (jE rfl .str rfl q.isinstance (bD rfl (aG (ag 0)) (ag 1)) rfl q.str boot_str) (λ_=>rfl)))))
 (SF.c8 iG λ_=>rfl)
 (SF.c8 (ao (n:=2) (aa (iH dg rfl) (av 1 af)) rfl) λ_=>rfl))
abbrev cK:DF:=dv 21 2 2 aX
def pG(D:DI v cK)(kT:v.mg "FOUND"=bn (.str "found" yO))(kR:v.mg "SPLIT"=bn (.str "split" yN))(dg:v.mg "HOUSE"=bn (.str "house" mZ))(fw:v.mg "THING"=bn (.str "thing" rO))(lU:jc.C v):D.O:=
 pA D λhr nd ft fb=>
 (SF.Po (c6 (iy rfl (bu hr)) (bD rfl (aG (ag 1)) ak) (iH kT rfl))
 (SF.c8 iG λ_=>rfl)
 (SF.c8 (Ob (c6 (iy rfl (bu hr)) (bD rfl (aG (ag 1)) ak) (iH kR rfl)) (ao (n:=2) (aa (iH dg rfl) (aa (eC lU hr (av 1 af)) af)) rfl) (ao (n:=2) (aa (iH fw rfl) (av 0 af)) rfl)) λ_=>rfl))
abbrev fP:DF:=dL 22 2 [.v,.v] 2 dQ
def pI(D:DI v fP)(q:NB v)(aZ:bN.C v):D.O:=
 Nk D λhr nd cA j8=>
 (SF.nN (iu rfl gh (iY rfl q.range (jD rfl rfl q.len (ag 0))) (λ_ _ _ _ _=>(eN 0 gh.nd)) (λ_ _ _ _ _ p3=>(ao (n:=2) (aa (eC aZ hr (av 2 (aa (bD rfl (aG (ag 1)) (ag 0)) af))) (aa (eC aZ hr (av 2 (av 0 af))) af)) rfl)) rfl) λ_=>rfl)
abbrev fM:DF:=dL 23 3 [.v,.v] 2 dN
def pF(D:DI v fM)(q:NB v)(dS:gV.C v)(oI:kN.C v)(bZ:cK.C v):D.O:=
 Nk D λhr nd c7 nS=>
 (sl 2 nd (bB (n:=0) af rfl) λgE=>
 (SF.SU (hd:=(λ(s4:O PV)=>([bn (.val c7),bn (.val nS),bn (.ol cr s4),cr,cr,cr]:aH))) (s0:=gE) A5 rfl (nj rfl rfl q.enumerate (cx (eC dS hr (av 0 af)))) (.refl _) (λ_=>(PK rfl (fD rfl (aP (eN 3 nd) (aP (eN 4 nd) dJ))))) (λs4 t6=>
 (SF.Hl (hd:=(λ(s8:O PV)=>([bn (.val c7),bn (.val nS),bn (.ol cr s8),bn (.val t6.1),bn (.val t6.2),cr]:aH))) (s0:=s4) A5 rfl (bK rfl (cx (eC oI hr (av 4 af)))) (.refl _) (eN 5 nd) (λs8 xI=>
 (SF.append 2 rfl rfl rfl (.inl rfl) (ao (n:=2) (aa (eC bZ hr (av 3 (aa (bD rfl (aG (ag 1)) (ag 3)) af))) (aa (eC bZ hr (av 5 (aa (bD rfl (aG (ag 1)) (ag 5)) af))) af)) rfl) λuO=>
 (SF.jh rfl (.m 32)))) λs8=>
 (SF.jh rfl (.m 24)))) λs4=>
 (SF.Vs 2 rfl rfl)))
abbrev fN:DF:=dL 24 3 [.v] 1 dP
def pH(D:DI v fN)(o8:v.mg "OVER"=bn (.str "over" IA))(lU:jc.C v)(Hi:l9.C v)(Kw:o5.C v):D.O:=
 Nk D λhr nd fb=>
 (sv 1 nd (eC lU hr (av 0 af)) λrP=>
 (SF.nN (aa3 (c6 (iy rfl (bu hr)) (bD rfl (aG (ag 0)) ak) (iH o8 rfl)) (bB (n:=2) (av 1 (aa (eC Hi hr (av 1 (aa (eC Kw hr (av 0 af)) af))) af)) rfl) (bB (n:=1) (av 1 af) rfl)) λ_=>rfl))
abbrev gT:DF:=dL 25 4 [.v,.v,.v,.v] 4 eR
def sR(D:DI v gT)(fw:v.mg "THING"=bn (.str "thing" rO))(bZ:cK.C v)(pO:fN.C v)(aZ:bN.C v):D.O:=
 Nk D λhr nd cA j8 ft fb=>
 (sv 4 nd (eC bZ hr (av 2 (av 3 af))) λqF=>
 (sl 5 nd (bB (n:=0) af rfl) λgD=>
 (SF.WB (out1:=λ(Yn:O PV)=>.nx ([bn (.val cA),bn (.val j8),bn (.val ft),bn (.val fb),bn (.val qF),bn (.ol cr Yn),cr]:aH)) (c6 (iy rfl (bu hr)) (ag 4) (ao (n:=2) (aa (iH fw rfl) (av 2 af)) rfl))
 (SF.Hl (hd:=(λ(QK:O PV)=>([bn (.val cA),bn (.val j8),bn (.val ft),bn (.val fb),bn (.val qF),bn (.ol cr QK),cr]:aH))) (s0:=gD) A5 rfl (bK rfl (vq (lC pO hr (av 3 af)))) (.refl _) (eN 6 nd) (λQK oH=>
 (SF.append 5 rfl rfl rfl (.inl rfl) (ao (n:=2) (aa (eC aZ hr (av 0 (aa (bD rfl (aG (ag 1)) (ag 6)) af))) (av 4 af)) rfl) λuM=>
 (SF.append 5 rfl rfl rfl (.inl rfl) (ao (n:=2) (av 4 (aa (eC aZ hr (av 0 (av 6 af))) af)) rfl) λuK=>
 (SF.jh rfl (.m 64))))) λQK=>
 (SF.nil rfl (.refl _)))
 (SF.nil rfl (.refl _))
 λYn=>(SF.Vs 5 rfl rfl))))
abbrev nA:DF:=dv 26 5 3 kr
def NF(D:DI v nA)(q:NB v)(dS:gV.C v)(xP:jX.C v)(fK:dY.C v)(pP:fP.C v)(pN:fM.C v)(tD:gT.C v):D.O:=
 pA D λhr nd bV c7 b9=>
 (sv 3 nd (eC dS hr (av 0 af)) λd5=>
 (sv 4 nd (eC xP hr (av 0 af)) λfy=>
 (sl 5 nd (lC fK hr (av 2 af)) λm9=>
 SF.dj 5 rfl (sl 6 nd (qO rfl (dE (lC pP hr (av 3 (av 4 af)))) (dE (lC pN hr (av 1 (av 5 af))))) λsi=>
 (SF.SU (hd:=(λ(QM:O PV)=>([bn (.val bV),bn (.val c7),bn (.val b9),bn (.val d5),bn (.val fy),bn (.val (.cl m9)),bn (.ol cr QM),cr,cr]:aH))) (s0:=si) A5 rfl (nj rfl rfl q.enumerate (cx (ag 5))) (.refl _) (λ_=>(PK rfl (fD rfl (aP (eN 7 nd) (aP (eN 8 nd) dJ))))) (λQM ã=>
 (SF.extend 6 rfl rfl rfl (.inl rfl) (ml (lC tD hr (av 3 (av 4 (av 7 (av 8 af)))))) λuN=>
 (SF.jh rfl (.m 384)))) λQM=>
 (SF.dj 6 rfl (SF.c8 (jb rfl rfl q.tuple (ml (qN rfl rfl (bu hr) rfl q.sorted rfl q.set (dE (oC rfl oz (bK rfl (cx (ag 6))) (λ_ _ _ _ _=>(eN 0 oz.nd)) (λ_ _ _ _ _ YA=>(wG rfl (bu hr) iG (aG (ag 0)))) (λ_ _ _ _ _ YA=>(ag 0)) rfl))))) λ_=>rfl)))))))
abbrev gW:DF:=dL 27 3 [.v,.v] 2 eT
def sU(D:DI v gW)(q:NB v)(dS:gV.C v)(aZ:bN.C v)(fK:dY.C v)(bZ:cK.C v):D.O:=
 Nk D λhr nd bV b9=>
 (sv 2 nd (eC dS hr (av 0 af)) λd5=>
 (SF.rR (i:=3) rfl nd rfl rfl hJ (iY rfl q.range (jD rfl rfl q.len (ag 2))) (λ_ _ _ _ _=>(eN 0 hJ.nd)) (λ_ _ _ _ _ p6=>(eC aZ hr (av 1 (av 0 af)))) rfl λIy=>
 (SF.extend 3 rfl rfl rfl (.inl rfl) (ml (RZ rfl eE (nj rfl rfl q.enumerate (vq (lC fK hr (av 1 af)))) (λ_ _ _ _ _=>(PK rfl (fD rfl (aP (eN 0 eE.nd) (aP (eN 1 eE.nd) dJ))))) (λ_ _ _ _ _ HW=>(eC bZ hr (av 0 (av 1 af)))) (Wo rfl rfl ⋯) ⋯)) λIw=>
 (SF.dj 3 rfl (SF.nN (qN rfl rfl (bu hr) rfl q.sorted rfl q.set (dE (oC rfl hG (bK rfl (cx (ag 3))) (λ_ _ _ _ _=>(eN 0 hG.nd)) (λ_ _ _ _ _ YB=>(c6 NI (ag 0) iG)) (λ_ _ _ _ _ YB=>(ag 0)) rfl))) λ_=>rfl)))))
abbrev kO:DF:=dL 28 1 [.v,.v,.v] 3 da
def JZ(D:DI v kO):D.O:=
 Nk D λhr nd fc zm kC=>
 (SF.nN (Wr rfl iq (bK rfl (cx (ag 0))) (λ_ _ _ _ _=>(PK rfl (fD rfl (aP (eN 0 iq.nd) (aP (eN 1 iq.nd) dJ))))) (λ_ _ _ _ _ t3=>(Ie.t (Qp (c6 (iy rfl (bu hr)) (ag 0) (ag 3)) (L8 (U5 rfl (bu hr) (ag 1) (aG (ag 2))))))) (λ_ _ _ _ _ t3=>(ag 1)) (Wo rfl rfl ⋯) ⋯) λ_=>rfl)
abbrev oZ:DF:=dv 29 2 2 kq
def JU(D:DI v oZ)(q:NB v)(kG:kO.C v):D.O:=
 pA D λhr nd fc nZ=>
 (sl 2 nd (bB (n:=0) af rfl) λsj=>
 (sl 3 nd (xq rfl rfl q.list (aG (ag 1))) λsM=>
 SF.dj 3 rfl (sv 4 nd (ag 3) λxR=>
 (SF.yG (hd:=(λ(s4:O PV×PV×PV)=>([bn (.val fc),bn (.val nZ),bn (.ol cr s4.1),bn (.val s4.2.1),bn (.val s4.2.2)]:aH))) (s0:=(sj,(.cl sM),xR)) A5 (.refl _) (λs4=>(ik rfl (ag 4) (λ_=>rfl))) (λs4=>
 (sl 4 nd (oC rfl mw (bK rfl (cx (ag 3))) (λ_ _ _ _ _=>(eN 0 mw.nd)) (λ_ _ _ _ _ p7=>(yM (ik rfl (iI (lC kG hr (av 2 (av 0 (av 1 af))))) (λ_=>rfl)))) (λ_ _ _ _ _ p7=>(ag 0)) rfl) λtH=>
 SF.dj 4 rfl (SF.extend 2 rfl rfl rfl (.inl rfl) (aG (ag 4)) λuS=>
 (sl 3 nd (oC rfl mr (bK rfl (cx (ag 3))) (λ_ _ _ _ _=>(eN 0 mr.nd)) (λ_ _ _ _ _ LH=>(wG rfl (bu hr) (ag 0) (aG (ag 1)))) (λ_ _ _ _ _ LH=>(ag 0)) rfl) λzy=>
 SF.dj 3 rfl (SF.jh rfl (.refl _)))))) λs4=>
 (SF.dj 2 rfl (SF.c8 (ao (n:=2) (av 2 (av 3 af)) rfl) λ_=>rfl))))))
abbrev jV:DF:=dv 30 3 2 oe
def xu(D:DI v jV)(q:NB v)(dg:v.mg "HOUSE"=bn (.str "house" mZ))(dS:gV.C v)(aZ:bN.C v):D.O:=
 pA D λhr nd bV Jq=>
 (sl 2 nd (oC rfl jx (bK rfl (cx (ag 1))) (λ_ _ _ _ _=>(eN 0 jx.nd)) (λ_ _ _ _ _ p3=>(c6 (iy rfl (bu hr)) (bD rfl (aG (ag 0)) ak) (iH dg rfl))) (λ_ _ _ _ _ p3=>(ag 0)) rfl) λux=>
 SF.dj 2 rfl (SF.rR (i:=3) rfl nd rfl rfl jw (iY rfl q.range (jD rfl rfl q.len (eC dS hr (av 0 af)))) (λ_ _ _ _ _=>(eN 0 jw.nd)) (λ_ _ _ _ _ p8=>(eC aZ hr (aa (eC dS hr (av 1 af)) (av 0 af)))) rfl λqJ=>
 SF.dj 3 rfl (SF.c8 (jb rfl rfl q.tuple (ml (iu rfl jv (bK rfl (cx (ag 3))) (λ_ _ _ _ _=>(eN 0 jv.nd)) (λ_ _ _ _ _ MY=>(Ob (c6 J1 (ag 0) iG) ak (cF rfl (zV rfl (bu hr) (jL (ag 1)) (ag 0)) ak))) rfl))) λ_=>rfl)))
abbrev lY:DF:=dv 31 2 2 iU
def GQ(D:DI v lY)(q:NB v)(kG:kO.C v):D.O:=
 pA D λhr nd fc kC=>
 (sl 2 nd (bB (n:=1) (aa (bD rfl (aG (ag 1)) ak) af) rfl) λrM=>
 (sv 3 nd (bD rfl (ml (lC kG hr (av 0 (aa (bD rfl (aG (ag 1)) ak) (av 1 af))))) ak) λnV=>
 (SF.yG (hd:=(λ(s7:O PV×PV)=>([bn (.val fc),bn (.val kC),bn (.ol cr s7.1),bn (.val s7.2)]:aH))) (s0:=(rM,nV)) A5 (.refl _) (λs7=>(wG rfl (bu hr) (ag 3) (qA 2))) (λs7=>
 (SF.append 2 rfl rfl rfl (.inl rfl) (ag 3) λyI=>
 (sv 3 nd (bD rfl (ml (lC kG hr (av 0 (av 3 (av 1 af))))) ak) λqG=>
 (SF.jh rfl (.refl _))))) λs7=>
 (SF.c8 (jb rfl rfl q.tuple (ml (RY rfl (rX 2) (eA (zV rfl (bu hr) (rX 2) (ag 3))) eB))) λ_=>rfl))))
abbrev lZ:DF:=dv 32 6 3 iV
def GR(D:DI v lZ)(tF:nA.C v)(Ku:oZ.C v)(tE:gW.C v)(Hg:lY.C v)(xN:jV.C v):D.O:=
 pA D λhr nd bV c7 b9=>
 (sv 3 nd (eC tF hr (av 0 (av 1 (av 2 af)))) λgE=>
 (sv 4 nd (eC Ku hr (av 3 (aa (iI (lC tE hr (av 0 (av 2 af)))) af))) λnu=>
 (SF.Po (ik rfl (bD rfl (aG (ag 4)) ak) (λ_=>rfl))
 (SF.c8 (ao (n:=2) (aa br (aa (eC Hg hr (av 3 (aa (bD rfl (aG (ag 4)) ak) af))) af)) rfl) λ_=>rfl)
 (SF.c8 (ao (n:=2) (aa br (aa (eC xN hr (av 0 (aa (bD rfl (aG (ag 4)) ak) af))) af)) rfl) λ_=>rfl))))
abbrev iK:DF:=dv 34 2 1 bQ
def vk(D:DI v iK)(q:NB v)(xM:jU.C v)(Kv:o4.C v):D.O:=
 pA D λhr nd aL=>
 (SF.c8 (zW (eC Kv hr (av 0 (aa ak af))) (zW (jE rfl .str rfl q.isinstance (bD rfl (aG (ag 0)) ak) rfl q.str boot_str) (KZ (eC xM hr (aa (bD rfl (aG (ag 0)) ak) af))))) λ_=>rfl)
abbrev gU:DF:=dv 35 6 4 bq
def sS(D:DI v gU)(q:NB v)(vz:iK.C v)(tF:nA.C v):D.O:=
 pA D λhr nd bV c7 b9 aL=>
 (SF.Po (Ie.t (Iu (yM (ik rfl (jE rfl .tup rfl q.isinstance (ag 3) rfl q.tuple boot_tuple) (λ_=>rfl))) (wy (c6 Wz (jD rfl rfl q.len (ag 3)) ak))))
 (SF.c8 pX λ_=>rfl)
 (SF.Po (Ie.t (Iu (yM (ik rfl (PZ rfl rfl rfl q.all (dE (iu rfl g9 (bK rfl (cx (ag 3))) (λ_ _ _ _ _=>(eN 0 g9.nd)) (λ_ _ _ _ _ p2=>(eC vz hr (av 0 af))) rfl))) (λ_=>rfl))) (wy (c6 (Wy rfl (bu hr)) (Hq rfl rfl (bu hr) rfl q.len rfl q.set (ag 3)) (jD rfl rfl q.len (ag 3))))))
 (SF.c8 pX λ_=>rfl)
 (sv 4 nd (eC tF hr (av 0 (av 1 (av 2 af)))) λgD=>
 (SF.c8 (PZ rfl rfl rfl q.all (dE (iu rfl g8 (NL rfl rfl q.zip (cx (ag 3)) (cx (cF rfl (kL rfl (ag 3) (eA ak) eB) (kL rfl (ag 3) eB (eA ak))))) (λ_ _ _ _ _=>(eN 0 g8.nd)) (λ_ _ _ _ _ TQ=>(XB rfl (bu hr) (ag 0) (aG (ag 1)))) rfl))) λ_=>rfl))))
abbrev jY:DF:=dL 37 1 [.v] 1 eU
def xx(D:DI v jY)(q:NB v):D.O:=
 Nk D λhr nd dH=>
 (sv 1 nd (cF rfl (jD rfl rfl q.len (ag 0)) ak) λwL=>
 (SF.Hl (hd:=(λ(s5:PV)=>([bn (.val dH),bn (.val s5),cr]:aH))) (s0:=wL) A5 rfl (bK rfl (vq (RY rfl (jL (ag 0)) eB (eA ak)))) (.refl _) (eN 2 nd) (λs5 Lc=>
 (sv 1 nd (PX (cF rfl (cF rfl (Xz (ag 1) ak) (PX (ag 2) (PU ak ak))) ak) ak) λIQ=>
 (SF.jh rfl (.m 4)))) λs5=>
 (SF.nN (bB (n:=3) (aa (XC (oC rfl jz (bK rfl (vq (RY rfl (jL (ag 0)) eB (eA ak)))) (λ_ _ _ _ _=>(eN 0 jz.nd)) (λ_ _ _ _ _ YC=>(c6 WA (ag 0) (PU ak ak))) (λ_ _ _ _ _ YC=>(ag 0)) rfl)) (av 1 (aa ak af))) rfl) λ_=>rfl)))
abbrev cV:DF:=dV 38 1 [.p ia 1,.v] 1 cz
abbrev ma:DF:=dV 39 2 [.p ia 1,.v] 1 iW
def GV(D:DI v ma)(q:NB v)(aR:cV.C v):D.O:=
 Wl D λj hr nd IG=>
 (SF.c8 (bD rfl (aG (ag 1)) (eP 0 aR hr (aa (jD rfl rfl q.len (ag 1)) af))) λ_=>rfl)
abbrev fR:DF:=dV 40 8 [.p ia 127,.v,.v] 2 (aQ 7)
theorem jA(D:DI v fR)(q:NB v)(aR:cV.C v):∀n,js v.P v.w v.K v.mg v.base v9 (n+1) D.f D.fd (Gu (top 40)) (Ga v.K [.p ia (cT n),.v,.v] (rJ 2 (aQ n)))
 |0=>Xl (QI λl Q hl=>match l,hl with|[cC,b9],_=>λh=>h.elim)
 |n+1=>have dU:=D.cN (jA D q aR n)
  fnV (k:=n+1) (n:=2) (m:=aQ (n+1)) D.fn aY rfl (V5 (n:=2)) λj l hl=>match l,hl with|[cC,b9],_=>λ_ _ _ _ _ _ hr=>show SF _ _ _ [bn (.dI ia j (j+(cT n+cT n+1))),bn (.val cC),bn (.val b9),cr,cr,cr,cr] _ (aQ (n+1) cC b9) _ from
 (SF.Po (c6 (iy rfl (bu hr)) (jD rfl rfl q.len (ag 2)) ak)
 (SF.c8 (ao (n:=2) (av 1 (av 2 af)) rfl) λ_=>rfl)
 (SF.IP (eP 0 dU hr (aa (bD rfl (aG (ag 1)) ak) (aa (bD rfl (aG (ag 2)) ak) af))) (PK rfl (fD rfl (aP (eN 3 aY.nd) (aP (eN 4 aY.nd) dJ)))) λt6=>
 (SF.IP (eP 0 dU hr (aa (bD rfl (aG (ag 1)) ak) (aa (bD rfl (aG (ag 2)) ak) af))) (PK rfl (fD rfl (aP (eN 5 aY.nd) (aP (eN 6 aY.nd) dJ)))) λVk=>
 (SF.WB (out1:=λ(LG:PV×PV×PV×PV)=>.nx ([bn (.dI ia (j+cT n+cT n+1) (j+(cT n+cT n+1))),bn (.val cC),bn (.val b9),bn (.val LG.1),bn (.val LG.2.1),bn (.val LG.2.2.1),bn (.val LG.2.2.2)]:aH)) (c6 (iy rfl (bu hr)) (eP 0 (n:=j+cT n+cT n) (mx:=j+(cT n+cT n+1)) aR hr (aa ak af)) ak)
 (SF.IP (ao (n:=4) (av 5 (av 6 (av 3 (av 4 af)))) rfl) (g_4 rfl (fD rfl (aP (eN 3 aY.nd) (aP (eN 4 aY.nd) (aP (eN 5 aY.nd) (aP (eN 6 aY.nd) dJ)))))) λVj=>
 (SF.nil rfl (.bump (.refl _) ⟨by omega,by omega⟩)))
 (SF.nil rfl (.bump (.refl _) ⟨by omega,by omega⟩))
 λLG=>(SF.c8 (ao (n:=2) (aa (ao (n:=2) (av 3 (av 5 af)) rfl) (aa (cF rfl (kL rfl (ag 2) eB (eA ak)) (ao (n:=2) (av 4 (av 6 af)) rfl)) af)) rfl) λ_=>rfl)))))
abbrev fV:DF:=dV 41 9 [.p ia 16777350] 0 dR
set_option maxHeartbeats 20000000 in
theorem pK(D:DI v fV)(q:NB v)(Hj:ma.C v)(aR:cV.C v)(dU:fR.C v):D.O:=
 Wl D λj hr nd=>
 (sv 1 nd (eP 0 Hj hr (aa (iI (bB (n:=3) (aa (iI (bB (n:=5) (aa br (aa br (aa br (aa br (aa br af))))) rfl)) (aa (iI (bB (n:=5) (aa br (aa br (aa br (aa br (aa br af))))) rfl)) (aa (iI (bB (n:=5) (aa br (aa br (aa br (aa br (aa br af))))) rfl)) af))) rfl)) af)) λbR=>
 (sv 2 nd (ao (n:=2) (aa (ao (n:=2) (aa (bD rfl (aG (ag 1)) ak) (aa (bD rfl (aG (ag 1)) ak) af)) rfl) (aa (ao (n:=2) (aa (bD rfl (aG (ag 1)) ak) (aa (bD rfl (aG (ag 1)) ak) af)) rfl) af)) rfl) λiD=>
 (SF.par (i:=3) (j:=4) rfl nd rfl rfl ⋯ rfl rfl (eP 0 aR hr (aa ak af)) (eP 0 aR hr (aa ak af)) λrj qr=>
 (sv 5 nd (ao (n:=4) (aa (ao (n:=1) (aa ak af) rfl) (aa br (aa (ao (n:=2) (aa (ao (n:=2) (aa ak (av 3 af)) rfl) (aa br af)) rfl) (aa (ao (n:=2) (aa (ao (n:=1) (aa (cF rfl ak (ag 4)) af) rfl) (aa br af)) rfl) af)))) rfl) λkB=>
 (SF.par (i:=6) (j:=7) rfl nd rfl rfl ⋯ rfl rfl (eP 0 aR hr (aa ak af)) (eP 0 aR hr (aa ak af)) λf7 je=>
 (sv 8 nd (ao (n:=4) (aa (ao (n:=1) (aa ak af) rfl) (aa br (aa (ao (n:=2) (aa (ao (n:=2) (aa ak (aa (cF rfl ak (ag 6)) af)) rfl) (aa br af)) rfl) (aa (ao (n:=2) (aa (ao (n:=1) (av 7 af) rfl) (aa br af)) rfl) af)))) rfl) λip=>
 (sv 9 nd (ao (n:=2) (aa (ao (n:=2) (aa (bD rfl (aG (ag 1)) (ag 3)) (aa (bD rfl (aG (ag 1)) (cF rfl ak (ag 4))) af)) rfl) (aa (ao (n:=2) (aa (bD rfl (aG (ag 1)) (cF rfl ak (ag 6))) (aa (bD rfl (aG (ag 1)) (ag 7)) af)) rfl) af)) rfl) λnJ=>
 (sv 10 nd (ao (n:=4) (aa (ao (n:=1) (aa ak af) rfl) (aa br (av 5 (av 8 af)))) rfl) λwq=>
 (SF.Xi (hd:=(λ(è:Nat) (wM:PV×PV)=>([bn (.dI ia (j+6+1*è+0) (j+16777350)),bn (.val bR),bn (.val iD),bn (.val rj),bn (.val qr),bn (.val kB),bn (.val f7),bn (.val je),bn (.val ip),bn (.val wM.1),bn (.val wM.2),cr,cr]:aH))) (hE:=(λ(wM:PV×PV)=>([bn (.dI ia (j+16777222) (j+16777350)),bn (.val bR),bn (.val iD),bn (.val rj),bn (.val qr),bn (.val kB),bn (.val f7),bn (.val je),bn (.val ip),bn (.val wM.1),bn (.val wM.2),cr,cr]:aH))) (s0:=(nJ,wq)) A5 rfl (iY rfl q.range (eP 0 aR hr (aa ak af))) (.bump (.refl _) ⟨by omega,by omega⟩) (eN 11 nd) (λè wM abf _=>
 (sv 12 nd (eP 0 aR hr (aa ak af)) λsN=>
 (SF.par (i:=9) (j:=10) rfl nd rfl rfl ⋯ rfl rfl (ao (n:=2) (av 9 (aa (bD rfl (aG (ag 1)) (ag 12)) af)) rfl) (ao (n:=4) (aa (ao (n:=1) (aa ak af) rfl) (aa br (av 10 (aa (ao (n:=2) (aa (ao (n:=3) (aa ak (aa ak (av 12 af))) rfl) (aa br af)) rfl) af)))) rfl) λuy Im=>
 (SF.jh rfl (.bump (.m 3072) ⟨by omega,by omega⟩))))) (λè _ _=>(.bump (.refl _) ⟨by omega,by omega⟩)) λwM=>
 (SF.WB (out1:=λ(uA:PV×PV×PV)=>.nx ([bn (.dI ia (j+16777223) (j+16777350)),bn (.val bR),bn (.val uA.1),bn (.val rj),bn (.val qr),bn (.val kB),bn (.val f7),bn (.val je),bn (.val ip),bn (.val uA.2.1),bn (.val uA.2.2),cr,cr]:aH)) (c6 (iy rfl (bu hr)) (eP 0 (n:=j+16777222) (mx:=j+16777350) aR hr (aa ak af)) ak)
 (sv 2 nd (ao (n:=2) (av 2 (aa (bD rfl (aG (ag 1)) ak) af)) rfl) λqW=>
 (SF.par (i:=9) (j:=10) rfl nd rfl rfl ⋯ rfl rfl (ao (n:=2) (av 9 (aa (bD rfl (aG (ag 1)) ak) af)) rfl) (ao (n:=4) (aa (ao (n:=1) (aa ak af) rfl) (aa br (av 10 (aa (ao (n:=2) (aa (ao (n:=1) (aa ak af) rfl) (aa br af)) rfl) af)))) rfl) λqv yH=>
 (SF.nil rfl (.bump (.refl _) ⟨by omega,by omega⟩))))
 (SF.nil rfl (.bump (.refl _) ⟨by omega,by omega⟩))
 λuA=>(SF.c8 (cF rfl (ao (n:=1) (av 2 af) rfl) (eP 0 dU hr (av 9 (av 10 af)))) λ_=>rfl)))))))))))
abbrev fU:DF:=dv 42 1 1 aU
def pJ(D:DI v fU)(q:NB v):D.O:=
 pA D λhr nd aL=>
 (sv 1 nd (ao (n:=1) (av 0 af) rfl) λyc=>
 (SF.Hl (hd:=(λ(s4:PV)=>([bn (.val aL),bn (.val s4),cr,cr]:aH))) (s0:=yc) A5 rfl (iY rfl q.range ak) (.refl _) (eN 2 nd) (λs4 k_5=>
 (sv 1 nd (ao (n:=1) (av 1 af) rfl) λK5=>
 (SF.jh rfl (.m 4)))) λs4=>
 (sl 3 nd (bB (n:=15) (aa iG (aa pX (aa ak (aa (zU ak) (aa br (aa br (aa br (aa (iI (bB (n:=0) af rfl)) (aa (XD XJ) (aa (ao (n:=1) (aa br af) rfl) (aa (ao (n:=2) (aa iG (aa iG af)) rfl) (aa (ao (n:=2) (aa ak (aa ak af)) rfl) (av 1 (aa (iI (bB (n:=1) (av 0 af) rfl)) (aa (XD (XI ak (ag 0))) af))))))))))))))) rfl) λwK=>
 SF.dj 3 rfl (SF.WB (out1:=λ(Ym:PV)=>.nx ([bn (.val aL),bn (.val s4),cr,bn (.val Ym)]:aH)) (ik rfl (jE rfl .tup rfl q.isinstance (ag 0) rfl q.tuple boot_tuple) (λ_=>rfl))
 (sl 3 nd (qO rfl (jL (ag 3)) (dE (bB (n:=6) (aa (iI (xq rfl rfl q.list (aG (ag 0)))) (aa (cF rfl (ag 0) (ao (n:=1) (aa iG af) rfl)) (aa (ao (n:=1) (av 0 af) rfl) (aa (ao (n:=2) (av 0 (av 0 af)) rfl) (aa (cF rfl (kL rfl (ag 0) eB (eA (zU ak))) (ao (n:=1) (aa (iI (xq rfl rfl q.list (aG (kL rfl (ag 0) (eA (zU ak)) eB)))) af) rfl)) (aa (ao (n:=0) af rfl) af)))))) rfl))) λyS=>
 SF.dj 3 rfl (SF.nil rfl (.refl _)))
 (SF.nil rfl (.refl _))
 λYm=>(SF.c8 (ag 3) λ_=>rfl)))))
abbrev P4:DF:=dv 43 10 1 n9
set_option maxHeartbeats 20000000 in
theorem Wx(D:DI v P4)(q:NB v)(xQ:jY.C v)(pR:fV.C v)(Hh:lZ.C v)(aR:cV.C v)(dW:fU.C v)(gQ:gU.C v):D.O:=
 pA D λhr nd dH=>
 (sl 1 nd (lC xQ hr (av 0 af)) λnQ=>SF.ia 1 281477241634816 rfl
 (SF.SV (hd:=(λ(j5:Nat) (s4:Unit)=>([bn (.val dH),bn (.dI ia (0+0+16777351*j5+0) 281477241634816),cr,cr,cr,cr,cr,cr,cr,cr,cr,cr]:aH))) (hE:=(λ(s4:Unit)=>([bn (.val dH),bn (.dI ia (0+281477241634816) 281477241634816),cr,cr,cr,cr,cr,cr,cr,cr,cr,cr]:aH))) (s0:=()) (inj:=id) A5 rfl (iY rfl q.range ak) (.keep (.bump (.refl _) ⟨by omega,by omega⟩)) (eN 2 nd) (λ_=>trivial) (λj5 s4 Qq _=>
 (SF.IP (eP 1 pR hr af) (g_3 rfl (fD rfl (aP (eN 3 nd) (aP (eN 4 nd) (aP (eN 5 nd) dJ))))) λt8=>
 (sv 6 nd (bD rfl (aG (eC Hh hr (av 3 (av 4 (av 5 af))))) ak) λfC=>
 (sv 7 nd (eP 1 aR hr (aa (jD rfl rfl q.len (ag 6)) af)) λrq=>
 (SF.IP (bD rfl (aG (ag 6)) (ag 7)) (PK rfl (fD rfl (aP (eN 8 nd) (aP (eN 9 nd) dJ)))) λMg=>
 (sl 10 nd (qO rfl (jL (eC dW hr (aa (bD rfl (aG (ag 6)) (ag 7)) af))) (dE (iu rfl vi (bK rfl (cx (eC dW hr (av 9 af)))) (λ_ _ _ _ _=>(eN 0 vi.nd)) (λ_ _ _ _ _ p21=>(ao (n:=2) (av 1 (av 0 af)) rfl)) rfl))) λzx=>
 SF.dj 10 rfl (sl 10 nd (qO rfl (dE (qO rfl (jL (ag 10)) (dE (iu rfl vh (bK rfl (cx (eC dW hr (av 8 af)))) (λ_ _ _ _ _=>(eN 0 vh.nd)) (λ_ _ _ _ _ p29=>(ao (n:=2) (av 0 (av 1 af)) rfl)) rfl)))) (dE (bB (n:=2) (aa (ao (n:=2) (aa (N7 rfl (ag 8)) (av 9 af)) rfl) (aa (ao (n:=3) (av 8 (av 9 (aa ak af))) rfl) af)) rfl))) λzw=>
 SF.dj 10 rfl (sl 11 nd (qO rfl (jL (eC dW hr (av 6 af))) (dE (oC rfl vg (bK rfl (cx (ag 10))) (λ_ _ _ _ _=>(eN 0 vg.nd)) (λ_ _ _ _ _ Yz=>(c6 (Sd rfl (bu hr)) (ag 0) (bD rfl (aG (ag 2)) (ag 1)))) (λ_ _ _ _ _ Yz=>(cF rfl (cF rfl (kL rfl (ag 2) eB (eA (ag 1))) (ao (n:=1) (av 0 af) rfl)) (kL rfl (ag 2) (eA (cF rfl (ag 1) ak)) eB))) rfl))) λvV=>
 SF.dj 11 rfl (SF.Po (c6 lR (eC gQ hr (av 3 (av 4 (av 5 (av 6 af))))) pX)
 (SF.ret (k:=λQg=>(Lp.out Qg)) pX λ_=>rfl)
 (SF.Po (ik rfl (XE rfl rfl rfl q.any (dE (iu rfl vf (bK rfl (cx (ag 11))) (λ_ _ _ _ _=>(eN 0 vf.nd)) (λ_ _ _ _ _ Yy=>(PY lR (eC gQ hr (av 1 (av 2 (av 3 (av 0 af))))) pX)) rfl))) (λ_=>rfl))
 (SF.ret (k:=λUJ=>(Lp.out UJ)) pX λ_=>rfl)
 (SF.ifT (c6 lR (eC gQ hr (av 3 (av 4 (av 5 (av 6 af))))) pX)
 (SF.ret (k:=λUE=>(Lp.out UE)) pX λ_=>rfl)
 (SF.jh rfl (.keep (.bump (.m 1023) ⟨by omega,by omega⟩)))))))))))))) (λj5 _ _=>(.keep (.bump (.refl _) ⟨by omega,by omega⟩))) λs4=>
 (SF.c8 pX λ_=>rfl)))
end
end My
variable{Q:O PL.PV->Prop}{t:My.Tr}
namespace My
def Tr.pv:Tr->PV
 |.leaf x=>.str x
 |.node l r=>.tup [l.pv,r.pv]
def Ent.pv:Ent->PV
 |.word x=>.str x
 |.pair a b=>.tup [.int (a:Int),.int (b:Int)]
def yT{l:List α}(h:l≠[]):∃a x,l=a++[x]:=⟨l.dropLast,l.getLast h,(List.dropLast_concat_getLast h).symm⟩
def IK{a b:O Tr}(h:bH a++b=t.post):bf a+b.length=t.size:=by
 have h1:=congrArg Dl h;rw[Ag,t.ba]at h1;have h2:∀l:O Tr,(bH l).length=bf l:=by
  intro l
  induction l with
  |nil=>rfl
  |cons x l ih=>
   have e1:bH (x::l)=x.post++bH l:=rfl;have e2:bf (x::l)=x.size+bf l:=rfl;rw[e1,e2,Ag,ih,x.ba]
 rw[h2]at h1;exact h1
theorem fW(h:l.length<1000):k6 l x=.ret (l++[x]):=sw (by have:=a9 (Am _);lia)
theorem Jo(t:Tr)(hz:t.size<=900):(jM t.pv).le (.ret (t.post.map Tr.pv)):=λQ q=>by
 refine gs (λn s=>∃ts bs:O Tr,n=bf ts/\s=(bs.map Tr.pv,ts.map Tr.pv)/\bH ts++bs.reverse=t.post) ⟨[t],[],rfl,rfl,by rw[lB];simp⟩ ?_;rintro n s ⟨ts,bs,rfl,rfl,hp⟩;have hs:=IK hp;rw[Ct]at hs;by_cases he:ts=[]
 .subst he;have î:bs.reverse=t.post:=hp;simp;rw[<- List.map_reverse,î];exact q
 .obtain⟨us,u,rfl⟩:=yT he;have LN:=iX us;rw[eJ,lu]at hs;simp;rw[fW (by rw[Aq];lia)];cases u with
  |leaf x=>
   simp[Tr.pv];refine⟨_,?_,us,rfl,bs++[.leaf x],⟨by simp[Tr.pv],rfl⟩,?_⟩
   .rw[eJ,lu];show bf us<bf us+1;lia
   .rw[gC,lB]at hp;rw[DQ,<- hp];simp[Tr.post]
  |node c d=>
   have e1:oT (us.map Tr.pv) [c.pv,d.pv]=.ret (us.map Tr.pv++[c.pv,d.pv]):=sw (a9 (by
    simp;lia))
   simp[Tr.pv,e1];refine⟨_,?_,us++[c,d],rfl,bs++[.node c d],⟨by simp[Tr.pv],by simp⟩,?_⟩
   .have e2:bf [Tr.node c d]=c.size+d.size+1:=by rw[lu];rfl
    have e3:bf [c,d]=c.size+d.size:=by simp[bf]
    rw[eJ,eJ,e2,e3];lia
   .rw[gC,lB]at hp;rw[DQ,<- hp,gC,Gq];simp[Tr.post]
def bT(l:O Nat):O PV:=l.map λ(n:Nat)=>.int (n:Int)
@[simp] theorem u4(l:O Nat):(bT l).length=l.length:=Aq _
@[simp] theorem JG(a b:O Nat):bT (a++b)=bT a++bT b:=BL
@[simp] theorem TR(a:Nat)(l:O Nat):bT (a::l)=.int (a:Int)::bT l:=rfl
@[simp] theorem Wi:bT []=[]:=rfl
def qV(n:Nat):iA 0 n=bT (Ax n):=by
 refine B2 λi _=>?_;rw[FA]
theorem zq{g:Nat->PV}:∀{l:O Nat},(∀k∈l,f (.int ((k:Nat):Int))=.ret (g k))->bU (bT l) f=.ret (l.map g)
 |[],_=>rfl
 |k::l,h=>by
  show ca (f _) (λy=>ca (bU (bT l) f) λm=>ci (y::m))=_;rw[h k (.head _),zq λy hy=>h y (.tail _ hy)];rfl
def zC{f:PV->W (Option PV)}(g:PV->Option PV)(h:∀x∈l,f x=.ret (g x))(q:Q (l.filterMap g)):(kc l f).run Q:=by rw[oA h];exact q
def RO(g:PV->PV)(h:∀x∈l,f x=.ret (g x))(q:Q (l.map g)):(bU l f).run Q:=by rw[gJ h];exact q
def qK{l:O Nat}(g:Nat->PV)(h:∀k∈l,f (.int ((k:Nat):Int))=.ret (g k))(q:Q (l.map g)):(bU (bT l) f).run Q:=by rw[zq h];exact q
theorem ko(t:Tr)(hz:t.size<=900):(eS t.pv).le (.ret (.tup ((t.nd 0).map Ent.pv))):=λQ q=>by
 unfold eS;simp;refine W.le.use (Jo t hz) ?_;refine oK (λr s=>∃(k:O Tr) (Z:O Ent) (ls:O Nat),r=k.map Tr.pv/\s=(Z.map Ent.pv,bT ls.reverse)/\run k Z ls=bn (t.nd 0,[t.size-1])/\Z.length+k.length<=900/\ls.length<=Z.length) ⟨t.post,[],[],rfl,rfl,Gi t,by simp[t.ba];lia,Am _⟩ ?_ ?_
 .rintro x r s ⟨k,Z,ls,e,rfl,h,hl,YV⟩;cases k with
  |nil=>cases e
  |cons p k=>
   injection e with e1 e2;subst e1;subst e2;rw[Ay]at hl;cases p with
   |leaf x=>
    have a1:∀y,k6 (bT ls.reverse) y=.ret (bT ls.reverse++[y]):=λy=>fW (by simp;lia);simp[Tr.pv,fW (l:=Z.map Ent.pv) (by simp;lia),a1];refine⟨k,rfl,Z++[Ent.word x],Z.length::ls,⟨by simp[Ent.pv],by simp⟩,h,by simp;lia,by simp;lia⟩
   |node c d=>
    match ls,h,YV with
    |b::a::ls,h,YV=>
     rw[Ay,Ay]at YV;have a0:bT (b::a::ls).reverse=(bT ls.reverse++[.int a])++[.int b]:=by simp
     have a1:∀y,k6 (bT ls.reverse) y=.ret (bT ls.reverse++[y]):=λy=>fW (by simp;lia);rw[a0];simp only[Tr.pv,lm,tI,zS,eV,if_false,KL];simp[fW (l:=Z.map Ent.pv) (by simp;lia),a1];refine⟨k,rfl,Z++[Ent.pair a b],Z.length::ls,⟨by simp[Ent.pv],by simp⟩,h,by simp;lia,by simp;lia⟩
 .rintro s ⟨k,Z,ls,e,rfl,h,hl,YV⟩;cases k with
  |nil=>
   cases h;simpa using q
  |cons p k=>cases e
end My
variable{b:Int}
namespace My
theorem mulL(h:-1000000000<=a/\a<=1000000000):Fk a b:=Pd ∅ ∅
theorem mulR(h:-1000000000<=b/\b<=1000000000):Fk a b:=mul_r ∅ ∅
theorem eY{i j:Int}(h:-1000<=i/\i<=1000/\-1000<=j/\j<=1000)(h2:j-i<=1000):okN i j:=⟨by lia,by lia,by lia,by lia,a9 ∅⟩
end My
variable{a:Nat}{v:PL.PV}
namespace My
theorem Hn(t:Tr){b:Nat}(h:j<t.size)(e:en t 0 j=.pair a b):a<j/\b<j:=by
 rcases Lg t 0 j h with⟨x,e1,_⟩|⟨a',b',e1,e2,e3,_⟩
 .rw[e1]at e;cases e
 .rw[e1]at e;injection e with h1 h2;lia
theorem NK(h:k<n):qR n (k:Int)=bn k:=by
 unfold qR;rw[if_pos ∅,if_pos ∅];simp
def yU(h:k<l.length):Gf l (.int (k:Int)) v=.ret (l.set k v):=by
 unfold Gf;simp[NK h]
def QP(l:O PV)(n:Int):d4 (.tup l) (.int n)=.ret (.bl ((l.length:Int)==n)):=by
 unfold d4;simp only[lm,tI,N5,N6,eX,lV]
def vp:V->PV
 |.int i=>.int i
 |.str x=>.str x
 |.bl b=>.bl b
 |_=>.az
def OA(t:Tr):O PV:=(ah (t.nd 0) 0 (Av t.size V.az)).map vp
@[simp] theorem ZC(t:Tr):(OA t).length=t.size:=by unfold OA;rw[Aq,yt,Cd]
def FU(t:Tr)(h:j<t.size):(OA t)[j]?=bn (vp (rz t 0 j .az)):=by unfold OA;rw[Ap,Th t h];rfl
def cU(t:Tr):((t.nd 0).map Ent.pv).length=t.size:=by rw[Aq,t.fh]
theorem Lj(t:Tr)(hz:t.size<=900):(gM t.pv).le (.ret (.tup (OA t))):=λQ q=>by
 unfold gM;have c:((t.nd 0).map Ent.pv).length<=sizeLine:=a9 (by rw[cU];lia);simp only[lm,gl];refine W.le.use (ko t hz) ?_;simp only[bg,lw];refine RO (λ_=>.az) (λx hx=>rfl) ?_;simp only[sw c,lw];have e0:((t.nd 0).map Ent.pv).map (λ_=>PV.az)=(ah ((t.nd 0).take 0) 0 (Av t.size V.az)).map vp:=by
  rw[List.take_zero,ah,List.map_replicate,List.map_const',cU];rfl
 rw[e0];refine gR (λi s=>s=(ah ((t.nd 0).take i) 0 (Av t.size V.az)).map vp) rfl (λi x s hx hs=>?_) (λs hs=>?_)
 .subst hs;have hi:i<t.size:=by have:=(Aj.mp hx).1;rw[bM,cU]at this;exact this
  obtain⟨y,hy,rfl⟩:=e6 hx;have e:=u0 t 0 i hi;rw[Ap,e]at hy;have hy:=Option.some.inj hy;subst hy;have et:(t.nd 0).take (i+1)=(t.nd 0).take i++[en t 0 i]:=by rw[Fc,e];rfl
  have ea:ah ((t.nd 0).take (i+1)) 0 (Av t.size V.az)=Ll (ah ((t.nd 0).take i) 0 (Av t.size V.az)) (0+i) (en t 0 i):=by
   rw[et,tY,Bb,t.fh];congr 1;lia
  have hal:(ah ((t.nd 0).take i) 0 (Av t.size V.az)).length=t.size:=by rw[yt,Cd]
  rw[ea];generalize hA:ah ((t.nd 0).take i) 0 (Av t.size V.az)=A at hal ⊢;unfold gb;cases en':en t 0 i with
  |word w=>simp[Ent.pv,dw,Ll]
  |pair a b=>
   obtain⟨ha,hb⟩:=Hn t hi en';have s1:Gf (A.map vp) (.int a) (.int ((0+i:Nat)))=.ret ((A.map vp).set a (.int ((0+i:Nat):Int))):=yU (by rw[Aq];lia);have s2:Gf ((A.map vp).set a (.int ((0+i:Nat):Int))) (.int b) (.int ((0+i:Nat):Int))=.ret (((A.map vp).set a (.int ((0+i:Nat):Int))).set b (.int ((0+i:Nat):Int))):=yU (by rw[CJ,Aq];lia);simp only[Ent.pv,S0,lw,tI,zS,eV,gl,An,if_false,bg,dw,lm,s1,s2];show _=FO vp ((A.set a _).set b _);rw[List.map_set,List.map_set];rfl
 .subst hs;simp only[bM,Aq];rw[EA];exact q
def bG(h:l[k]?=bn v):mQ l (.int (k:Int))=.ret v:=by
 rw[KP,gX h];rfl
theorem yr:∀(t:Tr) (o x:Nat) (p:V),x<t.size->(x=t.size-1/\rz t o x p=p)\/∃a u v,x<a/\a<t.size/\rz t o x p=.int ((o+a:Nat):Int)/\en t o a=.pair u v/\(u=o+x\/v=o+x)
 |.leaf _,o,x,p,h=>.inl ⟨by have:x<1:=h;show x=0;lia,rfl⟩
 |.node l r,o,x,p,h=>by
  have es:(Tr.node l r).size=l.size+r.size+1:=rfl;have top:en (.node l r) o (l.size+r.size)=.pair (o+l.size-1) (o+l.size+r.size-1):=by rw[en,if_neg ∅,if_neg ∅]
  by_cases c1:x<l.size
  .rw[show rz (.node l r) o x p=rz l o x (.int (o+l.size+r.size:Nat)) by rw[rz,if_pos c1]];rcases yr l o x (.int (o+l.size+r.size:Nat)) c1 with⟨h1,h2⟩|⟨a,u,v,h1,h2,h3,h4,h5⟩
   .exact .inr ⟨l.size+r.size,_,_,by lia,by lia,by rw[h2,Cr],top,.inl ∅⟩
   .exact .inr ⟨a,u,v,h1,by lia,h3,by rw[en,if_pos h2];exact h4,h5⟩
  .by_cases c2:x<l.size+r.size
   .rw[show rz (.node l r) o x p=rz r (o+l.size) (x-l.size) (.int (o+l.size+r.size:Nat)) by rw[rz,if_neg c1,if_pos c2]];rcases yr r (o+l.size) (x-l.size) (.int (o+l.size+r.size:Nat)) ∅ with⟨h1,h2⟩|⟨a,u,v,h1,h2,h3,h4,h5⟩
    .exact .inr ⟨l.size+r.size,_,_,by lia,by lia,by rw[h2,Cr],top,.inr ∅⟩
    .refine .inr ⟨l.size+a,u,v,by lia,by lia,by rw[h3,Cr],?_,by lia⟩;rw[en,if_neg ∅,if_pos ∅,Nat.add_sub_cancel_left];exact h4
   .exact .inl ⟨by lia,by rw[rz,if_neg c1,if_neg c2]⟩
structure Sy where
 nm:PV
 lv:Nat
 un:List Nat
 be:List Nat
def fa(F:O (O Bool))(j i:Nat):Bool:=(F.getD j []).getD i false
def Nv(q:O Nat)(l:Nat):kZ (bT (q++[l])) (-1)=bn (.int (l:Int)):=by rw[JG];exact Lh _ _
def Tb(l:O PV)(h:a<=l.length):bz l (bn (a:Int)) cr=l.drop a:=by
 unfold bz;rw[HT.kj,HT.m5,DK h,Dq (by simp)]
inductive WT where
 |lf (p:List Nat) (i:Nat)
 |nd (p:List Nat) (i:Nat) (nm:Str) (a b:WT)
namespace WT
def path:WT->O Nat
 |.lf p i=>p++[i]
 |.nd p i _ _ _=>p++[i]
def at':WT->Nat
 |.lf _ i=>i
 |.nd _ i _ _ _=>i
def cQ:WT->Str
 |.lf _ _=>"found"
 |.nd _ _ nm _ _=>nm
def kids:WT->O WT
 |.lf _ _=>[]
 |.nd _ _ _ a b=>[a,b]
def pv:WT->PV
 |.lf p i=>.tup [.tup (bT (p++[i])),.str "found"]
 |.nd p i nm a b=>.tup [.tup (bT (p++[i])),.str nm,a.pv,b.pv]
def size:WT->Nat
 |.lf _ _=>1
 |.nd _ _ _ a b=>a.size+b.size+1
def post:WT->O WT
 |.lf p i=>[.lf p i]
 |.nd p i nm a b=>a.post++b.post++[.nd p i nm a b]
def uC(u:WT):u.pv=.tup (.tup (bT u.path)::.str u.cQ::u.kids.map pv):=by cases u<;>rfl
def zd(u:WT):∃p,u.path=p++[u.at']:=by cases u<;>exact⟨_,rfl⟩
def size_pos(u:WT):0<u.size:=by cases u<;>simp[size]
theorem ba:∀u:WT,u.post.length=u.size
 |.lf _ _=>rfl
 |.nd _ _ _ a b=>by simp[post,size,ba a,ba b];lia
def bH(l:O WT):O WT:=l.flatMap post
def bf(l:O WT):Nat:=(l.map size).sum
def wR(u:WT):u.post=bH u.kids++[u]:=by cases u<;>simp[post,bH,kids]
def Gd(u:WT):u.size=bf u.kids+1:=by cases u<;>simp[size,bf,kids]
def Gr(l:O WT):(bH l).length=bf l:=by
 induction l with
 |nil=>rfl
 |cons x l ih=>
  have e:bH (x::l)=x.post++bH l:=rfl;have e2:bf (x::l)=x.size+bf l:=rfl;rw[e,e2,Ag,ih,ba]
theorem iX(l:O WT):l.length<=bf l:=by
 induction l with
 |nil=>exact Am _
 |cons x l ih=>
  have e2:bf (x::l)=x.size+bf l:=rfl;have:=x.size_pos;rw[Ay,e2];lia
def qD(l m:O WT):bH (l++m)=bH l++bH m:=by simp[bH]
def lx(l m:O WT):bf (l++m)=bf l+bf m:=by simp[bf]
def JQ(u:WT):u.kids.length<=2:=by cases u<;>simp[kids]
def XM(u:WT):bz (.tup (bT u.path)::.str u.cQ::u.kids.map pv) (bn 2) cr=u.kids.map pv:=by
 have:=Tb (.tup (bT u.path)::.str u.cQ::u.kids.map pv) (a:=2) (by simp);rw[show((2:Nat):Int)=2 from rfl]at this;rw[this];rfl
end WT
def WT.zY(u:WT):gc u.pv=.ret (.int (u.at':Int)):=by
 obtain⟨p,e⟩:=u.zd;have k0:∀(x:PV) l,kZ (x::l) 0=bn x:=λ_ _=>gX rfl;rw[u.uC,e];unfold gc;simp only[lm,bg,KP,k0,W.uV,xT,Nv]
theorem qo(t:WT)(hz:t.size<=900):(dM t.pv).le (.ret (t.post.map WT.pv)):=λQ q=>by
 refine gs (λn s=>∃ts bs:O WT,n=WT.bf ts/\s=(bs.map WT.pv,ts.map WT.pv)/\WT.bH ts++bs.reverse=t.post) ⟨[t],[],rfl,rfl,by simp[WT.bH]⟩ ?_;rintro n s ⟨ts,bs,rfl,rfl,hp⟩;have hs:=congrArg Dl hp;rw[Ag,WT.Gr,Ct,t.ba]at hs;by_cases he:ts=[]
 .subst he;have î:bs.reverse=t.post:=hp;simp;rw[<- List.map_reverse,î];exact q
 .obtain⟨us,u,rfl⟩:=yT he;have LN:=WT.iX us;have hk:=u.JQ;have hsu:=u.Gd;have e0:WT.bf [u]=u.size:=by simp[WT.bf]
  rw[WT.lx,e0]at hs;have ea:k6 (bs.map WT.pv) u.pv=.ret (bs.map WT.pv++[u.pv]):=fW (by rw[Aq];lia);have ex:oT (us.map WT.pv) (u.kids.map WT.pv)=.ret (us.map WT.pv++u.kids.map WT.pv):=sw (a9 (by simp;lia));have ne:(us.map WT.pv++[u.pv]).isEmpty=false:=by simp
  simp only[lw,BL,Bq,Dt,ne,if_true,gl,KL,ea];rw[u.uC];simp only[eW,lm,jS,u.XM,bg,lw,ex];refine⟨_,?_,us++u.kids,bs++[u],rfl,?_,?_⟩
  .rw[WT.lx,WT.lx,e0];lia
  .rw[<- u.uC];simp
  .rw[<- hp,WT.qD,WT.qD,DQ];have e1:WT.bH [u]=WT.bH u.kids++[u]:=by rw[<- WT.wR];simp[WT.bH]
   rw[e1];simp
end My
variable{u:My.WT}{g:My.Tr}
namespace My
def mH(j:Nat):PV:=.tup [.str "house",.int (j:Int)]
def mT(j:Nat):PV:=.tup [.str "thing",.int (j:Int)]
def hN(g:Tr)(j:Nat):PV:=match en g 0 j with|.word _=>.az|.pair _ _=>mH j
def aN(g:Tr)(j:Nat):PV:=match rz g 0 j .az with|.int i=>hN g i.toNat|_=>.az
def zI(h:j<g.size):aJ (.tup ((g.nd 0).map Ent.pv)) (.int (j:Int))=.ret (hN g j):=by
 have i1:mQ ((g.nd 0).map Ent.pv) (.int (j:Int))=.ret (en g 0 j).pv:=bG (by rw[Ap,u0 g 0 j h];rfl);unfold aJ hN;cases he:en g 0 j<;>rw[he]at i1<;>simp[i1,Ent.pv,mH,PV.jB]
def Su:aJ x .az=.ret .az:=by
 unfold aJ;simp[PV.jB]
def Ke(h:j<g.size):aJ (.tup ((g.nd 0).map Ent.pv)) (vp (rz g 0 j .az))=.ret (aN g j):=by
 unfold aN;rcases yr g 0 j .az h with⟨_,e⟩|⟨a,u,v,_,ha,e,_⟩
 .rw[e];exact Su
 .rw[e,Cn];exact zI ha
def nW(k:Nat)(x:WT):PV:=if x.cQ="found" then .az else if x.cQ="split" then mH x.at' else mT k
def Uo(a b:Str):of2 gF (.str a) (.str b)=.ret (.bl (decide (a=b))):=by
 rw[oU,sw ⟨by simp,by simp,by simp⟩,Xm];by_cases c:a=b
 .subst c;simp
 .rw[decide_eq_false c,beq_eq_false_iff_ne.mpr c]
def JD(k:Nat)(x:WT):aX (.int (k:Int)) x.pv=.ret (nW k x):=by
 have k1:∀(a b:PV) l,kZ (a::b::l) 1=bn b:=λ_ _ _=>gX rfl;have d:=WT.zY x;unfold aX nW;rw[x.uC]at d ⊢;by_cases c:x.cQ="found"
 .simp[k1,c,Uo]
 .by_cases c2:x.cQ="split"
  .have n:¬(("split":Str)="found"):=by decide +kernel
   simp only[c2]at d ⊢;simp[k1,mH,d,Uo,n]
  .simp[k1,c,c2,mT,Uo]
def LM(g:Tr):O PV:=(Ax g.size).map λj=>.tup [aN g j,hN g j]
theorem G8(hz:g.size<=900):(dQ (.tup ((g.nd 0).map Ent.pv)) (.tup (OA g))).le (.ret (LM g)):=λQ q=>by
 unfold dQ;simp only[lm,gl,eX,cU,lw,ja,sw (eY (i:=0) (j:=g.size) ∅ ∅),qV];refine qK (λj=>.tup [aN g j,hN g j]) (λj hj=>?_) q;have hj:=Bl.mp hj;have i1:mQ (OA g) (.int (j:Int))=.ret (vp (rz g 0 j .az)):=bG (FU g hj);simp only[lm,bg,i1,Ke hj,zI hj]
def jg(u:WT)(k:Nat):WT:=(u.post[k]?).getD u
def Qb(h:k<u.size):u.post[k]?=bn (jg u k):=by
 unfold jg;rw[<- u.ba]at h;rw[Ai h];rfl
def xE:Ent->O Nat
 |.word _=>[]
 |.pair a b=>[a,b]
def WI(e:Ent):gb e.pv=.ret (.tup (bT (xE e))):=by
 unfold gb;cases e with
 |word w=>simp[Ent.pv,xE]
 |pair a b=>simp[Ent.pv,xE]
def Mc(t:Tr)(u:WT)(k:Nat):O PV:=(xE (en t 0 k)).map λh=>.tup [nW k (jg u k),nW h (jg u h)]
def Mb(t:Tr)(u:WT):O PV:=(Ax t.size).flatMap (Mc t u)
theorem Pq{c:Nat}(h:k<t.size)(hc:c∈xE (en t 0 k)):c<k:=by
 have É:∀(t:Tr) (o k:Nat),k<t.size->∀c∈xE (en t o k),c<o+k:=by
  intro t
  induction t with
  |leaf w=>intro o k h c hc;rw[en]at hc;cases hc
  |node l r il ir=>
   intro o k h c hc;have es:(Tr.node l r).size=l.size+r.size+1:=rfl;have hl:0<l.size:=by cases l<;>(show 0<_+1)<;>lia
   have hr:0<r.size:=by cases r<;>(show 0<_+1)<;>lia
   rw[en]at hc
   split at hc
   .exact il o k ‹_› c hc
   .split at hc
    .have:=ir (o+l.size) (k-l.size) ∅ c hc;lia
    .simp[xE]at hc;lia
 have:=É t 0 k h c hc;lia
theorem F6(hz:t.size<=400)(hu:u.size=t.size):(dN t.pv (.cl (u.post.map WT.pv))).le (.ret (Mb t u)):=λQ q=>by
 unfold dN;have c:((t.nd 0).map Ent.pv).length<=sizeLine:=a9 (by rw[cU];lia);simp only[lm,gl];refine W.le.use (ko t ∅) ?_;simp only[bg,lw,sw c];refine gR (λi s=>s=(Ax i).flatMap (Mc t u)) rfl (λi x s hx hs=>?_) (λs hs=>?_)
 .subst hs;have hi:i<t.size:=by have:=(Aj.mp hx).1;rw[bM,cU]at this;exact this
  obtain⟨y,hy,rfl⟩:=e6 hx;have e:=u0 t 0 i hi;rw[Ap,e]at hy;have hy:=Option.some.inj hy;subst hy;have À:((Ax i).flatMap (Mc t u)).length<=2*i:=by
   have É:∀i,((Ax i).flatMap (Mc t u)).length<=2*i:=λi=>by
    induction i with
    |zero=>simp
    |succ i ih=>
     rw[CI,C7,Ag,CH];have h3:(Mc t u i).length<=2:=by unfold Mc xE;cases en t 0 i<;>simp
     lia
   exact É i
  have h2:(xE (en t 0 i)).length<=2:=by unfold xE;cases en t 0 i<;>simp
  have ix:∀k,k<t.size->mQ (u.post.map WT.pv) (.int (k:Int))=.ret (jg u k).pv:=λk hk=>bG (by rw[Ap,Qb ∅];rfl);simp only[pq,lm,gl,WI,bg,lw];refine gR (λn s=>s=(Ax i).flatMap (Mc t u)++((xE (en t 0 i)).take n).map λh=>.tup [nW i (jg u i),nW h (jg u h)]) (by simp) (λn y s hy hs=>?_) (λs hs=>?_)
  .subst hs;obtain⟨c',hc,rfl⟩:∃c',(xE (en t 0 i))[n]?=bn c'/\y=.int ((c':Nat):Int):=by
    unfold bT at hy;rw[Ap]at hy;cases z:(xE (en t 0 i))[n]? with
    |none=>rw[z]at hy;cases hy
    |some c'=>rw[z]at hy;exact⟨c',rfl,(Option.some.inj hy).symm⟩
   have hn:n<2:=by have:=(Aj.mp hc).1;lia
   have SJ:=Pq hi (Ao hc);simp only[lm,gl,cO,Cn,ix i hi,ix c' ∅,JD,lw];rw[fW (by rw[Ag,Aq,Bb];lia)];simp only[lw];rw[Fc,hc];simp
  .subst hs;rw[u4,EA];rw[CI,C7,CH];rfl
 .subst hs;rw[bM,cU];exact q
def xH(x:WT):Nat:=x.path.headD 0
def MX(x:WT):∃r,x.path=xH x::r:=by
 obtain⟨p,e⟩:=x.zd;unfold xH;rw[e];cases p with
 |nil=>exact⟨[],rfl⟩
 |cons a p=>exact⟨p++[x.at'],rfl⟩
def yd(x:WT):gL x.pv=.ret (.int (xH x:Int)):=by
 obtain⟨r,e⟩:=MX x;have k0:∀(a:PV) l,kZ (a::l) 0=bn a:=λ_ _=>gX rfl;rw[x.uC,e];unfold gL;simp[k0]
def gtN(x:WT):Nat:=match x with
 |.lf _ i=>i
 |.nd _ i _ a b=>if xH a=i then xH b else xH a
def eH(x:WT):O Nat:=if x.cQ="over" then [x.at',gtN x] else [x.at']
def J4(p:O Nat)(i:Nat)(nm:Str)(a b:WT):ku (WT.nd p i nm a b).pv=.ret (.tup [.int (xH a:Int),.int (xH b:Int)]):=by
 unfold ku;have e:bz [PV.tup (bT (p++[i])),.str nm,a.pv,b.pv] (bn 2) cr=[a.pv,b.pv]:=WT.XM (.nd p i nm a b);rw[WT.pv];generalize PV.tup (bT (p++[i]))=TN at e ⊢;simp only[lm,eW,mJ,e,bg,bU,yd,nH]
theorem NW(p:O Nat)(i:Nat)(nm:Str)(a b:WT):dP (WT.nd p i nm a b).pv=.ret (bT (eH (.nd p i nm a b))):=by
 have d:=WT.zY (.nd p i nm a b);have q:=J4 p i nm a b;have k1:∀(a b:PV) l,kZ (a::b::l) 1=bn b:=λ_ _ _=>gX rfl;have k0:∀(a:PV) l,kZ (a::l) 0=bn a:=λ_ _=>gX rfl;unfold dP lH eH;rw[WT.pv]at d q ⊢;simp only[WT.cQ,WT.at',gtN]at d ⊢;generalize PV.tup (bT (p++[i]))=TN at d q ⊢;by_cases c:nm="over"
 .subst c;by_cases c2:xH a=i
  .simp[d,q,k1,k0,Uo,c2,bT]
  .have:¬((xH a:Int)=(i:Int)):=by lia
   simp[d,q,k1,k0,Uo,c2,bT,this]
 .simp[d,k1,Uo,c,bT]
def stK(g:Tr)(k:Nat)(x:WT):O PV:=if x.cQ="found"\/x.cQ="split" then [] else (eH x).flatMap λh=>[.tup [aN g h,mT k],.tup [mT k,hN g h]]
theorem ID{x:WT}(hz:g.size<=900)(hx:x.cQ="found"\/x.cQ="split"\/∃p i nm a b,x=.nd p i nm a b)(hh:x.cQ="found"\/x.cQ="split"\/∀h∈eH x,h < g.size):(eR (.tup ((g.nd 0).map Ent.pv)) (.tup (OA g)) (.int (k:Int)) x.pv).le (.ret (stK g k x)):=λQ q=>by
 unfold eR;have own:of2 gF (nW k x) (.tup [.str "thing",.int (k:Int)])=.ret (.bl (!decide (x.cQ="found"\/x.cQ="split"))):=by
  have ht:(("house":Str)=="thing")=false:=by decide +kernel
  have n1:¬(("found":Str)="split"):=by decide +kernel
  have n2:¬(("split":Str)="found"):=by decide +kernel
  by_cases c:x.cQ="found"
  .have e:nW k x=.az:=by unfold nW;rw[if_pos c]
   rw[e,oU,sw ⟨rfl,rfl,A7 _⟩,decide_eq_true (Ca c)];rfl
  .by_cases c2:x.cQ="split"
   .have e:nW k x=mH x.at':=by unfold nW;rw[if_neg c,if_pos c2]
    rw[e,oU,sw ⟨rfl,rfl,by simp[mH,PV.bb,aK]⟩,decide_eq_true (B3 c2)];have:ez (mH x.at') (.tup [.str "thing",.int (k:Int)])=false:=by simp only[mH,ez,cJ,ht,Dv]
    rw[this];rfl
   .have e:nW k x=mT k:=by unfold nW;rw[if_neg c,if_neg c2]
    rw[e,oU,sw ⟨rfl,rfl,by simp[mT,PV.bb,aK]⟩,decide_eq_false (λh=>h.elim c c2)];have:ez (mT k) (.tup [.str "thing",.int (k:Int)])=true:=by simp[mT,ez,cJ]
    rw[this];rfl
 simp only[lm,gl,JD,lw];by_cases c:x.cQ="found"\/x.cQ="split"
 .rw[decide_eq_true c]at own;unfold stK at q;rw[if_pos c]at q;simp[own];exact q
 .rw[decide_eq_false c]at own;obtain⟨p,i,nm,a,b,rfl⟩:=(hx.resolve_left λh=>c (.inl h)).resolve_left λh=>c (.inr h);have hh:=(hh.resolve_left λh=>c (.inl h)).resolve_left λh=>c (.inr h);have hl:(eH (.nd p i nm a b)).length<=2:=by unfold eH;split<;>simp
  have en:nW k (.nd p i nm a b)=mT k:=by
   unfold nW;rw[if_neg (λh=>c (.inl h)),if_neg (λh=>c (.inr h))]
  rw[en]at own ⊢;simp only[own,lm,CA,gl,lw,P9,if_true,NW];refine gR (λn s=>s=((eH (.nd p i nm a b)).take n).flatMap λh=>[.tup [aN g h,mT k],.tup [mT k,hN g h]]) (by simp) (λn y s hy hs=>?_) (λs hs=>?_)
  .subst hs;obtain⟨h,hc,rfl⟩:∃h,(eH (.nd p i nm a b))[n]?=bn h/\y=.int ((h:Nat):Int):=by
    unfold bT at hy;rw[Ap]at hy;cases z:(eH (.nd p i nm a b))[n]? with
    |none=>rw[z]at hy;cases hy
    |some c'=>rw[z]at hy;exact⟨c',rfl,(Option.some.inj hy).symm⟩
   have hn:n<2:=by have:=(Aj.mp hc).1;lia
   have hg:=hh h (Ao hc);have i1:mQ (OA g) (.int (h:Int))=.ret (vp (rz g 0 h .az)):=bG (FU g hg);have À:(((eH (.nd p i nm a b)).take n).flatMap λh=>[PV.tup [aN g h,mT k],.tup [mT k,hN g h]]).length<=4:=by
    have:∀l:O Nat,(l.flatMap λh=>[PV.tup [aN g h,mT k],.tup [mT k,hN g h]]).length=2*l.length:=λl=>by
     induction l with
     |nil=>rfl
     |cons z l ih=>rw[Cp,Ag,ih];simp;lia
    rw[this,Bb];lia
   simp only[lm,gl,bg,i1,Ke hg,zI hg,lw];rw[fW ∅];simp only[lw];rw[fW (by rw[Ag];simp only[Ay,DL];lia)];simp only[lw];rw[Fc,hc];simp
  .subst hs;rw[u4,EA];unfold stK at q;rw[if_neg c]at q;exact q
def Ig(x:PV):Prop:=x=.az\/ax x=true
def zM(g:Tr)(j:Nat):Ig (hN g j):=by unfold hN;cases en g 0 j<;>first|exact .inl rfl|exact .inr rfl
def Qa(g:Tr)(j:Nat):Ig (aN g j):=by unfold aN;cases rz g 0 j .az<;>first|exact .inl rfl|exact zM _ _
def JH(k:Nat)(x:WT):Ig (nW k x):=by unfold nW;split<;>first|exact .inl rfl|(split<;>exact .inr rfl)
def MP(x:PV):Prop:=∃a b,x=.tup [a,b]/\Ig a/\Ig b
def stQ(g:Tr)(u:WT):O PV:=(Ax u.size).flatMap λk=>stK g k (jg u k)
def LL(g t:Tr)(u:WT):O PV:=LM g++Mb t u++stQ g u
def X8:∀x∈LL g t u,MP x:=λx hx=>by
 unfold LL at hx;rcases AD.mp hx with hx|hx
 .rcases AD.mp hx with hx|hx
  .obtain⟨j,_,rfl⟩:=Bf.mp hx;exact⟨_,_,rfl,Qa _ _,zM _ _⟩
  .obtain⟨k,_,hx⟩:=BQ.mp hx;obtain⟨h,_,rfl⟩:=Bf.mp hx;exact⟨_,_,rfl,JH _ _,JH _ _⟩
 .obtain⟨k,_,hx⟩:=BQ.mp hx;unfold stK at hx
  split at hx
  .cases hx
  .obtain⟨h,_,hx⟩:=BQ.mp hx;simp only[Aw,Bk,or_false]at hx;rcases hx with rfl|rfl
   .exact⟨_,_,rfl,Qa _ _,.inr rfl⟩
   .exact⟨_,_,rfl,.inr rfl,zM _ _⟩
def wO{a b:PV}(ha:Ig a)(hb:Ig b):aV (.tup [a,b])=(ax a&&ax b):=by
 rcases ha with rfl|ha
 .rfl
 .rcases hb with rfl|hb
  .obtain⟨_,_,rfl⟩:=a7 ha;rfl
  .obtain⟨_,_,rfl⟩:=a7 ha;obtain⟨_,_,rfl⟩:=a7 hb;rfl
def gH(h:Ig x):PV.de x=true/\PV.bb x<=1:=by
 rcases h with rfl|h
 .exact⟨rfl,A7 _⟩
 .obtain⟨_,_,rfl⟩:=a7 h;exact⟨rfl,by simp[PV.bb,aK]⟩
theorem Jz(h:MP x):(G3 true (ci .az) (ca (ci x) aF))=.ret (aV x):=by
 obtain⟨a,b,rfl,ha,hb⟩:=h;have h1:xC .az [a,b]:=⟨rfl,by simp[cB,(gH ha).1,(gH hb).1],by have:=(gH ha).2;have:=(gH hb).2;simp only[aK];lia⟩;have É:∀{z:PV},Ig z->ez z .az=!ax z:=λ{z} h=>by
  rcases h with rfl|h
  .rfl
  .rw[h];obtain⟨_,_,rfl⟩:=a7 h;rfl
 show(.az\λx=>ca (ca (ci (PV.tup [a,b])) aF) λl=>gj true x l)=_;simp only[lm,bg];unfold gj;rw[sw h1,wO ha hb];unfold jP;simp only[CP,List.any_nil,É ha,É hb,Fo,if_true];cases ax a<;>cases ax b<;>rfl
theorem lQ{Q:PV->Prop}(hg:g.size<=100)(ht:t.size<=100)(hu:u.size=t.size)(hx:∀k,k < u.size->(jg u k).cQ="found"\/(jg u k).cQ="split"\/∃p i nm a b,jg u k=.nd p i nm a b)(hh:∀k,k < u.size->(jg u k).cQ="found"\/(jg u k).cQ="split"\/∀h∈eH (jg u k),h < g.size)(hl:((LL g t u).filter aV).length < 64)(q:∀m,SetOf ((LL g t u).filter aV) m->Q (.tup m)):(kr g.pv t.pv u.pv).run Q:=by
 have n1:(LM g).length<=100:=by unfold LM;simp;lia
 have two:∀(n:Nat) (f:Nat->O PV) (c:Nat),(∀k,(f k).length<=c)->((Ax n).flatMap f).length<=c*n:=λn f c h=>by
  induction n with
  |zero=>simp
  |succ n ih=>
   rw[CI,C7,Ag,CH,Nat.mul_succ];have:=h n;lia
 have n2:(Mb t u).length<=2*t.size:=two _ _ 2 λk=>by unfold Mc xE;cases en t 0 k<;>simp
 have st4:∀k,(stK g k (jg u k)).length<=4:=λk=>by
  unfold stK
  split
  .simp
  .have:∀l:O Nat,(l.flatMap λh=>[PV.tup [aN g h,mT k],.tup [mT k,hN g h]]).length=2*l.length:=λl=>by
    induction l with
    |nil=>rfl
    |cons z l ih=>rw[Cp,Ag,ih];simp only[Ay,DL];lia
   rw[this];have:(eH (jg u k)).length<=2:=by unfold eH;split<;>simp
   lia
 have n3:∀n,((Ax n).flatMap λk=>stK g k (jg u k)).length<=4*n:=λn=>two _ _ 4 st4;unfold kr;simp only[lm,gl];refine W.le.use (ko g ∅) ?_;refine W.le.use (Lj g ∅) ?_;refine W.le.use (qo u ∅) ?_;refine W.le.use (G8 ∅) ?_;refine W.le.use (F6 ∅ hu) ?_;have Ý:qc (LM g) (Mb t u)=.ret (LM g++Mb t u):=sw (a9 ∅);have ce:(u.post.map WT.pv).length<=sizeLine:=a9 (by rw[Aq,u.ba];lia);simp only[Ý,lw,cO,sw ce];refine gR (λi s=>s=LM g++Mb t u++(Ax i).flatMap λk=>stK g k (jg u k)) (by simp) (λi x s hi hs=>?_) (λs hs=>?_)
 .subst hs;have hk:i<u.size:=by have:=(Aj.mp hi).1;rw[bM,Aq,u.ba]at this;exact this
  obtain⟨y,hy,rfl⟩:=e6 hi;rw[Ap,Qb hk]at hy;have hy:=Option.some.inj hy;subst hy;simp only[pq,lm,gl,lw,Cn];refine W.le.use (ID ∅ (hx i hk) (hh i hk)) ?_;have ext:oT (LM g++Mb t u++(Ax i).flatMap λk=>stK g k (jg u k)) (stK g i (jg u i))=.ret (LM g++Mb t u++((Ax i).flatMap λk=>stK g k (jg u k))++stK g i (jg u i)):=sw (a9 (by
   have:=n3 i;have:=st4 i;rw[Ag,Ag];lia))
  rw[ext];simp only[lw];rw[CI,C7,CH,A2]
 .subst hs;rw[bM,Aq,u.ba];refine zC (λx=>if aV x=true then bn x else cr) (λx hx=>?_) ?_
  .have e:=Jz (X8 x hx);simp only[lm]at e;rw[e];show ca (ci (aV x)) _=_;rw[lm];cases aV x<;>rfl
  .have e:(LL g t u).filterMap (λx=>if aV x=true then bn x else cr)=(LL g t u).filter aV:=by
    generalize LL g t u=l
    induction l with
    |nil=>rfl
    |cons a l ih=>
     rw[Bh,Cz,ih];cases aV a<;>rfl
   show(kh ((LL g t u).filterMap _)).run _;rw[e];refine⟨⟨hl,?_⟩,λm hm=>?_⟩
   .unfold u9;rw[show((LL g t u).filter aV).all aV=true from AG.mpr λx hx=>(AX.mp hx).2,Bool.or_true]
   .exact q m hm
end My
variable{L:O PL.PV}
namespace My
open Classical in
def i7{a b:PV}(ha:ax a=true)(hb:ax b=true):ez a b=decide (a=b):=by
 obtain⟨x,i,rfl⟩:=a7 ha;obtain⟨y,j,rfl⟩:=a7 hb;simp only[ez,cJ,Eu];by_cases c:x=y
 .by_cases d:i=j
  .subst c d;simp
  .simp[c,d]
 .have:(x==y)=false:=beq_eq_false_iff_ne.mpr c;rw[this,Dv,decide_eq_false];intro e;injection e with e;injection e with e _;injection e with e;exact c e
theorem Pe(hx:PV.de x=true)(hl:∀y∈l,ax y=true):xC x l:=
 ⟨hx,d8.mpr λy hy=>(gH (.inr (hl y hy))).1,kJ λy hy=>AI (gH (.inr (hl y hy))).2 ∅⟩
open Classical in
def zK{x:PV}{l:O PV}(hx:ax x=true)(hl:∀y∈l,ax y=true):jP x l=decide (x∈l):=by
 unfold jP
 induction l with
 |nil=>simp
 |cons y l ih=>
  rw[CP,ih λz hz=>hl z (.tail _ hz),i7 (hl y (.head _)) hx];by_cases c:y=x
  .subst c;simp
  .have:x≠y:=λe=>c e.symm;simp[c,this]
open Classical in
def xB{x:PV}{l:O PV}(Î:Bool)(hx:ax x=true)(hl:∀y∈l,ax y=true):gj Î x l=.ret (if Î then !decide (x∈l) else decide (x∈l)):=by
 unfold gj;rw[sw (Pe (gH (.inr hx)).1 hl),zK hx hl]
open Classical in
noncomputable def Zz(x:PV)(L:O PV):PV->Option PV
 |.tup [a,b]=>if a=x/\b∈L then bn b else cr
 |_=>cr
noncomputable def jo(m:O PV)(x:PV)(L:O PV):O PV:=m.filterMap (Zz x L)
def Lf:y∈jo m x L↔.tup [x,y]∈m/\y∈L:=by
 unfold jo;rw[Di]
 constructor
 .rintro⟨p,hp,e⟩;unfold Zz at e
  split at e
  .split at e
   .rename_i c;obtain⟨rfl,c2⟩:=c;cases e;exact⟨hp,c2⟩
   .cases e
  .cases e
 .rintro⟨h1,h2⟩;exact⟨_,h1,by simp[Zz,h2]⟩
def P8(hm:∀p∈m,aV p=true)(hx:ax x=true)(hL:∀y∈L,ax y=true)(vl:PV)(hv:aF vl=.ret L):da (.tup m) x vl=.ret (jo m x L):=by
 unfold da;simp only[lm,bg];refine oA λp hp=>?_;obtain⟨a,i,b,j,rfl⟩:=eZ (hm p hp);have ha:ax (.tup [.str a,.int i])=true:=rfl;have hb:ax (.tup [.str b,.int j])=true:=rfl;have e1:of2 gF (.tup [.str a,.int i]) x=.ret (.bl (ez (.tup [.str a,.int i]) x)):=by
  rw[oU,sw ⟨rfl,(gH (.inr hx)).1,by simp[PV.bb,aK]⟩]
 simp only[pq,lm,e1,hv,xB false hb hL,i7 ha hx,Zz];by_cases c1:PV.tup [.str a,.int i]=x
 .by_cases c2:PV.tup [.str b,.int j]∈L
  .simp[c1,c2,ud,Md,P9]
  .simp[c1,c2,ud,Md,P9]
 .simp[c1,ud,Md,P9]
theorem i5{p:PV->Bool}:∀l:O PV,l.filterMap (λx=>if p x=true then bn x else cr)=l.filter p
 |[]=>rfl
 |a::l=>by
  rw[Bh,Cz,i5 l];cases p a<;>rfl
theorem oQ(p:PV->Bool):∀l:O PV,(l.filter p).length+(l.filter λx=>!p x).length=l.length
 |[]=>rfl
 |a::l=>by
  have:=oQ p l;rw[Cz,Cz];cases p a<;>simp<;>lia
open Classical in
theorem wW{m M C:O PV}{N:Nat}{Q:PV->Prop}(hN:N<=500)(hm:∀p∈m,aV p=true)(hM:∀y∈M,ax y=true)(hl:M.length<=N)(hC:∀c∈C,c∈M/\∃d∈C,PV.tup [c,d]∈m)(q:∀Ó L,(∀y∈L,ax y=true)->L.length<=N->(∀c∈C,c∈L)->(∀x∈L,jo m x L≠[])->Q (.tup [.cl Ó,.cl L])):(kq (.tup m) (.cl M)).run Q:=by
 unfold kq;simp only[lm,gl,cO,lw];refine gs (λn s=>∃Ó L Fr,s=(Ó,.cl L,.cl Fr)/\n=L.length+(if Fr=[] then 0 else 1)/\(∀y∈L,ax y=true)/\Ó.length+L.length<=N/\(∀c∈C,c∈L)/\(Fr=[]->∀x∈L,jo m x L≠[])) ⟨[],M,M,rfl,rfl,hM,by simpa using hl,λc hc=>(hC c hc).1,λe x hx=>by rw[e]at hx;cases hx⟩ ?_;rintro n s ⟨Ó,L,Fr,rfl,rfl,h1,h2,h3,h4⟩;by_cases he:Fr=[]
 .subst he;simp[fk];exact q Ó L h1 ∅ h3 (h4 rfl)
 .have hb:∀x∈L,da (.tup m) x (.cl L)=.ret (jo m x L):=λx hx=>P8 hm (h1 x hx) h1 _ rfl;have e1:kc L (λp7=>ud (F5 (ca (mS (da (.tup m) p7 (.cl L))) fk)) (ci p7))=.ret (L.filter λx=>(jo m x L).isEmpty):=by
   rw[oA (g:=λx=>if (jo m x L).isEmpty=true then bn x else cr) λx hx=>?_,i5];rw[hb x hx];unfold mS;simp only[lm,fk,ud,F5];cases (jo m x L).isEmpty<;>rfl
  have hF:∀y∈L.filter (λx=>(jo m x L).isEmpty),ax y=true:=λy hy=>h1 y (AX.mp hy).1;have e2:kc L (λLH=>ud (gj true LH (L.filter λx=>(jo m x L).isEmpty)) (ci LH))=.ret (L.filter λx=>!(jo m x L).isEmpty):=by
   rw[oA (g:=λx=>if (!(jo m x L).isEmpty)=true then bn x else cr) λx hx=>?_,i5];rw[xB true (h1 x hx) hF];have:(decide (x∈L.filter λx=>(jo m x L).isEmpty))=(jo m x L).isEmpty:=by
    cases c:(jo m x L).isEmpty with
    |true=>exact decide_eq_true (AX.mpr ⟨hx,c⟩)
    |false=>exact decide_eq_false λh=>by have:=(AX.mp h).2;rw[c]at this;cases this
   simp only[this,ud,lm,if_true];cases (jo m x L).isEmpty<;>rfl
  have fl:=oQ (λx=>(jo m x L).isEmpty) L;have ext:oT Ó (L.filter λx=>(jo m x L).isEmpty)=.ret (Ó++L.filter λx=>(jo m x L).isEmpty):=sw (a9 ∅);have tr:(L.length+if Fr=[] then 0 else 1)=L.length+1:=by rw[if_neg he]
  have uf:Fr.isEmpty=false:=by cases Fr<;>simp at he ⊢
  rw[tr];simp only[fk,lw,uf,CA,if_true,lm,cO,e1,gl,ext];show(kc L λLH=>ud (gj true LH (L.filter λx=>(jo m x L).isEmpty)) (ci LH)).run _;rw[e2,lw];refine⟨_,?_,Ó++L.filter (λx=>(jo m x L).isEmpty),L.filter λx=>!(jo m x L).isEmpty,L.filter λx=>(jo m x L).isEmpty,rfl,rfl,λy hy=>h1 y (AX.mp hy).1,by rw[Ag];lia,λc hc=>?_,λe x hx=>?_⟩
  .split
   .omega
   .rename_i hn;have:=DR.mpr hn;lia
  .obtain⟨_,d,hd,iC⟩:=hC c hc;have:d∈jo m c L:=Lf.mpr ⟨iC,h3 d hd⟩;refine AX.mpr ⟨h3 c hc,?_⟩;cases z:jo m c L with
   |nil=>rw[z]at this;cases this
   |cons=>rfl
  .have el:L.filter (λx=>!(jo m x L).isEmpty)=L:=by
    rw[List.filter_eq_self];intro y hy;cases c:(jo m y L).isEmpty with
    |false=>rfl
    |true=>
     have:y∈L.filter (λx=>(jo m x L).isEmpty):=AX.mpr ⟨hy,c⟩;rw[e]at this;cases this
   rw[el]at hx ⊢;intro z;have:x∈L.filter (λx=>(jo m x L).isEmpty):=AX.mpr ⟨hx,by rw[z];rfl⟩;rw[e]at this;cases this
structure Ring(m r:List PV):Prop where
 ne:r≠[]
 nd:r.Nodup
 mo:∀x∈r,ax x=true
 ln:∀i x,r[i]?=bn x->∃y,(r[i+1]?).or r[0]?=bn y/\PV.tup [x,y]∈m
theorem md(h:a<=l.length):bz l (bn (a:Int)) cr=l.drop a:=by
 unfold bz;rw[HT.kj,HT.m5,DK h,Dq (by rw[Br];lia)]
open Classical in
theorem IU{m L:O PV}{Q:PV->Prop}(hm:∀p∈m,aV p=true)(hL:∀y∈L,ax y=true)(hl:L.length<=500)(uf:L≠[])(hb:∀x∈L,jo m x L≠[])(q:∀r,Ring m r->r.length<=500->(∀x∈r,x∈L)->Q (.tup r)):(iU (.tup m) (.cl L)).run Q:=by
 obtain⟨x0,WG⟩:∃x,L[0]?=bn x:=by cases L with|nil=>exact absurd rfl uf|cons a l=>exact⟨a,rfl⟩
 have m0:=Ao WG;have ix0:mQ L (.int 0)=.ret x0:=bG (k:=0) WG;have bx:∀x∈L,∃b y,da (.tup m) x (.cl L)=.ret b/\mQ b (.int 0)=.ret y/\PV.tup [x,y]∈m/\y∈L:=λx hx=>by
  rw[P8 hm (hL x hx) hL _ rfl];cases c:jo m x L with
  |nil=>exact absurd c (hb x hx)
  |cons y l=>
   have:y∈jo m x L:=by rw[c];exact .head _
   exact⟨_,y,rfl,bG (k:=0) rfl,Lf.mp this⟩
 unfold iU;obtain⟨_,y0,b0,b0',l0,n0⟩:=bx x0 m0;simp only[lm,cO,ix0,b0,b0',gl,lw];refine gs (λn s=>∃T on,s=(T,on)/\n=L.length-T.length/\T.Nodup/\T≠[]/\(∀x∈T,x∈L)/\on∈L/\∀i x,T[i]?=bn x->∃y,(T[i+1]?).or (bn on)=bn y/\PV.tup [x,y]∈m) ⟨[x0],y0,rfl,rfl,by simp,by simp,by simpa using m0,n0,λi x hi=>?_⟩ ?_
 .cases i with
  |zero=>cases hi;exact⟨y0,rfl,l0⟩
  |succ i=>cases hi
 .rintro n s ⟨T,on,rfl,rfl,hn,ht,hs,ho,hk⟩;have hT:∀y∈T,ax y=true:=λy hy=>hL y (hs y hy);have mo:=hL on ho;have e1:G3 true (ci on) (ci T)=.ret (!decide (on∈T)):=by
   show(on\λx=>T\λl=>gj true x l)=_;simp only[lm,xB true mo hT,if_true]
  have tl:=len_sub hn hs;have e1:gj true on T=.ret (!decide (on∈T)):=e1;show W.run (gj true on T) _;rw[e1,lw];by_cases c:on∈T
  .rw[decide_eq_true c];have io:xC on T:=Pe (gH (.inr mo)).1 hT;have hF:jP on T=true:=by rw[zK mo hT,decide_eq_true c]
   have ki:kE on T<T.length:=List.findIdx_lt_length.mpr (by obtain⟨z,h1,h2⟩:=List.any_eq_true.mp hF;exact⟨z,h1,h2⟩);have kv:T[kE on T]?=bn on:=by
    rw[Ai ki];have h2:ez (T[kE on T]) on=true:=Fd (w:=ki) (p:=λy=>ez y on);rw[i7 (hT _ (EC ki)) mo]at h2;rw[of_decide_eq_true h2]
   have iw:NS T on=.ret (.int (kE on T)):=sw ⟨io,hF⟩;have e0:kE on T<=T.length:=by lia
   simp only[BJ,An,if_false,iw,lm,eW,md e0,nH,lw];generalize kE on T=k at ki kv;have hd:∀i,(T.drop k)[i]?=T[k+i]?:=λi=>Ee;have fin:Ring m (T.drop k):=⟨λe=>by have:=congrArg Dl e;simp at this;lia,hn.sublist (List.drop_sublist k T),λx hx=>hT x (Co hx),λi x hi=>by
    rw[hd]at hi;obtain⟨y,h1,h2⟩:=hk _ x hi;refine⟨y,?_,h2⟩;rw[hd,hd,show T[k+0]?=bn on from kv];exact h1⟩
   exact q _ fin (by rw[Br];lia) λx hx=>hs x (Co hx)
  .rw[decide_eq_false c];obtain⟨_,y,by1,by2,l1,n1⟩:=bx on ho;have T5:∀x∈T++[on],x∈L:=λx hx=>by
    rcases AD.mp hx with h|h
    .exact hs x h
    .rw[Au.mp h];exact ho
   have YU:(T++[on]).Nodup:=by
    rw[En];exact⟨hn,by simp,λa ha b hb e=>by rw[Au]at hb;subst hb e;exact c ha⟩
   have tl':=len_sub YU T5;rw[Ag,BN]at tl';simp only[CA,if_true,lm,fW (show T.length<1000 by lia),by1,by2,lw];refine⟨_,?_,T++[on],y,rfl,rfl,YU,by simp,T5,n1,λi x hi=>?_⟩
   .rw[Ag,BN];lia
   .rw[Bw]at hi;by_cases d:i<T.length
    .rw[if_pos d]at hi;obtain⟨z,h1,h2⟩:=hk i x hi;refine⟨z,?_,h2⟩;rw[Bw];by_cases d2:i+1<T.length
     .rw[if_pos d2];rw[Ai d2]at h1 ⊢;exact h1
     .have:i+1=T.length:=by lia
      rw[if_neg d2,this,Nat.sub_self];rw[this,AW ∅]at h1;exact h1
    .rw[if_neg d]at hi;cases z:i-T.length with
     |zero=>
      rw[z]at hi;cases hi;refine⟨y,?_,l1⟩;rw[AW (by rw[Ag,BN];lia)];rfl
     |succ=>rw[z]at hi;cases hi
def ql(g:Tr)(u:WT):O PV:=(Ax g.size).map (hN g)++(Ax u.size).map λk=>nW k (jg u k)
def X6:∀x∈ql g u,Ig x:=λx hx=>by
 rcases AD.mp hx with hx|hx
 .obtain⟨j,_,rfl⟩:=Bf.mp hx;exact zM _ _
 .obtain⟨j,_,rfl⟩:=Bf.mp hx;exact JH _ _
def RN(h:Ig x):(!x.jB)=ax x:=by
 rcases h with rfl|h
 .rfl
 .rw[h];obtain⟨_,_,rfl⟩:=a7 h;rfl
theorem u7(hg:g.size<=100)(hu:u.size<=100)(hl:((ql g u).filter ax).length<64)(q:∀m,SetOf ((ql g u).filter ax) m->Q m):(eT g.pv u.pv).run Q:=by
 unfold eT;simp only[lm,gl];refine W.le.use (ko g ∅) ?_;simp only[eX,cU,lw,ja,sw (eY (i:=0) (j:=g.size) ∅ ∅),qV];refine qK (hN g) (λj hj=>zI (Bl.mp hj)) ?_;refine W.le.use (qo u ∅) ?_;have ce:(u.post.map WT.pv).length<=sizeLine:=a9 (by rw[Aq,u.ba];lia);simp only[lw,sw ce];have e1:bU (fj 0 (u.post.map WT.pv)) (λMY=>ca (pq MY) λHW=>aX HW.1 HW.2)=.ret ((Ax u.size).map λk=>nW k (jg u k)):=by
  have É:∀(l:O WT) (i:Nat),bU (fj i (l.map WT.pv)) (λMY=>ca (pq MY) λHW=>aX HW.1 HW.2)=.ret ((Ax l.length).map λk=>nW (i+k) ((l[k]?).getD u)):=λl=>by
   induction l with
   |nil=>intro i;rfl
   |cons x l ih=>
    intro i;have ih:=ih (i+1);show ca (ca (pq (.tup [.int i,x.pv])) λHW=>aX HW.1 HW.2) (λy=>ca (bU (fj (i+1) (l.map WT.pv)) _) λl=>ci (y::l))=_;rw[ih];simp only[pq,lm,JD,Ay,Ds,Bq,BV];congr 2;refine B2 λk _=>?_;show nW (i+1+k) _=nW (i+(k+1)) _;rw[show i+1+k=i+(k+1) by lia];rfl
  have:=É u.post 0;rw[u.ba]at this;simp only[Cn]at this;exact this
 rw[e1];have ext:oT ((Ax g.size).map (hN g)) ((Ax u.size).map λk=>nW k (jg u k))=.ret (ql g u):=sw (a9 (by simp;lia));simp only[lw,B1,ext,cO,N4];refine zC (λx=>if ax x=true then bn x else cr) (λx hx=>?_) ?_
 .rw[lm,<- RN (X6 x hx)];cases x.jB<;>rfl
 .rw[i5];refine⟨⟨hl,?_⟩,λm hm=>q m hm⟩;unfold u9;rw[AG.mpr λx hx=>(AX.mp hx).2];rfl
structure KW(g t:Tr)(u:WT)(C:List PV):Prop where
 hg:g.size<=100
 ht:t.size<=100
 hu:u.size=t.size
 hx:∀k,k < u.size->(jg u k).cQ="found"\/(jg u k).cQ="split"\/∃p i nm a b,jg u k=.nd p i nm a b
 hh:∀k,k < u.size->(jg u k).cQ="found"\/(jg u k).cQ="split"\/∀h∈eH (jg u k),h < g.size
 hl:((LL g t u).filter aV).length<64
 hm:((ql g u).filter ax).length<64
 cn:C≠[]
 cc:∀c∈C,c∈(ql g u).filter ax/\∃d∈C,PV.tup [c,d]∈(LL g t u).filter aV
def Ring.mono{r:O PV}(h:Ring m r)(s:∀x,x∈m->x∈m'):Ring m' r:=⟨h.ne,h.nd,h.mo,λi x hi=>by obtain⟨y,h1,h2⟩:=h.ln i x hi;exact⟨y,h1,s _ h2⟩⟩
open Classical in
theorem xA{g t:Tr}{u:WT}{C:O PV}{Q:PV->Prop}(k:KW g t u C)(q:∀r,Ring ((LL g t u).filter aV) r->r.length < 64->Q (.tup [.str "ring",.tup r])):(iV g.pv t.pv u.pv).run Q:=by
 unfold iV;simp only[lm,gl];refine lQ k.hg k.ht k.hu k.hx k.hh k.hl λm hm=>?_;refine u7 k.hg (by have:=k.hu;have:=k.ht;lia) k.hm λM hM=>?_;have pm:∀p∈m,aV p=true:=λp hp=>(AX.mp ((hm.mem p).mp hp)).2;have mM:∀p∈M,ax p=true:=λp hp=>(AX.mp ((hM.mem p).mp hp)).2;have lM:=hM.len;have ð:=k.hm;simp only[lw];refine wW (C:=C) (N:=63) ∅ pm mM ∅ (λc hc=>?_) λÓ L hL lL cL bL=>?_
 .obtain⟨h1,d,h2,h3⟩:=k.cc c hc;exact⟨(hM.mem c).mpr h1,d,h2,(hm.mem _).mpr h3⟩
 .have uf:L≠[]:=λe=>by
   cases z:C with
   |nil=>exact k.cn z
   |cons c C'=>have:=cL c (by rw[z];exact .head _);rw[e]at this;cases this
  have ix1:mQ [PV.cl Ó,.cl L] (.int 1)=.ret (.cl L):=bG (k:=1) rfl;have tr:fk (.cl L)=.ret true:=by cases L with|nil=>exact absurd rfl uf|cons=>rfl
  simp only[bg,lw,ix1,tr,if_true,gl];refine IU pm hL ∅ uf bL λr hr _ rL=>?_;have:=len_sub hr.nd rL;exact q r (hr.mono λx hx=>(hm.mem x).mp hx) ∅
def sy:PV->Bool
 |.ref _=>false
 |.ty _=>false
 |.ob _ _=>false
 |.hand=>false
 |_=>true
def vn(k:Kd)(h:sy x=true):fJ k x=.ret (.bl (k.is x)):=by cases x<;>first|rfl|cases h
def uU:PV->Bool
 |.tup l=>l.all sy
 |x=>sy x
def whQ:PV->Bool
 |.int _=>true
 |_=>false
theorem JK(h:uU x=true):bQ x=.ret (.bl (ax x)):=by
 have QQ:∀(y:PV) (n:PV),sy y=true->Kd.tup.is y=false->d4 y n=.ret (.bl false):=λy n h ht=>by
  unfold d4;simp only[lm,vn _ h,ht];rfl
 have no:∀x:PV,ax x=false->d4 x (.int 2)=.ret (.bl false)->bQ x=.ret (.bl (ax x)):=λx h1 h2=>by
  unfold bQ;simp only[lm,h2,h1];rfl
 have row:∀l:O PV,d4 (.tup l) (.int 2)=.ret (.bl ((l.length:Int)==2)):=λl=>QP l 2;cases x with
 |tup l=>
  match l,h with
  |[],_=>exact no _ rfl (row _)
  |[a],_=>exact no _ (by cases a<;>rfl) (row _)
  |[a,b],h=>
   have h:([a,b].all sy)=true:=h;simp only[Et,List.all_nil,Eu,AH]at h;have k0:mQ [a,b] (.int 0)=.ret a:=bG (k:=0) rfl;have k1:mQ [a,b] (.int 1)=.ret b:=bG (k:=1) rfl;have wh:gK b=.ret (.bl (whQ b)):=by
    unfold gK;simp only[lm,vn _ h.2];cases b<;>first|rfl|(simp[sy]at h;done)
   have two:((([a,b]:O PV).length:Int)==2)=true:=rfl;unfold bQ;simp only[bg,lm,k0,k1,vn _ h.1,wh,row,two];cases c:Kd.str.is a with
   |false=>
    show ci (PV.bl false)=_;cases a<;>first|rfl|cases c
   |true=>
    show ci (PV.bl (whQ b))=_;cases a<;>first|(cases c;done)|(cases b<;>rfl)
  |a::b::c::l,_=>
   have:((((a::b::c::l).length:Nat):Int)==2)=false:=by
    simp only[Ay];rw[beq_eq_false_iff_ne];lia
   exact no _ (by cases a<;>first|rfl|(cases b<;>rfl)) (by rw[row,this])
 |_=>first|exact no _ rfl (QQ _ _ h rfl)|cases h
open Classical in
theorem J6{x:PV}{l:O PV}(hx:aV x=true)(hl:∀y∈l,aV y=true):gj false x l=.ret (decide (x∈l)):=by
 have fo:∀{x:PV},aV x=true->PV.de x=true/\PV.bb x<=2:=λh=>by
  obtain⟨_,_,_,_,rfl⟩:=eZ h;exact⟨rfl,by simp[PV.bb,aK]⟩
 have fe:∀{a b:PV},aV a=true->aV b=true->ez a b=decide (a=b):=λ{a b} ha hb=>by
  obtain⟨s1,i1,t1,j1,rfl⟩:=eZ ha;obtain⟨s2,i2,t2,j2,rfl⟩:=eZ hb;rw[ez,cJ,cJ,cJ,Eu,i7 rfl rfl,i7 rfl rfl,<- Bool.decide_and];refine decide_eq_decide.mpr ⟨λ⟨e1,e2⟩=>by rw[e1,e2],λe=>?_⟩;injection e with e;injection e with e1 e;injection e with e2 _;exact⟨e1,e2⟩
 unfold gj;rw[sw ⟨(fo hx).1,d8.mpr λy hy=>(fo (hl y hy)).1,kJ λy hy=>AI (fo (hl y hy)).2 ∅⟩];have:jP x l=decide (x∈l):=by
  unfold jP
  induction l with
  |nil=>simp
  |cons y l ih=>
   rw[CP,ih λz hz=>hl z (.tail _ hz),fe (hl y (.head _)) hx];by_cases c:y=x
   .subst c;simp
   .have:x≠y:=λe=>c e.symm;simp[c,this]
 rw[this];rfl
def Mp(l:O PV):O PV:=l.drop 1++l.take 1
def lF(l:O PV):O PV:=jJ l (Mp l)
theorem rV(l:O PV):(Mp l).length=l.length:=by unfold Mp;rw[Ag,Br,Bb];lia
theorem yX(l:O PV)(h:i<l.length):(Mp l)[i]?=(l[i+1]?).or l[0]?:=by
 unfold Mp;rw[Bw,Br]
 split
 .rw[Ee,show 1+i=i+1 by lia,Ai ∅];rfl
 .have:i+1=l.length:=by lia
  rw[this,AW (Am _),show i-(l.length-1)=0 by lia];cases l with
  |nil=>cases h
  |cons a l=>rfl
theorem zip_get:∀{l m:O PV},l.length=m.length->∀(i:Nat) (p:PV),(jJ l m)[i]?=bn p↔∃x y,l[i]?=bn x/\m[i]?=bn y/\p=.tup [x,y]
 |[],[],_,i,p=>by simp[jJ]
 |a::l,b::m,h,i,p=>by
  cases i with
  |zero=>
   simp only[jJ,List.getElem?_cons_zero,Option.some.injEq];exact⟨λe=>⟨a,b,rfl,rfl,e.symm⟩,λ⟨x,y,e1,e2,e3⟩=>by rw[e3,e1,e2]⟩
  |succ i=>exact zip_get (by simpa using h) i p
 |[],_::_,h,_,_=>by cases h
 |_::_,[],h,_,_=>by cases h
def xg(i:Nat)(p:PV):(lF l)[i]?=bn p↔∃x y,l[i]?=bn x/\(l[i+1]?).or l[0]?=bn y/\p=.tup [x,y]:=by
 unfold lF;rw[zip_get (rV l).symm]
 constructor
 .rintro⟨x,y,h1,h2,h3⟩;rw[yX l (Aj.mp h1).1]at h2;exact⟨x,y,h1,h2,h3⟩
 .rintro⟨x,y,h1,h2,h3⟩;rw[<- yX l (Aj.mp h1).1]at h2;exact⟨x,y,h1,h2,h3⟩
def Jy(h:∀x∈l,ax x=true):∀p∈lF l,aV p=true:=λp hp=>by
 obtain⟨i,hi⟩:=BI hp;obtain⟨x,y,h1,h2,rfl⟩:=(xg i p).mp hi;have m1:=Ao h1;have m2:y∈l:=by
  cases z:l[i+1]? with
  |none=>rw[z]at h2;exact Ao h2
  |some w=>rw[z]at h2;cases h2;exact Ao z
 rw[wO (.inr (h x m1)) (.inr (h y m2)),h x m1,h y m2];rfl
def NoR(P:O PV)(x:PV):Prop:=(sy x=true/\Kd.tup.is x=false)\/∃l,x=.tup l/\(l.length<2\/((∀e∈l,uU e=true)/\((∃e∈l,ax e=false)\/((∀e∈l,ax e=true)/\l.length<64/\∃p∈lF l,p∉P))))
def km(h:ax x=true):uU x=true:=by obtain⟨_,_,rfl⟩:=a7 h;rfl
theorem yp:∀bs:O Bool,Ur (bs.map PV.bl)=.ret bs
 |[]=>rfl
 |b::bs=>by
  show ca (Ur (bs.map PV.bl)) _=_;rw[yp bs];rfl
def k7(l:O PV)(f:PV->Bool):Li (l.map λx=>.bl (f x))=.ret (.bl (l.all f)):=by
 have:l.map (λx=>PV.bl (f x))=(l.map f).map PV.bl:=by rw[BV];rfl
 unfold Li;rw[this,yp,lm];congr 2;rw[Fz];rfl
def Fl(l:O PV)(h:1<=l.length):bz l cr (bn (1:Int))=l.take 1:=by
 unfold bz;rw[HT.kj,show(1:Int)=((1:Nat):Int) from rfl,HT.m5,List.drop_zero,Fy,DK h]
def o6(h:1<=l.length):bz l (bn (1:Int)) cr=l.drop 1:=md (a:=1) h
open Classical in
theorem IL{g t:Tr}{u:WT}{C:O PV}{x:PV}(k:KW g t u C)(h:NoR ((LL g t u).filter aV) x):(bq g.pv t.pv u.pv x).le (.ret (.bl false)):=λQ q=>by
 unfold bq;rcases h with⟨h1,h2⟩|⟨l,rfl,h⟩
 .simp only[lm,vn _ h1,h2,eV,CA,if_true];exact q
 .have is:fJ .tup (.tup l)=.ret (.bl true):=rfl;by_cases c:l.length<2
  .simp only[lm,is,eV,BJ,An,if_false,eX,KO,df];rw[decide_eq_true (show(l.length:Int)<2 by lia)];exact q
  .obtain⟨h1,h⟩:=h.resolve_left c;have e1:bU l (λp2=>bQ p2)=.ret (l.map λx=>.bl (ax x)):=gJ λy hy=>JK (h1 y hy);simp only[lm,is,eV,BJ,An,if_false,eX,KO,df,decide_eq_false (show ¬(l.length:Int)<2 by lia),bg,e1,k7];rcases h with⟨e,he,hm⟩|⟨hm,hl,p,hp,hn⟩
   .have:l.all ax=false:=by rw[List.all_eq_false];exact⟨e,he,by rw[hm];simp⟩
    rw[this];exact q
   .have:l.all ax=true:=AG.mpr hm;rw[this];simp only[BJ,An,if_false,kA,gl,W.rT];refine⟨⟨hl,this⟩,λm ð=>?_⟩;simp only[KN,lw,df]
    split
    .exact q
    .simp only[gl];refine lQ k.hg k.ht k.hu k.hx k.hh k.hl λm Sx=>?_;have pm:∀p∈m,aV p=true:=λp hp=>(AX.mp ((Sx.mem p).mp hp)).2;have z1:yF l (Mp l)=.ret (lF l):=sw ⟨a9 ∅,by rw[rV];exact Am _⟩;have e2:bU (lF l) (λTQ=>ca (gj false TQ m) Us)=.ret ((lF l).map λp=>.bl (decide (p∈m))):=gJ λp hp=>by
      rw[J6 (Jy hm p hp) pm];rfl
     have ad:addW (.tup (l.drop 1)) (.tup (l.take 1))=.ret (.tup (Mp l)):=sw (a9 (by rw[Br,Bb];lia));simp only[lw,eW,lm,jS,Fl l ∅,o6 (l:=l) ∅,ad,bg,z1,e2,k7];have:(lF l).all (λp=>decide (p∈m))=false:=by
      rw[List.all_eq_false];exact⟨p,hp,by rw[decide_eq_false λh=>hn ((Sx.mem p).mp h)];simp⟩
     rw[this];exact q
open Classical in
theorem Ge{g t:Tr}{u:WT}{C l:O PV}(k:KW g t u C)(h:Ring ((LL g t u).filter aV) l)(h2:2<=l.length)(NX:l.length<64):(bq g.pv t.pv u.pv (.tup l)).le (.ret (.bl true)):=λQ q=>by
 unfold bq;have is:fJ .tup (.tup l)=.ret (.bl true):=rfl;have e1:bU l (λp2=>bQ p2)=.ret (l.map λx=>.bl (ax x)):=gJ λy hy=>JK (km (h.mo y hy));have al:l.all ax=true:=AG.mpr h.mo;simp only[lm,is,eV,BJ,An,if_false,eX,KO,df,decide_eq_false (show ¬(l.length:Int)<2 by lia),bg,e1,k7,al,kA,gl,W.rT];refine⟨⟨NX,trivial⟩,λm ð=>?_⟩;have hn:=(ð.nd h.nd).length_eq;simp only[KN,lw,df,hn,beq_self_eq_true,BJ,An,if_false,gl];refine lQ k.hg k.ht k.hu k.hx k.hh k.hl λm Sx=>?_;have pm:∀p∈m,aV p=true:=λp hp=>(AX.mp ((Sx.mem p).mp hp)).2;have z1:yF l (Mp l)=.ret (lF l):=sw ⟨a9 ∅,by rw[rV];exact Am _⟩;have e2:bU (lF l) (λTQ=>ca (gj false TQ m) Us)=.ret ((lF l).map λp=>.bl (decide (p∈m))):=gJ λp hp=>by
  rw[J6 (Jy h.mo p hp) pm];rfl
 have ad:addW (.tup (l.drop 1)) (.tup (l.take 1))=.ret (.tup (Mp l)):=sw (a9 (by rw[Br,Bb];lia));simp only[lw,eW,lm,jS,Fl l ∅,o6 (l:=l) ∅,ad,bg,z1,e2,k7];have:(lF l).all (λp=>decide (p∈m))=true:=by
  rw[AG];intro p hp;obtain⟨i,hi⟩:=BI hp;obtain⟨x,y,h1,h2,rfl⟩:=(xg i p).mp hi;obtain⟨y',h3,h4⟩:=h.ln i x h1;rw[h3]at h2;cases h2;exact decide_eq_true ((Sx.mem _).mpr h4)
 rw[this];exact q
end My
variable{x:My.WT}{b:Bool}{y:My.Tr}{w0 w1 w3 w4:B0}
namespace My
inductive SK where
 |lf (h:Nat)
 |nd (i tg:Nat) (a b:SK)
namespace SK
def sz:SK->Nat
 |.lf _=>1
 |.nd _ _ a b=>a.sz+b.sz+1
def hd:SK->Nat
 |.lf h=>h
 |.nd i _ _ _=>i
def sub:SK->Nat->SK
 |.lf h,_=>.lf h
 |.nd i tg a b,k=>if k<a.sz then a.sub k else if k<a.sz+b.sz then b.sub (k-a.sz) else .nd i tg a b
def hv:SK->Nat->Nat->O Nat
 |.lf _,_,_=>[]
 |.nd _ _ a b,o,k=>if k<a.sz then a.hv o k else if k<a.sz+b.sz then b.hv (o+a.sz) (k-a.sz) else [o+a.sz-1,o+a.sz+b.sz-1]
def cd(k:Nat):SK->Nat
 |.lf _=>0
 |.nd i tg _ _=>if 2<=tg then 2*i+1 else 2*k+2
def held:SK->O Nat
 |.lf _=>[]
 |.nd i tg a b=>if tg=0 then [i,if a.hd=i then b.hd else a.hd] else [i]
def ue:SK->Bool
 |.lf _=>false
 |.nd _ tg _ _=>decide (tg<2)
end SK
def zj(n:Nat):Str:=if n=0 then "over" else if n=1 then "doubled" else "split"
def Rep:SK->WT->Tr->Prop
 |.lf h,.lf p i,.leaf _=>xH (.lf p i)=h
 |.nd i tg a b,.nd p j nm a' b',.node l r=>p=[]/\j=i/\nm=zj tg/\Rep a a' l/\Rep b b' r
 |_,_,_=>False
def Rep.sz:∀{s:SK}{u:WT}{t:Tr},Rep s u t->u.size=s.sz/\t.size=s.sz
 |.lf _,.lf _ _,.leaf _,_=>⟨rfl,rfl⟩
 |.nd _ _ a b,.nd _ _ _ _ _,.node _ _,h=>by
  obtain⟨_,_,_,h1,h2⟩:=h;simp only[WT.size,Tr.size,SK.sz,h1.sz,h2.sz,and_self]
def Rep.hd:∀{s:SK}{u:WT}{t:Tr},Rep s u t->xH u=s.hd
 |.lf _,.lf _ _,.leaf _,h=>h
 |.nd _ _ a b,.nd _ _ _ _ _,.node _ _,h=>by
  obtain⟨rfl,rfl,_⟩:=h;rfl
def Rep.hv:∀{s:SK}{u:WT}{t:Tr} (o k:Nat),Rep s u t->xE (en t o k)=s.hv o k
 |.lf _,.lf _ _,.leaf _,_,_,_=>rfl
 |.nd _ _ a b,.nd _ _ _ _ _,.node l r,o,k,h=>by
  obtain⟨_,_,_,h1,h2⟩:=h;rw[en,SK.hv,h1.sz.2,h2.sz.2]
  split
  .exact h1.hv o k
  .split
   .exact h2.hv _ _
   .rfl
theorem Rep.get:∀{s:SK}{u:WT}{t:Tr} (k:Nat),k<s.sz->Rep s u t->∃x y,u.post[k]?=bn x/\Rep (s.sub k) x y
 |.lf _,.lf _ _,.leaf w,k,hk,h=>by
  have:k<1:=hk;have:k=0:=by lia
  subst this;exact⟨_,.leaf w,rfl,h⟩
 |.nd i tg a b,.nd p j nm a' b',.node l r,k,hk,h=>by
  have h0:=h;obtain⟨_,_,_,h1,h2⟩:=h;have hk:k<a.sz+b.sz+1:=hk;rw[WT.post,SK.sub,A2,Bw,WT.ba,h1.sz.1]
  split
  .exact h1.get k ‹_›
  .rw[Bw,WT.ba,h2.sz.1];by_cases c:k-a.sz<b.sz
   .rw[if_pos c,if_pos ∅];exact h2.get _ c
   .rw[if_neg c,if_neg ∅,show k-a.sz-b.sz=0 by lia];exact⟨_,_,rfl,h0⟩
def Rep.at{s:SK}(hk:k<s.sz)(h:Rep s u t):∃y,Rep (s.sub k) (jg u k) y:=by
 obtain⟨x,y,e,r⟩:=h.get k hk;refine⟨y,?_⟩;unfold jg;rw[e];exact r
def dec:Nat->PV
 |0=>.az
 |n+1=>if n % 2=0 then mH (n / 2) else mT (n / 2)
def enc:PV->Nat
 |.tup [.str s,.int i]=>if s="house" then 2*i.toNat+1 else 2*i.toNat+2
 |_=>0
theorem XG(i:Nat):dec (2*i+1)=mH i:=by
 show(if (2*i) % 2=0 then mH (2*i / 2) else _)=_;rw[if_pos ∅,show 2*i / 2=i by lia]
theorem K6(i:Nat):dec (2*i+2)=mT i:=by
 show(if (2*i+1) % 2=0 then _ else mT ((2*i+1) / 2))=_;rw[if_neg ∅,show(2*i+1) / 2=i by lia]
theorem K7(n:Nat):dec (n+1)=if n % 2=0 then mH (n / 2) else mT (n / 2):=rfl
theorem tK:∀c,enc (dec c)=c
 |0=>rfl
 |n+1=>by
  rw[K7]
  split
  .show(if ("house":Str)="house" then 2*(((n / 2:Nat):Int)).toNat+1 else 2*(((n / 2:Nat):Int)).toNat+2)=_;rw[if_pos rfl,B1];lia
  .show(if ("thing":Str)="house" then 2*(((n / 2:Nat):Int)).toNat+1 else 2*(((n / 2:Nat):Int)).toNat+2)=_;rw[if_neg (by decide +kernel),B1];lia
def tQ:∀c,ax (dec c)=(c != 0)
 |0=>rfl
 |n+1=>by
  rw[K7]
  split<;>rfl
def z9(c:Nat):Ig (dec c):=by
 cases c with
 |zero=>exact .inl rfl
 |succ n=>exact .inr (by rw[tQ];rfl)
def Uq(p:Nat×Nat):PV:=.tup [dec p.1,dec p.2]
def Ta(p:Nat×Nat):aV (Uq p)=(p.1 != 0&&p.2 != 0):=by
 unfold Uq;rw[wO (z9 _) (z9 _),tQ,tQ]
theorem RK:zj 0="over":=rfl
theorem RJ:zj 1="doubled":=rfl
def Wg(h0:n≠0)(h1:n≠1):zj n="split":=by unfold zj;rw[if_neg h0,if_neg h1]
theorem Wj(k:Nat)(p:O Nat)(i:Nat)(nm:Str)(a b:WT):nW k (.nd p i nm a b)=if nm="found" then .az else if nm="split" then mH i else mT k:=rfl
theorem SG(p:O Nat)(i:Nat)(nm:Str)(a b:WT):eH (.nd p i nm a b)=if nm="over" then [i,if xH a=i then xH b else xH a] else [i]:=rfl
theorem Rep.nw{s:SK}(k:Nat)(h:Rep s x y):nW k x=dec (s.cd k):=by
 match s,x,y,h with
 |.lf _,.lf _ _,.leaf _,_=>rfl
 |.nd i tg a b,.nd _ _ _ _ _,.node _ _,h=>
  obtain⟨rfl,rfl,rfl,_,_⟩:=h;rw[Wj,SK.cd];by_cases c0:tg=0
  .subst c0;rw[RK,if_neg (by decide +kernel),if_neg (by decide +kernel),if_neg ∅,K6]
  .by_cases c1:tg=1
   .subst c1;rw[RJ,if_neg (by decide +kernel),if_neg (by decide +kernel),if_neg ∅,K6]
   .rw[Wg c0 c1,if_neg (by decide +kernel),if_pos rfl,if_pos ∅,XG]
theorem Rep.ue{s:SK}(h:Rep s x y):(x.cQ="found"\/x.cQ="split")↔s.ue=false:=by
 match s,x,y,h with
 |.lf _,.lf _ _,.leaf _,_=>exact⟨λ_=>rfl,λ_=>.inl rfl⟩
 |.nd i tg a b,.nd _ _ _ _ _,.node _ _,h=>
  obtain⟨rfl,rfl,rfl,_,_⟩:=h;show(zj tg="found"\/zj tg="split")↔decide (tg < 2)=false;by_cases c0:tg=0
  .subst c0;rw[RK];exact⟨λh=>absurd h (by decide +kernel),λh=>by cases h⟩
  .by_cases c1:tg=1
   .subst c1;rw[RJ];exact⟨λh=>absurd h (by decide +kernel),λh=>by cases h⟩
   .rw[Wg c0 c1];exact⟨λ_=>decide_eq_false ∅,λ_=>.inr rfl⟩
theorem Rep.held{s:SK}(h:Rep s x y)(hh:s.ue=true):eH x=s.held:=by
 match s,x,y,h with
 |.lf _,.lf _ _,.leaf _,_=>cases hh
 |.nd i tg a b,.nd _ _ _ _ _,.node _ _,h=>
  obtain⟨rfl,rfl,rfl,h1,h2⟩:=h;rw[SG,SK.held,h1.hd,h2.hd];have hh:tg<2:=of_decide_eq_true hh;by_cases c0:tg=0
  .subst c0;rw[RK,if_pos rfl,if_pos rfl]
  .have c1:tg=1:=by lia
   subst c1;rw[RJ,if_neg (by decide +kernel),if_neg ⋯]
def gN(b:Bool):Nat:=if b then 9 else 7
def Y1(b:Bool)(j:Nat):Nat:=if j=2\/j=5\/j=6\/(b=true/\j=8) then 2*j+1 else 0
def aNc(b:Bool)(j:Nat):Nat:=((if b then [5,5,13,11,11,13,17,17,0] else [5,5,13,11,11,13,0])[j]?).getD 0
def G0(w0 w1 w2 w3:Str):Tr:=.node (.node (.leaf w0) (.leaf w1)) (.node (.leaf w2) (.leaf w3))
def GT(b:Bool)(w0 w1 w2 w3 w4:Str):Tr:=if b then .node (G0 w0 w1 w2 w3) (.leaf w4) else G0 w0 w1 w2 w3
def nB{w2:Str}:(GT b w0 w1 w2 w3 w4).size=gN b:=by cases b<;>rfl
theorem TC{w2:Str}(h:j<gN b):hN (GT b w0 w1 w2 w3 w4) j=dec (Y1 b j):=by
 cases b with
 |false=>
  have h:j<7:=h;obtain h|h|h|h|h|h|h:j=0\/j=1\/j=2\/j=3\/j=4\/j=5\/j=6:=by lia
  all_goals (subst h;rfl)
 |true=>
  have h:j<9:=h;obtain h|h|h|h|h|h|h|h|h:j=0\/j=1\/j=2\/j=3\/j=4\/j=5\/j=6\/j=7\/j=8:=by lia
  all_goals (subst h;rfl)
theorem Yc{w2:Str}(h:j<gN b):aN (GT b w0 w1 w2 w3 w4) j=dec (aNc b j):=by
 cases b with
 |false=>
  have h:j<7:=h;obtain h|h|h|h|h|h|h:j=0\/j=1\/j=2\/j=3\/j=4\/j=5\/j=6:=by lia
  all_goals (subst h;rfl)
 |true=>
  have h:j<9:=h;obtain h|h|h|h|h|h|h|h|h:j=0\/j=1\/j=2\/j=3\/j=4\/j=5\/j=6\/j=7\/j=8:=by lia
  all_goals (subst h;rfl)
def stc(b:Bool)(k:Nat)(s:SK):O (Nat×Nat):=if s.ue then s.held.flatMap λh=>[(aNc b h,2*k+2),(2*k+2,Y1 b h)] else []
def LLc(b:Bool)(s:SK):O (Nat×Nat):=(Ax (gN b)).map (λj=>(aNc b j,Y1 b j))++(Ax s.sz).flatMap (λk=>(s.hv 0 k).map λh=>((s.sub k).cd k,(s.sub h).cd h))++(Ax s.sz).flatMap λk=>stc b k (s.sub k)
def X5(b:Bool)(s:SK):O Nat:=(Ax (gN b)).map (Y1 b)++(Ax s.sz).map λk=>(s.sub k).cd k
def inG(b:Bool)(s:SK):Bool:=(Ax s.sz).all λk=>!(s.sub k).ue||(s.sub k).held.all λh=>decide (h<gN b)
def n8{γ:Type}(f:β->γ)(g:α->List β)(l:List α):(l.flatMap g).map f=l.flatMap λa=>(g a).map f:=by
 induction l with
 |nil=>rfl
 |cons a l ih=>rw[Cp,BL,ih,Cp]
def jR{f g:α->List β}{l:List α}(h:∀a∈l,f a=g a):l.flatMap f=l.flatMap g:=by
 induction l with
 |nil=>rfl
 |cons a l ih=>rw[Cp,Cp,h a (.head _),ih λb hb=>h b (.tail _ hb)]
def zJ{s:SK}(h:inG b s=true)(hk:k<s.sz)(hh:(s.sub k).ue=true):∀z∈(s.sub k).held,z<gN b:=λz hz=>by
 have:=AG.mp h k (Bl.mpr hk);rw[hh]at this;exact of_decide_eq_true (AG.mp this z hz)
theorem Tw{w2:Str}{s:SK}(h:Rep s u t)(hi:inG b s=true):LL (GT b w0 w1 w2 w3 w4) t u=(LLc b s).map Uq:=by
 unfold LL LLc;rw[BL,BL];congr 1
 .congr 1
  .unfold LM;rw[nB,BV];refine B2 λj hj=>?_;have hj:=Bl.mp hj;rw[Yc hj,TC hj];rfl
  .unfold Mb;rw[h.sz.2,n8];refine jR λk hk=>?_;have hk:=Bl.mp hk;unfold Mc;rw[h.hv,BV];refine B2 λc hc=>?_;have SJ:c<s.sz:=by
    rw[<- h.hv 0 k]at hc;have:=Pq (by rw[h.sz.2];exact hk) hc;lia
   obtain⟨_,r1⟩:=h.at hk;obtain⟨_,r2⟩:=h.at SJ;rw[r1.nw,r2.nw];rfl
 .unfold stQ;rw[h.sz.1,n8];refine jR λk hk=>?_;have hk:=Bl.mp hk;obtain⟨_,r1⟩:=h.at hk;unfold stK stc;cases c:(s.sub k).ue with
  |false=>rw[if_pos (r1.ue.mpr c)];rfl
  |true=>
   rw[if_neg (λz=>by have:=r1.ue.mp z;rw[c]at this;cases this),r1.held c,if_pos rfl,n8];refine jR λz hz=>?_;have hz:=zJ hi hk c z hz;rw[Yc hz,TC hz];simp only[Bq,Dt,Uq,K6]
def Tu{w2:Str}{s:SK}(h:Rep s u t):ql (GT b w0 w1 w2 w3 w4) u=(X5 b s).map dec:=by
 unfold ql X5;rw[BL,BV,BV,nB,h.sz.1];congr 1
 .exact B2 λj hj=>TC (Bl.mp hj)
 .refine B2 λk hk=>?_;obtain⟨_,r1⟩:=h.at (Bl.mp hk);exact r1.nw k
def SK.turns:SK->O SK
 |.lf h=>[.lf h]
 |.nd i tg a b=>a.turns.flatMap λa'=>b.turns.flatMap λb'=>[.nd i tg a' b',.nd i tg b' a']
def kY(to Û:Nat):SK:=.nd 6 2 (.nd 2 0 (.lf 2) (.lf (3+to))) (.nd 5 0 (.lf 5) (.lf Û))
def qa:Nat->SK->SK
 |0,s=>s
 |n+1,s=>.nd 6 1 (qa n s) (.lf 6)
def Ma(b:Bool)(s:SK):SK:=if b then .nd 8 2 s (.lf 7) else s
def xS(b:Bool):O SK:=[0,1].flatMap λto=>[0,1].flatMap λÛ=>[0,1,2].flatMap λn=>(Ma b (qa n (kY to Û))).turns
def RD(L:O (Nat×Nat))(c:Nat):Nat:=((L.find? λp=>p.1==c).map (·.2)).getD 0
def aaO(p:Nat×Nat):Bool:=p.1 != 0&&p.2 != 0
def OH(b:Bool)(s:SK):O (Nat×Nat):=(LLc b s).filter aaO
def CC(L:O (Nat×Nat)):O Nat:=[5,RD L 5,11,RD L 11]
def lev(C:O Nat)(c:Nat):Nat:=if C.elem c then 0 else if c==17 then 1000 else if c==13 then 1 else c
def XT(L:O (Nat×Nat))(M C:O Nat):Bool:=
 decide (L.length<64)&&decide (M.length<64)&&C.all (λc=>M.elem c&&L.elem (c,RD L c)&&C.elem (RD L c))&&L.all λp=>if C.elem p.1 then p.2==RD L p.1&&C.elem p.2&&p.2 != p.1 else decide (lev C p.2<lev C p.1)
def XU(L:O (Nat×Nat))(M:O Nat):Bool:=XT L M (CC L)
def Oo(b:Bool)(s:SK):Bool:=decide (s.sz<=100)&&inG b s&&XU (OH b s) ((X5 b s).filter (· != 0))
set_option maxHeartbeats 4000000 in
def ab8:(xS false).all (Oo false)=true:=by decide +kernel
set_option maxHeartbeats 4000000 in
def ab7:(xS true).all (Oo true)=true:=by decide +kernel
end My
variable{P:O PL.PV}{s:My.SK}{y:PL.PV}
namespace My
structure RW(P C:List PV)(nx:PV->PV)(lv:PV->Nat):Prop where
 step:∀x y,PV.tup [x,y]∈P->(x∈C/\y=nx x/\y∈C/\y≠x)\/(x∉C/\lv y<lv x)
def Om(h:s∈xS b):Oo b s=true:=by
 cases b with
 |false=>exact AG.mp ab8 s h
 |true=>exact AG.mp ab7 s h
def mC(f:α->β)(p:β->Bool)(l:List α):(l.map f).filter p=(l.filter λa=>p (f a)).map f:=by
 induction l with
 |nil=>rfl
 |cons a l ih=>
  rw[Bq,Cz,Cz,ih]
  split<;>rfl
def z0{b:Nat}(h:dec a=dec b):a=b:=by rw[<- tK a,h,tK]
def Wt{w2:Str}(hs:s∈xS b)(h:Rep s u t):∃C nx lv,KW (GT b w0 w1 w2 w3 w4) t u C/\RW ((LL (GT b w0 w1 w2 w3 w4) t u).filter aV) C nx lv/\∀c∈C,∃i,c=mH i\/c=mT i:=by
 have c:=Om hs;unfold Oo XU at c;rw[AH,AH]at c;obtain⟨⟨c1,c2⟩,c3⟩:=c;have c1:=of_decide_eq_true c1;have eL:(LL (GT b w0 w1 w2 w3 w4) t u).filter aV=(OH b s).map Uq:=by
  rw[Tw h c2,mC];congr 2;funext p;exact Ta p
 have eM:(ql (GT b w0 w1 w2 w3 w4) u).filter ax=((X5 b s).filter (· != 0)).map dec:=by
  rw[Tu h,mC];congr 2;funext p;exact tQ p
 generalize hC:CC (OH b s)=C at c3;have uf:C≠[]:=by rw[<- hC];exact List.cons_ne_nil _ _
 generalize OH b s=L at eL c3;generalize (X5 b s).filter (· != 0)=M at eM c3;unfold XT at c3;simp only[AH,decide_eq_true_eq,AG]at c3;obtain⟨⟨⟨l1,l2⟩,c4⟩,c5⟩:=c3;have inC:∀a,dec a∈C.map dec↔a∈C:=λa=>⟨λh=>by obtain⟨b,hb,e⟩:=Bf.mp h;rwa [<- z0 e],λh=>C6 h⟩;refine⟨C.map dec,λx=>dec (RD L (enc x)),λx=>lev C (enc x),⟨?_,?_,?_,λk hk=>?_,λk hk=>?_,?_,?_,?_,?_⟩,⟨λx y hxy=>?_⟩,?_⟩
 .rw[nB];cases b<;>decide
 .rw[h.sz.2];exact c1
 .rw[h.sz.1,h.sz.2]
 .cases e:jg u k with
  |lf p i=>exact .inl rfl
  |nd p i nm a b=>exact .inr (.inr ⟨p,i,nm,a,b,rfl⟩)
 .rw[h.sz.1]at hk;obtain⟨_,r⟩:=h.at hk;cases z:(s.sub k).ue with
  |false=>
   rcases r.ue.mpr z with e|e
   .exact .inl e
   .exact .inr (.inl e)
  |true=>
   refine .inr (.inr ?_);rw[r.held z,nB];exact zJ c2 hk z
 .rw[eL,Aq];exact l1
 .rw[eM,Aq];exact l2
 .intro e;exact uf (List.map_eq_nil_iff.mp e)
 .intro c hc;obtain⟨a,ha,rfl⟩:=Bf.mp hc;obtain⟨⟨m1,m2⟩,m3⟩:=c4 a ha;rw[eM,eL];exact⟨C6 (CO.mp m1),dec (RD L a),C6 (CO.mp m3),Bf.mpr ⟨_,CO.mp m2,rfl⟩⟩
 .rw[eL]at hxy;obtain⟨p,hp,e⟩:=Bf.mp hxy;unfold Uq at e;injection e with e;injection e with e1 e;injection e with e2 _;subst e1 e2;have:=c5 p hp;simp only[tK,inC]
  split at this
  .rename_i q;have q:=CO.mp q;rw[AH,AH]at this;obtain⟨⟨a1,a2⟩,a3⟩:=this;refine .inl ⟨q,by rw[eq_of_beq a1],CO.mp a2,λe=>?_⟩;rw[z0 e]at a3;simp at a3
  .rename_i q;exact .inr ⟨λe=>q (CO.mpr e),of_decide_eq_true this⟩
 .intro c hc;obtain⟨a,ha,rfl⟩:=Bf.mp hc;obtain⟨⟨m1,_⟩,_⟩:=c4 a ha;have:dec a∈(ql (GT b w0 w1 w2 w3 w4) u).filter ax:=by rw[eM];exact C6 (CO.mp m1)
  have m:=(AX.mp this).2;cases a with
  |zero=>cases m
  |succ n=>
   rw[K7]
   split
   .exact⟨_,.inl rfl⟩
   .exact⟨_,.inr rfl⟩
section
variable{C r:O PV}{nx:PV->PV}{lv:PV->Nat}
def Ring.at(h:Ring P r)(hi:i<r.length):∃x,r[i]?=bn x/\x∈r:=⟨_,Ai hi,EC hi⟩
theorem Ring.bef(h:Ring P r)(hi:r[i]?=bn y):∃j x,r[j]?=bn x/\PV.tup [x,y]∈P/\((i=j+1)\/(i=0/\j+1=r.length)):=by
 have hl:=(Aj.mp hi).1;cases i with
 |succ j=>
  obtain⟨x,hx,_⟩:=h.at (i:=j) ∅;obtain⟨z,h1,h2⟩:=h.ln j x hx;rw[hi]at h1;cases h1;exact⟨j,x,hx,h2,.inl rfl⟩
 |zero=>
  obtain⟨x,hx,_⟩:=h.at (i:=r.length-1) ∅;obtain⟨z,h1,h2⟩:=h.ln _ x hx;rw[AW ∅,hi]at h1;cases h1;exact⟨_,x,hx,h2,.inr ⟨rfl,by lia⟩⟩
theorem Ring.core(w:RW P C nx lv)(h:Ring P r):∀x∈r,x∈C:=by
 classical
 have É:∀(n:Nat) (i:Nat) (x:PV),r[i]?=bn x->x∉C->lv x+n<=(r.map lv).foldr max 0:=λn=>by
  induction n with
  |zero=>
   intro i x hi _;have:∀l:O PV,x∈l->lv x<=(l.map lv).foldr max 0:=λl hl=>by
    induction l with
    |nil=>cases hl
    |cons a l ih=>
     rw[Bq,List.foldr_cons];rcases Aw.mp hl with rfl|hl
     .exact Nat.le_max_left _ _
     .exact AI (ih hl) (Nat.le_max_right _ _)
   exact this r (Ao hi)
  |succ n ih=>
   intro i x hi hx;obtain⟨j,z,hj,hz,_⟩:=h.bef hi;rcases w.step z x hz with⟨_,_,h1,_⟩|⟨h1,h2⟩
   .exact absurd h1 hx
   .have:=ih j z hj h1;lia
 intro x hx;apply Ce;intro hc;obtain⟨i,hi⟩:=BI hx;have:=É ((r.map lv).foldr max 0+1) i x hi hc;lia
theorem Ring.two(w:RW P C nx lv)(h:Ring P r):2<=r.length:=by
 have hp:=DR.mpr h.ne;apply Ce;intro hc;obtain⟨x,hx,hm⟩:=h.at hp;obtain⟨y,h1,h2⟩:=h.ln 0 x hx;rw[AW ∅,hx]at h1;cases h1;rcases w.step x x h2 with⟨_,_,_,g⟩|⟨g,_⟩
 .exact g rfl
 .exact g (Ring.core w h x hm)
theorem Ring.brk(w:RW P C nx lv)(h:Ring P r){x:PV}(hi:r[i]?=bn x)(hy:y≠x):∃p∈lF (r.take i++[y]++r.drop (i+1)),p∉P:=by
 have hl:=(Aj.mp hi).1;have h2:=h.two w;obtain⟨j,z,hj,hz,ij⟩:=h.bef hi;have Sk:x=nx z:=by
  rcases w.step z x hz with⟨_,e,_⟩|⟨e,_⟩
  .exact e
  .exact absurd (h.core w z (Ao hj)) e
 have jl:=(Aj.mp hj).1;have nl:(r.take i++[y]++r.drop (i+1)).length=r.length:=by simp;lia
 have ne:j≠i:=by lia
 have g1:(r.take i++[y]++r.drop (i+1))[j]?=bn z:=by
  rw[A2,Bw,Bb];by_cases c:j<i
  .rw[if_pos ∅,List.getElem?_take,if_pos c,hj]
  .rw[if_neg ∅,Bw,if_neg (by simp;lia),BN,Ee,<- hj];congr 1;lia
 have g2:(r.take i++[y]++r.drop (i+1))[i]?=bn y:=by
  rw[A2,Bw,Bb,if_neg ∅,show i-min i r.length=0 by lia];rfl
 have g3:((r.take i++[y]++r.drop (i+1))[j+1]?).or (r.take i++[y]++r.drop (i+1))[0]?=bn y:=by
  rcases ij with rfl|⟨rfl,e⟩
  .rw[g2];rfl
  .rw[AW ∅,g2];rfl
 have m:=(xg j (PV.tup [z,y])).mpr ⟨z,y,g1,g3,rfl⟩;refine⟨_,Ao m,λhp=>?_⟩;rcases w.step z y hp with⟨_,e,_⟩|⟨e,_⟩
 .exact hy (e.trans Sk.symm)
 .exact e (h.core w z (Ao hj))
end
def SK.dep:SK->Nat
 |.lf _=>0
 |.nd _ _ a b=>max a.dep b.dep+1
theorem gz:∀(n:Nat) {s:SK}{u:WT}{t:Tr}{Q:PV->Prop},Rep s u t->s.dep<n->(∀s' u' t',s'∈s.turns->Rep s' u' t'->Q (.tup [t'.pv,u'.pv]))->(aQ n t.pv u.pv).run Q
 |0,_,_,_,_,_,h,_=>by cases h
 |n+1,.lf h,.lf p i,.leaf w,Q,r,hd,q=>by
  have e:WT.pv (.lf p i)=.tup [.tup (bT (p++[i])),.str "found"]:=rfl;unfold aQ;have:=q _ _ _ (.head _) r;rw[e]at this ⊢;generalize PV.tup (bT (p++[i]))=TN at this ⊢;have l2:((([TN,PV.str "found"]:O PV).length:Int)==2)=true:=rfl;simp only[lm,eX,gl,lV,lw,df,l2,if_true];exact this
 |n+1,.nd i tg a b,.nd p j nm a' b',.node l r',Q,r,hd,q=>by
  obtain⟨rfl,rfl,rfl,r1,r2⟩:=r;have hd:max a.dep b.dep+1<n+1:=hd;have e:WT.pv (.nd [] j (zj tg) a' b')=.tup [.tup (bT ([]++[j])),.str (zj tg),a'.pv,b'.pv]:=rfl;have et:Tr.pv (.node l r')=.tup [l.pv,r'.pv]:=rfl;have c2:∀x y z w:PV,bz [x,y,z,w] cr (bn (2:Int))=[x,y]:=λ_ _ _ _=>rfl;have k0:∀(a:PV) l,mQ (a::l) (.int 0)=.ret a:=λa l=>bG (k:=0) rfl;have k1:∀(a b:PV) l,mQ (a::b::l) (.int 1)=.ret b:=λa b l=>bG (k:=1) rfl;have k2:∀(a b c:PV) l,mQ (a::b::c::l) (.int 2)=.ret c:=λa b c l=>bG (k:=2) rfl;have k3:∀(a b c d:PV) l,mQ (a::b::c::d::l) (.int 3)=.ret d:=λa b c d l=>bG (k:=3) rfl;have ad:∀a b c d:PV,addW (.tup [a,b]) (.tup [c,d])=.ret (.tup [a,b,c,d]):=λa b c d=>sw (a9 (by simp));unfold aQ;rw[e,et];generalize hp:PV.tup (bT ([]++[j]))=TN;have l4:((([TN,PV.str (zj tg),a'.pv,b'.pv]:O PV).length:Int)==2)=false:=rfl;simp only[lm,eX,gl,lV,lw,df,l4,An,if_false,bg,k0,k1,k2,k3];refine gz n r1 ∅ λs1 u1 t1 m1 g1=>?_;simp only[pq,lw,lm,gl];refine gz n r2 ∅ λs2 u2 t2 m2 g2=>?_;simp only[pq,lw,lm,gl,d9 (show(0:Int)<2 by decide) ⋯];refine lX λd d0 d1=>?_;have mm:∀s',s'=.nd j tg s1 s2\/s'=.nd j tg s2 s1->s'∈SK.turns (.nd j tg a b):=λs' h=>by
   rw[SK.turns];refine BQ.mpr ⟨s1,m1,BQ.mpr ⟨s2,m2,?_⟩⟩;rcases h with rfl|rfl
   .exact .head _
   .exact .tail _ (.head _)
  have f1:=q _ (.nd [] j (zj tg) u1 u2) (.node t1 t2) (mm _ (.inl rfl)) ⟨rfl,rfl,rfl,g1,g2⟩;have f2:=q _ (.nd [] j (zj tg) u2 u1) (.node t2 t1) (mm _ (.inr rfl)) ⟨rfl,rfl,rfl,g2,g1⟩;have ep:∀a b,WT.pv (.nd [] j (zj tg) a b)=.tup [TN,.str (zj tg),a.pv,b.pv]:=λa b=>by rw[<- hp];rfl
  rw[ep]at f1 f2;by_cases c:d=0
  .subst c;simp only[lV,beq_self_eq_true,df,lw,if_true,TK,lm,gl,eW,jS,c2,ad];exact f2
  .have:(d==0)=false:=by rw[beq_eq_false_iff_ne];exact c
   simp only[lV,this,df,lw,An,if_false,TK,lm,gl,eW,jS,c2,ad];exact f1
end My
variable{Q:PL.PV->Prop}
namespace My
theorem Jt(h0:l≠[])(h1:l.length<=1000)(q:∀x∈l,Q x):(iW (.cl l)).run Q:=by
 have hp:=DR.mpr h0;unfold iW;simp only[lm,gl,cO,zQ,d9 (show(0:Int)<l.length by lia) ∅,lw];refine lX λd d0 d1=>?_;obtain⟨j,rfl⟩:∃j:Nat,d=(j:Int):=⟨d.toNat,by lia⟩;obtain⟨a,ha⟩:∃a,l[j]?=bn a:=⟨_,Ai ∅⟩;simp only[KP,gX ha,W.uV,lw];exact q a (Ao ha)
theorem mD{m:Int}(h:∀n:Nat,(n:Int)<m->Q (.int (n:Int))):(drawn m).run Q:=lX λd d0 d1=>by
 obtain⟨j,rfl⟩:∃j:Nat,d=(j:Int):=⟨d.toNat,by lia⟩;exact h j d1
theorem wN(q:∀b w0 w1 w2 w3 w4 s u t,s∈xS b->Rep s u t->Q (.tup [(GT b w0 w1 w2 w3 w4).pv,t.pv,u.pv])):dR.run Q:=by
 have t2:(0:Int)<2:=by decide
 have QC:(2:Int)<1073741824:=by decide
 unfold dR;simp only[lm,gl];refine Jt (by simp) (by simp) λx hx=>?_;obtain⟨w0,w1,w2,w3,w4,rfl⟩:∃w0 w1 w2 w3 w4:Str,x=.cl [.str w0,.str w1,.str w2,.str w3,.str w4]:=by
  simp only[Aw,Bk,or_false]at hx;rcases hx with rfl|rfl|rfl<;>exact⟨_,_,_,_,_,rfl⟩
 have k0:∀(a:PV) l,mQ (a::l) (.int 0)=.ret a:=λa l=>bG (k:=0) rfl;have k1:∀(a b:PV) l,mQ (a::b::l) (.int 1)=.ret b:=λa b l=>bG (k:=1) rfl;have k2:∀(a b c:PV) l,mQ (a::b::c::l) (.int 2)=.ret c:=λa b c l=>bG (k:=2) rfl;have k3:∀(a b c d:PV) l,mQ (a::b::c::d::l) (.int 3)=.ret d:=λa b c d l=>bG (k:=3) rfl;have k4:∀(a b c d e:PV) l,mQ (a::b::c::d::e::l) (.int 4)=.ret e:=λa b c d e l=>bG (k:=4) rfl;have k:∀n:Nat,n<5->∃w:Str,mQ [.str w0,.str w1,.str w2,.str w3,.str w4] (.int (n:Int))=.ret (.str w):=λn h=>by
  obtain h|h|h|h|h:n=0\/n=1\/n=2\/n=3\/n=4:=by lia
  all_goals (subst h;exact⟨_,bG rfl⟩)
 simp only[lm,cO,k0,k1,k2,k3,k4,gl,lw,d9 t2 QC];refine mD λa ha=>mD λto T3=>?_;simp only[gl,lw,lm,kK,d9 t2 QC];refine mD λo ho=>mD λbk hbk=>?_;obtain⟨v1,e1⟩:=k a ∅;obtain⟨v2,e2⟩:=k (2+to) ∅;obtain⟨v3,e3⟩:=k (2+o) ∅;obtain⟨v4,e4⟩:=k bk ∅;have i2:((2+to:Nat):Int)=2+(to:Int):=by lia
 have i3:((2+o:Nat):Int)=2+(o:Int):=by lia
 rw[i2]at e2;rw[i3]at e3;simp only[gl,lw,lm,kK,e1,e2,e3,e4,d9 (show(0:Int) < 3 by decide) ⋯];refine mD λm hm=>?_;have R0:Rep (kY to bk) (.nd [] 6 "split" (.nd [] 2 "over" (.lf [2] a) (.lf [] (3+to))) (.nd [] 5 "over" (.lf [5] (3+o)) (.lf [] bk))) (.node (.node (.leaf v1) (.leaf v2)) (.node (.leaf v3) (.leaf v4))):=⟨rfl,rfl,rfl,⟨rfl,rfl,rfl,rfl,rfl⟩,⟨rfl,rfl,rfl,rfl,rfl⟩⟩;simp only[ja,sw (eY (i:=0) (j:=m) ∅ ∅),lw];refine oM (λi s=>∃u t,s=(Tr.pv t,WT.pv u)/\Rep (qa i (kY to bk)) u t) ⟨_,_,?_,R0⟩ ?_ ?_
 .have j1:((3+to:Nat):Int)=3+(to:Int):=by lia
  have j2:((3+o:Nat):Int)=3+(o:Int):=by lia
  simp only[Tr.pv,WT.pv,bT,List.nil_append,EG,Bq,Dt,j1,j2];rfl
 .rintro i s hi ⟨u,t,rfl,r⟩;simp only[gl,lw,lm,d9 t2 QC];refine mD λl hl=>?_;obtain⟨v,e⟩:=k l ∅;simp only[gl,lw,lm,e];exact⟨.nd [] 6 "doubled" u (.lf [6,2] l),.node t (.leaf v),rfl,⟨rfl,rfl,rfl,r,rfl⟩⟩
 .rintro s ⟨u,t,rfl,r⟩;have m3:m<3:=by lia
  have dp:∀n s,(qa n s).dep=s.dep+n:=λn s=>by
   induction n with
   |zero=>rfl
   |succ n ih=>show max (qa n s).dep 0+1=_;rw[ih];lia
  have fam:∀b s,s∈(Ma b (qa m (kY to bk))).turns->s∈xS b:=λb s hs=>by
   unfold xS;refine BQ.mpr ⟨to,?_,BQ.mpr ⟨bk,?_,BQ.mpr ⟨m,?_,hs⟩⟩⟩
   .have:to<2:=by lia
    simp;lia
   .have:bk<2:=by lia
    simp;lia
   .simp;lia
  have bd:(kY to bk).dep=2:=rfl;have ad:∀a b c:PV,addW (.tup [a]) (.tup [b,c])=.ret (.tup [a,b,c]):=λa b c=>sw (a9 (by simp));simp only[gl,lw,lm,d9 t2 QC];refine mD λc hc=>?_;simp only[lV,lw,df,lm,gl];cases z:((c:Int)==0) with
  |true=>
   simp only[if_true,lw,gl,lm];refine gz 7 (s:=Ma true (qa m (kY to bk))) (u:=.nd [] 8 "split" u (.lf [] 7)) (t:=.node t (.leaf w4)) ⟨rfl,rfl,rfl,r,rfl⟩ (by show max (qa m (kY to bk)).dep 0+1 < 7;rw[dp,bd];lia) λs' u' t' h1 h2=>?_;simp only[ad,lw];exact q true w0 w1 w2 w3 w4 s' u' t' (fam true s' h1) h2
  |false=>
   simp only[An,if_false,lw,gl,lm];refine gz 7 (s:=Ma false (qa m (kY to bk))) r (by show(qa m (kY to bk)).dep<7;rw[dp,bd];lia) λs' u' t' h1 h2=>?_;simp only[ad,lw];exact q false w0 w1 w2 w3 w4 s' u' t' (fam false s' h1) h2
end My
variable{i j:Option Int}{t:PL.PV}
namespace My
def iJ:Nat->PV->PV
 |0,t=>t
 |n+1,t=>.tup [iJ n t]
def pw(t:PV):O PV:=[.az,.bl true,.int 3,.int (-1),.str "",.str "ring",.str "house",.cl [],P1 [],.tup [.str "a"],.tup [.az,.az],.tup [.int 0,.int 0],iJ 31 t,.cl [t],P1 [(.inl 0,t)]]
def yL(t:PV)(l:O PV):O PV:=[.cl l,.tup (l++[.az]),.tup [t],.tup [t,t],.tup (bz l cr (bn (-1))++[.cl (bz l (bn (-1)) cr)]),.tup []]
theorem K9:(bz l i j).length<=l.length:=by
 unfold bz;rw[Bb,Br];lia
def kQ(h:v∈bz l i j):v∈l:=by
 unfold bz at h;exact Co (DC h)
theorem mi(hq:sy t=true)(ht:Kd.tup.is t=false)(q:Q (.cl (pw t))):(aU t).run Q:=by
 unfold aU;simp only[gl,lw,lm,ja,sw (eY (i:=0) (j:=30) ∅ ∅)];refine oM (n:=30) (λi s=>s=iJ (i+1) t) rfl (λi s hi hs=>by subst hs;simp only[lw,lm];rfl) λs hs=>?_;subst hs;simp only[gl,lw,lm,xT,zR,vn _ hq,ht,eV,An,if_false];exact q
theorem nI(hl:l.length<=100)(q:Q (.cl (pw (.tup l)++yL (.tup l) l))):(aU (.tup l)).run Q:=by
 have is:fJ .tup (.tup l)=.ret (.bl true):=rfl;unfold aU;simp only[gl,lw,lm,ja,sw (eY (i:=0) (j:=30) ∅ ∅)];refine oM (n:=30) (λi s=>s=iJ (i+1) (.tup l)) rfl (λi s hi hs=>by subst hs;simp only[lw,lm];rfl) λs hs=>?_;subst hs;have a1:addW (.tup l) (.tup [.az])=.ret (.tup (l++[.az])):=sw (a9 (by simp;lia));have a2:addW (.tup (bz l cr (bn (-1)))) (.tup [.cl (bz l (bn (-1)) cr)])=.ret (.tup (bz l cr (bn (-1))++[.cl (bz l (bn (-1)) cr)])):=sw (a9 (by have:=K9 (l:=l) (i:=cr) (j:=bn (-1));simp;lia));have ct:∀a b:O PV,a.length<=100->b.length<=100->qc a b=.ret (a++b):=λa b h1 h2=>sw (a9 ∅);simp only[gl,lw,lm,xT,zR,is,eV,if_true,nv,bg,a1,eW,jS,a2];rw[ct _ _ (by simp) (by simp)];exact q
def V7(x:PV):Prop:=FL.Wa x/\sy x=true/\uU x=true
theorem vD(h:PV.de t=true):∀n,PV.de (iJ n t)=true/\PV.bb (iJ n t)=PV.bb t+n
 |0=>⟨h,rfl⟩
 |n+1=>by
  obtain⟨h1,h2⟩:=vD h n;show(PV.de (iJ n t)&&true)=true/\max (PV.bb (iJ n t)) 0+1=_;rw[h1,h2];exact⟨rfl,by lia⟩
theorem wD(h:PV.de t=true)(hd:PV.bb t<=50)(hq:sy t=true):∀x∈pw t,V7 x:=λx hx=>by
 obtain⟨h1,h2⟩:=vD h 31;have dq:sy (iJ 30 t)=true:=rfl;unfold pw at hx;simp only[Aw,Bk,or_false]at hx;rcases hx with rfl|rfl|rfl|rfl|rfl|rfl|rfl|rfl|rfl|rfl|rfl|rfl|rfl|rfl|rfl
 .exact⟨.inr ⟨rfl,by decide⟩,rfl,rfl⟩
 .exact⟨.inr ⟨rfl,by decide⟩,rfl,rfl⟩
 .exact⟨.inr ⟨rfl,by decide⟩,rfl,rfl⟩
 .exact⟨.inr ⟨rfl,by decide⟩,rfl,rfl⟩
 .exact⟨.inr ⟨rfl,by simp[PV.bb]⟩,rfl,rfl⟩
 .exact⟨.inr ⟨rfl,by simp[PV.bb]⟩,rfl,rfl⟩
 .exact⟨.inr ⟨rfl,by simp[PV.bb]⟩,rfl,rfl⟩
 .exact⟨.inr ⟨rfl,by simp[PV.bb,aK]⟩,rfl,rfl⟩
 .exact⟨.inl rfl,rfl,rfl⟩
 .exact⟨.inr ⟨rfl,by simp[PV.bb,aK]⟩,rfl,rfl⟩
 .exact⟨.inr ⟨rfl,by simp[PV.bb,aK]⟩,rfl,rfl⟩
 .exact⟨.inr ⟨rfl,by simp[PV.bb,aK]⟩,rfl,rfl⟩
 .exact⟨.inr ⟨h1,by lia⟩,rfl,by show(sy (iJ 30 t)&&true)=true;rw[dq];rfl⟩
 .exact⟨.inr ⟨by show(PV.de t&&true)=true;rw[h];rfl,by show max (PV.bb t) 0+1<=140;lia⟩,rfl,rfl⟩
 .exact⟨.inl rfl,rfl,rfl⟩
theorem Qt(h:cB l=true)(hd:aK l<=50)(hq:l.all sy=true):∀x∈yL (.tup l) l,V7 x:=λx hx=>by
 have hq':=AG.mp hq;have f:PV.de (.tup l)=true:=h;have fd:PV.bb (.tup l)=aK l+1:=rfl;have fL:=d8.mp h;have sub:∀m:O PV,(∀x∈m,x∈l)->cB m=true/\aK m<=50:=λm hm=>⟨d8.mpr λy hy=>fL y (hm y hy),kJ λy hy=>AI (by
  have:∀l:O PV,y∈l->PV.bb y<=aK l:=λl hl=>by
   induction l with
   |nil=>cases hl
   |cons a l ih=>
    rw[aK];rcases Aw.mp hl with rfl|hl
    .exact Nat.le_max_left _ _
    .exact AI (ih hl) (Nat.le_max_right _ _)
  exact this l (hm y hy)) hd⟩
 have ap:∀(a b:O PV),cB a=true->cB b=true->cB (a++b)=true:=λa b ha hb=>d8.mpr λy hy=>(AD.mp hy).elim (d8.mp ha y) (d8.mp hb y);have apd:∀(a b:O PV),aK (a++b)=max (aK a) (aK b):=λa b=>by
  induction a with
  |nil=>simp[aK]
  |cons x a ih=>rw[EG,aK,ih,aK,Nat.max_assoc]
 obtain⟨c1,c2⟩:=sub (bz l cr (bn (-1))) λx hx=>kQ hx;obtain⟨c3,c4⟩:=sub (bz l (bn (-1)) cr) λx hx=>kQ hx;unfold yL at hx;simp only[Aw,Bk,or_false]at hx;rcases hx with rfl|rfl|rfl|rfl|rfl|rfl
 .exact⟨.inr ⟨h,by show aK l+1<=140;lia⟩,rfl,rfl⟩
 .refine⟨.inr ⟨ap _ _ h rfl,?_⟩,rfl,?_⟩
  .show aK (l++[.az])+1<=140;rw[apd];have:aK [PV.az]=0:=rfl;lia
  .show(l++[PV.az]).all sy=true;rw[List.all_append,hq];rfl
 .exact⟨.inr ⟨by show(PV.de (.tup l)&&true)=true;rw[f];rfl,by show max (PV.bb (.tup l)) 0+1<=140;lia⟩,rfl,rfl⟩
 .exact⟨.inr ⟨by show(PV.de (.tup l)&&(PV.de (.tup l)&&true))=true;rw[f];rfl,by show max (PV.bb (.tup l)) (max (PV.bb (.tup l)) 0)+1<=140;lia⟩,rfl,rfl⟩
 .refine⟨.inr ⟨ap _ _ c1 (by show(cB (bz l (bn (-1)) cr)&&true)=true;rw[c3];rfl),?_⟩,rfl,?_⟩
  .show aK (bz l cr (bn (-1))++[.cl (bz l (bn (-1)) cr)])+1<=140;rw[apd];have:aK [PV.cl (bz l (bn (-1)) cr)]=max (aK (bz l (bn (-1)) cr)+1) 0:=rfl;lia
  .show(bz l cr (bn (-1))++[PV.cl (bz l (bn (-1)) cr)]).all sy=true;rw[List.all_append,AG.mpr λx hx=>hq' x (kQ hx)];rfl
 .exact⟨.inr ⟨rfl,by decide⟩,rfl,rfl⟩
def Gz(hm:∀x∈l,ax x=true)(h1:l≠[]):∀x∈pw (.tup l)++yL (.tup l) l,NoR P x:=λx hx=>by
 have nm:ax (.tup l)=false:=by
  cases l with
  |nil=>exact absurd rfl h1
  |cons a l=>
   obtain⟨_,_,rfl⟩:=a7 (hm a (.head _));rfl
 have lq:uU (.tup l)=true:=AG.mpr λx hx=>by obtain⟨_,_,rfl⟩:=a7 (hm x hx);rfl
 unfold pw yL at hx;simp only[AD,Aw,Bk,or_false]at hx;rcases hx with (rfl|rfl|rfl|rfl|rfl|rfl|rfl|rfl|rfl|rfl|rfl|rfl|rfl|rfl|rfl)|rfl|rfl|rfl|rfl|rfl|rfl
 .exact .inl ⟨rfl,rfl⟩
 .exact .inl ⟨rfl,rfl⟩
 .exact .inl ⟨rfl,rfl⟩
 .exact .inl ⟨rfl,rfl⟩
 .exact .inl ⟨rfl,rfl⟩
 .exact .inl ⟨rfl,rfl⟩
 .exact .inl ⟨rfl,rfl⟩
 .exact .inl ⟨rfl,rfl⟩
 .exact .inl ⟨rfl,rfl⟩
 .exact .inr ⟨_,rfl,.inl (by simp)⟩
 .exact .inr ⟨_,rfl,.inr ⟨by simp[uU,sy],.inl ⟨.az,.head _,rfl⟩⟩⟩
 .exact .inr ⟨_,rfl,.inr ⟨by simp[uU,sy],.inl ⟨.int 0,.head _,rfl⟩⟩⟩
 .exact .inr ⟨[iJ 30 (.tup l)],rfl,.inl (by simp)⟩
 .exact .inl ⟨rfl,rfl⟩
 .exact .inl ⟨rfl,rfl⟩
 .exact .inl ⟨rfl,rfl⟩
 .exact .inr ⟨_,rfl,.inr ⟨λe he=>by
   rcases AD.mp he with he|he
   .exact km (hm e he)
   .rw[Au.mp he];rfl,.inl ⟨.az,by simp,rfl⟩⟩⟩
 .exact .inr ⟨_,rfl,.inl (by simp)⟩
 .exact .inr ⟨_,rfl,.inr ⟨λe he=>by
   have:e=.tup l:=by simpa using he
   rw[this];exact lq,.inl ⟨.tup l,.head _,nm⟩⟩⟩
 .exact .inr ⟨_,rfl,.inr ⟨λe he=>by
   rcases AD.mp he with he|he
   .exact km (hm e (kQ he))
   .rw[Au.mp he];rfl,.inl ⟨.cl (bz l (bn (-1)) cr),by simp,rfl⟩⟩⟩
 .exact .inr ⟨_,rfl,.inl (by simp)⟩
end My
variable{p:PL.PV}
namespace My
theorem Hy(ds:O Int)(i j:Option Int):∃es:O Int,bz (ds.map PV.int) i j=es.map PV.int/\es.length<=ds.length:=by
 unfold bz;rw[<- List.map_drop,<- List.map_take];exact⟨_,rfl,by rw[Bb,Br];lia⟩
def FR(B:Int):PV->Option PV
 |.int c=>if B<=c then bn (.int c) else cr
 |_=>cr
theorem oS(B:Int):∀es:O Int,∃ms:O Int,(es.map PV.int).filterMap (FR B)=ms.map PV.int
 |[]=>⟨[],rfl⟩
 |c::es=>by
  obtain⟨ms,h⟩:=oS B es;rw[Bq,Bh,h];by_cases k:B<=c
  .exact⟨c::ms,by simp[FR,k]⟩
  .exact⟨ms,by simp[FR,k]⟩
theorem Gp{Q:O PV->Prop}(q:∀s:Int,Q [.hand,.int s,.int 0]):(eU (.cl (ns.map PV.int))).run Q:=by
 obtain⟨es,he,_⟩:=Hy ns cr (bn 63);have ep:∀i:Int,part (.int i)=.ret (bn i):=λi=>rfl;have p1:LB 10 30:=⟨by decide,by decide,by decide⟩;have p2:LB 10 18:=⟨by decide,by decide,by decide⟩;have m1:(0:Int)<10 ^ (30:Int).toNat:=by decide +kernel
 unfold eU;simp only[lm,gl,zQ,kK,nv,ep,lw,he];refine gR (λi s=>∃k:Int,s=.int k) ⟨_,rfl⟩ (λi x s hx hs=>?_) (λs hs=>?_)
 .obtain⟨k,rfl⟩:=hs;rw[Ap]at hx;cases e:es[i]? with
  |none=>rw[e]at hx;cases hx
  |some c=>
   rw[e]at hx;have:=Option.some.inj hx;subst this;simp only[lm,S3,sw (mulR (a:=k) (b:=999979) ∅),KJ,sw p1,S4,sw m1,kK,sw (show(0:Int)<2305843009213693951 by decide),lw];exact⟨_,rfl⟩
 .obtain⟨k,rfl⟩:=hs;refine zC (FR ((10:Int) ^ (18:Int).toNat)) (λx hx=>?_) ?_
  .obtain⟨c,hc,rfl⟩:=Bf.mp hx;simp only[lm,KJ,sw p2,Xu,df];by_cases h:(10:Int) ^ (18:Int).toNat<=c
   .rw[decide_eq_true h];show _=ci (if _ then _ else _);rw[if_pos h];rfl
   .rw[decide_eq_false h];show _=ci (if _ then _ else _);rw[if_neg h];rfl
  .have:=oS ((10:Int) ^ (18:Int).toNat) es;simp only[lm,W.rT,lw];exact⟨this,q k⟩
def aaa:Ip "house":=⟨by decide +kernel,a9 (by decide +kernel)⟩
def Z9:Ip "thing":=⟨by decide +kernel,a9 (by decide +kernel)⟩
def zp(f:PV->PV):bU l (λx=>ci (f x))=.ret (l.map f):=gJ λ_ _=>rfl
def K8(h:a<=l.length):bz l cr (bn (a:Int))=l.take a:=by
 unfold bz;rw[HT.kj,HT.m5,List.drop_zero,Fy,DK h]
def YG(p:PV):Prop:=FL.YF p/\uU p=true
def O9(h:V7 p):YG p:=⟨.inl h.1,h.2.2⟩
def V9{kd:Str}(h:V7 p):YG (.tup [.str kd,p]):=⟨.inr ⟨_,_,rfl,.inr ⟨rfl,by simp[PV.bb]⟩,h.1⟩,by show(sy p&&true)=true;rw[h.2.1];rfl⟩
def V8{nb:Int}(h:V7 p):YG (.tup [p,.int nb]):=⟨.inr ⟨_,_,rfl,h.1,.inr ⟨rfl,by simp[PV.bb]⟩⟩,by show(sy p&&true)=true;rw[h.2.1];rfl⟩
def lP(kd:Str)(nb:Int):O PV:=(pw (.tup [.str kd,.int nb])++yL (.tup [.str kd,.int nb]) [.str kd,.int nb])++(pw (.int nb)).map (λp=>.tup [.str kd,p])++(pw (.str kd)).map (λp=>.tup [p,.int nb])++[.tup [.str (wu kd),.int nb],.tup [.str kd,.int nb,.int 0]]
def Nn(kd:Str)(nb:Int):∀p∈lP kd nb,YG p:=λp hp=>by
 unfold lP at hp;rcases AD.mp hp with hp|hp
 .rcases AD.mp hp with hp|hp
  .rcases AD.mp hp with hp|hp
   .rcases AD.mp hp with hp|hp
    .exact O9 (wD rfl (by simp[PV.bb,aK]) rfl p hp)
    .exact O9 (Qt rfl (by simp[PV.bb,aK]) rfl p hp)
   .obtain⟨z,hz,rfl⟩:=Bf.mp hp;exact V9 (wD rfl (by simp[PV.bb]) rfl z hz)
  .obtain⟨z,hz,rfl⟩:=Bf.mp hp;exact V8 (wD rfl (by simp[PV.bb]) rfl z hz)
 .simp only[Aw,Bk,or_false]at hp;rcases hp with rfl|rfl
  .exact⟨.inl (.inr ⟨rfl,by simp[PV.bb,aK]⟩),rfl⟩
  .exact⟨.inl (.inr ⟨rfl,by simp[PV.bb,aK]⟩),rfl⟩
def Gj(r:O PV)(a:Nat)(x p:PV):Option PV:=if LU p x=true then cr else bn (.tup (r.take a++[p]++r.drop (a+1)))
theorem law66_ok(ns:O Int)(ï:ns.length<=63):(n9 (.cl (ns.map PV.int))).run (·=.bl true):=by
 have k1:∀(a b:PV) l,mQ (a::b::l) (.int 1)=.ret b:=λa b l=>bG (k:=1) rfl;unfold n9;simp only[lm,gl];refine Gp λsd=>?_;refine⟨⟨_,rfl⟩,?_⟩;simp only[gl,lw,lm,ja,sw (eY (i:=0) (j:=8) ∅ ∅)];refine Kx (n:=8) (λ_ _=>True) trivial (λi s hi _=>?_) (λs _=>?_)
 .simp only[gl,lw,lm];refine wN λb w0 w1 w2 w3 w4 s u t hs hr=>?_;obtain⟨C,nx,lv,kw,yW,hC⟩:=Wt (w0:=w0) (w1:=w1) (w2:=w2) (w3:=w3) (w4:=w4) hs hr;generalize (GT b w0 w1 w2 w3 w4)=g at kw yW;simp only[U3,gl,lw,lm];refine xA kw λr hR hl=>?_;have h2:=hR.two yW;have yes:=Ge kw hR h2 hl;simp only[bg,k1,gl,lw,lm,eX,d9 (show(0:Int)<r.length by lia) ∅];refine mD λa ha=>?_;have ha:a<r.length:=by lia
  obtain⟨x,hx,hm⟩:=hR.at ha;have ix:mQ r (.int (a:Int))=.ret x:=bG hx;obtain⟨kd,nb,e,up⟩:∃kd nb,x=.tup [.str kd,.int nb]/\Ip kd:=by
   obtain⟨i,e|e⟩:=hC x (hR.core yW x hm)
   .exact⟨_,_,e,aaa⟩
   .exact⟨_,_,e,Z9⟩
  subst e;have xm:ax (.tup [.str kd,.int nb])=true:=rfl;have rm:∀x∈r,ax x=true:=hR.mo;have Ý:∀l m:O PV,l.length<=200->m.length<=200->qc l m=.ret (l++m):=λl m h1 h2=>sw (a9 ∅);simp only[ix,pq,gl,lw,lm];refine nI (by simp) ?_;simp only[nv,lw];refine mi rfl rfl ?_;simp only[cO,lw,zp (λp=>.tup [.str kd,p])];rw[Ý _ _ (by simp[pw,yL]) (by simp[pw]),lw];refine mi rfl rfl ?_;simp only[cO,lw,zp (λp=>.tup [p,.int nb])];rw[Ý _ _ (by simp[pw,yL]) (by simp[pw]),lw];have eup:upW (.str kd)=.ret (.str (wu kd)):=sw up;rw[eup,lw];rw[Ý _ _ (by simp[pw,yL]) (by simp),lw];refine nI ∅ ?_;have eL:(pw (.tup [.str kd,.int nb])++yL (.tup [.str kd,.int nb]) [.str kd,.int nb])++(pw (.int nb)).map (λp=>.tup [.str kd,p])++(pw (.str kd)).map (λp=>.tup [p,.int nb])++[.tup [.str (wu kd),.int nb],.tup [.str kd,.int nb,.int 0]]=lP kd nb:=rfl;rw[eL];have ok:=Nn kd nb;have ll:(lP kd nb).length<=100:=by simp[lP,pw,yL]
  generalize lP kd nb=RU at ok ll;simp only[nv,lw,cO];generalize hX:PV.tup [.str kd,.int nb]=X at xm hx hm ix;refine zC (Gj r a X) (λp hp=>?_) ?_
  .have c1:bz r cr (bn (a:Int))=r.take a:=K8 ∅;have c2:bz r (bn ((a:Int)+1)) cr=r.drop (a+1):=by
    have:=md (l:=r) (a:=a+1) ∅
    rwa [show((a+1:Nat):Int)=(a:Int)+1 by lia]at this
   have a1:addW (.tup (r.take a)) (.tup [p])=.ret (.tup (r.take a++[p])):=sw (a9 (by rw[Bb];simp;lia));have a2:addW (.tup (r.take a++[p])) (.tup (r.drop (a+1)))=.ret (.tup (r.take a++[p]++r.drop (a+1))):=sw (a9 (by simp;lia));have en:of2 Jw p X=.ret (.bl (!LU p X)):=by rw[S2];exact sw ⟨(ok p hp).1,xm⟩
   simp only[en,lm,df,eW,jS,c1,kK,c2,a1,a2];unfold Gj;cases LU p X<;>rfl
  .have no:∀y∈(pw (.tup r)++yL (.tup r) r)++RU.filterMap (Gj r a X),NoR ((LL g t u).filter aV) y:=λy hy=>by
    rcases AD.mp hy with hy|hy
    .exact Gz rm hR.ne y hy
    .obtain⟨p,hp,e⟩:=Di.mp hy;unfold Gj at e
     split at e
     .cases e
     .rename_i uf;cases e;have o:=ok p hp;refine .inr ⟨_,rfl,.inr ⟨λz hz=>?_,?_⟩⟩
      .rcases AD.mp hz with hz|hz
       .rcases AD.mp hz with hz|hz
        .exact km (rm z (DC hz))
        .rw[Au.mp hz];exact o.2
       .exact km (rm z (Co hz))
      .cases c:ax p with
       |false=>exact .inl ⟨p,by simp,c⟩
       |true=>
        have ne:p≠X:=λe=>by
         apply uf;rw[e,<- hX,zT rfl,i7 rfl rfl];simp
        refine .inr ⟨λz hz=>?_,?_,hR.brk yW hx ne⟩
        .rcases AD.mp hz with hz|hz
         .rcases AD.mp hz with hz|hz
          .exact rm z (DC hz)
          .rw[Au.mp hz];exact c
         .exact rm z (Co hz)
        .simp;lia
   have fl:(RU.filterMap (Gj r a X)).length<=100:=AI (List.length_filterMap_le _ _) ll;rw[Ý _ _ (by simp[pw,yL]) ∅,lw];generalize (pw (.tup r)++yL (.tup r) r)++RU.filterMap (Gj r a X)=asked at no;refine W.le.use yes ?_;have i1:of2 eO (.bl true) (.bl true)=.ret (.bl false):=qY _ _;have i2:of2 eO (.bl false) (.bl false)=.ret (.bl false):=qY _ _;simp only[i1,lw,df,An,if_false,gl,lm,cO];have am:(bU asked λYy=>b2 eO (bq g.pv t.pv u.pv Yy) (ci (.bl false))).le (.ret (asked.map λ_=>.bl false)):=zr λy hy=>W.le.trans (W.le.ret (IL kw (no y hy)) (by simp only[lm,i2];exact W.le.refl _)) (W.le.refl _);refine W.le.use am ?_;have an:Ov (asked.map λ_=>PV.bl false)=.ret (.bl false):=by
    have:asked.map (λ_=>PV.bl false)=(asked.map λ_=>false).map PV.bl:=by rw[BV];rfl
    unfold Ov;rw[this,yp,lm];congr 2;rw[List.any_map,List.any_eq_false];intro _ _ h;cases h
   simp only[an,lw,eV,An,if_false,gl];refine W.le.use yes ?_;simp only[i1,lw,df,An,if_false,gl,lm]
 .simp only[LQ,lw,id]
section
local macro_rules | `(tactic| one_sign) => `(tactic| ((try dsimp only); first
 |with_reducible refine QX ?_
 |with_reducible refine Q3 ?_
 |with_reducible refine Mt ?_
 |((with_reducible refine QR (v:=?rdV) ?rdE ?_);case rdE=>exact rfl)
 |with_reducible refine aaE ?_
 |with_reducible refine Vu ?_
 |with_reducible refine acW ?_
 |with_reducible refine ac3 ?_
 |((with_reducible refine aaH ?rdC ?_);try (case rdC=>first|lia|exact⟨by lia,by lia⟩|exact Pd ∅ ∅ | exact mul_r ∅ ∅ | exact Ng ⟨by lia,by lia⟩ ⟨by lia,by lia⟩|exact⟨by decide,by decide,by decide⟩))
 |with_reducible refine Mw ?_
 |with_reducible refine QY ?_
 |with_reducible refine Mu ?_
 |with_reducible refine Q1 ?_
 |with_reducible refine Mr ?_
 |with_reducible refine acX ?_
 |with_reducible refine Q4 ?_
 |with_reducible refine acZ ?_
 |with_reducible refine aaB ?_
 |with_reducible refine Yx ?_
 |with_reducible refine aaA ?_
 |with_reducible refine Ys ?_
 |with_reducible refine ac1 ?_
 |with_reducible refine QZ ?_
 |with_reducible refine Mv ?_
 |with_reducible refine aax ?_
 |with_reducible refine Q0 ?_
 |with_reducible refine Yv ?_
 |with_reducible refine ac2 ?_
 |with_reducible refine aaD ?_
 |with_reducible refine aaC ?_
 |with_reducible refine Vy ?_
 |with_reducible refine aaF ?_
 |with_reducible refine Vx ?_
 |with_reducible refine QW ?_
 |with_reducible refine Vw ?_
 |with_reducible refine Ms ?_
 |with_reducible refine aaz ?_
 |with_reducible refine Yq ?_
 |with_reducible refine Yp ?_
 |with_reducible refine Vv ?_
 |with_reducible refine Yt ?_
 |with_reducible refine Yu ?_
 |with_reducible refine acY ?_
 |with_reducible refine Yr ?_
 |with_reducible refine TL ?_
 |with_reducible refine Vt ?_
 |with_reducible refine Yw ?_
 |with_reducible refine ac0 ?_
 |with_reducible refine aay ?_
 |with_reducible refine aaG ?_))
local macro_rules | `(tactic| one_item) => `(tactic| repeat (one_sign))
variable{a b:f8}
def Kp(a b:f8)(H H':Hp):Prop:=∀c o,c≠a->c≠b->H c=bn o->H' c=bn o
def Kp.trans(h:Kp a b H H1)(k:Kp a b H1 H2):Kp a b H H2:=λc o n m e=>k c o n m (h c o n m e)
def Kp.same(h:iL H H'):Kp a b H H':=λc o _ _ e=>h c o e
def Kp.xa(h:jI a H H'):Kp a b H H':=λc o n _ e=>h c o n e
def Kp.xb(h:jI b H H'):Kp a b H H':=λc o _ n e=>h c o n e
theorem vm{v:EV}(D:DI v cV):D.O:=by
 have nd:(zi (top 38)).Nodup:=by decide +kernel
 refine D.fn.ok (N:=zi (top 38)) Xd (λvs H Q E h=>?_) (λek A outer s H vs Q E hr h=>?_)
 .obtain⟨_,_,l,h,_⟩:=h;rw[h.len];rfl
 obtain⟨tb,j,l,h,q⟩:=h;cases h with
 | @p a _ _ vs ks l pt jm t=>
 cases t with
 | @v u x vs ks l r t=>
 cases t;obtain⟨j',ws,hj,ea,⟨b,sd,c,rfl,c0,c1⟩,hb⟩:=pt;have eb:di H b:=hb b (by simp);have q:(cz x).run _:=q;obtain⟨m,rfl⟩:∃m,x=.int m:=by
  cases x with
  |int m=>exact⟨m,rfl⟩
  |_=>exact q.elim
 cases r;obtain⟨⟨m0,m1⟩,q⟩:=q;have ab:a≠b:=λy=>by subst y;rw[show H a=_ from eb]at ea;cases ea
 have jm:j+1<=2 ^ 250:=jm;refine⟨_,lh.shown (c9 (uD A5 (PW.pt (Je (iP (nU v.K rfl hr.Iq) (eG (bJ v.K rfl) (pv 0) aW (λ_ _=>rfl)) (sf cf) (fg _)) (yZ (iP V1 (eG (bJ v.K rfl) (eG (bJ v.K rfl) (pv 0) aW (λ_ _=>rfl)) aW (λ_ _=>rfl)) aW (fg _))))) (m6 (m8 (sg v.K rfl BX EY EW JJ (eG (bJ v.K rfl) (pv 0) aW (λ_ _=>rfl)) (bo aW cf)))))
  (c9 (y6 (iP (nU v.K rfl hr.Iq) (eG (bJ v.K rfl) (pv 0) aW (λ_ _=>rfl)) (sf cf) (fg _)) (c9 (lA (i:=2) nd rfl (Ca rfl) (cH lE (eG (bJ v.K rfl) (eG (bJ v.K rfl) (pv 0) aW (λ_ _=>rfl)) aW (λ_ _=>rfl)) (pv 1)))
  (c9 (rY (cH sk (eG (bJ v.K rfl) (eG (bJ v.K rfl) (pv 0) aW (λ_ _=>rfl)) aW (λ_ _=>rfl)) (pv 1)) (wV (eG (bJ v.K rfl) (pv 0) aW (λ_ _=>rfl)) aW ly))
  (m6 (nP (pv 2))))) m7)
  (c9 (rY (cH (iT v.K rfl) (eG (bJ v.K rfl) (pv 0) aW (λ_ _=>rfl)) aW) (wV (pv 0) aW ly))
  (c9 (lA (i:=3) nd rfl (Ca rfl) (cH lE (cH iR (cH (iT v.K rfl) (cH (iT v.K rfl) (eG (bJ v.K rfl) (pv 0) aW (λ_ _=>rfl)) (cH iR (cH iR aW (eG (bJ v.K rfl) (pv 0) aW (λ_ _=>rfl))) (eG (bJ v.K rfl) (pv 0) aW (λ_ _=>rfl)))) aW) aW) aW))
  (c9 (lA (i:=3) nd rfl (Ca rfl) (cH lE (cH iR (pv 3) (cH (iT v.K rfl) (cH lE (pv 3) aW) (cH iR aW (eG (bJ v.K rfl) (pv 0) aW (λ_ _=>rfl))))) aW))
  (m6 (nP (cH lE (cH (iT v.K rfl) (cH sk (pv 3) aW) (cH sk (pv 3) aW)) (pv 1))))))))),?_⟩
 show ∃b,di H b/\∀ns:O Int,_;refine⟨b,eb,λns=>?_⟩;have fin:∀(d:Int) (H3:Hp) (sd' c':Int) (å:O Int),0<=d->d<m->0<=c'->c'<=((j+1:Nat):Int)->Kp a b H H3->H3 a=bn (.lst [.ref b,.int sd',.int c'])->H3 b=bn (.lst (å.map V.int))->(WY b {nx:=λ_ H'=>Q .az H',rt:=Q}).rt (.int d) H3:=λd H3 sd' c' å d0 d1 c2 c3 kp h1 h2=>by
  refine⟨å,h2,q _ ⟨d,rfl,d0,d1⟩ _ _ (abV tb ⟨_,ea⟩ eb (λx o n1 n2 h=>by rw[aw n2];exact kp x o n1 n2 h) (λx hx=>?_) (by rw[aw ab];exact h1) aM ab ⟨c2,c3⟩ λx ψ d ⟨i,p1,_⟩=>?_) (.int d)⟩
  .by_cases xb:x=b
   .subst xb;rw[aM]at hx;cases hx
   .rw[aw xb]at hx;by_cases xa:x=a
    .subst xa;rw[h1]at hx;cases hx
    .cases z:H x with
     |none=>rfl
     |some o=>rw[kp x o xa xb z]at hx;cases hx
  .cases i with
   |zero=>simp at p1
   |succ i=>simp at p1
 have k0:Kp a b H (upd H b (.lst (ns.map V.int))):=λx o nx xb hx=>by rw[aw xb];exact hx
 have a0:upd H b (.lst (ns.map V.int)) a=bn (.lst [.ref b,.int sd,.int c]):=by rw[aw ab];exact ea
 have b0:upd H b (.lst (ns.map V.int)) b=bn (.lst (ns.map V.int)):=aM;generalize upd H b (.lst (ns.map V.int))=H1 at k0 a0 b0;show _;refine⟨λk σ' H'=>σ'=[bn (.ref a),bn (.int m),cr,cr]/\Kp a b H H'/\H' a=bn (.lst [.ref b,.int sd,.int c])/\∃ns:O Int,H' b=bn (.lst (ns.map V.int))/\k=ns.length,⟨_,rfl,k0,a0,ns,b0,rfl⟩,?_⟩;rintro k σ' H2 ⟨rfl,k2,a2,ns2,b2,rfl⟩
 one_item
 refine cE (bO.of a2) rfl ?_
 one_item
 refine⟨A7 _,λp H3 s3 h3 n3=>?_⟩;have a3:=s3 _ _ a2;have b3:=s3 _ _ b2;have k3:=k2.trans (Kp.same s3);refine⟨b,p,ns2.map V.int,rfl,rfl,bO.of b3,bO.of h3,_,rfl,?_⟩;cases ns2 with
 |nil=>
  rw[if_neg ⋯,if_neg ⋯]
  one_item
  refine cE (bO.of a3) rfl ?_
  one_item
  refine⟨A7 _,λp' H4 s4 h4 n4=>?_⟩;have a4:=s4 _ _ a3;have b4:=s4 _ _ b3;have k4:=k3.trans (Kp.same s4);refine⟨b,p',[],rfl,rfl,bO.of b4,bO.of h4,?_⟩
  one_item
  rw[if_neg ⋯]
  one_item
  refine cE (bO.of a4) rfl ?_
  one_item
  refine yY a4 rfl λH5 x5 h5=>?_
  one_item
  refine cE (bO.of h5) rfl ?_
  one_item
  refine cE (bO.of h5) rfl ?_
  one_item
  refine cE (bO.of h5) rfl ?_
  one_item
  refine cE (bO.of h5) rfl ?_
  one_item
  exact fin _ H5 sd (c+1) [] (DM _ ∅) (Dj _ m0) ∅ ∅ (k4.trans (Kp.xa x5)) h5 (x5 _ _ ab.symm b4)
 |cons x r=>
  rw[if_pos (by rfl)]
  one_item
  refine cE (bO.of a3) rfl ?_
  one_item
  have Ă:kZ ((x::r).map V.int) 0=bn (.int x):=by simp[kZ,qR]
  refine cE (bO.of b3) Ă ?_
  one_item
  refine⟨rfl,_,rfl,?_⟩;rw[zZ];by_cases hx:x=0
  .subst hx;rw[if_pos (by rfl)];refine⟨λσ' H'=>σ'=[bn (.ref a),bn (.int m),cr,cr]/\Kp a b H H'/\H' a=bn (.lst [.ref b,.int sd,.int c])/\H' b=bn (.lst (r.map V.int)),?_,?_⟩
   .rintro σ' H' ⟨z1,z2,z3,z4⟩;exact⟨r.length,by simp,z1,z2,z3,r,z4,rfl⟩
   .one_item
    refine cE (bO.of a3) rfl ?_
    one_item
    refine⟨QU b3,?_⟩
    one_item
    obtain⟨i1,i2,i3,i4⟩:=sW (n:=((0::r).map V.int).length) (i:=0) (j:=0) (by simp[qR]);refine⟨b,_,0,0,_,rfl,rfl,b3,by decide,by decide,i1,rfl,rfl,k3.trans (Kp.xb (qz _)),?_,?_⟩
    .rw[aw ab];exact a3
    .exact aM
  .rw[if_neg (by simpa using hx)]
   one_item
   refine cE (bO.of a3) rfl ?_
   one_item
   refine⟨A7 _,λp' H4 s4 h4 n4=>?_⟩;have a4:=s4 _ _ a3;have b4:=s4 _ _ b3;have k4:=k3.trans (Kp.same s4);refine⟨b,p',_,rfl,rfl,bO.of b4,bO.of h4,?_⟩
   one_item
   rw[if_pos (by rfl)]
   one_item
   refine cE (bO.of a4) rfl ?_
   one_item
   refine cE (bO.of b4) Ă ?_
   one_item
   refine cE (bO.of a4) rfl ?_
   one_item
   refine cE (bO.of b4) Ă ?_
   one_item
   refine cE (bO.of a4) rfl ?_
   one_item
   refine yY b4 (j:=0) (by simp[qR]) λH5 x5 h5=>?_
   one_item
   exact fin _ H5 sd c ((x / m)::r) (DM _ ∅) (Dj _ m0) c0 ∅ (k4.trans (Kp.xb x5)) (x5 _ _ ab a4) h5
def all_d{K:Ab}(X:K.In h)(G:h.Ns gt mg)(xX:DX K "is_whole" (top 1))(K0:DX K "is_row" (top 2))(xW:DX K "parts_of" (top 4))(N9:DX K "nodes" (top 5))(K2:DX K "halves" (top 6))(ya:DX K "ahead_of" (top 7))(xZ:DX K "comes_in" (top 12))(Ht:DX K "done_at" (top 13))(K1:DX K "ins_of" (top 14))(Hs:DX K "gone_to" (top 15))(pS:DX K "ways_within" (top 16))(oX:DX K "house_moment" (top 20))(pU:DX K "node_moment" (top 21))(pW:DX K "house_pairs" (top 22))(pT:DX K "thing_pairs" (top 23))(pV:DX K "houses_held" (top 24))(tL:DX K "stay_pairs" (top 25))(Oa:DX K "links" (top 26))(tN:DX K "moments_of" (top 27))(K4:DX K "behind" (top 28))(KY:DX K "peeled" (top 29))(xY:DX K "dates_by" (top 30))(Ho:DX K "ring_in" (top 31))(Hr:DX K "in_time" (top 32))(vI:DX K "is_moment" (top 34))(tM:DX K "shows_ring" (top 35))(yb:DX K "_law_pot" (top 37))(vJ:DX K "_law_take" (top 38))(Hv:DX K "_law_of" (top 39))(pY:DX K "_law_turned" (top 40))(p9:DX K "_law_ringed" (top 41))(pZ:DX K "_law_things" (top 42))(dg:AY K gt "HOUSE"=bn (bn (.str "house" mZ)))(kT:AY K gt "FOUND"=bn (bn (.str "found" yO)))(kR:AY K gt "SPLIT"=bn (bn (.str "split" yN)))(fw:AY K gt "THING"=bn (bn (.str "thing" rO)))(o8:AY K gt "OVER"=bn (bn (.str "over" IA)))(rD:AY K gt "isinstance"=bn cr)(Qf:AY K gt "bool"=bn cr)(UB:AY K gt "int"=bn cr)(UA:AY K gt "len"=bn cr)(LY:AY K gt "tuple"=bn cr)(Uy:AY K gt "str"=bn cr)(Qe:AY K gt "list"=bn cr)(wj:AY K gt "reversed"=bn cr)(uj:AY K gt "enumerate"=bn cr)(LZ:AY K gt "range"=bn cr)(Ii:AY K gt "sorted"=bn cr)(Uz:AY K gt "set"=bn cr)(UD:AY K gt "all"=bn cr)(Ux:AY K gt "zip"=bn cr)(UC:AY K gt "any"=bn cr):Yj K mg P4:=by
 constructor
 rintro v rfl rfl D;have q:∀b,NB (v.at b):=λb=>⟨AQ X G rD,AQ X G Qf,AQ X G UB,AQ X G UA,AQ X G LY,AQ X G Uy,AQ X G Qe,AQ X G wj,AQ X G uj,AQ X G LZ,AQ X G Ii,AQ X G Uz,AQ X G UD,AQ X G Ux,AQ X G UC⟩;replace dg:=CM X G dg;replace kT:=CM X G kT;replace kR:=CM X G kR;replace fw:=CM X G fw;replace o8:=CM X G o8;have p:=q v.base;refine xX.go (d:=jU) X G (λD=>xt D p) λyA=>?_;refine K0.go (d:=o4) X G (λD=>JW D p) λLr=>?_;refine xW.go (d:=jT) X G (λD=>xr D p) λyz=>?_;refine N9.go (d:=gV) X G (λD=>ND D p yz) λk8=>?_;refine K2.go (d:=kN) X G (λD=>JY D p) λvY=>?_;refine ya.go (d:=jX) X G (λD=>xw D p k8 vY) λyD=>?_;refine xZ.go (d:=jW) X G (λD=>xv D) λyC=>?_;refine Ht.go (d:=jc) X G (λD=>GU D) λrA=>?_;refine K1.go (d:=o5) X G (λD=>JX D p yC) λLs=>?_;refine Hs.go (d:=l9) X G (λD=>GS D) λHL=>?_;refine pS.go (d:=dY) X G (λD=>pE D p) λjH=>?_;refine oX.go (d:=bN) X G (λD=>oD D p dg) λdh=>?_;refine pU.go (d:=cK) X G (λD=>pG D kT kR dg fw rA) λfX=>?_;refine pW.go (d:=fP) X G (λD=>pI D p dh) λqh=>?_;refine pT.go (d:=fM) X G (λD=>pF D p k8 vY fX) λqf=>?_;refine pV.go (d:=fN) X G (λD=>pH D o8 rA HL Ls) λqg=>?_;refine tL.go (d:=gT) X G (λD=>sR D fw fX qg dh) λtZ=>?_;refine Oa.go (d:=nA) X G (λD=>NF D p k8 yD jH qh qf tZ) λFW=>?_;refine tN.go (d:=gW) X G (λD=>sU D p k8 dh jH fX) λua=>?_;refine K4.go (d:=kO) X G (λD=>JZ D) λvZ=>?_;refine KY.go (d:=oZ) X G (λD=>JU D p vZ) λLq=>?_;refine xY.go (d:=jV) X G (λD=>xu D p dg k8 dh) λyB=>?_;refine Ho.go (d:=lY) X G (λD=>GQ D p vZ) λHJ=>?_;refine Hr.go (d:=lZ) X G (λD=>GR D FW Lq ua HJ yB) λHK=>?_;refine vI.go (d:=iK) X G (λD=>vk D p yA Lr) λvX=>?_;refine tM.go (d:=gU) X G (λD=>sS D p vX FW) λt4=>?_;refine yb.go (d:=jY) X G (λD=>xx D p) λyE=>?_;refine vJ.go (d:=cV) X G (λD=>vm D) λfB=>?_;refine Hv.go (d:=ma) X G (λD=>GV D p fB) λHM=>?_;refine pY.go (d:=fR) X G (λD=>jA D p fB 7) λqi=>?_;refine p9.go (d:=fV) X G (λD=>pK D p HM fB qi) λqk=>?_;refine pZ.go (d:=fU) X G (λD=>pJ D p) λqj=>?_;exact Wx D p yE qk HK fB qj t4
end
end My
end
open PySem PySem.W PyProof.Rows
structure PySem.W.Fast:Prop where(tw7008851825902887933 tw13054090629383667032 tw114811892064008560 tw12558711423072360071 tw16131851370184458199 tw17349076665201274919 tw1015565764137584176 tw2044596661552974268 tw4538418344171925979 tw1042254550829802265 tw11790167624275108695 tw7040006301225294919 tw4036457364050487944 tw3263118895865894416 tw13113692269291455001 tw12637306880013025391 tw8429417698328162660 tw2602397955371483926 tw2804809145089044376 tw11881012128670045326 tw15683943228185209377 tw14766787297859252583 tw11267802787179799954 tw9093795095786076745 tw9014606395145320552 tw4280434665043622513 tw5052367963181153559 tw9566838013515497341 tw12057656059444689430 tw9023131975561291386 tw7273637796291389337 tw13116718510671763979 tw7679472915053543692 tw8046227066662557930 tw12939977837419050668 tw14563052405685150040 tw12876543879718884649 tw16683588358175489389 tw11686396110540527004 tw4437822430945426280 tw3981059755624189992 tw4980338555514545637 tw12550335591162325797 tw250245630724744698 tw7050337035635373539 tw6620387799436791878 tw7634232921264702466 tw13470159761014538871 tw14518825841901958554 tw10504591127985357576 tw13587073012477280853 tw14819142562653108191 tw2838411049715204271 tw11625475612793180055 tw10277049430650427211 tw18074728214658642606 tw15036723127487282235 tw2809260518913679437 tw31819262140203440 tw7198235739298681146 tw16739660544788726410 tw17485069472981073583 tw1545906022103607926 tw8113190138778871065 tw11166835633846186312 tw14955247344060558348 tw1799856064108565149 tw7382932376607756112 tw8186632678613891039 tw9342588656594931477 tw13939581740251772098 tw9676934856167826444 tw9687058237517937690 tw4485086825419637615 tw13890531094203413675 tw15342075846914217705 tw9206430748010630511 tw15041266609171451969 tw17401706844464981968 tw8696305979702795973 tw8328514056703160688 tw16094097064101548188 tw10693396260517436028 tw3963716717879857141 tw6086144461111294403 tw2933237195081486666 tw2891101562239809992 tw16703295130200072468 tw11615589173124391664 tw13327535467317384510 tw16122007517616767578 tw6729874096904007260 tw14106347529946213226 tw2385025060207800047 tw4250538412055344868 tw8266310858770709908 tw12984915950038434169 tw7325748006996828685 tw2347921775569331854 tw7737880532426010989 tw12283136306471203266 tw14923225004559659703 tw11243879309222751828 tw9798882515164913698 tw10664775834023215238 tw17103019618225053611 tw15554440746258529147 tw10111869109574696630 tw6934895776848024113 tw9169035416429373792 tw11870752073030681749 tw18338775683623200201 tw14406716668227920894 tw12547948779762982918 tw8933660246035224712 tw8397167355210912754 tw16897797698022300982 tw1876142604332555168 tw17683992270384573532 tw1843179998889452604 tw12581491671636137562 tw12679052879373922746 tw1079400989117351555 tw12192642373147030885 tw4912403612620681250 tw9053873889056552173 tw15742111731928720806 tw12113494208857640050 tw6922753682426927327 tw14016284697130798143 tw13868153005018475134 tw17276694516881518077 tw4823967103028188679 tw13492936809516678945 tw12966626936890322641 tw15073449464166249252 tw15001374680619944604 tw17915148358613226929 tw136624196670148211 tw15038920853061509540 tw6078504365864833862 tw16965208643902424381 tw16244336090992169363 tw15152498907347424104 tw10438316707349013894 tw3945754563729780384 tw12057165729730450617 tw5581866377520683497 tw7147229287335604213 tw5200362713078547598 tw8176634542663656200 tw3581742017091332509 tw17685761877517270374 tw9391499834760153725 tw13005474816851594217 tw13199645519141602449 tw2142588743487803571 tw4482366452722631203 tw723484027807455899 tw3304320804031931894 tw15505574232267105723 tw4500694342211772379 tw15166107093541177390 tw17928756422964629819 tw10237575314813778166 tw5675094627130371736 tw13334596157891606675 tw7971026215161614774 tw772543285186311286 tw537152698975691504 tw1742392952605138022 tw4621253493562007135 tw15080748389719097009 tw5524312854833200231 tw175979599607957452 tw14547343398225313787 tw14744537657051035082 tw11670595660222439379 tw10409560668057073849 tw10060033452759632886 tw3894144116255097197 tw9933418932162902562 tw7003063515644307846 tw9469533785224121408 tw4608485010053999187 tw15283651671138366545 tw9167047015777676048 tw8889364550793981728 tw3679968384822531379 tw10417289174310918117 tw13629064264393452232 tw4163479878041754417 tw7342142912886359833 tw15124998640671241192 tw3361329293451119865:True)
def PySem.W.Fast.tw5307101315381369995:=PySem.Challenge.pw_treewithin_k66_rings_of_anything
theorem PySem.W.Fast.te5307101315381369995:PySem.Challenge.pw_treewithin_k66_rings_of_anything=PySem.W.Fast.tw5307101315381369995:=rfl
set_option maxRecDepth 100000 in
set_option maxHeartbeats 0 in
theorem PySem.Challenge.cw_treewithin_k66_rings_of_anything_holds : PySem.Challenge.rw_treewithin_k66_rings_of_anything.Holds := by
 w_on;o_law;k_head;(case hw=>w_witness2)
 k_fill
 refine FL.walkT (l:=PySem.Challenge.rw_treewithin_k66_rings_of_anything) (k:=10) rfl rfl ⟨rfl,by decide,by decide,rfl⟩ (fun w h Y=>⟨PySem.W.kIn_of Y,fun P hP=>(List.not_mem_nil hP).elim⟩) ?K ?C ?F
 case K=>
  intro w P hP;exact(List.not_mem_nil hP).elim
 case C=>
  intro w h hK P hP;exact(List.not_mem_nil hP).elim
 case F=>
  intro w mg fa h KX G hmg;refine' FL.mkAll (st:=My.top 43) (k:=10) My.law66_ok KX G hmg ?e (fun _ _ _ _ _ _=>FL.usN fun _=>rfl) (My.all_d KX G  ..)
  all_goals try first|(refine' FL.dx ?a ?l ?c ?k;(case a=>k_is);(case l=>k_is);(case c=>k_is);(case k=>k_is))|(refine' FL.cdx2 ?a ?m2 ?l ?c ?k ?m1 ?m3 ?m4 ?c1 ?c2 ?c3 ?c4 ?na;(case a=>k_is);(case m2=>k_is);(case l=>k_is);(case c=>k_is);(case k=>k_is);(case m1=>k_is);(case m3=>k_is);(case m4=>k_is);(case c1=>k_is);(case c2=>k_is);(case c3=>k_is);(case c4=>k_is);(case na=>(intro n hn;simp only[List.mem_cons,List.not_mem_nil,or_false]at hn;rcases hn with rfl;all_goals k_is)))|k_is
#print axioms PySem.Challenge.cw_treewithin_k66_rings_of_anything_holds
