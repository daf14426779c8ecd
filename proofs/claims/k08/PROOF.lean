import PyProof.Rows.All
import Wide.All
import OpenK.AllK
import Wide.FinOn
import Lean
import PyProof.EqAt
import PyProof.EqKinds
import PyProof.TupleCall
import PyProof.NeKinds
import PyProof.FactsAll.tuple_2
import PyProof.FactsAll.str_0
import PyProof.FactsAll.str_1
import PyProof.FactsAll.str_2
import PyProof.FactsAll.str_3
import PyProof.Rows.MinMaxN
import PyProof.Rows.SumAny
import PyProof.Rows.SetFrom
import PyProof.ReprRoads
import PyProof.Rows.StrKeys3
import PyProof.CallFns
import KE.KSortTup
import KE.KDictSum
import PyProof.Rows.CallKwBuiltin
import KE.KMinBuiltin
import KE.KDictList
import PySem.Challenge.RW_treewithin_k08_whole_trees_put_together
local macro_rules | `(tactic| omega) => `(tactic| lia)
open PySem.W renaming Frag -> Aa, nsIn -> AH, mg_none_of -> AI, findIn -> AO, kia_one -> AV, kitOne -> A6, keepIn -> A7, fnOf -> A9, emptyDict -> Bi, instObj -> BJ, codeIn -> BW, callWith_K -> Cd, plainGet -> Cw, mg_of -> CC, isFn -> CT, hasDictIn -> CU, envX -> CV, plainGet_of -> Dn, lookIn -> Dw, plainOver -> DL, methodObj -> DM, kitx_list -> DN, kitx_dict -> DP, cellsFrom_some -> D5, takerIn -> Ed, makesIn -> Ee, methodCall_KW -> Ei, tabObj -> En, kla_codeExpr -> Eo, kla_callFunE -> Ep, hideAll_size -> Er, hideAll_none -> Es, hideAll_get -> Ey, of_hideAll -> EB, kitx_tuple -> EC, callWith_F -> ED, FnAt -> EJ, handedIn -> ES
open List renaming length_append -> Ab, size_toArray -> Af, getElem?_eq_getElem -> Ag, getElem?_append_right -> Ah, getElem?_eq_some_iff -> Ai, getElem?_map -> Ak, length_map -> Al, getElem?_append_left -> An, replicate -> Aq, length_cons -> Av, mem_append_right -> Ax, append_assoc -> Ay, mem_cons -> AA, mem_of_getElem? -> AB, mem_cons_of_mem -> AE, mem_singleton -> AG, map_append -> AN, lookup_cons -> AW, mem_cons_self -> AZ, map_cons -> A1, flatMap_append -> A4, mem_append -> A5, drop_eq_getElem_cons -> A8, length_take -> Bb, length_singleton -> Bc, mem_append_left -> Bf, append_nil -> Bg, take_of_length_le -> Bh, eq_nil_of_length_eq_zero -> Bk, length_replicate -> Bl, mem_map -> Bn, getElem?_replicate -> Br, getElem?_take -> BD, any_cons -> BF, getElem?_of_mem -> BH, range -> BN, takeWhile_cons_of_neg -> B1, nodup_cons -> B3, length_reverse -> B6, filterMap_cons -> B7, take_succ -> Cb, getElem?_cons_succ -> Cc, length_set -> Cg, nodup_append -> Cp, takeWhile_cons_of_pos -> Ct, lookup -> Cu, getElem?_set_ne -> Cv, not_mem_nil -> Cz, length_drop -> CA, of_mem_zip -> CM, mem_filterMap -> CO, length -> CS, reverse_cons -> C0, map_map -> C1, replicate_append_replicate -> C2, getElem?_eq_none -> C3, mem_filter -> Dj, find?_cons -> Dk, any_append -> Dl, length_pos_iff -> Dq, mem_range -> DG, getD_eq_getElem?_getD -> DH, getElem?_zip_eq_some -> DK, not_lt -> DS, getElem_mem -> DZ, drop_length -> D1, countP_cons -> D2, all_eq_true -> D3, map_nil -> D9, getElem?_set_self -> Ea, drop_eq_nil_of_le -> Eb, forIn_cons -> Eh, contains_iff_mem -> El, reverse_append -> Ez
open PySem renaming wpAny_bind -> Ad, wpAny_pure -> Au, Addr -> AL, wpAny_Call_Name_kw -> AQ, mem_of_lookup -> AU, Value -> Be, wpAny_holding -> Bt, wpAny_truthy_bool -> Bu, Str -> Bv, wpAny_field -> Bw, wpAny_callSpecial?_slot -> BI, Expr -> BL, wpAny_mono -> BM, strKind -> BU, wpAny_passesOwn -> B2, wpAny_call_entry -> B9, wpAny_setField_rec -> Cf, Pos -> Ci, wpAny_newObj_type -> Co, wpAny_pyIter_enum -> CZ, wpAny_standAt -> C8, wpAny_of_eq -> De, wpAny_newFunctionEnv -> Df, wpAny_updateSeq -> Dh, wpAny_execs_nil -> Di, Shared -> Dt, boot_len -> DB, wpAny_seqItems -> DC, wpAny_pyIter_tuple -> DD, wpAny_letOwnedTupleGo_enum -> DE, wpAny_comprehension_free -> DU, Heap -> D8, wpAny_specialOf -> Eg, wpAny_listPart -> Ew, wpAny_rule -> EG, wpAny_call -> EH, Within -> EL, Obj -> EY
open PySem.Heap renaming get?_push_of_some -> Ae, lt_size -> Ao, get?_push_size -> Ap, size_push -> B8, get?_update_other -> Ce, get?_update_self -> Ck, SameBut -> Cy
open Nat renaming le_refl -> Aj, lt_of_lt_of_le -> Aw, ne_of_lt -> Az, lt_irrefl -> AY, le_trans -> Ba, zero_le -> Bj, lt_succ_self -> Bq, le_of_ble_eq_true -> Bx, zero_add -> BS, add_assoc -> BV, add_sub_cancel_left -> Ca, le_add_right -> C7, sub_self -> Du, le_of_lt -> Dv, lt_succ_of_lt -> DR, ne_of_gt -> EN, lt_or_ge -> EO, le_of_eq -> ER, le_succ -> EZ
open Bool renaming false_eq_true -> Am, false_ne_true -> AD, not_true -> A2, and_eq_true -> Bs, not_eq_true' -> Cq, eq_iff_iff -> Dm, and_false -> DJ, not_false -> Ex
open PySem.Str renaming length_append -> Ar, empty -> A3, cps_append -> Cs, length -> C5, ofString -> D6
open PySem.PassesOwn renaming never -> AJ
open False renaming elim -> AM
open PySem.Value renaming ref -> AR, type -> Cr, bool -> CN, none -> C4, int -> DV, str -> ET
open PySem.NameKind renaming free -> AX, cell -> EA
open PyProof.Rows renaming callWith_type1 -> Bd, callWith_builtin1 -> C6
open Or renaming inl -> Bm, inr -> BG
open PySem.F renaming called_set -> Bo, plainAttrs_list -> Bp, slot_tuple_iterator_next -> BX, slot_enumerate_next -> Cm, type_list_append -> CG, slot_list_append -> CH, args_tuple_add_2 -> CJ, entry_tuple_add -> CP, slot_tuple_add -> CW, args_list_extend_2 -> C9, args_tuple_iterator_next_1 -> Dg, entry_list_extend -> Dp, entry_tuple_iterator_next -> Ds, slot_list_extend -> Dz, args_enumerate_next_1 -> DW, entry_enumerate_next -> D7, type_list_pop -> Ej, slot_list_pop -> Ek
open True renaming intro -> Bz
open PySem.Challenge renaming pw_treewithin_k08_whole_trees_put_together -> BA
open PySem.AutoSeq1 renaming wpAny_loadPart' -> BC, sub_list_tuple -> Dc
open Int renaming emod_lt_of_pos -> BE, emod_nonneg -> BO, toNat_natCast -> B5, toNat_of_nonneg -> Dr, eq_ofNat_of_zero_le -> D4, zero_add -> Ec
open PySem.Obj renaming mapSeq -> BK
open PyProof.Rows.F renaming plain_set_update_loop -> BP, entry_set_update_loop -> CB
open Array renaming toList_append -> BQ, getElem?_toList -> Em
open Ne renaming symm -> BR
open PySem.Calls renaming spliced_cons -> BZ, spliced_nil -> Cn, callWith_builtin -> CY, Name_function_global -> DA, evalArgs_plain -> Et
open ForInStep renaming yield -> B4
open And renaming right -> Cj
open Option renaming map_some -> CK, getD_none -> DY, toList_some -> EI, isSome_map -> EM
open PySem.Around renaming frames_deeper -> Dd, under_plainId -> Eu
open PySem.SeqAt.RcNeAt renaming lists_lengths -> Dx, lists -> EE
open PySem.SeqAt renaming EqAt -> Dy
open PySem.EqBoolInt renaming of_rcne -> DQ, of_rc -> Ef
open PySem.SeqAt.RcAt renaming lists_lengths -> DT, lists -> EU
open PySem.Data renaming seq -> EK
open PySem.IsL renaming isList -> EW
open PySem.IntMulOk renaming of_bits -> EX
open Sum renaming inr -> E1, inl -> E2
set_option compiler.extract_closed false
set_option Elab.async false
set_option linter.all false
set_option maxRecDepth 100000
set_option maxHeartbeats 1000000
open Option renaming some→al,none→bn
open PyProof.Rows renaming boot_str→wv,envOfC→wS,joinParts_cons→CI,AllBare→FS
open PySem renaming Value→ce,Addr→db,Shared→eM,wpAny→ge,model→gl,mainGlobals→gt,starEach→ii,compareOp→im,Expr→jp,eval→lc,Heap→lm,bootBuiltins→nn,rawInt→o0,behindInMarks→pc,attributeBase→pi,swapsWith→pr,Program→re,Stmt→r6,holding→r9,binaryOp→sn,cLine→sB,World→sK,Around→tz,sysModules→up,sliceBounds→ut,Scope→u8,IntMulOk→wf,FuncData→wn,codeAny_mono→wp,NameKind→wE,scanBound→wP,assignEach→wT,PassesOwn→xz,swapsWithSole→xL,swappedStores→zn,codeAny_builtin→BT,assign→Ch,standAt→CD,codeAny→CF,builtinsNs→Da,bindArgs→Db,codeAmong→Ev,setItem→EQ,call_meets→Fa,backTo→Fk,Builtin→FM,letOwnedTupleGo→Gc
local macro_rules | `(∅)=>`(by omega)
local macro_rules | `(⋯)=>`(by decide)
open PySem PySem.Spec PyProof.Rows
abbrev O.{u}(α:Type u):=List α
namespace L2
end L2
namespace My
end My
namespace PL
end PL
namespace FL
end FL
open L2 My PL FL
namespace L2
abbrev Key:=Sum Int Str
def lZ:Key->ce->Bool
 | .inl k,v=>Value.isInt k v
 | .inr x,v=>Value.isStrOf x v
def O9(w:sK):Key->Int
 | .inl k=>hashInt k
 | .inr x=>hashStr w x
def br:∀{k:Key}{v:ce},lZ k v=true->(∃i t,k=E2 i/\v=DV i t)\/(∃x t,k=E1 x/\v=ET x t)
 | .inl i,v,h=>by
  obtain⟨t,e⟩:=Value.isInt_shape h;exact .inl ⟨i,t,rfl,e⟩
 | .inr x,v,h=>by
  obtain⟨t,e⟩:=Value.isStrOf_shape (v:=v) h;exact .inr ⟨x,t,rfl,e⟩
def uM(i:Int)(t:Tok):lZ (.inl i) (.int i t)=true:=by simp[lZ,Value.isInt]
def uL(x:Str)(t:Tok):lZ (.inr x) (.str x t)=true:=by simp[lZ,Value.isStrOf]
def Ig(a b:Int):decide ((E2 a:Key)=E2 b)=(a==b):=by
 by_cases e:a=b
 ·subst e;simp
 ·rw[decide_eq_false (λq=>e (E2.inj q))];exact(beq_eq_false_iff_ne.mpr e).symm
def Ib(a b:Str):decide ((E1 a:Key)=E1 b)=decide (a=b):=by
 by_cases e:a=b
 ·simp
 ·rw[decide_eq_false (λq=>e (E1.inj q)),decide_eq_false e]
def Ie(a:Int)(b:Str):decide ((E2 a:Key)=E1 b)=false:=decide_eq_false (λq=>nomatch q)
def Ic(a:Str)(b:Int):decide ((E1 a:Key)=E2 b)=false:=decide_eq_false (λq=>nomatch q)
def bR(prog:re)(w:sK):PySem.KeyKind prog w Key where
 is:=lZ
 hash:=O9 w
 inj:=λv a b ha hb=>by
  rcases br ha with⟨i,t,rfl,rfl⟩ | ⟨x,t,rfl,rfl⟩
  ·rcases br hb with⟨j,u,rfl,e⟩ | ⟨y,u,rfl,e⟩
   ·injection e with e1 _;rw[e1]
   ·exact nomatch e
  ·rcases br hb with⟨j,u,rfl,e⟩ | ⟨y,u,rfl,e⟩
   ·exact nomatch e
   ·injection e with e1 _;rw[e1]
 byValue:=λk v h=>by
  rcases br h with⟨i,t,rfl,rfl⟩ | ⟨x,t,rfl,rfl⟩ <;> rfl
 pyHash:=λhv h=>by
  rcases br hv with⟨i,t,rfl,rfl⟩ | ⟨x,t,rfl,rfl⟩
  ·exact wpAny_pyHash_int h
  ·exact wpAny_pyHash_str h
 eqBool:=λhu hv h=>by
  rcases br hu with⟨i,t,rfl,rfl⟩ | ⟨x,t,rfl,rfl⟩
  ·rcases br hv with⟨j,u,rfl,rfl⟩ | ⟨y,u,rfl,rfl⟩
   ·rw[Ig]at h;exact wpAny_eqBool_int h
   ·rw[Ie]at h;exact Dy.int_str i t y u _ _ _ _ h
  ·rcases br hv with⟨j,u,rfl,rfl⟩ | ⟨y,u,rfl,rfl⟩
   ·rw[Ic]at h;exact Dy.str_int x t j u _ _ _ _ h
   ·rw[Ib]at h;exact wpAny_eqBool_str h
 «strs»:=λk x t v h=>by
  rcases br h with⟨i,u,rfl,e⟩ | ⟨y,u,rfl,e⟩
  ·exact nomatch e
  ·injection e with e1 _;subst e1;cases v <;> rfl
def pe(prog:re)(w:sK)(i:Int)(t:Tok):(bR prog w).is (.inl i) (.int i t)=true:=uM i t
def o9(prog:re)(w:sK)(x:Str)(t:Tok):(bR prog w).is (.inr x) (.str x t)=true:=uL x t
end L2
variable{us:O Be}{u:Be}{a b e:AL}{P:PySem.Program}{w:PySem.World}{h h':D8}{α β:Type}
namespace L2
inductive V where
 | aB | bl (b:Bool) | int (i:Int) | str (x:Str) | tY (b:Array UInt8) | IK (b:UInt64) | ref (a:db) | ty (n:String)
 deriving DecidableEq
def RelV:V->ce->Prop
 | .aB,u=>u=C4
 | .bl b,u=>u=CN b
 | .int i,u=>∃t,u=DV i t
 | .str x,u=>∃t,u=ET x t
 | .tY b,u=>∃t,u=Value.bytes b t
 | .IK b,u=>∃t,u=Value.float b t
 | .ref a,u=>u=AR a
 | .ty n,u=>u=Cr n
abbrev Vals:O V->O ce->Prop:=Paired RelV
def Vals.length{xs:O V}(r:Vals xs us):xs.length=us.length:=Paired.length r
theorem Vals.get:∀{xs:O V}{us:O ce}{i:Nat}{x:V},Vals xs us->xs[i]?=al x->∃u,us[i]?=al u/\RelV x u
 | _,_,_,_,.nil,e=>by simp at e
 | _,_,0,_,.cons r _,e=>by simp at e;subst e;exact⟨_,rfl,r⟩
 | _,_,i+1,x,.cons _ t,e=>by
  obtain⟨u,h1,h2⟩:=Vals.get t (by simpa using e);exact⟨u,by simpa using h1,h2⟩
theorem Vals.set{x:V}(r:RelV x u):∀{xs:O V}{us:O ce} (i:Nat),Vals xs us->Vals (xs.set i x) (us.set i u)
 | _,_,_,.nil=>.nil
 | _,_,0,.cons _ t=>.cons r t
 | _,_,i+1,.cons q t=>.cons q (Vals.set r i t)
theorem Vals.append:∀{xs ys:O V}{us ws:O ce},Vals xs us->Vals ys ws->Vals (xs++ys) (us++ws)
 | _,_,_,_,.nil,s=>s
 | _,_,_,_,.cons r t,s=>.cons r (Vals.append t s)
theorem Vals.take:∀{xs:O V}{us:O ce} (n:Nat),Vals xs us->Vals (xs.take n) (us.take n)
 | _,_,0,_=>.nil
 | _,_,_+1,.nil=>.nil
 | _,_,n+1,.cons r t=>.cons r (Vals.take n t)
theorem Vals.drop:∀{xs:O V}{us:O ce} (n:Nat),Vals xs us->Vals (xs.drop n) (us.drop n)
 | _,_,0,r=>r
 | _,_,_+1,.nil=>.nil
 | _,_,n+1,.cons _ t=>Vals.drop n t
def jv:Option V->Option ce->Prop
 | some v,al u=>RelV v u
 | none,bn=>True
 | _,_=>False
def KV{κ:Type}:O (κ×V)->O (κ×ce)->Prop:=Paired λ(p:κ×V) (q:κ×ce)=>p.1=q.1/\RelV p.2 q.2
def kV:Key->V
 | .inl i=>.int i
 | .inr x=>.str x
inductive HO where
 | lst (xs:List V)
 | tup (xs:List V)
 | dK (aw:List (Key×V)) | dT (aw:List (List Key×V))
 | set (S:Int->Bool) (n:Nat)
 | ins (C dx:db) (fs:List (Str×V))
 | own (x:db)
 | xd (fs:List (Str×V))
 | met (f x:db)
 | OH (lo hi:Int)
 | dc (o:Obj) (u:HO)
 | jJ (ps:Array ce)
 | ext (φ:lm->Prop)
abbrev Hp:=db->Option HO
def upd(H:Hp)(a:db)(o:HO):Hp:=λb=>if b=a then al o else H b
def aF{H:Hp}{o:HO}:upd H a o a=al o:=by unfold upd;rw[if_pos rfl]
def ax{H:Hp}{o:HO}(h:b≠a):upd H a o b=H b:=by unfold upd;rw[if_neg h]
def o6{H:Hp}{o u:HO}(h:H a=al o)(h':H b=al u)(d:o≠u):a≠b:=by
 intro e;subst e;rw[h]at h';exact d (Option.some.inj h')
def aW{H:Hp}{o:HO}(h:H a=al o)(h':H b=bn):a≠b:=by
 intro e;subst e;rw[h]at h';cases h'
section
variable(P:re)(w:sK)
def bu(H:Hp)(h:lm)(a:db):HO->Prop
 | .lst xs=>xs.length<=sizeLine/\∃(ay:O ce) (n:Nat),Vals xs ay/\h.get? a=al {cls:=.type "list",data:=.seq ay.toArray n}
 | .tup xs=>xs.length<=sizeLine/\∃ay:O ce,Vals xs ay/\IsTup h a ay.toArray/\∃o,h.get? a=al o/\o.dict=bn
 | .dK aw=>aw.length<=sizeLine/\(a==up)=false/\∃vs,KV aw vs/\h.DictOf (bR P w) a vs
 | .dT aw=>aw.length<=sizeLine/\(a==up)=false/\∃xs:O (O Key×db×ce),
   Paired (λ(p:O Key×V) (q:O Key×db×ce)=>p.1=q.1/\H q.2.1=al (.tup (p.1.map kV))/\RelV p.2 q.2.2) aw xs/\
   ∃o es ep,h.get? a=al o/\o.ExactDict/\o.data=.dict es ep/\es.toList=xs.map (entryOfKey (tupleKind (bR P w)))/\(xs.map (·.1)).Nodup
 | .set S n=>h.SetOf (intKind P w) a S n
 | .ins C dx fs=>H dx=al (.own a)/\fs.length<=1000/\dx≠a/\h.get? a=al (BJ C dx)/\
   ∃mA,h.Ns1 dx mA/\(∀f,jv (fs.lookup f) (mA f))/\EL mA (fs.map (·.1))
 | .own _=>∃o,h.get? a=al o
 | .xd fs=>∃mA,h.Ns1 a mA/\∀f,jv (fs.lookup f) (mA f)
 | .OH lo hi=>∃t u v,h.get? a=al {cls:=.type "range",data:=.fields #[.int lo t,.int hi u,.int 1 v]}
 | .dc o u=>h.get? a=al o/\bu H h a u
 | .jJ ps=>h.get? a=al {cls:=.none,data:=.fields ps}
 | .met f x=>h.get? a=al (DM (.ref f) (.ref x))
 | .ext φ=>φ h/\(∃o,h.get? a=al o)/\∀h1 h2:lm,φ h1->(∀o,h1.get? a=al o->h2.get? a=al o)->φ h2
def iA(H:Hp)(h:lm):Prop:=∀a o,H a=al o->bu P w H h a o
end
section
variable{H H':Hp}{o:HO}
def bu.lt(x:bu P w H h a o):a < h.objs.size:=by
 cases o with
 | lst xs=>obtain⟨_,_,_,_,e⟩:=x;exact Ao e
 | tup xs=>obtain⟨_,_,_,p,_⟩:=x;exact p.lt
 | dK aw=>obtain⟨_,_,_,_,o,_,_,e,_⟩:=x;exact Ao e
 | dT aw=>obtain⟨_,_,_,_,o,_,_,e,_⟩:=x;exact Ao e
 | set S n=>obtain⟨o,_,_,_,e,_⟩:=x;exact Ao e
 | ins C dx fs=>obtain⟨_,_,_,e,_⟩:=x;exact Ao e
 | own y=>obtain⟨_,e⟩:=x;exact Ao e
 | xd fs=>obtain⟨_,⟨_,_,_,e,_⟩,_⟩:=x;exact Ao e
 | OH lo hi=>obtain⟨_,_,_,e⟩:=x;exact Ao e
 | dc ob u=>obtain⟨e,_⟩:=x;exact Ao e
 | jJ ps=>exact Ao (x)
 | met f y=>exact Ao (show h.get? a=al _ from x)
 | ext φ=>obtain⟨_,⟨_,e⟩,_⟩:=x;exact Ao e
theorem Paired.HU{F G:α->β->Prop}:∀{l₁:List α}{l₂:List β},Paired F l₁ l₂->(∀a b,F a b->G a b)->Paired G l₁ l₂
 | _,_,.nil,_=>.nil
 | _,_,.cons r t,f=>.cons (f _ _ r) (Paired.HU t f)
def bu.oI(x:bu P w H h a o)(k:∀b u,(b=a\/H b=al (.own a))->h.get? b=al u->h'.get? b=al u)
  (ho:∀b,H b=al (.own a)->H' b=al (.own a)) (ht:∀b xs,H b=al (.tup xs)->H' b=al (.tup xs)):bu P w H' h' a o:=by
 induction o with
 | lst xs=>obtain⟨z,ay,n,r,e⟩:=x;exact⟨z,ay,n,r,k _ _ (.inl rfl) e⟩
 | tup xs=>obtain⟨z,ay,r,⟨ob,e,c⟩,od,e2,d⟩:=x;exact⟨z,ay,r,⟨ob,k _ _ (.inl rfl) e,c⟩,od,k _ _ (.inl rfl) e2,d⟩
 | dK aw=>obtain⟨z,y,vs,r,ob,es,ep,e,c⟩:=x;exact⟨z,y,vs,r,ob,es,ep,k _ _ (.inl rfl) e,c⟩
 | dT aw=>
  obtain⟨z,y,xs,r,ob,es,ep,e,c⟩:=x;exact⟨z,y,xs,Paired.HU r λp q z=>⟨z.1,ht _ _ z.2.1,z.2.2⟩,ob,es,ep,k _ _ (.inl rfl) e,c⟩
 | set S n=>obtain⟨ob,es,ep,t,e,c⟩:=x;exact⟨ob,es,ep,t,k _ _ (.inl rfl) e,c⟩
 | ins C dx fs=>
  obtain⟨d,z,ne,e,mA,⟨od,es,ep,e2,c⟩,r⟩:=x;exact⟨ho _ d,z,ne,k _ _ (.inl rfl) e,mA,⟨od,es,ep,k _ _ (.inr d) e2,c⟩,r⟩
 | own y=>obtain⟨ob,e⟩:=x;exact⟨ob,k _ _ (.inl rfl) e⟩
 | xd fs=>obtain⟨mA,⟨od,es,ep,e,c⟩,r⟩:=x;exact⟨mA,⟨od,es,ep,k _ _ (.inl rfl) e,c⟩,r⟩
 | OH lo hi=>obtain⟨t,u,v,e⟩:=x;exact⟨t,u,v,k _ _ (.inl rfl) e⟩
 | dc ob u ih=>obtain⟨e,q⟩:=x;exact⟨k _ _ (.inl rfl) e,ih q⟩
 | jJ ps=>
  have e:h.get? a=al {cls:=.none,data:=.fields ps}:=x;show h'.get? a=al {cls:=.none,data:=.fields ps};exact k a _ (.inl rfl) e
 | met f y=>
  have e:h.get? a=al (DM (.ref f) (.ref y)):=x;show h'.get? a=al (DM (.ref f) (.ref y));exact k a _ (.inl rfl) e
 | ext φ=>obtain⟨p,⟨o,e⟩,st⟩:=x;exact⟨st _ _ p λo q=>k _ _ (.inl rfl) q,⟨o,k _ _ (.inl rfl) e⟩,st⟩
def iA.lt(x:iA P w H h)(e:H a=al o):a < h.objs.size:=(x a o e).lt
def iA.fresh(x:iA P w H h)(e:h.objs.size<=a):H a=bn:=by
 cases q:H a with
 | none=>rfl
 | some u=>exact absurd (Aw (x.lt q) e) (AY _)
def iA.kept(x:iA P w H h)(k:∀b u,h.get? b=al u->h'.get? b=al u):iA P w H h':=λa o e=>
 (x a o e).oI (λb u _ q=>k b u q) (λ_ q=>q) λ_ _ q=>q
def iA.laid(x:iA P w H h)(k:∀b u,h.get? b=al u->h'.get? b=al u)(hp:h.objs.size<=a)(new:bu P w (upd H a o) h' a o):iA P w (upd H a o) h':=λb u e=>by
 have hn:=x.fresh hp;by_cases hb:b=a
 ·subst hb;rw[aF]at e;cases e;exact new
 ·rw[ax hb]at e;exact(x b u e).oI (λc v _ q=>k c v q) (λc q=>by rw[ax (aW q hn)];exact q) λc xs q=>by rw[ax (aW q hn)];exact q
end
def Rd(H:Hp)(a:db)(u:HO):Prop:=H a=al u\/∃o,H a=al (.dc o u)
def Rd.ok{H:Hp}{u:HO}(r:Rd H a u)(x:iA P w H h):bu P w H h a u:=by
 rcases r with r | ⟨o,r⟩
 ·exact x a u r
 ·obtain⟨_,q⟩:=x a _ r;exact q
def MK:Option HO->Prop
 | some (.lst _)=>True
 | some (.dK _)=>True
 | some (.dT _)=>True
 | some (.set _ _)=>True
 | some (.ins _ _ _)=>True
 | some (.ext _)=>True
 | _=>False
section
variable{H:Hp}{x:db}{o':HO}
def iA.write(ok:iA P w H h)(mu:MK (H x))(he:e=x\/H e=al (.own x))(k:∀b u,b≠e->h.get? b=al u->h'.get? b=al u)(JJ:∃u,h'.get? e=al u)
  (new:bu P w (upd H x o') h' x o'):iA P w (upd H x o') h':=λb u q=>by
 have zZ:∀c y,H c=al (.own y)->c≠x:=λc y r z=>by subst z;rw[r]at mu;exact mu
 have OZ:∀c xs,H c=al (.tup xs)->c≠x:=λc xs r z=>by subst z;rw[r]at mu;exact mu
 by_cases hb:b=x
 ·subst hb;rw[aF]at q;cases q;exact new
 ·rw[ax hb]at q;by_cases IH:b=e
  ·have q':H b=al (.own x):=by
    rcases he with z | z
    ·exact absurd (IH.trans z) hb
    ·rw[IH];exact z
   rw[q]at q';cases q';obtain⟨v,hv⟩:=JJ;exact⟨v,by rw[IH];exact hv⟩
  ·refine(ok b u q).oI (λc v hc r=>k c v ?_ r) (λc r=>by rw[ax (zZ c b r)];exact r) λc xs r=>by rw[ax (OZ c xs r)];exact r
   rcases hc with rfl | hc
   ·exact IH
   ·rintro rfl;rcases he with z | z
    ·exact zZ c b hc z
    ·rw[hc]at z;cases z;exact hb rfl
end
structure Un(fs ex:List db)(H H':Hp)(h h':lm):Prop where
 keep:∀b o,h.get? b=al o->H b=bn->b∉fs->b∉ex->h'.get? b=al o
 slot:∀b o,h.get? b=al o->H b=bn->b∈fs->b∉ex->∃sl,h'.get? b=al {o with slots:=sl}
 free:∀b o,h.get? b=al o->H b=bn->b∉ex->H' b=bn
 there:∀b o,h.get? b=al o->b∉ex->∃o',h'.get? b=al o'
 cu:∀b xs,H b=al (.tup xs)->H' b=al (.tup xs)
 nG:∀b o u,H b=al (.dc o u)->H' b=al (.dc o u)
 mE:∀b ps,H b=al (.jJ ps)->∃more,H' b=al (.jJ (ps++more))
section
variable{fs ex:O db}{H H1:Hp}{h1:lm}{x:db}{o:HO}
def Un.any(u:Un fs ex H H1 h h1){ob:Obj}(q:h.get? b=al ob)(n:H b=bn)(hx:b∉ex):∃sl,h1.get? b=al {ob with slots:=sl}:=by
 by_cases hb:b∈fs
 ·exact u.slot b ob q n hb hx
 ·exact⟨ob.slots,u.keep b ob q n hb hx⟩
def Un.kept(k:∀b u,h.get? b=al u->h'.get? b=al u):Un fs ex H H h h':=
 ⟨λb ob q _ _ _=>k b ob q,λb ob q _ _ _=>⟨ob.slots,k b ob q⟩,λ_ _ _ n _=>n,λb ob q _=>⟨ob,k b ob q⟩,λ_ _ q=>q,λ_ _ _ q=>q,λ_ ps q=>⟨#[],by rw[q];simp⟩⟩
def Un.refl:Un fs ex H H h h:=Un.kept λ_ _ q=>q
def Un.laid(k:∀b u,h.get? b=al u->h'.get? b=al u)(hp:h.objs.size<=a)(hn:H a=bn):Un fs ex H (upd H a o) h h' where
 keep:=λb u q _ _ _=>k b u q
 slot:=λb u q _ _ _=>⟨u.slots,k b u q⟩
 free:=λb u q n _=>by rw[ax (Az (Aw (Ao q) hp))];exact n
 there:=λb u q _=>⟨u,k b u q⟩
 cu:=λb xs q=>by rw[ax (aW q hn)];exact q
 nG:=λb u xs q=>by rw[ax (aW q hn)];exact q
 mE:=λb ps q=>⟨#[],by rw[ax (aW q hn),q];simp⟩
def Un.write(mu:MK (H x))(he:e=x\/H e=al (.own x))(k:∀b u,b≠e->h.get? b=al u->h'.get? b=al u)(JJ:∃u,h'.get? e=al u):Un fs ex H (upd H x o) h h':=by
 have hx:∀b,H b=bn->b≠x:=λb n z=>by subst z;rw[n]at mu;exact mu
 have hb:∀b,H b=bn->b≠e:=λb n z=>by
  subst z;rcases he with r | r
  ·exact hx b n r
  ·rw[n]at r;cases r
 have hm:∀b u,H b=al u->¬MK (al u)->b≠x:=λb u q nm z=>by subst z;rw[q]at mu;exact nm mu
 refine⟨λb u q n _ _=>k b u (hb b n) q,λb u q n _ _=>⟨u.slots,k b u (hb b n) q⟩,λb u q n _=>by rw[ax (hx b n)];exact n,λb u q _=>?_,
  λb xs q=>by rw[ax (hm b _ q λz=>z)];exact q,λb u xs q=>by rw[ax (hm b _ q λz=>z)];exact q,λb ps q=>⟨#[],by rw[ax (hm b _ q λz=>z),q];simp⟩⟩
 by_cases IH:b=e
 ·subst IH;exact JJ
 ·exact⟨u,k b u IH q⟩
end
def Od(h:lm)(H:Hp):O db:=(BN h.objs.size).filter λa=>(H a).isSome
def nq(h:lm)(H:Hp):lm:=PySem.W.hideAll h (Od h H)
def uS(h:lm)(H:Hp):(nq h H).objs.size=h.objs.size:=Er _ _
def xG{H:Hp}{o:Obj}(e:h.get? b=al o)(n:H b=bn):(nq h H).get? b=al o:=
 Ey _ e λhm=>by
  have q:=(Dj.mp hm).2;rw[n]at q;simp at q
def zS{H:Hp}{o:Obj}(e:(nq h H).get? b=al o):h.get? b=al o/\H b=bn:=by
 have e':=EB (Od h H) e;refine⟨e',?_⟩;cases q:H b with
 | none=>rfl
 | some x=>
  have z:(nq h H).get? b=bn:=Es (Od h H) (Dj.mpr ⟨DG.mpr (Ao e'),by simp[q]⟩);rw[z]at e;cases e
def FW(g h:lm)(L:db):O (db×Obj):=(BN h.objs.size).filterMap λa=>if a=L\/(g.get? a).isSome=true then bn else (h.get? a).map λo=>(a,o)
def rest(g h:lm)(L d:db):O (db×Obj):=(FW g h L).filter λp=>decide (p.1≠d)
end L2
variable{H H':L2.Hp}{o:EY}{U:O (AL×EY)}{g':Array PySem.GenState}{ch:O AL}{it:AL}{i j:Nat}{M:PySem.Model}{A:PySem.Around}{E:Be->Dt->Prop}{v:L2.V}{Q:Unit->Dt->Prop}{s':Dt}
namespace L2
structure Mod(K:Aa)(mg:Str->Option ce)(base:lm):Prop where
 E9:K.In base
 glob:base.Ns gt mg
 blt:∃mb,base.Ns Da mb/\∀x:Str,x≠"__name__"->mb x=nn x
 nolimit:base.NoLimit
 bm:∃bm ob,mg "__builtins__"=al (.ref bm)/\bm≠Da/\base.get? bm=al ob/\ob.cls=.type "module"/\ob.dict=al Da/\ob.data=.plain
structure Cx where
 prog:re
 w:sK
 K:Aa
 mg:Str->Option ce
 base:lm
 A:tz
 N:List Str
 s₀:eM
 H₀:Hp
 env:Env
 outer:List Env
 stack:List Env
 ex:List db
 fn:Str->Bool
 calm:Bool
 pn:List (db×Obj)
 xe:ce->eM->Prop
abbrev eJ(x:Str):Prop:=(x==("__debug__":Str))=false
abbrev qo(x:Str):Prop:=(x==("__classdict__":Str))=false
abbrev dA(X:Cx)(e:jp)(es:O jp):Prop:=ii (e::es) X.env=(false,lc e X.env)::ii es X.env
abbrev fF(X:Cx)(p:Pos)(es:O jp):Prop:=(Fk p (ii es X.env)).any (·.1)=false
abbrev sD(X:Cx)(e:jp):Prop:=∀x,foldedSetIterable e X.env x=pure x
abbrev JW(X:Cx)(p:Pos)(l:O jp):Prop:=((Fk p (ii l X.env)).all (λx=>!x.1)&&(backToKw p (keywordEach [] X.env)).all (λx=>x.1.isSome)&&decide (l.length+([]:O Keyword).length+(if ([]:O Keyword).isEmpty then 0 else 1) < 30))=true
abbrev F4(p q:Pos):Prop:=(p.endLine==q.line)=true
abbrev yR(X:Cx)(y:Str):Prop:=X.fn y=true\/X.env.scope.names.lookup y=al .local
def frs(l:O Env):O db:=l.filterMap (·.frame)
abbrev Cx.fs(X:Cx):O db:=frs X.outer
def qa(sc:u8)(x:Str):Prop:=sc.names.lookup x=al .local\/sc.names.lookup x=al .cell\/sc.names.lookup x=al .free
def Loc(sc:u8)(x:Str):Prop:=sc.names.lookup x=al .local\/sc.names.lookup x=al .cell
def Look(env:Env)(h:lm)(m:Str->Option ce)(x:Str)(u:ce):Prop:=
 (env.kindOf x=al .local/\m x=al u)\/((env.kindOf x=al .cell\/env.kindOf x=al .free)/\∃c,env.cells.lookup x=al c/\h.IsCell c (al u))
structure Cx.Ok(X:Cx):Prop where
 mod:Mod X.K X.mg X.base
 kind:X.env.scope.kind=.function
 glob:X.env.globals=gt
 blt:X.env.builtins=Da
 above:X.s₀.heap.objs.size<=X.env.locals
 inj:∀x y c,X.env.cells.lookup x=al c->X.env.cells.lookup y=al c->x=y
 has:∀x,(X.env.kindOf x=al .cell\/X.env.kindOf x=al .free)->∃c,X.env.cells.lookup x=al c
 JS:∀x c,X.fn x=true->X.env.cells.lookup x=al c->X.s₀.heap.objs.size<=c
 hd:X.calm=true->X.A.handled=bn
 frames:X.A.frames=al X.stack
 MZ:X.stack=X.outer\/(X.stack=X.env::X.outer/\X.env.frame=al X.env.locals)
 RB:∀b∈X.ex,b≠X.env.locals/\∀x c,X.env.cells.lookup x=al c->c≠b
 bs:∀b o,X.base.get? b=al o->X.s₀.heap.get? b=al o/\X.H₀ b=bn
 yD:X.base.objs.size<=X.s₀.heap.objs.size
 xg:∀b o,X.base.get? b=al o->b∉X.ex
 xX:∀b∈X.ex,b∉X.fs
 gA:X.s₀.heap.FunFrames X.base X.outer
 y6:∀b∈X.fs,X.H₀ b=bn
structure Inv(X:Cx)(U:List (db×Obj))(σ:List (Option V))(H:Hp)(s:eM):Prop where
 ok:X.Ok
 os:s.os=X.s₀.os
 bare:FS s.gens
 base:Un X.fs X.ex X.H₀ H X.s₀.heap s.heap
 loc:∃m,s.heap.Ns X.env.locals m/\∀(i:Nat) (x:Str) (v:V),X.N[i]?=al x->σ[i]?=al (al v)->qa X.env.scope x->∃u,RelV v u/\Look X.env s.heap m x u
 cell:∀x c,X.env.cells.lookup x=al c->∃v,s.heap.IsCell c v
 free:H X.env.locals=bn
 gB:∀x c,X.env.cells.lookup x=al c->H c=bn
 pin:∀p∈X.pn++U,s.heap.get? p.1=al p.2/\H p.1=bn/\p.1≠X.env.locals/\p.1∉X.fs/\∀v,p.2.data≠.cell v
 aV:iA X.prog X.w H s.heap
 len:σ.length=X.N.length
section
variable{X:Cx}{σ:O (Option V)}{s:eM}
def Cx.Ok.O1(ok:X.Ok)(e:X.base.get? b=al o):b∉X.fs:=λhb=>by
 have:=(ok.gA.mem hb).1;rw[e]at this;cases this
def Inv.bs(I:Inv X U σ H s):∀b o,X.base.get? b=al o->s.heap.get? b=al o/\H b=bn:=λb o e=>
 ⟨I.base.keep b o (I.ok.bs b o e).1 (I.ok.bs b o e).2 (I.ok.O1 e) (I.ok.xg b o e),I.base.free b o (I.ok.bs b o e).1 (I.ok.bs b o e).2 (I.ok.xg b o e)⟩
def Inv.bk(I:Inv X U σ H s):∀b o,X.base.get? b=al o->s.heap.get? b=al o:=λb o e=>(I.bs b o e).1
def Inv.mod(I:Inv X U σ H s):Mod X.K X.mg X.base:=I.ok.mod
def Inv.gL(I:Inv X U σ H s):X.K.In s.heap:=I.ok.mod.E9.keeps I.bk
def Inv.lt(I:Inv X U σ H s):X.env.locals < s.heap.objs.size:=let ⟨_,hn,_⟩:=I.loc;hn.lt
def Inv.sz(I:Inv X U σ H s):X.s₀.heap.objs.size<=s.heap.objs.size:=Ba I.ok.above (Dv I.lt)
def Inv.O0(I:Inv X U σ H s)(h:s.heap.objs.size<=a):a∉X.fs:=λhb=>by
 obtain⟨_,o,ho,_⟩:=I.ok.gA.mem hb;exact absurd (Aw (Ao ho) (Ba I.sz h)) (AY _)
def Inv.GK(I:Inv X U σ H s):∀x c,X.env.cells.lookup x=al c->c≠X.env.locals:=λx c e z=>by
 obtain⟨v,o,ho,hd⟩:=I.cell x c e;obtain⟨m,⟨o',es,ep,Fm,PF,_⟩,_⟩:=I.loc;rw[z,Fm]at ho;cases ho;rw[PF]at hd;cases hd
def Inv.gA(I:Inv X U σ H s):s.heap.FunFrames X.base X.outer:=by
 have all:∀l,(∀b∈frs l,b∈X.fs)->X.s₀.heap.FunFrames X.base l->s.heap.FunFrames X.base l:=by
  intro l
  induction l with
  | nil=>intro _ _;trivial
  | cons env r ih=>
   intro hs hl;obtain⟨hk,⟨L,o,hf,hn,ho,hd⟩,hr⟩:=hl;have hL:=hs L (by unfold frs;rw[B7,hf];exact AZ);obtain⟨sl,e⟩:=I.base.slot L o ho (I.ok.y6 L hL) hL λz=>I.ok.xX L z hL;exact⟨hk,⟨L,_,hf,hn,e,hd⟩,ih (λb hb=>hs b (by unfold frs;rw[B7,hf];exact AE _ hb)) hr⟩
 exact all X.outer (λ_ hb=>hb) I.ok.gA
def Inv.stack(I:Inv X U σ H s):s.heap.FunFrames X.base X.stack:=by
 rcases I.ok.MZ with e | ⟨e,hf⟩
 ·rw[e];exact I.gA
 ·rw[e];obtain⟨m,hn,_⟩:=I.loc;refine .cons (by rw[I.ok.kind];decide) hf hn ?_ I.gA;exact Heap.get?_none_of_le (Ba I.ok.yD I.ok.above)
def Inv.mG(I:Inv X U σ H s):∀b∈frs X.stack,b∈X.env.locals::X.fs:=λb hb=>by
 rcases I.ok.MZ with e | ⟨e,hf⟩
 ·rw[e]at hb;exact AE _ hb
 ·rw[e]at hb;unfold frs at hb;rw[B7,hf]at hb;exact hb
def Inv.sQ(I:Inv X U σ H s):∀b∈frs X.stack,H b=bn:=λb hb=>by
 rcases AA.mp (I.mG b hb) with e | hb
 ·rw[e];exact I.free
 ·obtain⟨_,o,ho,_⟩:=I.ok.gA.mem hb;exact I.base.free b o ho (I.ok.y6 b hb) λz=>I.ok.xX b z hb
def Inv.step{t':Nat}{d':Drawn}(I:Inv X U σ H s)
  (yZ:∀b∈ch,(b∈X.ex\/X.s₀.heap.objs.size<=b)/\b≠X.env.locals/\(∀x c,X.env.cells.lookup x=al c->c≠b)/\∀p∈X.pn++U,p.1≠b)
  (keep:∀b o,b≠X.env.locals->b∉X.fs->b∉ch->s.heap.get? b=al o->H b=bn->h'.get? b=al o)
  (slot:∀b o,b≠X.env.locals->b∈X.fs->b∉ch->s.heap.get? b=al o->H b=bn->∃sl,h'.get? b=al {o with slots:=sl}) (free:∀b o,b∉ch->s.heap.get? b=al o->H b=bn->H' b=bn)
  (there:∀b o,b∉ch->s.heap.get? b=al o->∃o',h'.get? b=al o')
  (cu:∀b xs,H b=al (.tup xs)->H' b=al (.tup xs)) (nG:∀b o u,H b=al (.dc o u)->H' b=al (.dc o u)) (mE:∀b ps,H b=al (.jJ ps)->∃more,H' b=al (.jJ (ps++more)))
  (ns:∀m,s.heap.Ns X.env.locals m->h'.Ns X.env.locals m) (aV:iA X.prog X.w H' h') (hg:FS g') :
  Inv X U σ H' {s with heap:=h',gens:=g',drawn:=d',toks:=t'}:=by
 have QW:∀b o,X.s₀.heap.get? b=al o->b≠X.env.locals:=λb o e=>Az (Aw (Ao e) I.ok.above);have Nb:∀b o,X.s₀.heap.get? b=al o->b∉X.ex->b∉ch:=λb o e hx hb=>by
  rcases (yZ b hb).1 with z | z
  ·exact hx z
  ·exact absurd (Aw (Ao e) z) (AY _)
 have Ù:∀x c,X.env.cells.lookup x=al c->∀v,s.heap.IsCell c v->h'.IsCell c v:=λx c e v ⟨o,ho,hd⟩=>by
  have K9:c∉ch:=λz=>(yZ c z).2.2.1 x c e rfl;by_cases hc:c∈X.fs
  ·obtain⟨sl,q⟩:=slot c o (I.GK x c e) hc K9 ho (I.gB x c e);exact⟨_,q,hd⟩
  ·exact⟨o,keep c o (I.GK x c e) hc K9 ho (I.gB x c e),hd⟩
 refine⟨I.ok,I.os,hg,⟨λb o e n hb hx=>?_,λb o e n hb hx=>?_,λb o e n hx=>?_,λb o e hx=>?_,λb xs e=>cu b xs (I.base.cu b xs e),λb o xs e=>nG b o xs (I.base.nG b o xs e),λb ps e=>?_⟩,?_,λx c e=>?_,?_,λx c e=>?_,λp hp=>?_,aV,I.len⟩
 ·exact keep b o (QW b o e) hb (Nb b o e hx) (I.base.keep b o e n hb hx) (I.base.free b o e n hx)
 ·obtain⟨sl,e1⟩:=I.base.slot b o e n hb hx;obtain⟨Sd,e2⟩:=slot b _ (QW b o e) hb (Nb b o e hx) e1 (I.base.free b o e n hx);exact⟨Sd,e2⟩
 ·obtain⟨o',e1⟩:=I.base.there b o e hx;exact free b o' (Nb b o e hx) e1 (I.base.free b o e n hx)
 ·obtain⟨o',e1⟩:=I.base.there b o e hx;exact there b o' (Nb b o e hx) e1
 ·obtain⟨m1,e1⟩:=I.base.mE b ps e;obtain⟨m2,e2⟩:=mE b _ e1;exact⟨m1++m2,by rw[e2,Array.append_assoc]⟩
 ·obtain⟨m,hn,hl⟩:=I.loc;refine⟨m,ns m hn,λi x v e1 e2 e3=>?_⟩;obtain⟨u,r,l⟩:=hl i x v e1 e2 e3;refine⟨u,r,?_⟩;rcases l with l | ⟨k,c,e,z⟩
  ·exact .inl l
  ·exact .inr ⟨k,c,e,Ù x c e _ z⟩
 ·obtain⟨v,z⟩:=I.cell x c e;exact⟨v,Ù x c e v z⟩
 ·obtain⟨m,⟨o,_,_,ho,_⟩,_⟩:=I.loc;exact free _ o (λz=>(yZ _ z).2.1 rfl) ho I.free
 ·obtain⟨v,o,ho,hd⟩:=I.cell x c e;exact free c o (λz=>(yZ c z).2.2.1 x c e rfl) ho (I.gB x c e)
 ·obtain⟨e,n,ne,nf,d⟩:=I.pin p hp;have K9:p.1∉ch:=λz=>(yZ p.1 z).2.2.2 p hp rfl;exact⟨keep p.1 p.2 ne nf K9 e n,free p.1 p.2 K9 e n,ne,nf,d⟩
def Inv.un{t':Nat}(I:Inv X U σ H s)(u:Un X.fs [] H H' s.heap h')(aV:iA X.prog X.w H' h'):Inv X U σ H' {s with heap:=h',toks:=t'}:=by
 obtain⟨m,⟨o,es,ep,ho,r⟩,_⟩:=id I.loc;obtain⟨sl,hL⟩:=u.any ho I.free (by simp);exact I.step (g':=s.gens) (d':=s.drawn) (ch:=[]) (λ_ z=>nomatch z) (λb o _ hb _ e n=>u.keep b o e n hb (by simp)) (λb o _ hb _ e n=>u.slot b o e n hb (by simp)) (λb o _ e n=>u.free b o e n (by simp)) (λb o _ e=>u.there b o e (by simp)) u.cu u.nG u.mE (λm' hm=>by
  obtain⟨o',Qm,Qn,Fm,r'⟩:=hm;rw[ho]at Fm;cases Fm;exact⟨_,Qm,Qn,hL,r'⟩) aV I.bare
def Inv.call{t':Nat}{d':Drawn}(I:Inv X U σ H s)(u:Un (frs X.stack) ch H H' s.heap h')(aV:iA X.prog X.w H' h')(hg:FS g')
  (yZ:∀b∈ch,(b∈X.ex\/X.s₀.heap.objs.size<=b)/\b≠X.env.locals/\(∀x c,X.env.cells.lookup x=al c->c≠b)/\∀p∈X.pn++U,p.1≠b) :
  Inv X U σ H' {s with heap:=h',gens:=g',drawn:=d',toks:=t'}:=by
 obtain⟨m,⟨o,es,ep,ho,r⟩,_⟩:=id I.loc;obtain⟨sl,hL⟩:=u.any ho I.free λz=>(yZ _ z).2.1 rfl;exact I.step (ch:=ch) yZ (λb o hL hb hc e n=>u.keep b o e n (λz=>(AA.mp (I.mG b z)).elim hL hb) hc) (λb o _ _ hc e n=>u.any e n hc) (λb o hc e n=>u.free b o e n hc) (λb o hc e=>u.there b o e hc) u.cu u.nG u.mE (λm' hm=>by
  obtain⟨o',Qm,Qn,Fm,r'⟩:=hm;rw[ho]at Fm;cases Fm;exact⟨_,Qm,Qn,hL,r'⟩) aV hg
def Inv.turned{t':Nat}(I:Inv X U σ H s)(k:∀b o,b≠it->s.heap.get? b=al o->h'.get? b=al o)(hn:H it=bn)(hL:it≠X.env.locals)
  (h1:it∈X.ex\/X.s₀.heap.objs.size<=it) (h2:∀x c,X.env.cells.lookup x=al c->c≠it) (h3:∀p∈X.pn++U,p.1≠it):Inv X U σ H {s with heap:=h',toks:=t'}:=by
 have Gi:∀b u,H b=al u->b≠it:=λb u e z=>by rw[z,hn]at e;cases e
 refine I.step (g':=s.gens) (d':=s.drawn) (ch:=[it]) (λb hb=>?_) (λb o _ _ hc e _=>k b o (λz=>hc (by simp[z])) e) (λb o _ _ hc e _=>⟨o.slots,k b o (λz=>hc (by simp[z])) e⟩) (λ_ _ _ _ n=>n)
  (λb o hc e=>⟨o,k b o (λz=>hc (by simp[z])) e⟩) (λ_ _ e=>e) (λ_ _ _ e=>e) (λb ps e=>⟨#[],by rw[e];simp⟩) (λm hm=>?_) (λb u e=>?_) I.bare
 ·have e:b=it:=by simpa using hb
  subst e;exact⟨h1,hL,h2,h3⟩
 ·obtain⟨o,es,ep,ho,r⟩:=hm;exact⟨o,es,ep,k _ o (BR hL) ho,r⟩
 ·refine(I.aV b u e).oI (λc v hc q=>k c v ?_ q) (λ_ q=>q) λ_ _ q=>q;rcases hc with z | z
  ·rw[z];exact Gi b u e
  ·exact Gi c _ z
def Inv.tok(I:Inv X U σ H s)(t:Nat):Inv X U σ H {s with toks:=t}:=I.un Un.refl I.aV
def Inv.kept{t':Nat}(I:Inv X U σ H s)(k:∀b u,s.heap.get? b=al u->h'.get? b=al u):Inv X U σ H {s with heap:=h',toks:=t'}:=I.un (Un.kept k) (I.aV.kept k)
def Inv.laid{o:HO}{t':Nat}(I:Inv X U σ H s)(k:∀b u,s.heap.get? b=al u->h'.get? b=al u)(hp:s.heap.objs.size<=a)(new:bu X.prog X.w (upd H a o) h' a o) :
  Inv X U σ (upd H a o) {s with heap:=h',toks:=t'}:=I.un (Un.laid k hp (I.aV.fresh hp)) (I.aV.laid k hp new)
def Inv.write{x:db}{o:HO}{t':Nat}(I:Inv X U σ H s)(mu:MK (H x))(he:e=x\/H e=al (.own x))(k:∀b u,b≠e->s.heap.get? b=al u->h'.get? b=al u)(JJ:∃u,h'.get? e=al u)
  (new:bu X.prog X.w (upd H x o) h' x o):Inv X U σ (upd H x o) {s with heap:=h',toks:=t'}:=I.un (Un.write mu he k JJ) (I.aV.write mu he k JJ new)
def Inv.sZ{oS:O (db×Obj)}(I:Inv X U σ H s)(h:∀p∈oS,s.heap.get? p.1=al p.2/\H p.1=bn/\p.1≠X.env.locals/\p.1∉X.fs/\∀v,p.2.data≠.cell v):Inv X oS σ H s:=
 ⟨I.ok,I.os,I.bare,I.base,I.loc,I.cell,I.free,I.gB,λp hp=>(A5.mp hp).elim (λz=>I.pin p (Bf _ z)) (h p),I.aV,I.len⟩
def o5{N:O Str}(hN:N.Nodup){x:Str}(a:N[i]?=al x)(b:N[j]?=al x):i=j:=by
 obtain⟨h1,e1⟩:=Ai.mp a;obtain⟨h2,e2⟩:=Ai.mp b;exact(List.getElem_inj hN).mp (e1.trans e2.symm)
def lU{x:Str}(I:Inv X U σ H s)(hN:X.N.Nodup)(hi:X.N[i]?=al x)(hx:Loc X.env.scope x)(r:RelV v u)
  (h:∀s',Inv X U (σ.set i (al v)) H s'->(∃a,Cy a s.heap s'.heap/\(a=X.env.locals\/X.env.cells.lookup x=al a))->Q () s') (hf:yR X x:=by first | exact .inl rfl | exact .inr rfl | assumption):ge M A (storeName X.env x u) Q E s:=by
 obtain⟨m,hn,hl⟩:=id I.loc;have PJ:(X.env.scope.kind==.class||(X.env.scope.kind==.module&&X.env.locals != X.env.globals))=false:=by rw[I.ok.kind];rfl
 have LK:i < σ.length:=by rw[I.len];exact(Ai.mp hi).1
 have GK:=I.GK;have Ï:∀{a:db}{h':lm},(∃o,s.heap.get? a=al o/\H a=bn)->Cy a s.heap h'->iA X.prog X.w H h':=λ{a h'} ha hs b ob e=>by
  obtain⟨_,_,Gz⟩:=ha;refine(I.aV b ob e).oI (λc w' hc q=>(hs.2 c ?_).trans q) (λ_ q=>q) λ_ _ q=>q;rintro rfl;rcases hc with rfl | hc
  ·rw[Gz]at e;cases e
  ·rw[Gz]at hc;cases hc
 rcases hx with hk | hk
 ·refine wpAny_storeName_local hk hn (λh' Tq hs=>?_) PJ;obtain⟨oL,_,_,LG,_⟩:=id hn;refine h _ ⟨I.ok,I.os,I.bare,⟨λb o e n hb hx=>?_,λb o e n hb hx=>?_,I.base.free,λb o e hx=>?_,I.base.cu,I.base.nG,I.base.mE⟩,⟨_,Tq,λj y v' e1 e2 e3=>?_⟩,λy c e=>?_,I.free,I.gB,λp hp=>?_,Ï ⟨oL,LG,I.free⟩ hs,by simpa using I.len⟩ ⟨_,hs,.inl rfl⟩
  ·exact(hs.2 b (Az (Aw (Ao e) I.ok.above))).trans (I.base.keep b o e n hb hx)
  ·obtain⟨sl,e1⟩:=I.base.slot b o e n hb hx;exact⟨sl,(hs.2 b (Az (Aw (Ao e) I.ok.above))).trans e1⟩
  ·obtain⟨o',e1⟩:=I.base.there b o e hx;exact⟨o',(hs.2 b (Az (Aw (Ao e) I.ok.above))).trans e1⟩
  ·by_cases hj:j=i
   ·subst hj;rw[hi]at e1;cases e1;rw[Ea LK]at e2;cases e2;exact⟨u,r,.inl ⟨hk,by simp⟩⟩
   ·rw[Cv (BR hj)]at e2;obtain⟨u',r',q⟩:=hl j y v' e1 e2 e3;refine⟨u',r',?_⟩;rcases q with⟨k,e⟩ | ⟨k,c,e,z⟩
    ·refine .inl ⟨k,?_⟩;have:y≠x:=λe=>hj (o5 hN e1 (e▸hi));simp[this,e]
    ·exact .inr ⟨k,c,e,z.sameBut hs (GK y c e)⟩
  ·obtain⟨w',z⟩:=I.cell y c e;exact⟨w',z.sameBut hs (GK y c e)⟩
  ·obtain⟨e,n,ne,nf,d⟩:=I.pin p hp;exact⟨(hs.2 p.1 ne).trans e,n,ne,nf,d⟩
 ·have Fp:X.fn x=true:=by
   rcases hf with z | z
   ·exact z
   ·rw[z]at hk;cases hk
  obtain⟨c,hc⟩:=I.ok.has x (.inl hk);obtain⟨w',z⟩:=I.cell x c hc;refine wpAny_storeName_cell I.ok.kind hk hc z (λh' qk hs=>?_);obtain⟨oc,Q7,Po⟩:=id z;refine h {s with heap:=h'} ⟨I.ok,I.os,I.bare,⟨λb o e n hb hx=>?_,λb o e n hb hx=>?_,I.base.free,λb o e hx=>?_,I.base.cu,I.base.nG,I.base.mE⟩,⟨m,hn.sameBut hs (BR (GK x c hc)),λj y v' e1 e2 e3=>?_⟩,λy c' e=>?_,I.free,I.gB,λp hp=>?_,Ï ⟨oc,Q7,I.gB x c hc⟩ hs,by simpa using I.len⟩ ⟨c,hs,.inr hc⟩
  ·exact(hs.2 b (Az (Aw (Ao e) (I.ok.JS x c Fp hc)))).trans (I.base.keep b o e n hb hx)
  ·obtain⟨sl,e1⟩:=I.base.slot b o e n hb hx;exact⟨sl,(hs.2 b (Az (Aw (Ao e) (I.ok.JS x c Fp hc)))).trans e1⟩
  ·obtain⟨o',e1⟩:=I.base.there b o e hx;exact⟨o',(hs.2 b (Az (Aw (Ao e) (I.ok.JS x c Fp hc)))).trans e1⟩
  ·by_cases hj:j=i
   ·subst hj;rw[hi]at e1;cases e1;rw[Ea LK]at e2;cases e2;exact⟨u,r,.inr ⟨.inl hk,c,hc,qk⟩⟩
   ·rw[Cv (BR hj)]at e2;obtain⟨u',r',q⟩:=hl j y v' e1 e2 e3;refine⟨u',r',?_⟩;rcases q with q | ⟨k,c',e,z'⟩
    ·exact .inl q
    ·refine .inr ⟨k,c',e,z'.sameBut hs ?_⟩;rintro rfl;exact hj (o5 hN e1 (I.ok.inj _ _ _ e hc▸hi))
  ·by_cases Rj:c'=c
   ·subst Rj;exact⟨_,qk⟩
   ·obtain⟨w2,z2⟩:=I.cell y c' e;exact⟨w2,z2.sameBut hs Rj⟩
  ·obtain⟨e,n,ne,nf,d⟩:=I.pin p hp;refine⟨(hs.2 p.1 ?_).trans e,n,ne,nf,d⟩;intro q;rw[q,Q7]at e;have q':oc=p.2:=Option.some.inj e;exact d w' (by rw[<- q'];exact Po)
def iD{x:Str}(I:Inv X U σ H s)(hN:X.N.Nodup)(hi:X.N[i]?=al x)(hx:Loc X.env.scope x)(r:RelV v u)
  (h:∀s',Inv X U (σ.set i (al v)) H s'->Q () s') (hf:yR X x:=by first | exact .inl rfl | exact .inr rfl | assumption):ge M A (storeName X.env x u) Q E s:=
 lU I hN hi hx r (λs' I' _=>h s' I') hf
def Inv.MC(I:Inv X U σ H s)(ho:s'.os=s.os)(u:Un (frs X.stack) ch H H' s.heap s'.heap)(aV:iA X.prog X.w H' s'.heap)(hg:FS s'.gens)
  (yZ:∀b∈ch,(b∈X.ex\/X.s₀.heap.objs.size<=b)/\b≠X.env.locals/\(∀x c,X.env.cells.lookup x=al c->c≠b)/\∀p∈X.pn++U,p.1≠b):Inv X U σ H' s':=by
 obtain⟨h',g',d',t',o'⟩:=s';have e:o'=s.os:=ho;subst e;exact I.call (g':=g') (t':=t') (d':=d') u aV hg yZ
end
abbrev XK:=ce->Option db->Hp->Prop
abbrev St:=O (Option V)
abbrev VK:=V->Hp->Prop
abbrev TE:=St->Hp->VK->Prop
abbrev TT:=St->Hp->(Bool->Hp->Prop)->Prop
abbrev TA:=St->Hp->(O V->Hp->Prop)->Prop
structure Ends where
 nx:St->Hp->Prop
 rt:VK
 bk:St->Hp->Prop:=λ_ _=>False
 ct:St->Hp->Prop:=λ_ _=>False
abbrev TS:=Ends->St->Hp->Prop
def EP(X:Cx)(U:O (db×Obj))(σ:St)(Q:VK)(u:ce)(s':eM):Prop:=∃v H',Inv X U σ H' s'/\RelV v u/\Q v H'
def TP(X:Cx)(U:O (db×Obj))(σ:St)(Q:Bool->Hp->Prop)(b:Bool)(s':eM):Prop:=∃H',Inv X U σ H' s'/\Q b H'
def AP(X:Cx)(U:O (db×Obj))(σ:St)(Q:O V->Hp->Prop)(us:O ce)(s':eM):Prop:=∃vs H',Inv X U σ H' s'/\Vals vs us/\Q vs H'
def SP(X:Cx)(U:O (db×Obj))(D:Ends)(f:Flow)(s':eM):Prop:=
 match f with
 | .next=>∃σ' H',Inv X U σ' H' s'/\D.nx σ' H'
 | .brk=>∃σ' H',Inv X U σ' H' s'/\D.bk σ' H'
 | .cont=>∃σ' H',Inv X U σ' H' s'/\D.ct σ' H'
 | .ret u=>∃v σ' H',Inv X U σ' H' s'/\RelV v u/\D.rt v H'
def PE(X:Cx)(e:jp)(t:TE):Prop:=
 ∀(U:O (db×Obj)) (s:eM) (σ:St) (H:Hp) (Q:VK),Inv X U σ H s->t σ H Q->ge (gl X.prog X.w) X.A (lc e X.env) (EP X U σ Q) X.xe s
def PT(X:Cx)(e:jp)(t:TT):Prop:=
 ∀(U:O (db×Obj)) (s:eM) (σ:St) (H:Hp) (Q:Bool->Hp->Prop),Inv X U σ H s->t σ H Q->ge (gl X.prog X.w) X.A (isTrue e X.env (lc e X.env)) (TP X U σ Q) X.xe s
def PW(X:Cx)(e:jp)(t:TT):Prop:=
 ∀(Á:Sem ce) (U:O (db×Obj)) (s:eM) (σ:St) (H:Hp) (Q:Bool->Hp->Prop),Inv X U σ H s->t σ H Q->ge (gl X.prog X.w) X.A (isTrue e X.env Á) (TP X U σ Q) X.xe s
def PW.pt{X:Cx}{e:jp}{t:TT}(h:PW X e t):PT X e t:=h _
def PA(X:Cx)(es:O jp)(t:TA):Prop:=
 ∀(pos:Pos) (U:O (db×Obj)) (s:eM) (σ:St) (H:Hp) (Q:O V->Hp->Prop),Inv X U σ H s->t σ H Q->ge (gl X.prog X.w) X.A (spliced (Fk pos (ii es X.env))) (AP X U σ Q) X.xe s
def PS(X:Cx)(st:r6)(t:TS):Prop:=
 ∀(U:O (db×Obj)) (s:eM) (σ:St) (H:Hp) (D:Ends),Inv X U σ H s->t D σ H->ge (gl X.prog X.w) X.A (exec st X.env) (SP X U D) X.xe s
def PSs(X:Cx)(st:O r6)(t:TS):Prop:=
 ∀(U:O (db×Obj)) (s:eM) (σ:St) (H:Hp) (D:Ends),Inv X U σ H s->t D σ H->ge (gl X.prog X.w) X.A (execs st X.env) (SP X U D) X.xe s
def aY{t:Sem α}{Q Q':α->eM->Prop}{s:eM}(h:ge M A t Q E s)(hQ:∀a s,Q a s->Q' a s):ge M A t Q' E s:=BM h hQ λ_ _ x=>x
end L2
variable{a e:BL}{X:L2.Cx}{σ:L2.St}{Q:Be->Dt->Prop}{ta tb:L2.TE}{R:L2.V->L2.V->L2.Hp->Prop}{pos:Ci}{op:PySem.CmpOp}
namespace L2
section
def bin{b:jp}(ha:PE X a ta)(hb:PE X b tb){s:eM}(I:Inv X U σ H s)(h:ta σ H λx H1=>tb σ H1 λy H2=>R x y H2){Q:α->eM->Prop}{f:ce->ce->Sem α}
  (hf:∀v u s2 x y H2,Inv X U σ H2 s2->RelV x v->RelV y u->R x y H2->ge (gl X.prog X.w) X.A (f v u) Q X.xe s2) :
  ge (gl X.prog X.w) X.A (lc a X.env) (λv s₁=>ge (gl X.prog X.w) X.A (lc b X.env) (λu s₂=>ge (gl X.prog X.w) X.A (f v u) Q X.xe s₂) X.xe s₁) X.xe s:=by
 refine aY (ha U s σ H _ I h) λv s1 ⟨x,H1,I1,r1,q1⟩=>?_;refine aY (hb U s1 σ H1 _ I1 q1) λu s2 ⟨y,H2,I2,r2,q2⟩=>?_;exact hf v u s2 x y H2 I2 r1 r2 q2
def G1(i:Nat):TE:=λσ H Q=>∃v,σ[i]?=al (al v)/\Q v H
def tC(v:V):TE:=λ_ H Q=>Q v H
def cL{x:Str}(hN:X.N[i]?=al x)(hv:qa X.env.scope x)(hd:eJ x:=by decide)(eW:qo x:=by decide):PE X (.Name x pos) (G1 i):=by
 intro U s σ H Q I h;obtain⟨v,e,h⟩:=h;obtain⟨m,hn,hl⟩:=I.loc;obtain⟨u,r,l⟩:=hl i x v hN e hv;have fin:EP X U σ Q u s:=⟨v,H,I,r,h⟩;rcases l with⟨hk,hm⟩ | ⟨hk,c,hc,jD⟩
 ·exact wpAny_Name (wpAny_loadName_local I.ok.kind hk hn hm fin) hd
 ·rcases hk with hk | hk
  ·exact wpAny_Name (wpAny_loadName_cell I.ok.kind hk hc jD fin) hd
  ·exact wpAny_Name (wpAny_loadName_free I.ok.kind hk hc jD fin eW) hd
def de{i j pos}:PE X (.Constant (.int i) j pos) (tC (.int i)):=λ_ _ _ H _ I h=>wpAny_Constant_int ⟨.int i,H,I.tok _,⟨_,rfl⟩,h⟩
def wN{b j pos}:PE X (.Constant (.bool b) j pos) (tC (.bl b)):=λ_ _ _ H _ I h=>Constant_bool ⟨.bl b,H,I,rfl,h⟩
def mS{j pos}:PE X (.Constant .none j pos) (tC .aB):=λ_ _ _ H _ I h=>Constant_none ⟨.aB,H,I,rfl,h⟩
def gc{x j pos}:PE X (.Constant (.str x) j pos) (tC (.str x)):=λ_ _ _ H _ I h=>Calls.Constant_str ⟨.str x,H,I.tok _,⟨_,rfl⟩,h⟩
def Gl(X:Cx)(x:Str):Prop:=X.env.kindOf x=al .globalImplicit
def jU{s:eM}{x:Str}(I:Inv X U σ H s)(hg:Gl X x)(hm:X.mg x=al u)(h:Q u s)
  (hd:eJ x:=by decide):ge (gl X.prog X.w) X.A (lc (.Name x pos) X.env) Q E s:=
 DA I.ok.kind hg (Calls.loadGlobal_global (by rw[I.ok.glob];exact I.mod.glob.keeps I.bk) hm h) hd
def fo{s:eM}{x:Str}(I:Inv X U σ H s)(hg:Gl X x)(hm:X.mg x=bn)(hv:nn x=al u)(h:Q u s)
  (hn:x≠"__name__":=by decide) (hd:eJ x:=by decide):ge (gl X.prog X.w) X.A (lc (.Name x pos) X.env) Q E s:=by
 obtain⟨mb,h1,h2⟩:=I.mod.blt;exact DA I.ok.kind hg (Calls.loadGlobal_builtin (by rw[I.ok.glob];exact I.mod.glob.keeps I.bk) hm (by rw[I.ok.blt];exact h1.keeps I.bk) ((h2 x hn).trans hv) h) hd
def gJ{x:Str}(hg:Gl X x)(hm:X.mg x=al u)(r:RelV v u)(hd:eJ x:=by decide):PE X (.Name x pos) (tC v):=
 λ_ _ _ H _ I h=>jU I hg hm ⟨v,H,I,r,h⟩ hd
def tj{x:Str}(hg:Gl X x)(hm:X.mg x=bn)(hv:nn x=al u)(r:RelV v u)(hn:x≠"__name__":=by decide)(hd:eJ x:=by decide):PE X (.Name x pos) (tC v):=
 λ_ _ _ H _ I h=>fo I hg hm hv ⟨v,H,I,r,h⟩ hn hd
variable{b:jp}
def PC(X:Cx)(op:CmpOp)(a b:jp)(t:TE):Prop:=
 ∀(U:O (db×Obj)) (s:eM) (σ:St) (H:Hp) (Q:VK),Inv X U σ H s->t σ H Q->
  ge (gl X.prog X.w) X.A (lc a X.env) (λv s₁=>ge (gl X.prog X.w) X.A (lc b X.env) (λu s₂=>ge (gl X.prog X.w) X.A (im op v u) (EP X U σ Q) X.xe s₂) X.xe s₁) X.xe s
def tB(t:TE):TT:=λσ H Q=>t σ H λx H1=>∃c,x=.bl c/\Q c H1
def Hm{t:TE}(h:PC X op a b t)(h1:pc op b=false:=by first | exact K7 _ ⋯ ⋯ | rfl):PT X (.Compare a [op] [b] pos) (tB t):=by
 intro U s σ H Q I hw;refine wpAny_isTrue_Compare1 (aY (h U s σ H _ I hw) λv s1 h1=>aY h1 λu s2 h2=>aY h2 λc s3 ⟨x,H1,I1,r1,q1⟩=>?_) h1;obtain⟨d,rfl,q⟩:=q1;cases r1;exact Bu ⟨H1,I1,q⟩
def mN{t:TE}(h:PE X e t)(he:∀Á,isTrue e X.env Á=(do let v <- Á;CD e.pos;r9 [v] (truthy v)):=by intro _;rfl):PT X e (tB t):=by
 intro U s σ H Q I hw;refine isTrue_plain (aY (h U s σ H _ I hw) λv s1 ⟨x,H1,I1,r1,q1⟩=>?_) (he _);obtain⟨d,rfl,q⟩:=q1;cases r1;exact Bu ⟨H1,I1,q⟩
variable{tA MY:TT}{rest:O jp}
def Ow(t u:TT):TT:=λσ H Q=>t σ H λc H1=>if c=true then u σ H1 Q else Q false H1
def R8(t u:TT):TT:=λσ H Q=>t σ H λc H1=>if c=true then Q true H1 else u σ H1 Q
def Ol(t:TT):TT:=λσ H Q=>t σ H λc H1=>Q (!c) H1
def mK(ha:PT X a tA):PW X (.BoolOp .And [a] pos) tA:=by
 intro wh U s σ H Q I h;refine isTrue_and (aY (ha U s σ H Q I h) λc s1 e=>?_);cases c with
 | true=>exact isTrue_and_nil e
 | false=>exact e
def Hl(ha:PT X a tA):PW X (.BoolOp .Or [a] pos) tA:=by
 intro wh U s σ H Q I h;refine isTrue_or (aY (ha U s σ H Q I h) λc s1 e=>?_);cases c with
 | false=>exact isTrue_or_nil e
 | true=>exact e
def qJ(ha:PT X a tA)(hb:PW X (.BoolOp .And (b::rest) pos) MY):PW X (.BoolOp .And (a::b::rest) pos) (Ow tA MY):=by
 intro wh U s σ H Q I h;refine isTrue_and (aY (ha U s σ H _ I h) λc s1 ⟨H1,I1,q1⟩=>?_);cases c with
 | true=>exact hb wh U s1 σ H1 Q I1 q1
 | false=>exact⟨H1,I1,q1⟩
def KP(ha:PT X a tA)(hb:PW X (.BoolOp .Or (b::rest) pos) MY):PW X (.BoolOp .Or (a::b::rest) pos) (R8 tA MY):=by
 intro wh U s σ H Q I h;refine isTrue_or (aY (ha U s σ H _ I h) λc s1 ⟨H1,I1,q1⟩=>?_);cases c with
 | true=>exact⟨H1,I1,q1⟩
 | false=>exact hb wh U s1 σ H1 Q I1 q1
def mO(ha:PT X a tA):PT X (.UnaryOp .Not a pos) (Ol tA):=by
 intro U s σ H Q I h;exact isTrue_not (ha U s σ H (λc H1=>Q (!c) H1) I h)
def Kq(ta tb:TE):TE:=λσ H Q=>ta σ H λx H1=>∃c,x=.bl c/\if c=true then tb σ H1 Q else Q (.bl false) H1
def wI{op}{t:TE}(h:PE X a t):PE X (.BoolOp op [a] pos) t:=λU s σ H Q I hw=>BoolOp_one (h U s σ H Q I hw)
def wO(ha:PE X a ta)(hb:PE X (.BoolOp .And (b::rest) pos) tb):PE X (.BoolOp .And (a::b::rest) pos) (Kq ta tb):=by
 intro U s σ H Q I h;refine BoolOp_and (aY (ha U s σ H _ I h) λv s1 ⟨x,H1,I1,r1,q1⟩=>?_);obtain⟨c,rfl,q1⟩:=q1;cases r1;refine Bu ?_;cases c with
 | true=>exact hb U s1 σ H1 Q I1 q1
 | false=>exact⟨.bl false,H1,I1,rfl,q1⟩
def Sa(t:TT)(ta tb:TE):TE:=λσ H Q=>t σ H λc H1=>if c=true then ta σ H1 Q else tb σ H1 Q
def wJ{c:jp}(hc:PT X c tA)(ha:PE X a ta)(hb:PE X b tb):PE X (.IfExp c a b pos) (Sa tA ta tb):=by
 intro U s σ H Q I h;refine wpAny_IfExp (aY (hc U s σ H _ I h) λd s1 ⟨H1,I1,q1⟩=>?_);cases d with
 | true=>exact ha U s1 σ H1 Q I1 q1
 | false=>exact hb U s1 σ H1 Q I1 q1
end
end L2
variable{xs ys:O L2.V}{y:L2.V}{D:L2.Ends}{te to:L2.TE}{es:O BL}{n:Nat}{tg:BL}{È px py pt:Ci}{body:O PySem.Stmt}
namespace L2
def cp(K:Aa)(H:Hp)(a:db)(xs:O V):Prop:=
 Rd H a (.lst xs)\/
  ∃(o:Obj) (ay:Array ce) (n:Nat),K.lookup a=al o/\o.cls=.type "list"/\o.dict=bn/\o.data=.seq ay n/\ay.size<=sizeLine/\Vals xs ay.toList
def cf(K:Aa)(H:Hp)(a:db)(xs:O V):Prop:=
 Rd H a (.tup xs)\/
  ∃(o:Obj) (ay:Array ce) (n:Nat),K.lookup a=al o/\o.cls=.type "tuple"/\o.data=.seq ay n/\ay.size<=sizeLine/\Vals xs ay.toList
def Qw:ce->Option V
 | .none=>al .aB
 | .bool b=>al (.bl b)
 | .int i _=>al (.int i)
 | .str x _=>al (.str x)
 | .bytes b _=>al (.tY b)
 | .float b _=>al (.IK b)
 | .ref a=>al (.ref a)
 | .type n=>al (.ty n)
 | _=>bn
def RelV.abs{x:V}(r:RelV x u):Qw u=al x:=by
 cases x with
 | aB=>cases r;rfl
 | bl _=>cases r;rfl
 | int _=>obtain⟨t,rfl⟩:=r;rfl
 | str _=>obtain⟨t,rfl⟩:=r;rfl
 | tY _=>obtain⟨t,rfl⟩:=r;rfl
 | IK _=>obtain⟨t,rfl⟩:=r;rfl
 | ref _=>cases r;rfl
 | ty _=>cases r;rfl
def RelV.inj{x:V}(r:RelV x u)(q:RelV y u):x=y:=Option.some.inj (r.abs.symm.trans q.abs)
theorem Vals.inj:∀{xs ys:O V}{us:O ce},Vals xs us->Vals ys us->xs=ys
 | _,_,_,.nil,.nil=>rfl
 | _,_,_,.cons r t,.cons r' t'=>by rw[r.inj r',Vals.inj t t']
section
variable{s:eM}{a:db}
def cp.of{K:Aa}(h:H a=al (.lst xs)):cp K H a xs:=.inl (.inl h)
def cf.of{K:Aa}(h:H a=al (.tup xs)):cf K H a xs:=.inl (.inl h)
theorem Inv.list(I:Inv X U σ H s)(h:cp X.K H a xs):∃ay:O ce,Vals xs ay/\PlainL s.heap a ay.toArray/\xs.length<=sizeLine:=by
 rcases h with h | ⟨o,ay,n,hk,hc,hd,hs,hz,r⟩
 ·obtain⟨z,ay,n,r,e⟩:=h.ok I.aV;exact⟨ay,r,⟨_,n,e,rfl,rfl,rfl⟩,z⟩
 ·refine⟨ay.toList,r,⟨o,n,I.gL a o hk,hc,hd,by simpa using hs⟩,?_⟩;have e:=r.length;simp at e;omega
theorem Inv.tuple(I:Inv X U σ H s)(h:cf X.K H a xs):∃ay:O ce,Vals xs ay/\IsTup s.heap a ay.toArray/\xs.length<=sizeLine:=by
 rcases h with h | ⟨o,ay,n,hk,hc,hs,hz,r⟩
 ·obtain⟨z,ay,r,p,_⟩:=h.ok I.aV;exact⟨ay,r,p,z⟩
 ·refine⟨ay.toList,r,⟨o,I.gL a o hk,hc,n,by simpa using hs⟩,?_⟩;have e:=r.length;simp at e;omega
def Inv.ph(I:Inv X U σ H s)(h:cp X.K H a xs)(h':cp X.K H a ys):xs=ys:=by
 obtain⟨ay,r,⟨o,n,e,_,_,d⟩,_⟩:=I.list h;obtain⟨its',r',⟨o',n',e',_,_,d'⟩,_⟩:=I.list h';rw[e]at e';cases e';rw[d]at d';injection d' with d1 _;have:ay=its':=by simpa using congrArg Array.toList d1
 subst this;exact r.inj r'
def Inv.jc(I:Inv X U σ H s)(h:cf X.K H a xs)(h':cf X.K H a ys):xs=ys:=by
 obtain⟨ay,r,⟨o,e,_,n,d⟩,_⟩:=I.tuple h;obtain⟨its',r',⟨o',e',_,n',d'⟩,_⟩:=I.tuple h';rw[e]at e';cases e';rw[d]at d';injection d' with d1 _;have:ay=its':=by simpa using congrArg Array.toList d1
 subst this;exact r.inj r'
end
abbrev Cx.lq(X:Cx)(E:ce->eM->Prop):Cx:={X with xe:=E}
abbrev Cx.xc(X:Cx):Cx:=X.lq λ_ _=>False
def Cx.Ok.lq(ok:X.Ok)(E:ce->eM->Prop):(X.lq E).Ok:=
 ⟨ok.mod,ok.kind,ok.glob,ok.blt,ok.above,ok.inj,ok.has,ok.JS,ok.hd,ok.frames,ok.MZ,ok.RB,ok.bs,ok.yD,ok.xg,ok.xX,ok.gA,ok.y6⟩
def Cx.Ok.fY(ok:(X.lq E).Ok):X.Ok:=
 ⟨ok.mod,ok.kind,ok.glob,ok.blt,ok.above,ok.inj,ok.has,ok.JS,ok.hd,ok.frames,ok.MZ,ok.RB,ok.bs,ok.yD,ok.xg,ok.xX,ok.gA,ok.y6⟩
section
variable{s:eM}
def Inv.lq(I:Inv X U σ H s)(E:ce->eM->Prop):Inv (X.lq E) U σ H s:=⟨I.ok.lq E,I.os,I.bare,I.base,I.loc,I.cell,I.free,I.gB,I.pin,I.aV,I.len⟩
def Inv.fY(I:Inv (X.lq E) U σ H s):Inv X U σ H s:=⟨I.ok.fY,I.os,I.bare,I.base,I.loc,I.cell,I.free,I.gB,I.pin,I.aV,I.len⟩
def SP.fY{f:Flow}(h:SP (X.lq E) U D f s'):SP X U D f s':=by
 cases f with
 | next=>obtain⟨σ',H',I,q⟩:=h;exact⟨σ',H',I.fY,q⟩
 | brk=>obtain⟨σ',H',I,q⟩:=h;exact⟨σ',H',I.fY,q⟩
 | cont=>obtain⟨σ',H',I,q⟩:=h;exact⟨σ',H',I.fY,q⟩
 | ret u=>obtain⟨v,σ',H',I,r,q⟩:=h;exact⟨v,σ',H',I.fY,r,q⟩
def PSs.xc{st:O r6}{t:TS}(h:PSs X.xc st t):PSs X st t:=λU s σ H D I hw=>
 BM (h U s σ H D (I.lq _) hw) (λ_ _ q=>q.fY) λ_ _ z=>AM z
end
section
variable{st:r6}{rest:O r6}{t u:TS}
def Kh:TS:=λD σ H=>D.nx σ H
def Oh(t u:TS):TS:=λD σ H=>t {D with nx:=u D} σ H
def dW:PSs X [] Kh:=λ_ _ σ H _ I h=>Di ⟨σ,H,I,h⟩
def aJ(h1:PS X st t)(h2:PSs X rest u):PSs X (st::rest) (Oh t u):=by
 intro U s σ H D I h;refine wpAny_execs_cons (aY (h1 U s σ H {D with nx:=u D} I h) λf s1 q=>?_);cases f with
 | next=>
  obtain⟨σ',H',I',q⟩:=q;exact h2 U s1 σ' H' D I' q
 | ret v=>exact q
 | brk=>exact q
 | cont=>exact q
def a9(h1:PS X st t):PSs X [st] t:=by
 intro U s σ H D I h;refine wpAny_execs_cons (aY (h1 U s σ H D I h) λf s1 q=>?_);cases f with
 | next=>exact Di q
 | ret v=>exact q
 | brk=>exact q
 | cont=>exact q
def Km:TS:=λD σ H=>D.ct σ H
def oQ:PS X (.Continue pos) Km:=λ_ _ σ H _ I h=>wpAny_Continue ⟨σ,H,I,h⟩
def Inv.quiet{s:eM}(I:Inv X U σ H s):interactive X.env=false:=by simp[interactive,I.ok.kind]
def Kl(te:TE):TS:=λD σ H=>te σ H λ_ H1=>D.nx σ H1
def dX(he:PE X e te)(hs:pr e bn pos.line X.env=pure false:=by rfl):PS X (.Expr e pos) (Kl te):=by
 intro U s σ H D I h;exact wpAny_Expr_any (aY (he U s σ H _ I h) λv s1 ⟨x,H1,I1,r1,q1⟩=>⟨σ,H1,I1,q1⟩) I.quiet hs
def Oi(te:TE):TS:=λD σ H=>te σ H D.rt
def cU(he:PE X e te):PS X (.Return (al e) pos) (Oi te):=by
 intro U s σ H D I h;exact wpAny_Return_some (aY (he U s σ H _ I h) λv s1 ⟨x,H1,I1,r1,q1⟩=>⟨x,σ,H1,I1,r1,q1⟩)
def Oq(c:TT)(t u:TS):TS:=λD σ H=>c σ H λb H1=>if b=true then t D σ H1 else u D σ H1
def iI{c:jp}{a b:O r6}{tc:TT}(hc:PT X c tc)(ha:PSs X a t)(hb:PSs X b u):PS X (.If c a b pos) (Oq tc t u):=by
 intro U s σ H D I h;refine wpAny_If (aY (hc U s σ H _ I h) λd s1 ⟨H1,I1,q1⟩=>?_);cases d with
 | true=>exact ha U s1 σ H1 D I1 q1
 | false=>exact hb U s1 σ H1 D I1 q1
def vL:TS:=λ_ _ _=>False
def kl:PS X st vL:=λ_ _ _ _ _ _ h=>h.elim
end
abbrev TG:=V->St->Hp->(St->Hp->Prop)->Prop
abbrev Jp:=O V->St->Hp->(St->Hp->Prop)->Prop
def PG(X:Cx)(Ê:jp)(t:TG):Prop:=
 ∀(U:O (db×Obj)) (s:eM) (σ:St) (H:Hp) (v:V) (u:ce) (Q:St->Hp->Prop),Inv X U σ H s->RelV v u->t v σ H Q->
  ge (gl X.prog X.w) X.A (Ch Ê X.env u) (λ_ s'=>∃σ' H',Inv X U σ' H' s'/\Q σ' H') X.xe s
def N1(X:Cx)(ts:O jp)(t:Jp):Prop:=
 ∀(U:O (db×Obj)) (s:eM) (σ:St) (H:Hp) (vs:O V) (us:O ce) (Q:St->Hp->Prop),Inv X U σ H s->Vals vs us->t vs σ H Q->
  ge (gl X.prog X.w) X.A (assignInOrder ((wT ts X.env).map (·.2)) us) (λ_ s'=>∃σ' H',Inv X U σ' H' s'/\Q σ' H') X.xe s
abbrev yP:=V->V->V->Hp->(Hp->Prop)->Prop
def vt(X:Cx)(t:yP):Prop:=
 ∀(U:O (db×Obj)) (s:eM) (σ:St) (H:Hp) (o i v:V) (ov iv u:ce) (Q:Hp->Prop),Inv X U σ H s->RelV o ov->RelV i iv->RelV v u->t o i v H Q->
  ge (gl X.prog X.w) X.A (EQ ov iv u) (λ_ s'=>∃H',Inv X U σ H' s'/\Q H') X.xe s
section
def eY(i:Nat):TG:=λv σ H Q=>Q (σ.set i (al v)) H
def zF{x:Str}(hN:X.N.Nodup)(hi:X.N[i]?=al x)(hx:Loc X.env.scope x)(hf:yR X x:=by first | exact .inl rfl | exact .inr rfl | assumption):PG X (.Name x pos) (eY i):=by
 intro U s σ H v u Q I r h;exact wpAny_assign_Name (iD I hN hi hx r (λs' I'=>⟨_,H,I',h⟩) hf)
def L0:Jp:=λvs σ H Q=>vs=[]/\Q σ H
def xO(t:TG)(u:Jp):Jp:=λvs σ H Q=>∃v r,vs=v::r/\t v σ H λσ' H'=>u r σ' H' Q
def zE:N1 X [] L0:=by
 intro U s σ H vs us Q I r h;obtain⟨e,h⟩:=h;subst e;cases r;exact assignInOrder_nil ⟨σ,H,I,h⟩
def oT{t:TG}{u:Jp}(h1:PG X e t)(h2:N1 X es u)
  (hs:(wT (e::es) X.env).map (·.2)=Ch e X.env::(wT es X.env).map (·.2):=by rfl):N1 X (e::es) (xO t u):=by
 intro U s σ H vs us Q I r h;obtain⟨v,vr,e1,h⟩:=h;subst e1;cases r with
 | cons r rr=>
  rw[hs];exact assignInOrder_cons (aY (h1 U s σ H _ _ _ I r h) λ_ s1 ⟨σ1,H1,I1,q1⟩=>h2 U s1 σ1 H1 _ _ Q I1 rr q1)
def LZ(K:Aa)(n:Nat)(t:Jp):TG:=λv σ H Q=>∃a xs,v=.ref a/\cf K H a xs/\xs.length=n/\t xs σ H Q
def Hu{k:Nat}{t:Jp}(hc:X.calm=true)(h:N1 X es t)
  (hn:(wT es X.env).length=n:=by rfl) (jO:(wT es X.env).findIdx? (·.1)=bn:=by rfl):PG X (.Tuple es k pos) (LZ X.K n t):=by
 intro U s σ H v u Q I r hw;obtain⟨a,xs,e1,hq,hl,hw⟩:=hw;subst e1;cases r;obtain⟨ay,rv,ht,hz⟩:=I.tuple hq;exact assign_Tuple_tuple (I.ok.hd hc) ht (by simp[hn,<- hl,rv.length]) jO λh' hx=>h U _ σ H xs _ Q (I.kept λb o e=>hx b o (Az (Ao e)) e) (by simpa using rv) hw
def PZ(to ti:TE)(t:yP):TG:=λv σ H Q=>to σ H λo H1=>ti σ H1 λi H2=>t o i v H2 λH3=>Q σ H3
def Hv{o i:jp}{ti:TE}{t:yP}(ho:PE X o to)(hi:PE X i ti)(hs:vt X t)
  (ha:∀v,Ch (.Subscript o i pos) X.env v=(do
   let ov <- r9 [v] (lc o X.env)
   let iv <- r9 [v,ov] (lc i X.env)
   CD pos
   r9 [v,ov,iv] (EQ ov iv v)
   release [v,ov,iv] []):=by intro _;rfl):PG X (.Subscript o i pos) (PZ to ti t):=by
 intro U s σ H v u Q I r h;exact Ad (Bt (aY (ho U s σ H _ I h) λov s1 ⟨x,H1,I1,r1,q1⟩=>Ad (Bt (aY (hi U s1 σ H1 _ I1 q1) λiv s2 ⟨y,H2,I2,r2,q2⟩=>Ad (C8 (Ad (Bt (aY (hs U s2 σ H2 x y v ov iv u _ I2 r1 r2 r q2) λ_ s3 ⟨H3,I3,q3⟩=>wpAny_release ⟨σ,H3,I3,q3⟩))))))))
def G5(te:TE)(g:TG):TS:=λD σ H=>te σ H λx H1=>g x σ H1 D.nx
def wC{g:TG}(he:PE X e te)(hg:PG X tg g)(hs:xL [tg] e pos.line X.env=pure false:=by rfl)(hw:zn [tg] e X.env=pure bn:=by rfl)
  (h1:(wT [tg] X.env).map (·.2)=[Ch tg X.env]:=by rfl):PS X (.Assign [tg] e pos) (G5 te g):=by
 intro U s σ H D I h;refine wpAny_Assign_stores (aY (he U s σ H _ I h) λv s1 ⟨x,H1,I1,r1,q1⟩=>?_) hs hw;rw[h1];exact aY (hg U s1 σ H1 x v _ I1 r1 q1) λ_ s2 q=>q
def cK{x:Str}(hN:X.N.Nodup)(hi:X.N[i]?=al x)(hx:Loc X.env.scope x)(he:PE X e te)(hs:pr e (al (.Name x È)) pos.line X.env=pure false:=by rfl)(hf:yR X x:=by first | exact .inl rfl | exact .inr rfl | assumption) :
  PS X (.Assign [.Name x È] e pos) (G5 te (eY i)):=by
 intro U s σ H D I h;refine wpAny_Assign_Name (aY (he U s σ H _ I h) λv s1 ⟨y,H1,I1,r1,q1⟩=>?_) hs;exact iD I1 hN hi hx r1 (λs2 I2=>⟨_,H1,I2,q1⟩) hf
def Oj(i j:Nat)(ta:TA):TS:=λD σ H=>ta σ H λvs H1=>∃v w,vs=[v,w]/\D.nx ((σ.set i (al v)).set j (al w)) H1
def wA{x y:Str}{b:jp}{ta:TA}{kt k2 yW}(hc:X.calm=true)(hN:X.N.Nodup)(hi:X.N[i]?=al x)(hj:X.N[j]?=al y)(JI:i≠j)
  (hx:X.env.scope.names.lookup x=al .local) (hy:X.env.scope.names.lookup y=al .local) (ha:PA X [a,b] ta)
  (hw:zn [.Tuple [.Name x px,.Name y py] kt pt] (.Tuple [a,b] k2 yW) X.env=pure (al [x,y]))
  (hs:xL [.Tuple [.Name x px,.Name y py] kt pt] (.Tuple [a,b] k2 yW) pos.line X.env=pure false:=by rfl) :
  PS X (.Assign [.Tuple [.Name x px,.Name y py] kt pt] (.Tuple [a,b] k2 yW) pos) (Oj i j ta):=by
 intro U s σ H D I h;refine Ad (C8 ?_);refine Ad (Au ?_);refine Ad (Tuple_ (aY (ha _ U s σ H _ I h) λus s1 ⟨vs,H1,I1,r1,q1⟩=>?_));obtain⟨v,w,e1,q1⟩:=q1;subst e1;obtain⟨u1,u2,rfl,rv,vV⟩:∃u1 u2,us=[u1,u2]/\RelV v u1/\RelV w u2:=by
  cases r1 with
  | cons p q=>
   cases q with
   | cons p' q'=>
    cases q';exact⟨_,_,rfl,p,p'⟩
 refine Co ?_ (by show 2<=sizeLine;decide);rw[hw];refine Ad (Au ?_);refine Ad (EG (Ad (unpackItems_tuple (items:=#[u1,u2]) (I.ok.hd hc) (IsTup.new s1.heap _) λh' pq=>?_)));refine Ad (assignInOrder_cons (wpAny_bindName (iD ((I1.kept λb o e=>Ae _ e).kept (t':=s1.toks) λb o e=>pq b o (Az (Ao e)) e) hN hj (.inl hy) vV (λs2 I4=>?_) (.inr hy))));refine assignInOrder_cons (wpAny_bindName (iD I4 hN hi (.inl hx) rv (λs3 I5=>assignInOrder_nil (Au ?_)) (.inr hx)));rw[List.set_comm _ _ (BR JI)]at I5;exact⟨_,H1,I5,q1⟩
end
section
def G0(c:TT)(tb:TS):TS:=λD σ H=>∃W:Nat->St->Hp->Prop,(∃m,W m σ H)/\∀m σ H,W m σ H->
 c σ H λb H1=>if b=true then ∃N:St->Hp->Prop,(∀σ' H',N σ' H'->∃m',m' < m/\W m' σ' H')/\tb {D with nx:=N,ct:=N,bk:=D.nx} σ H1 else D.nx σ H1
def f7{c:jp}{tc:TT}{tb:TS}(hp:xz (gl X.prog X.w) X.A X.env X.xe)(hc:PT X c tc)(hb:PSs X body tb):PS X (.While c body [] pos) (G0 tc tb):=by
 intro U s σ H D I h;obtain⟨W,⟨m0,w0⟩,Í⟩:=h;refine wpAny_While (codeAny_whileLoop (λn s'=>∃σ' H',Inv X U σ' H' s'/\W n σ' H') ?_ m0 ⟨σ,H,I,w0⟩);rintro n s1 ⟨σ1,H1,I1,w1⟩;refine B2 hp (aY (hc U s1 σ1 H1 _ I1 (Í n σ1 H1 w1)) λb s2 ⟨H2,I2,q2⟩=>?_);cases b with
 | true=>
  obtain⟨N,hN,q2⟩:=q2;refine B2 hp (aY (hb U s2 σ1 H2 _ I2 q2) λf s3 q3=>?_);cases f with
  | next=>
   obtain⟨σ3,H3,I3,n3⟩:=q3;obtain⟨m',hm,w3⟩:=hN σ3 H3 n3;exact⟨m',hm,σ3,H3,I3,w3⟩
  | cont=>
   obtain⟨σ3,H3,I3,n3⟩:=q3;obtain⟨m',hm,w3⟩:=hN σ3 H3 n3;exact⟨m',hm,σ3,H3,I3,w3⟩
  | brk=>exact q3
  | ret v=>exact q3
 | false=>
  exact Di ⟨σ1,H2,I2,q2⟩
end
structure It where
 go:Nat->Hp->Prop
 GP:Nat->Hp->V->Hp->Prop
 stop:Nat->Hp->Prop
def lR(X:Cx)(U:O (db×Obj))(H:Hp)(b:db):Prop:=
 H b=bn/\b≠X.env.locals/\b∉X.fs/\(b∈X.ex\/X.s₀.heap.objs.size<=b)/\(∀x c,X.env.cells.lookup x=al c->c≠b)/\∀p∈X.pn++U,p.1≠b
def Inv.uV{s:eM}(I:Inv X U σ H s)(hb:s.heap.objs.size<=b)(hn:H' b=bn):lR X U H' b:=by
 refine⟨hn,EN (Aw I.lt hb),I.O0 hb,.inr (Ba I.sz hb),λx c e z=>?_,λp hp z=>?_⟩
 ·obtain⟨v,q⟩:=I.cell x c e;exact absurd (Aw q.lt (by rw[z];exact hb)) (AY _)
 ·exact absurd (Aw (Ao (I.pin p hp).1) (by rw[z];exact hb)) (AY _)
structure Turn(P:re)(w:sK)(K:Aa)(tg:jp)(J:It)(fp:List db)(it:db)(tn:Nat->lm->Prop):Prop where
 mem:it∈fp
 obj:∀i h,tn i h->∀b∈fp,∃o,h.get? b=al o/\∀v,o.data≠.cell v
 keep:∀i h h',tn i h->(∀b∈fp,∀o,h.get? b=al o->h'.get? b=al o)->tn i h'
 item:∀(X:Cx),X.prog=P->X.w=w->X.K=K->X.calm=true->∀(i:Nat) (U:List (db×Obj)) (s:eM) (σ:St) (H:Hp) (E:ce->eM->Prop),Inv X U σ H s->(∀b∈fp,lR X U H b)->tn i s.heap->J.go i H->
  ge (gl P w) X.A (pyNext (.ref it)) (λr s1=>∃u,r=al u/\
   ge (gl P w) X.A (Gc tg (.ref it) u) (λ_ s2=>∃x H',Inv X U σ H' s2/\RelV x u/\J.GP i H x H'/\tn (i+1) s2.heap/\∀b∈fp,H' b=bn) E s1) E s
 done:∀(X:Cx),X.prog=P->X.w=w->X.K=K->X.calm=true->∀(i:Nat) (U:List (db×Obj)) (s:eM) (σ:St) (H:Hp) (E:ce->eM->Prop),Inv X U σ H s->(∀b∈fp,lR X U H b)->tn i s.heap->J.stop i H->
  ge (gl P w) X.A (pyNext (.ref it)) (λr s1=>r=bn/\Inv X U σ H s1) E s
 self:∀(A:tz) (i:Nat) (s:eM) (Q:ce->eM->Prop) (E:ce->eM->Prop),tn i s.heap->Q (.ref it) s->ge (gl P w) A (pyIter (.ref it)) Q E s
abbrev TI:=St->Hp->(It->Hp->Prop)->Prop
def QC(X:Cx)(U:O (db×Obj))(σ:St)(tg:jp)(R:It->Hp->Prop)(Nf:ce)(s2:eM):Prop:=
 ∃(it:db) (fp:O db) (tn:Nat->lm->Prop) (J:It) (H':Hp),Nf=.ref it/\Inv X U σ H' s2/\Turn X.prog X.w X.K tg J fp it tn/\tn 0 s2.heap/\(∀b∈fp,lR X U H' b)/\R J H'
def PI(X:Cx)(tg iter:jp)(wi:TI):Prop:=
 ∀(U:O (db×Obj)) (s:eM) (σ:St) (H:Hp) (R:It->Hp->Prop),Inv X U σ H s->wi σ H R->
  ge (gl X.prog X.w) X.A (lc iter X.env) (λv s1=>ge (gl X.prog X.w) X.A (pyIter v) (QC X U σ tg R) X.xe s1) X.xe s
def pB{s:eM}{n:String}{vs:Array ce}{Q:Unit->eM->Prop}(ho:s.heap.get? it=al o)(hc:o.cls=.type n)(hd:o.data=.fields vs)
  (hn:["enumerate","zip","dict_itemiterator","dict_reverseitemiterator","odict_iterator","itertools.zip_longest","itertools.pairwise"].contains n=false) (hQ:Q () s):ge M A (Gc tg (.ref it) u) Q E s:=by
 unfold Gc;cases tg <;> first
  | exact Au hQ
  | (cases u <;> first
    | exact Au hQ
    | (
      refine Ad (wpAny_load ho ?_);rw[hc,hd];show ge M A (if (["enumerate","zip","dict_itemiterator","dict_reverseitemiterator","odict_iterator","itertools.zip_longest","itertools.pairwise"].contains n&&vs[0]?==al (o0 _))=true then _ else _) Q E s;rw[if_neg (by intro h;rw[hn,Bool.false_and]at h;cases h)];exact Au hQ))
def RL(K:Aa)(a:db):It:=
 ⟨λi H=>∃xs x,cp K H a xs/\xs[i]?=al x,λi H x H'=>H'=H/\∀xs,cp K H a xs->xs[i]?=al x,λi H=>∃xs,cp K H a xs/\xs.length<=i⟩
def RJ(K:Aa)(a:db):It:=
 ⟨λi H=>∃xs x,cf K H a xs/\xs[i]?=al x,λi H x H'=>H'=H/\∀xs,cf K H a xs->xs[i]?=al x,λi H=>∃xs,cf K H a xs/\xs.length<=i⟩
def N3(lo:Int)(n:Nat):It:=⟨λi _=>i < n,λi H x H'=>H'=H/\x=.int (lo+i),λi _=>n<=i⟩
theorem um{K:Aa}(a it:db):Turn P w K tg (RL K a) [it] it (λi h=>h.IsListIter it a i) where
 mem:=by simp
 obj:=λi h st b hb=>by
  have e:b=it:=by simpa using hb
  subst e;obtain⟨o,e,c,d⟩:=st;exact⟨o,e,λv z=>by rw[d]at z;cases z⟩
 keep:=λi h h' st k=>st.at λo e=>k it (by simp) o e
 item:=by
  intro X hP hw hK hc i U s σ H E I hf st hg;subst hP hw hK;obtain⟨xs,x,hq,hx⟩:=hg;obtain⟨ay,rv,p,hz⟩:=I.list hq;obtain⟨u,hu,ru⟩:=rv.get hx;obtain⟨f0,f1,f2,f3,f4,f5⟩:=hf it (by simp);refine wpAny_pyNext_list_item st p.isList (by simpa using hu) λh' kb sb=>?_;obtain⟨o,e,c,d⟩:=id kb;exact⟨u,rfl,pB e c d ⋯ ⟨x,H,(I.turned (λb o hb e=>(sb.2 b hb).trans e) f0 f1 f3 f4 f5),ru,⟨rfl,λys hy=>by rw[I.ph hy hq];exact hx⟩,kb,λb hb=>(hf b hb).1⟩⟩
 done:=by
  intro X hP hw hK hc i U s σ H E I hf st hg;subst hP hw hK;obtain⟨xs,hq,hx⟩:=hg;obtain⟨ay,rv,p,hz⟩:=I.list hq;obtain⟨f0,f1,f2,f3,f4,f5⟩:=hf it (by simp);have hl:=rv.length;exact wpAny_pyNext_list_end (I.ok.hd hc) st p.isList (by simp;omega) λh' eb=>⟨rfl,I.turned (t':=s.toks) (λb o hb e=>eb b o hb e) f0 f1 f3 f4 f5⟩
 self:=λ_ _ _ _ _ st h=>wpAny_pyIter_listiter st h
theorem qA{K:Aa}(a it:db):Turn P w K tg (RJ K a) [it] it (λi h=>h.IsTupleIter it a i) where
 mem:=by simp
 obj:=λi h st b hb=>by
  have e:b=it:=by simpa using hb
  subst e;obtain⟨o,e,c,d⟩:=st;exact⟨o,e,λv z=>by rw[d]at z;cases z⟩
 keep:=λi h h' st k=>st.at λo e=>k it (by simp) o e
 item:=by
  intro X hP hw hK hc i U s σ H E I hf st hg;subst hP hw hK;obtain⟨xs,x,hq,hx⟩:=hg;obtain⟨ay,rv,p,hz⟩:=I.tuple hq;obtain⟨u,hu,ru⟩:=rv.get hx;obtain⟨f0,f1,f2,f3,f4,f5⟩:=hf it (by simp);refine wpAny_pyNext_tuple_item st (p) (by simpa using hu) λh' kb sb=>?_;obtain⟨o,e,c,d⟩:=id kb;exact⟨u,rfl,pB e c d ⋯ ⟨x,H,(I.turned (λb o hb e=>(sb.2 b hb).trans e) f0 f1 f3 f4 f5),ru,⟨rfl,λys hy=>by rw[I.jc hy hq];exact hx⟩,kb,λb hb=>(hf b hb).1⟩⟩
 done:=by
  intro X hP hw hK hc i U s σ H E I hf st hg;subst hP hw hK;obtain⟨xs,hq,hx⟩:=hg;obtain⟨ay,rv,p,hz⟩:=I.tuple hq;obtain⟨f0,f1,f2,f3,f4,f5⟩:=hf it (by simp);have hl:=rv.length;exact wpAny_pyNext_tuple_end (I.ok.hd hc) st (show s.heap.IsTuple a ay.toArray from p) (by simp;omega) λh' eb=>⟨rfl,I.turned (t':=s.toks) (λb o hb e=>eb b o hb e) f0 f1 f3 f4 f5⟩
 self:=λ_ _ _ _ _ st h=>wpAny_pyIter_tupleiter st h
theorem qC{K:Aa}(it:db)(lo:Int)(n:Nat):Turn P w K tg (N3 lo n) [it] it (λi h=>IsRangeIter h it (lo+(i:Nat)*1) ((n:Int)-(i:Nat)) 1) where
 mem:=by simp
 obj:=λi h st b hb=>by
  have e:b=it:=by simpa using hb
  subst e;exact⟨_,st,λv z=>by
   have z':=z;cases z'⟩
 keep:=λi h h' st k=>k it (by simp) _ st
 item:=by
  intro X hP hw hK hc i U s σ H E I hf st hg;subst hP hw hK;obtain⟨f0,f1,f2,f3,f4,f5⟩:=hf it (by simp);refine(Walks.range (prog:=X.prog) (I.ok.hd hc) it lo 1 n).item i s _ _ hg st λv h' tk hv kb kk=>?_;obtain⟨t,rfl⟩:=hv;refine⟨_,rfl,pB kb rfl rfl ⋯ ⟨.int (lo+i),H,(I.turned (λb o hb e=>kk b o (by simpa using hb) e) f0 f1 f3 f4 f5),⟨t,?_⟩,⟨rfl,rfl⟩,kb,λb hb=>(hf b hb).1⟩⟩;rw[Int.mul_one]
 done:=by
  intro X hP hw hK hc i U s σ H E I hf st hg;obtain⟨f0,f1,f2,f3,f4,f5⟩:=hf it (by simp);exact wpAny_pyNext_range_end (I.ok.hd hc) st (by have:n<=i:=hg;omega) λh' eb=>⟨rfl,I.turned (λb o hb e=>eb b o hb e) f0 f1 f3 f4 f5⟩
 self:=λ_ _ _ _ _ st h=>wpAny_pyIter_rangeiter st h
end L2
variable{fp:O AL}{iter:BL}{wi:L2.TI}
namespace L2
section
theorem v9{s:eM}{R:It->Hp->Prop}{lo hi:Int}{t u v:Tok}{tk:Nat}(I:Inv X U σ H s)(h1:-(2 ^ 62)<=lo)(h2:lo < 2 ^ 62)(h3:-(2 ^ 62)<=hi)(h4:hi < 2 ^ 62)
  (q:R (N3 lo (hi-lo).toNat) H):ge (gl X.prog X.w) X.A (pyIter (.ref s.heap.objs.size)) (QC X U σ tg R) E {s with heap:=s.heap.push {cls:=.type "range",data:=.fields #[.int lo t,.int hi u,.int 1 v]},toks:=tk}:=by
 refine wpAny_pyIter_range (IsRange.new ..) (small_one h1 h2 h3 h4) ?_;have I1:Inv X U σ H {s with heap:=s.heap.push {cls:=.type "range",data:=.fields #[.int lo t,.int hi u,.int 1 v]},toks:=tk}:=I.kept λb o e=>Ae _ e;refine⟨(s.heap.push {cls:=.type "range",data:=.fields #[.int lo t,.int hi u,.int 1 v]}).objs.size,[(s.heap.push {cls:=.type "range",data:=.fields #[.int lo t,.int hi u,.int 1 v]}).objs.size],_,_,H,rfl,
  I1.kept (t':=tk) λb o e=>Ae _ e,qC _ lo (hi-lo).toNat,?_,λb hb=>?_,q⟩
 ·have e1:lo+((0:Nat):Int)*1=lo:=by simp
  have e2:(((hi-lo).toNat:Nat):Int)-((0:Nat):Int)=Builtin.Range.rangeSize lo hi 1:=by rw[rangeSize_one];split <;> omega
  show IsRangeIter _ _ (lo+((0:Nat):Int)*1) ((((hi-lo).toNat:Nat):Int)-((0:Nat):Int)) 1;rw[e1,e2];exact Ap _ rfl
 ·have e:b=(s.heap.push {cls:=.type "range",data:=.fields #[.int lo t,.int hi u,.int 1 v]}).objs.size:=by simpa using hb
  subst e;exact I1.uV (Aj _) (I1.aV.fresh (Aj _))
def Lv(ta:TA):TI:=λσ H R=>ta σ H λvs H1=>∃j:Int,vs=[.int j]/\-(2 ^ 62)<=j/\j < 2 ^ 62/\R (N3 0 j.toNat) H1
theorem uB{ta:TA}{p:Pos}(hg:Gl X "range")(hm:X.mg "range"=bn)(ha:PA X [a] ta)(hs:ii [a] X.env=[(false,lc a X.env)]:=by rfl):PI X tg (.Call (.Name "range" p) [a] [] pos) (Lv ta):=by
 intro U s σ H R I h;refine Call_ (fo I hg hm boot_range (Bd (aY (ha pos U s σ H _ I h) λus s1 ⟨vs,H1,I1,r1,q1⟩=>?_) hs rfl));obtain⟨j,e,q1,q2,q⟩:=q1;subst e;cases r1 with
 | cons r rr=>
  cases rr;obtain⟨t,rfl⟩:=r;exact call_range_1 (v9 I1 ∅ ∅ q1 q2 (by simpa using q))
def Ot(wi:TI)(g:TG)(tb:TS):TS:=λD σ H=>wi σ H λJ H1=>∃W:Nat->Nat->St->Hp->Prop,(∃m,W 0 m σ H1)/\∀i m σ H,W i m σ H->
 (J.stop i H/\D.nx σ H)\/(J.go i H/\∃N:St->Hp->Prop,(∀σ' H',N σ' H'->∃m',m' < m/\W (i+1) m' σ' H')/\∀x H',J.GP i H x H'->g x σ H' λσ2 H2=>tb {D with nx:=N,ct:=N,bk:=D.nx} σ2 H2)
def jk(fp:O db)(h:lm):O (db×Obj):=fp.filterMap λb=>(h.get? b).map λo=>(b,o)
def fj(hb:b∈fp)(e:h.get? b=al o):(b,o)∈jk fp h:=CO.mpr ⟨b,hb,by rw[e];rfl⟩
def uE{p:db×Obj}(hp:p∈jk fp h):p.1∈fp/\h.get? p.1=al p.2:=by
 obtain⟨b,hb,e⟩:=CO.mp hp;cases q:h.get? b with
 | none=>rw[q]at e;cases e
 | some o=>
  rw[q]at e;have e':=Option.some.inj e;subst e';exact⟨hb,q⟩
def Inv.pinned{s:eM}(I:Inv X U σ H s)(hf:∀b∈fp,lR X U H b)(ho:∀b∈fp,∃o,s.heap.get? b=al o/\∀v,o.data≠.cell v):Inv X (U++jk fp s.heap) σ H s:=
 I.sZ λp hp=>(A5.mp hp).elim (λz=>I.pin p (Ax _ z)) λz=>by
  obtain⟨hb,e⟩:=uE z;obtain⟨f0,f1,f2,_⟩:=hf p.1 hb;obtain⟨o,e',d⟩:=ho p.1 hb;rw[e]at e';cases e';exact⟨e,f0,f1,f2,d⟩
def Inv.fZ{pl:O (db×Obj)}{s:eM}(I:Inv X (U++pl) σ H s):Inv X U σ H s:=I.sZ λp hp=>I.pin p (Ax _ (Bf _ hp))
def wB{g:TG}{tb:TS}(hp:xz (gl X.prog X.w) X.A X.env X.xe)(hc:X.calm=true)(hi:PI X tg iter wi)(hg:PG X tg g)(hb:PSs X body tb)
  (hs:sD X iter:=by intro _;rfl):PS X (.For tg iter body [] pos) (Ot wi g tb):=by
 intro U s σ H D I h;refine wpAny_For (aY (hi U s σ H _ I h) λv s1 h1=>aY h1 λNf s2 h2=>?_) hs;obtain⟨it,fp,tn,J,H2,e,I2,T,lz,f2,W,⟨m0,w0⟩,Í⟩:=h2;subst e;have G7:∀{H':Hp},(∀b∈fp,H' b=bn)->∀b∈fp,lR X U H' b:=λhn b hb=>⟨hn b hb,(f2 b hb).2⟩;refine codeAny_forLoop_any (λn s'=>∃i σ' H',Inv X U σ' H' s'/\tn i s'.heap/\(∀b∈fp,H' b=bn)/\W i n σ' H') ?_ m0 ⟨0,σ,H2,I2,lz,λb hb=>(f2 b hb).1,w0⟩;rintro n s3 ⟨i,σ3,H3,I3,Kr,L1,w3⟩;rcases Í i n σ3 H3 w3 with⟨stop,qn⟩ | ⟨go,N,hN,step⟩
 ·refine B2 hp (aY (T.done X rfl rfl rfl hc i U s3 σ3 H3 X.xe I3 (G7 L1) Kr stop) λr s4 ⟨hr,I4⟩=>?_);subst hr;exact Di ⟨σ3,H3,I4,qn⟩
 ·refine B2 hp (aY (T.item X rfl rfl rfl hc i U s3 σ3 H3 X.xe I3 (G7 L1) Kr go) λr s4 ⟨u,hr,h4⟩=>?_);subst hr;refine B2 hp (aY h4 λ_ s5 ⟨x,H5,I5,r5,y5,G8,P6⟩=>?_);refine B2 hp (aY (hg _ s5 σ3 H5 x u _ (I5.pinned (G7 P6) (T.obj _ _ G8)) r5 (step x H5 y5)) λ_ s6 ⟨σ6,H6,I6,q6⟩=>?_);refine B2 hp (aY (hb _ s6 σ6 H6 _ I6 q6) λf s7 q7=>?_);have again:∀{σ7:St}{H7:Hp},Inv X (U++jk fp s5.heap) σ7 H7 s7->N σ7 H7->∃m,m < n/\∃i σ' H',Inv X U σ' H' s7/\tn i s7.heap/\(∀b∈fp,H' b=bn)/\W i m σ' H':=λ{σ7 H7} I7 n7=>by
   obtain⟨m',hm,w7⟩:=hN σ7 H7 n7;refine⟨m',hm,i+1,σ7,H7,I7.fZ,T.keep _ _ _ G8 λb hb o e=>(I7.pin (b,o) (Ax _ (Ax _ (fj hb e)))).1,λb hb=>?_,w7⟩;obtain⟨o,e,d⟩:=T.obj _ _ G8 b hb;exact(I7.pin (b,o) (Ax _ (Ax _ (fj hb e)))).2.1
  cases f with
  | next=>obtain⟨σ7,H7,I7,n7⟩:=q7;exact again I7 n7
  | cont=>obtain⟨σ7,H7,I7,n7⟩:=q7;exact again I7 n7
  | brk=>obtain⟨σ7,H7,I7,q7⟩:=q7;exact⟨σ7,H7,I7.fZ,q7⟩
  | ret v=>obtain⟨x7,σ7,H7,I7,r7,q7⟩:=q7;exact⟨x7,σ7,H7,I7.fZ,r7,q7⟩
end
end L2
variable{i:Int}{g:Int->Int->Int}{Jy:PySem.CmpOp}{ay:O Be}
namespace L2
abbrev R2:=V->V->Hp->VK->Prop
def dB(X:Cx)(f:ce->ce->Sem ce)(r:R2):Prop:=
 ∀(U:O (db×Obj)) (s:eM) (σ:St) (H:Hp) (x y:V) (v u:ce) (Q:VK),Inv X U σ H s->RelV x v->RelV y u->r x y H Q->
  ge (gl X.prog X.w) X.A (f v u) (EP X U σ Q) X.xe s
def Qx(X:Cx)(f:ce->Sem ce)(r:V->Hp->VK->Prop):Prop:=
 ∀(U:O (db×Obj)) (s:eM) (σ:St) (H:Hp) (x:V) (v:ce) (Q:VK),Inv X U σ H s->RelV x v->r x H Q->
  ge (gl X.prog X.w) X.A (f v) (EP X U σ Q) X.xe s
def bG(X:Cx)(f:ce)(r:O V->Hp->VK->Prop):Prop:=
 ∀(U:O (db×Obj)) (s:eM) (σ:St) (H:Hp) (xs:O V) (us:O ce) (Q:VK),Inv X U σ H s->Vals xs us->r xs H Q->
  ge (gl X.prog X.w) X.A (call f us) (EP X U σ Q) X.xe s
def Qy(X:Cx)(r:V->Hp->(Bool->Hp->Prop)->Prop):Prop:=
 ∀(U:O (db×Obj)) (s:eM) (σ:St) (H:Hp) (x:V) (v:ce) (Q:Bool->Hp->Prop),Inv X U σ H s->RelV x v->r x H Q->
  ge (gl X.prog X.w) X.A (truthy v) (TP X U σ Q) X.xe s
def F8(r:R2)(ta tb:TE):TE:=λσ H Q=>ta σ H λx H1=>tb σ H1 λy H2=>r x y H2 Q
def R6(r:V->Hp->VK->Prop)(ta:TE):TE:=λσ H Q=>ta σ H λx H1=>r x H1 Q
def rI(C:Int->Int->Prop)(g:Int->Int->V):R2:=λx y H Q=>∃i j,x=.int i/\y=.int j/\C i j/\Q (g i j) H
def zv(g:Int->Int->V):R2:=λx y H Q=>∃i j,x=.int i/\y=.int j/\Q (g i j) H
def rU(g:Int->V):V->Hp->VK->Prop:=λx H Q=>∃i,x=.int i/\Q (g i) H
section
variable{b:jp}
def Jl(ha:PE X a ta)(hb:PE X b tb){s:eM}(I:Inv X U σ H s)
  (h:ta σ H λx H1=>tb σ H1 λy H2=>R x y H2) {f:ce->ce->Sem ce}
  (hf:∀v u s2 x y H2,Inv X U σ H2 s2->RelV x v->RelV y u->R x y H2->ge (gl X.prog X.w) X.A (f v u) Q X.xe s2) :
  ge (gl X.prog X.w) X.A (lc a X.env) (λv s₁=>ge (gl X.prog X.w) X.A (lc b X.env) (λu s₂=>ge (gl X.prog X.w) X.A (f v u) Q X.xe s₂) X.xe s₁) X.xe s:=by
 exact aY (ha U s σ H _ I h) λv s1 ⟨x,H1,I1,r1,q1⟩=>aY (hb U s1 σ H1 _ I1 q1) λu s2 ⟨y,H2,I2,r2,q2⟩=>hf v u s2 x y H2 I2 r1 r2 q2
def km{op:Operator}{r:R2}(ho:dB X (sn op) r)(ha:PE X a ta)(hb:PE X b tb):PE X (.BinOp a op b pos) (F8 r ta tb):=by
 intro U s σ H Q I h;exact wpAny_BinOp (Jl ha hb I h λv u s2 x y H2 I2 rx ry q=>ho U s2 σ H2 x y v u Q I2 rx ry q)
def wG{op:UnaryOp}{r:V->Hp->VK->Prop}(ho:Qx X (unaryOp op) r)(ha:PE X a ta):PE X (.UnaryOp op a pos) (R6 r ta):=by
 intro U s σ H Q I h;exact UnaryOp_ (aY (ha U s σ H _ I h) λv s1 ⟨x,H1,I1,r1,q1⟩=>ho U s1 σ H1 x v Q I1 r1 q1)
def M7{f:ce->ce->Sem ce}{C:Int->Int->Prop}
  (rule:∀(i j:Int) (t u:Tok) (s:eM) (Q:ce->eM->Prop) (E:ce->eM->Prop),C i j->Q (.int (g i j) s.toks) {s with toks:=s.toks+1}->ge (gl X.prog X.w) X.A (f (.int i t) (.int j u)) Q E s) :
  dB X f (rI C λi j=>.int (g i j)):=by
 intro U s σ H x y v u Q I rx ry h;obtain⟨i,j,rfl,rfl,hc,q⟩:=h;obtain⟨t,rfl⟩:=rx;obtain⟨t',rfl⟩:=ry;exact rule i j t t' s _ _ hc ⟨.int (g i j),H,I.tok _,⟨_,rfl⟩,q⟩
def K4{f:ce->ce->Sem ce}
  (rule:∀(i j:Int) (t u:Tok) (s:eM) (Q:ce->eM->Prop) (E:ce->eM->Prop),Q (.int (g i j) s.toks) {s with toks:=s.toks+1}->ge (gl X.prog X.w) X.A (f (.int i t) (.int j u)) Q E s) :
  dB X f (zv λi j=>.int (g i j)):=by
 intro U s σ H x y v u Q I rx ry h;obtain⟨i,j,rfl,rfl,q⟩:=h;obtain⟨t,rfl⟩:=rx;obtain⟨t',rfl⟩:=ry;exact rule i j t t' s _ _ ⟨.int (g i j),H,I.tok _,⟨_,rfl⟩,q⟩
def zR{f:ce->ce->Sem ce}{g:Int->Int->Bool}
  (rule:∀(i j:Int) (t u:Tok) (s:eM) (Q:ce->eM->Prop) (E:ce->eM->Prop),Q (.bool (g i j)) s->ge (gl X.prog X.w) X.A (f (.int i t) (.int j u)) Q E s) :
  dB X f (zv λi j=>.bl (g i j)):=by
 intro U s σ H x y v u Q I rx ry h;obtain⟨i,j,rfl,rfl,q⟩:=h;obtain⟨t,rfl⟩:=rx;obtain⟨t',rfl⟩:=ry;exact rule i j t t' s _ _ ⟨.bl (g i j),H,I,rfl,q⟩
def yV(i j:Int):Prop:=0 < j/\j < 1073741824
def yU(i j:Int):Prop:=0<=j/\j<=1000000/\i.natAbs < 2 ^ 64
def F3(i j:Int):Prop:=(-(2 ^ 64) < i/\i < 2 ^ 64)\/(-(2 ^ 64) < j/\j < 2 ^ 64)
def F3.ok{j:Int}(h:F3 i j):wf i j:=by
 rcases h with⟨h1,h2⟩ | ⟨h1,h2⟩
 ·exact .of_left (intBits_le_64 h1 h2)
 ·exact .of_right (intBits_le_64 h1 h2)
def wV:dB X (sn .Add) (zv λi j=>.int (i+j)):=K4 λ_ _ _ _ _ _ _ q=>add_int q
def wR:dB X (sn .Sub) (zv λi j=>.int (i-j)):=K4 λ_ _ _ _ _ _ _ q=>sub_int q
theorem zO:dB X (sn .FloorDiv) (rI yV λi j=>.int (i / j)):=M7 λi j _ _ _ _ _ hc q=>by
 have h1:(0:Int) < j:=hc.1;have h2:j < 1073741824:=hc.2;exact floordiv_int ∅ (by rw[Int.fdiv_eq_ediv_of_nonneg i ∅];exact q) (.inl (PyProof.noPylong_small ∅))
theorem HD:dB X (sn .Mod) (rI (λ_ j=>0 < j) λi j=>.int (i % j)):=M7 λi j _ _ _ _ _ hc q=>by
 have h1:(0:Int) < j:=hc;exact mod_int' ∅ (by rw[Int.fmod_eq_emod_of_nonneg i ∅];exact q)
def HB:dB X (sn .Pow) (rI yU λi j=>.int (i ^ j.toNat)):=M7 λ_ _ _ _ _ _ _ hc q=>pow_int_small hc.1 hc.2.1 hc.2.2 q
def RY{f:ce->Sem ce}{g:Int->Int}
  (rule:∀(i:Int) (t:Tok) (s:eM) (Q:ce->eM->Prop) (E:ce->eM->Prop),Q (.int (g i) s.toks) {s with toks:=s.toks+1}->ge (gl X.prog X.w) X.A (f (.int i t)) Q E s) :
  Qx X f (rU λi=>.int (g i)):=by
 intro U s σ H x v Q I rx h;obtain⟨i,rfl,q⟩:=h;obtain⟨t,rfl⟩:=rx;exact rule i t s _ _ ⟨.int (g i),H,I.tok _,⟨_,rfl⟩,q⟩
def qz:Qx X (unaryOp .USub) (rU λi=>.int (-i)):=RY λ_ _ _ _ _ q=>neg_int q
end
def OD:V->V->Bool
 | .aB,.aB=>true | .aB,.int _=>true | .int _,.aB=>true | .aB,.bl _=>true | .bl _,.aB=>true | .aB,.str _=>true | .str _,.aB=>true
 | .int _,.int _=>true | .bl _,.bl _=>true | .str _,.str _=>true | .tY _,.tY _=>true
 | .int _,.str _=>true | .str _,.int _=>true | .bl _,.str _=>true | .str _,.bl _=>true
 | _,_=>false
def Sg:R2:=λx y H Q=>OD x y=true/\Q (.bl (decide (x=y))) H
def FK{j:Int}:decide (V.int i=V.int j)=(i==j):=by
 rw[Dm];simp
def Jh{i j:Bool}:decide (V.bl i=V.bl j)=(i==j):=by
 rw[Dm];simp
def FJ{i j:Str}:decide (V.str i=V.str j)=(i==j):=by
 rw[Dm];simp
def FN{i j:Array UInt8}:decide (V.tY i=V.tY j)=(i.toList==j.toList):=by
 rw[Dm];cases i;cases j;simp
section
variable{b c:jp}{tc:TE}
def bK{s:eM}{Q:VK}{k k':Bool}(I:Inv X U σ H s)(q:Q (.bl k) H)(e:k=k'):EP X U σ Q (.bool k') s:=by
 subst e;exact⟨.bl k,H,I,rfl,q⟩
def K3:dB X (im .Eq) Sg:=by
 intro U s σ H x y v u Q I rx ry h;obtain⟨hs,q⟩:=h;cases x with
 | aB=>
  cases rx;cases y with
  | aB=>cases ry;exact PySem.EqNone.eq_none_none (bK I q (by simp))
  | bl j=>cases ry;exact PySem.EqNone.eq_none_bool (bK I q (by simp))
  | int j=>obtain⟨t',rfl⟩:=ry;exact PySem.EqNone.eq_none_int (bK I q (by simp))
  | str j=>obtain⟨t',rfl⟩:=ry;exact PySem.EqNone.eq_none_str (bK I q (by simp))
  | _=>exact absurd (hs) AD
 | bl i=>
  cases rx;cases y with
  | aB=>cases ry;exact PySem.EqNone.eq_bool_none (bK I q (by simp))
  | bl j=>cases ry;exact eq_bool (bK I q Jh)
  | str j=>obtain⟨t',rfl⟩:=ry;exact PySem.EqMixed.eq_bool_str (bK I q (by simp))
  | _=>exact absurd (show false=true from hs) AD
 | int i=>
  obtain⟨t,rfl⟩:=rx;cases y with
  | aB=>cases ry;exact PySem.EqNone.eq_int_none (bK I q (by simp))
  | int j=>obtain⟨t',rfl⟩:=ry;exact eq_int (bK I q FK)
  | str j=>obtain⟨t',rfl⟩:=ry;exact PySem.EqMixed.eq_int_str (bK I q (by simp))
  | _=>exact absurd (show false=true from hs) AD
 | str i=>
  obtain⟨t,rfl⟩:=rx;cases y with
  | aB=>cases ry;exact PySem.EqNone.eq_str_none (bK I q (by simp))
  | bl j=>cases ry;exact PySem.EqMixed.eq_str_bool (bK I q (by simp))
  | int j=>obtain⟨t',rfl⟩:=ry;exact PySem.EqMixed.eq_str_int (bK I q (by simp))
  | str j=>obtain⟨t',rfl⟩:=ry;exact eq_str (bK I q FJ)
  | _=>exact absurd (show false=true from hs) AD
 | tY i=>
  obtain⟨t,rfl⟩:=rx;cases y with
  | tY j=>obtain⟨t',rfl⟩:=ry;exact PySem.W.eq_bytes (bK I q FN)
  | _=>exact absurd (show false=true from hs) AD
 | _=>cases y <;> exact absurd (show false=true from hs) AD
def tm:dB X (im .Lt) (zv λi j=>.bl (decide (i < j))):=zR λ_ _ _ _ _ _ _ q=>lt_int q
def K0:dB X (im .LtE) (zv λi j=>.bl (decide (i<=j))):=zR λ_ _ _ _ _ _ _ q=>le_int q
def K1:dB X (im .Gt) (zv λi j=>.bl (decide (j < i))):=zR λ_ _ _ _ _ _ _ q=>gt_int q
def K2:dB X (im .GtE) (zv λi j=>.bl (decide (j<=i))):=zR λ_ _ _ _ _ _ _ q=>ge_int q
def uD:dB X (im .Lt) (λx y H Q=>∃i j,x=.str i/\y=.str j/\Q (.bl (decide (i.cps.toList < j.cps.toList))) H):=by
 intro U s σ H x y v u Q I rx ry h;obtain⟨i,j,rfl,rfl,q⟩:=h;obtain⟨t,rfl⟩:=rx;obtain⟨t',rfl⟩:=ry;exact lt_str (bK I q rfl)
def lX:dB X (im .In) (λx y H Q=>∃i j,x=.str i/\y=.str j/\Q (.bl (!(Builtin.Str.occurrences j i 0 j.length 1).isEmpty)) H):=by
 intro U s σ H x y v u Q I rx ry h;obtain⟨i,j,rfl,rfl,q⟩:=h;obtain⟨t,rfl⟩:=rx;obtain⟨t',rfl⟩:=ry;exact in_str (bK I q rfl)
def HE:dB X (im .Is) (λx y H Q=>y=.aB/\Q (.bl (decide (x=.aB))) H):=by
 intro U s σ H x y v u Q I rx ry h;obtain⟨rfl,q⟩:=h;cases ry;refine is_none_gen (bK I q ?_);cases x <;> first
  | (cases rx;rfl)
  | (obtain⟨t,rfl⟩:=rx;rfl)
def zL:dB X (im .IsNot) (λx y H Q=>y=.aB/\Q (.bl (!decide (x=.aB))) H):=by
 intro U s σ H x y v u Q I rx ry h;obtain⟨rfl,q⟩:=h;cases ry;refine isnot_none_gen (bK I q ?_);cases x <;> first
  | (cases rx;rfl)
  | (obtain⟨t,rfl⟩:=rx;rfl)
def dB.or{f:ce->ce->Sem ce}{r r':R2}(h:dB X f r)(h':dB X f r'):dB X f (λx y H Q=>r x y H Q\/r' x y H Q):=by
 intro U s σ H x y v u Q I rx ry q;rcases q with q | q
 ·exact h U s σ H x y v u Q I rx ry q
 ·exact h' U s σ H x y v u Q I rx ry q
def cy(b:jp)(h:op≠.In:=by decide)(h2:op≠.NotIn:=by decide):pc op b=false:=by
 have e1:(op==CmpOp.In)=false:=by cases op <;> first | rfl | exact absurd rfl h
 have e2:(op==CmpOp.NotIn)=false:=by cases op <;> first | rfl | exact absurd rfl h2
 cases b <;> simp[pc,e1,e2]
def iL{r:R2}(ho:dB X (im op) r)(ha:PE X a ta)(hb:PE X b tb)(hm:pc op b=false):PE X (.Compare a [op] [b] pos) (F8 r ta tb):=by
 intro U s σ H Q I h;exact wpAny_Compare1 (Jl ha hb I h λv u s2 x y H2 I2 rx ry q=>ho U s2 σ H2 x y v u Q I2 rx ry q) hm
def F7(t:TE):TT:=λσ H Q=>t σ H λx H'=>∃k,x=.bl k/\Q k H'
def fe{r:R2}(ho:dB X (im op) r)(ha:PE X a ta)(hb:PE X b tb)(hm:pc op b=false):PT X (.Compare a [op] [b] pos) (F7 (F8 r ta tb)):=by
 intro U s σ H Q I h;refine wpAny_isTrue_Compare1 (aY (ha U s σ H _ I h) λv s1 ⟨x,H1,I1,r1,q1⟩=>aY (hb U s1 σ H1 _ I1 q1) λu s2 ⟨y,H2,I2,r2,q2⟩=>
  aY (ho U s2 σ H2 x y v u _ I2 r1 r2 q2) λc s3 ⟨z,H3,I3,r3,k,e,q3⟩=>?_) hm
 subst e;cases r3;exact Bu ⟨H3,I3,q3⟩
def vM(r r':R2)(ta tb tc:TE):TE:=λσ H Q=>ta σ H λx H1=>tb σ H1 λy H2=>r x y H2 λz H3=>∃k,z=.bl k/\
 (if k=true then tc σ H3 λw' H4=>r' y w' H4 Q else Q (.bl false) H3)
def wy{r r':R2}(ho:dB X (im op) r)(Fm:dB X (im Jy) r')(ha:PE X a ta)(hb:PE X b tb)(hc:PE X c tc)
  (hm:lastMarks [op,Jy] [b,c]=false:=by with_unfolding_all rfl):PT X (.Compare a [op,Jy] [b,c] pos) (F7 (vM r r' ta tb tc)):=by
 intro U s σ H Q I h;refine isTrue_chain (aY (ha U s σ H _ I h) λv s1 ⟨x,H1,I1,r1,q1⟩=>test_link (aY (hb U s1 σ H1 _ I1 q1) λu s2 ⟨y,H2,I2,r2,q2⟩=>
  aY (ho U s2 σ H2 x y v u _ I2 r1 r2 q2) λd s3 ⟨z,H3,I3,r3,k,e,q3⟩=>?_)) hm
 subst e;cases r3;refine Bu ?_;cases k with
 | false=>
  obtain⟨k',e',q'⟩:=q3;cases e';exact ite_ff ⟨H3,I3,q'⟩
 | true=>
  refine ite_tt (test_last (aY (hc U s3 σ H3 _ I3 q3) λw' s4 ⟨z',H4,I4,r4,q4⟩=>aY (Fm U s4 σ H4 y z' u w' _ I4 r2 r4 q4) λd' s5 ⟨z2,H5,I5,r5,k2,e2,q5⟩=>?_));subst e2;cases r5;exact Bu ⟨H5,I5,q5⟩
def FY(K:Aa)(x:V)(H:Hp)(k:Bool):Prop:=
 match x with
 | .aB=>k=false
 | .bl b=>k=b
 | .int i=>k=(i != 0)
 | .str y=>y.length<=sizeLine/\k=((y.length:Int) != 0)
 | .tY y=>y.size<=sizeLine/\k=((y.size:Int) != 0)
 | .ref p=>(∃xs,cp K H p xs/\k=!xs.isEmpty)\/(∃xs,cf K H p xs/\k=!xs.isEmpty)\/∃aw,H p=al (.dK aw)/\k=!aw.isEmpty
 | _=>False
def rg{κ:Type}{aw:O (κ×V)}{vs:O (κ×ce)}(r:KV aw vs):(!vs.isEmpty)=!aw.isEmpty:=by
 cases r <;> rfl
def kG(r:Vals xs ay):(!ay.toArray.isEmpty)=!xs.isEmpty:=by
 cases r <;> simp
def m9:(sizeLine:Nat) < 2 ^ 63:=by rw[sizeLine_eq];decide
theorem GY:Qy X (λx H Q=>∃k,FY X.K x H k/\Q k H):=by
 intro U s σ H x v Q I rx h;obtain⟨k,e,q⟩:=h;have hs:=sizeLine_eq;cases x with
 | aB=>
  cases rx;have e':=e;subst e';exact truthy_none ⟨H,I,q⟩
 | bl b=>
  cases rx;have e':=e;subst e';exact Bu ⟨H,I,q⟩
 | int i=>
  obtain⟨t,rfl⟩:=rx;have e':=e;subst e';exact PySem.P.truthy_int ⟨H,I,q⟩
 | str y=>
  obtain⟨t,rfl⟩:=rx;obtain⟨hy,e'⟩:y.length<=sizeLine/\k=((y.length:Int) != 0):=e;subst e';exact PySem.P.truthy_str ∅ ⟨H,I.tok _,q⟩
 | tY y=>
  obtain⟨t,rfl⟩:=rx;obtain⟨hy,e'⟩:y.size<=sizeLine/\k=((y.size:Int) != 0):=e;subst e';exact PySem.W.truthy_bytes ∅ ⟨H,I.tok _,q⟩
 | ref p=>
  cases rx;have e':=e;rcases e' with⟨xs,hx,e'⟩ | ⟨xs,hx,e'⟩ | ⟨aw,hx,e'⟩
  ·subst e';obtain⟨ay,r,pl,hz⟩:=I.list hx;have Â:=r.length;exact wpAny_truthy_list pl.isList (by simp;omega) ⟨H,I.tok _,by rw[kG r];exact q⟩
  ·subst e';obtain⟨ay,r,pl,hz⟩:=I.tuple hx;have Â:=r.length;exact truthy_tuple pl (by simp only[Af];omega) ⟨H,I.tok _,by rw[kG r];exact q⟩
  ·subst e';obtain⟨hz,hS,vs,r,m⟩:aw.length<=sizeLine/\(p==up)=false/\∃vs,KV aw vs/\s.heap.DictOf (bR X.prog X.w) p vs:=I.aV p _ hx;have Â:=Paired.length r;exact wpAny_truthy_dict hS m ∅ ⟨H,I.tok _,by rw[rg r];exact q⟩
 | _=>exact(e).elim
def wu(ha:PE X a ta)(he:∀Á,isTrue a X.env Á=(do let v <- Á;CD a.pos;r9 [v] (truthy v))) :
  PT X a (λσ H Q=>ta σ H λx H'=>∃k,FY X.K x H' k/\Q k H'):=by
 intro U s σ H Q I h;exact isTrue_plain (aY (ha U s σ H _ I h) λv s1 ⟨x,H1,I1,r1,q1⟩=>GY U s1 σ H1 x v Q I1 r1 q1) (he _)
def qO:dB X (sn .Add) (λx y H Q=>∃i j,x=.str i/\y=.str j/\i.length+j.length<=sizeLine/\Q (.str (i++j)) H):=by
 intro U s σ H x y v u Q I rx ry h;obtain⟨i,j,rfl,rfl,hz,q⟩:=h;obtain⟨t,rfl⟩:=rx;obtain⟨t',rfl⟩:=ry;exact add_str (λt' tk=>⟨.str (i++j),H,I.tok _,⟨_,rfl⟩,q⟩) hz
def vals1{x:V}(r:Vals [x] us):∃u,us=[u]/\RelV x u:=by
 cases r with
 | cons r1 r2=>cases r2;exact⟨_,rfl,r1⟩
def vals2{x:V}(r:Vals [x,y] us):∃u w',us=[u,w']/\RelV x u/\RelV y w':=by
 cases r with
 | cons r1 r2=>
  cases r2 with
  | cons r3 r4=>cases r4;exact⟨_,_,rfl,r1,r3⟩
def yC:bG X (.builtin "abs") (λxs H Q=>∃i,xs=[.int i]/\Q (.int (if i < 0 then -i else i)) H):=by
 intro U s σ H xs us Q I r h;obtain⟨i,rfl,q⟩:=h;obtain⟨u,rfl,t,rfl⟩:=vals1 r;exact call_abs_int λu tk=>⟨.int (if i < 0 then -i else i),H,I.tok _,⟨_,rfl⟩,q⟩
def vk:bG X (.type "int") (λxs H Q=>(∃i,xs=[.int i]/\Q (.int i) H)\/∃k,xs=[.bl k]/\Q (.int (if k then 1 else 0)) H):=by
 intro U s σ H xs us Q I r h;rcases h with⟨i,rfl,q⟩ | ⟨k,rfl,q⟩
 ·obtain⟨u,rfl,t,rfl⟩:=vals1 r;exact call_int_int ⟨.int i,H,I,⟨_,rfl⟩,q⟩
 ·obtain⟨u,rfl,r1⟩:=vals1 r;cases r1;exact call_int_bool ⟨.int (if k then 1 else 0),H,I.tok _,⟨_,rfl⟩,q⟩
def MM(K:Aa)(x:V)(H:Hp)(n:Nat):Prop:=
 match x with
 | .str y=>y.length<=sizeLine/\n=y.length
 | .tY y=>y.size<=sizeLine/\n=y.size
 | .ref p=>(∃xs,cp K H p xs/\n=xs.length)\/∃xs,cf K H p xs/\n=xs.length
 | _=>False
theorem yB:bG X (.builtin "len") (λxs H Q=>∃x n,xs=[x]/\MM X.K x H n/\Q (.int n) H):=by
 intro U s σ H xs us Q I r h;obtain⟨x,n,rfl,e,q⟩:=h;obtain⟨u,rfl,rx⟩:=vals1 r;have hs:=sizeLine_eq;cases x with
 | str y=>
  obtain⟨t,rfl⟩:=rx;obtain⟨hy,e'⟩:y.length<=sizeLine/\n=y.length:=e;subst e';exact len_str ∅ ⟨.int _,H,I.tok _,⟨_,rfl⟩,q⟩
 | tY y=>
  obtain⟨t,rfl⟩:=rx;obtain⟨hy,e'⟩:y.size<=sizeLine/\n=y.size:=e;subst e';exact PySem.W.len_bytes ∅ ⟨.int _,H,I.tok _,⟨_,rfl⟩,q⟩
 | ref p=>
  cases rx;have e':=e;rcases e' with⟨xs,hx,e'⟩ | ⟨xs,hx,e'⟩
  ·subst e';obtain⟨ay,r',pl,hz⟩:=I.list hx;have Â:=r'.length;exact Calls.call_len_list pl.isList (by simp;omega) ⟨.int xs.length,H,I.tok _,⟨_,by simp only[Af];rw[Â]⟩,q⟩
  ·subst e';obtain⟨ay,r',pl,hz⟩:=I.tuple hx;have Â:=r'.length;exact len_tuple pl (by simp only[Af];omega) ⟨.int xs.length,H,I.tok _,⟨_,by simp only[Af];rw[Â]⟩,q⟩
 | _=>exact(e).elim
end
end L2
variable{a:AL}{o:Option Be}{R:PySem.Result->Dt->Prop}{pl:PySem.Sem Bool}{mA:Bv->Option Be}{prog:PySem.Program}{kw:O (Bv×Be)}{env:PySem.Env}{gW À:Ci}
namespace L2
structure sy(h:lm)(x dx C:db)(mA:Str->Option ce):Prop where
 obj:h.get? x=al (BJ C dx)
 ns:h.Ns1 dx mA
 ne:dx≠x
def uI{dx:db}(n:h.Ns1 dx mA):∃od,h.get? dx=al od/\∀name,Dw name od=al (mA name):=by
 obtain⟨o,es,ep,ho,hd,hk,_,hm⟩:=n;refine⟨o,ho,λname=>?_⟩;have e:=hm name;unfold nsFind findBy at e;rw[<- Array.find?_toList]at e;unfold Dw;rw[hd];dsimp only
 split
 ·rename_i y q;rw[q]at e;exact congrArg al e
 ·rename_i q;rw[q]at e;have a:es.toList.any (·.refKey)=false:=by
   rw[List.any_eq_false];intro y hy;obtain⟨z,t,Pw⟩:=hk y (Array.mem_toList_iff.mp hy);simp[DictEntry.refKey,Pw]
  have a':¬es.toList.any (·.refKey)=true:=by rw[a];exact AD
  rw[if_neg a'];exact congrArg al e
def sy.look{x dx C:db}(I:sy h x dx C mA):∃od,PySem.W.InstAt h x (BJ C dx) C (al od)/\∀name,Dw name od=al (mA name):=
 let ⟨od,ho,hl⟩:=uI I.ns
 ⟨od,⟨I.obj,rfl,rfl,ho⟩,hl⟩
section
variable{s:eM}{K:Aa}{x dx C f:db}{name:Str}{v:ce}
def get_map{expr:Bool}(X:K.In s.heap)(I:sy s.heap x dx C mA)(hg:Cw K C name=true)(hh:CU K C=true)
  (ha:AO K (.ref C) name=al bn) (hv:mA name=al v) (Nh:ES v=true) (h:Q v {s with toks:=s.toks+1}) :
  ge (gl prog w) A (getAttr (.ref x) name expr) Q E s:=by
 obtain⟨od,J,hl⟩:=I.look;exact PySem.W.get_value X J (Dn hg).1 (PySem.W.findObj_own hh ha rfl (by rw[hl,hv])) Nh h
def xK{Q:ce×O ce->eM->Prop}(X:K.In s.heap)(I:sy s.heap x dx C mA)(hg:Cw K C name=true)
  (hf:AO K (.ref C) name=al (al (.ref f))) (ht:CT K (.ref f)=true) (hv:mA name=bn) (h:Q (.ref f,[.ref x]) s) :
  ge (gl prog w) A (getMethod (.ref x) name pl) Q E s:=by
 obtain⟨od,J,hl⟩:=I.look;exact PySem.W.method_fn X J (Dn hg).1 (Dn hg).2 hf (beq_iff_eq.mp ht) (by show(Dw name od).map (·.isSome)=al false;rw[hl,hv];rfl) h
theorem zp{ns:O Str}{Q:Unit->eM->Prop}(X:K.In s.heap)(I:sy s.heap x dx C mA)
  (hs:AO K (.ref C) "__setattr__"=al (al (.builtin "object.__setattr__"))) (hp:DL K C=true) (ht:Ed K C name=al bn) (hh:CU K C=true)
  (hw:EL mA ns) (hsz:ns.length<=sizeLine)
  (h:∀h',sy h' x dx C (λy=>if y=name then al v else mA y)->Cy dx s.heap h'->Q () {s with heap:=h',toks:=s.toks+2}) :
  ge (gl prog w) A (setAttr (.ref x) name v) Q E s:=by
 obtain⟨od,J,hl⟩:=I.look;refine PySem.W.set_plain X J hs (PySem.W.osa_open X J hp ht λb=>?_);obtain⟨cd,hc,PF⟩:=PySem.W.any_some hh;refine Ad (Au (Ad (Ad (wpAny_loadPart I.obj (Ad (PySem.W.Looks.here (s:={s with toks:=s.toks+1}) (PySem.W.looks_clsIn X hc) ?_))))));rw[PF];refine Au (Ad (Au (Ad ?_)));refine wpAny_nsSet1 (s:={s with toks:=s.toks+1}) I.ns λh' Q8 vC=>?_;obtain⟨oD,Vf,Vg,Tp,TL,TQ⟩:=Q8.count (EL.cons name v hw);exact Ad (wpAny_lookBehind Tp (by rw[TL];exact pastItsLine_dict (Ba TQ (by rw[Av];omega))) (Au (h _ ⟨(vC.2 _ (BR I.ne)).trans I.obj,Q8,I.ne⟩ vC)))
def xo{vs:O ce}(X:K.In s.heap)(hm:Ee K C=true)
  (hi:AO K (.ref C) "__init__"=al (al (.ref f))) (hf:PySem.W.typeIn K (.ref f)=al (.type "function"))
  (h:CF (gl prog w) (A.under (.builtin "type.__call__" ⟨.ref C::vs,kw⟩)) (.call (.ref f) ⟨.ref (s.heap.objs.size+1)::vs,kw⟩) (PySem.W.InitBack (s.heap.objs.size+1) R)
   {s with heap:=(s.heap.push Bi).push (BJ C s.heap.objs.size)}) :
  CF (gl prog w) A (.call (.ref C) ⟨vs,kw⟩) R s:=by
 obtain⟨hh,g,d,t,os⟩:=s;exact PySem.W.make_core (PySem.W.makes_of X hm) (PySem.W.looks_findIn X hi) (λself=>PySem.W.bind_fn X self hf) (.inl rfl) h
end
def fP(f:Str)(v:V):O (Str×V)->O (Str×V)
 | []=>[(f,v)]
 | (g,x)::r=>if g=f then (g,v)::r else (g,x)::fP f v r
theorem jy(f g:Str)(v:V):∀fs:O (Str×V),(fP f v fs).lookup g=if g=f then al v else fs.lookup g
 | []=>by
  show Cu g [(f,v)]=_;by_cases h:g=f
  ·have hb:(g==f)=true:=beq_iff_eq.mpr h;simp only[Cu,hb,if_pos h]
  ·have hb:=beq_eq_false_iff_ne.mpr h;simp only[Cu,hb,if_neg h]
 | (k,x)::r=>by
  rw[show fP f v ((k,x)::r)=(if k=f then (k,v)::r else (k,x)::fP f v r) from rfl];by_cases hk:k=f
  ·rw[if_pos hk];by_cases h:g=k
   ·simp only[Cu,(beq_iff_eq.mpr h),if_pos (h.trans hk)]
   ·simp only[Cu,(beq_eq_false_iff_ne.mpr h),if_neg (λe:g=f=>h (e.trans hk.symm))]
  ·rw[if_neg hk];by_cases h:g=k
   ·simp only[Cu,(beq_iff_eq.mpr h),if_neg (λe:g=f=>hk (h.symm.trans e))]
   ·simp only[Cu,(beq_eq_false_iff_ne.mpr h)];exact(jy f g v r)
theorem jo(f:Str)(v:V):∀fs:O (Str×V),f∈(fP f v fs).map (·.1)/\∀g,g∈fs.map (·.1)->g∈(fP f v fs).map (·.1)
 | []=>⟨by simp[fP],λg h=>by simp at h⟩
 | (k,x)::r=>by
  obtain⟨i1,i2⟩:=jo f v r;rw[show fP f v ((k,x)::r)=(if k=f then (k,v)::r else (k,x)::fP f v r) from rfl];by_cases hk:k=f
  ·subst hk;exact⟨by simp,λg h=>by simpa using h⟩
  ·rw[if_neg hk];refine⟨?_,λg h=>?_⟩
   ·exact AE _ i1
   ·rcases AA.mp h with e | e
    ·exact AA.mpr (.inl e)
    ·exact AE _ (i2 g e)
theorem jA(f:Str)(v:V):∀fs:O (Str×V),(fP f v fs).length<=fs.length+1
 | []=>by simp[fP]
 | (k,x)::r=>by
  have ih:=jA f v r;rw[show fP f v ((k,x)::r)=(if k=f then (k,v)::r else (k,x)::fP f v r) from rfl];by_cases hk:k=f
  ·rw[if_pos hk,Av,Av];omega
  ·rw[if_neg hk,Av,Av];omega
def jv.some_of(r:jv (al v) o):∃u,o=al u/\RelV v u:=by
 cases o with
 | none=>exact(r).elim
 | some u=>exact⟨u,rfl,r⟩
def jv.none_of(r:jv bn o):o=bn:=by
 cases o with
 | none=>rfl
 | some u=>exact(r).elim
def uT(r:RelV v u):ES u=true:=by
 cases v with
 | aB=>cases (r);rfl
 | bl b=>cases (r);rfl
 | int i=>obtain⟨t,e⟩:=(r);cases e;rfl
 | str x=>obtain⟨t,e⟩:=(r);cases e;rfl
 | tY b=>obtain⟨t,e⟩:=(r);cases e;rfl
 | IK b=>obtain⟨t,e⟩:=(r);cases e;rfl
 | ref a=>cases (r);rfl
 | ty n=>cases (r);rfl
section
variable{C dx:db}{fs:O (Str×V)}
def jW(aV:iA P w H h)(e:H a=al (.ins C dx fs)):∃mA,sy h a dx C mA/\(∀f,jv (fs.lookup f) (mA f))/\EL mA (fs.map (·.1))/\fs.length<=1000/\H dx=al (.own a):=by
 obtain⟨d,z,ne,ob,mA,n,r,q⟩:=(aV a _ e);exact⟨mA,⟨ob,n,ne⟩,r,q,z,d⟩
end
structure uh(K:Aa)(C:db):Prop where
 pg:Cw K C A3=true
 hd:CU K C=true
 po:DL K C=true
 sa:AO K (.ref C) "__setattr__"=al (al (.builtin "object.__setattr__"))
def uh.get{K:Aa}{C:db}(c:uh K C)(f:Str):Cw K C f=true:=c.pg
def di(K:Aa)(C:db)(f:Str):Prop:=AO K (.ref C) f=al bn
def di.taker{K:Aa}{C:db}{f:Str}(n:di K C f):Ed K C f=al bn:=by
 unfold Ed;rw[show AO K (.ref C) f=al bn from n];rfl
structure Meth(K:Aa)(C:db)(m:Str)(f:db):Prop where
 at_:AO K (.ref C) m=al (al (.ref f))
 fn:CT K (.ref f)=true
 kp:A7 K (.ref f)=true
section
variable{s:eM}{C dx:db}{fs:O (Str×V)}{f:Str}
def rD{b:Bool}(I:Inv X U σ H s)(e:H a=al (.ins C dx fs))(c:uh X.K C)(n:di X.K C f)(l:fs.lookup f=al v)
  (h:∀u s',Inv X U σ H s'->RelV v u->Q u s'):ge (gl X.prog X.w) A (getAttr (.ref a) f b) Q E s:=by
 obtain⟨mA,O_,r,_,_,_⟩:=jW I.aV e;obtain⟨u,hu,ru⟩:=jv.some_of (by rw[<- l];exact r f);exact get_map I.gL O_ (c.get f) c.hd n hu (uT ru) (h u _ (I.tok _) ru)
def kK{m:Str}{g:db}{Q:ce×O ce->eM->Prop}(I:Inv X U σ H s)(e:H a=al (.ins C dx fs))(c:uh X.K C)(k:Meth X.K C m g)(l:fs.lookup m=bn)
  (h:Q (.ref g,[.ref a]) s):ge (gl X.prog X.w) A (getMethod (.ref a) m pl) Q E s:=by
 obtain⟨mA,O_,r,_,_,_⟩:=jW I.aV e;exact xK I.gL O_ (c.get m) k.at_ k.fn (jv.none_of (by rw[<- l];exact r m)) h
theorem qG{Q:Unit->eM->Prop}(I:Inv X U σ H s)(e:H a=al (.ins C dx fs))(c:uh X.K C)(n:di X.K C f)(hl:fs.length < 1000)(ry:RelV y u)
  (h:∀s',Inv X U σ (upd H a (.ins C dx (fP f y fs))) s'->Q () s'):ge (gl X.prog X.w) A (setAttr (.ref a) f u) Q E s:=by
 obtain⟨mA,O_,r,wi,_,ho⟩:=jW I.aV e;have hz:(fs.map (·.1)).length<=sizeLine:=by rw[Al,sizeLine_eq];omega
 refine zp I.gL O_ c.sa c.po n.taker c.hd wi hz λh' O' sb=>h _ ?_;have hd:∃o,h'.get? dx=al o:=let ⟨o,_,_,e',_⟩:=O'.ns;⟨o,e'⟩;refine I.write (by rw[e];exact Bz) (.inr ho) (λb q hb z=>(sb.2 b hb).trans z) hd ?_;refine⟨by rw[ax O_.ne];exact ho,?_,O_.ne,O'.obj,_,O'.ns,λg=>?_,λg hg=>?_⟩
 ·have:=jA f y fs;omega
 ·rw[jy];by_cases q:g=f
  ·rw[if_pos q,if_pos q];exact ry
  ·rw[if_neg q,if_neg q];exact r g
 ·by_cases q:g=f
  ·rw[q];exact(jo f y fs).1
  ·refine(jo f y fs).2 g (wi g λz=>hg ?_);show(if g=f then al u else mA g)=bn;rw[if_neg q];exact z
def Inv.made(I:Inv X U σ H s):Inv X U σ (upd (upd H s.heap.objs.size (.own (s.heap.objs.size+1))) (s.heap.objs.size+1) (.ins C s.heap.objs.size []))
  {s with heap:=(s.heap.push Bi).push (BJ C s.heap.objs.size)}:=by
 have e1:(s.heap.push Bi).get? s.heap.objs.size=al Bi:=Ap s.heap rfl;have e2:((s.heap.push Bi).push (BJ C s.heap.objs.size)).get? (s.heap.objs.size+1)=al (BJ C s.heap.objs.size):=by
  have:=Ap (s.heap.push Bi) (o:=BJ C s.heap.objs.size) rfl
  rwa [B8]at this
 have e3:(s.heap.push Bi).Ns s.heap.objs.size (λ_=>bn):=⟨Bi,#[],_,e1,rfl,(λe he=>absurd he (by simp)),λ_=>rfl⟩;have I1:=I.laid (a:=s.heap.objs.size) (o:=.own (s.heap.objs.size+1)) (h':=s.heap.push Bi) (t':=s.toks) (λb u q=>Ae _ q) (Aj _) ⟨_,e1⟩;refine I1.laid (a:=s.heap.objs.size+1) (o:=.ins C s.heap.objs.size []) (t':=s.toks) (λb u q=>Ae _ q) (ER (B8 _ _)) ?_;have ne:s.heap.objs.size≠s.heap.objs.size+1:=Az (Bq _);refine⟨by rw[ax ne,aF],Bj _,ne,e2,λ_=>bn,(Heap.Ns1.of_empty e3).at λo q=>Ae _ q,λ_=>Bz,λy hy=>absurd rfl hy⟩
def FU{f:Str}{s:eM}(hb:pi e f env (lc e env)=lc e env)
  (h:ge (gl prog w) A (lc e env) (λo s₁=>ge (gl prog w) A (getAttr o f true) Q E s₁) E s):ge (gl prog w) A (lc (.Attribute e f pos) env) Q E s:=
 Attribute_any_ h (by rw[arm_eval_Attribute,hb])
end
def Ou(K:Aa)(ta:TE)(f:Str):TE:=λσ H Q=>ta σ H λx H1=>∃a C dx fs v,x=.ref a/\H1 a=al (.ins C dx fs)/\uh K C/\di K C f/\fs.lookup f=al v/\Q v H1
def OE(K:Aa)(ta tv:TE)(f:Str):TS:=λD σ H=>tv σ H λy H1=>ta σ H1 λx H2=>∃a C dx fs,x=.ref a/\H2 a=al (.ins C dx fs)/\uh K C/\di K C f/\fs.length < 1000/\
 D.nx σ (upd H2 a (.ins C dx (fP f y fs)))
section
variable{o Ã:jp}{f:Str}{tv:TE}
def gj(he:PE X e ta)(hb:pi e f X.env (lc e X.env)=lc e X.env):PE X (.Attribute e f pos) (Ou X.K ta f):=by
 intro U s σ H Q I h;refine FU hb (aY (he U s σ H _ I h) λu s1 ⟨x,H1,I1,rx,a,C,dx,fs,v,ex,ea,c,n,l,q⟩=>?_);subst ex;obtain rfl:u=AR a:=rx;exact rD I1 ea c n l λu' s2 I2 ru=>⟨v,H1,I2,ru,q⟩
def qK(ha:PE X o ta)(hv:PE X Ã tv)(hs:pr Ã (al (.Attribute o f È)) pos.line X.env=pure false):PS X (.Assign [.Attribute o f È] Ã pos) (OE X.K ta tv f):=by
 intro U s σ H D I h;refine plainObj_wpAny_Assign_Attribute (aY (hv U s σ H _ I h) λu s1 ⟨y,H1,I1,ry,q⟩=>aY (ha U s1 σ H1 _ I1 q) λov s2 ⟨x,H2,I2,rx,a,C,dx,fs,ex,ea,c,n,l,q2⟩=>?_) hs;subst ex;obtain rfl:ov=AR a:=rx;exact qG I2 ea c n l ry λs3 I3=>⟨σ,_,I3,q2⟩
def Gj{m:Str}{args:O jp}{s:eM}(he:PE X e te)(I:Inv X U σ H s)
  (h:te σ H λx H1=>∃a C dx fs g,x=.ref a/\H1 a=al (.ins C dx fs)/\uh X.K C/\Meth X.K C m g/\fs.lookup m=bn/\
   ∀s1,Inv X U σ H1 s1->ge (gl X.prog X.w) X.A (callWith pos (.ref g) [.ref a] (Fk pos (ii args X.env)) (backToKw pos (keywordEach [] X.env))) Q X.xe s1)
  (ht:lc (.Call (.Attribute e m À) args [] pos) X.env=(do
   let ov <- lc e X.env
   CD À.atName
   let (f,first) <- r9 [ov] (getMethod ov m pl)
   callWith pos f first (Fk pos (ii args X.env)) (backToKw pos (keywordEach [] X.env)))) :
  ge (gl X.prog X.w) X.A (lc (.Call (.Attribute e m À) args [] pos) X.env) Q X.xe s:=by
 refine Ei (pl:=pl) (aY (he U s σ H _ I h) λu s1 ⟨x,H1,I1,rx,a,C,dx,fs,g,ex,ea,c,k,l,q⟩=>?_) ht;subst ex;obtain rfl:u=AR a:=rx;exact kK I1 ea c k l (q s1 I1)
end
section
variable{s:eM}{c:ce}{b:Bool}
inductive gG(K:Aa)(H:Hp):V->ce->Prop where
 | aB:gG K H .aB (.type "NoneType")
 | bl (x:Bool):gG K H (.bl x) (.type "bool")
 | int (i:Int):gG K H (.int i) (.type "int")
 | str (x:Str):gG K H (.str x) (.type "str")
 | IK (x:UInt64):gG K H (.IK x) (.type "float")
 | lst {a:db}{xs:List V} (e:H a=al (.lst xs)):gG K H (.ref a) (.type "list")
 | dc {a:db}{o:Obj}{xs:List V} (e:H a=al (.dc o (.lst xs))):gG K H (.ref a) (.type "list")
 | tup {a:db}{xs:List V} (e:H a=al (.tup xs)):gG K H (.ref a) (.type "tuple")
 | dK {a:db}{aw:List (Key×V)} (e:H a=al (.dK aw)):gG K H (.ref a) (.type "dict")
 | dT {a:db}{aw:List (List Key×V)} (e:H a=al (.dT aw)):gG K H (.ref a) (.type "dict")
 | ins {a C dx:db}{fs:List (Str×V)} (e:H a=al (.ins C dx fs)) (cl:uh K C) (ha:AO K (.ref C) "__class__"=al (al (.builtin "object.__class__")))
   (hn:PySem.W.specialIn K (.builtin "object.__class__") "__get__"=al (al (.builtin "getset_descriptor.__get__"))) (Q4:PySem.W.takesIn K (.builtin "object.__class__")=al true)
   (hm:PySem.W.mroIn K C (.type "object")=al true):gG K H (.ref a) (.ref C)
def uN{x:V}{t:ce}(I:Inv X U σ H s)(rx:RelV x u)(ty:gG X.K H x t)(e:A6 X.K t c=al b)(h:∀tk,Q (.bool b) {s with toks:=tk}) :
  ge (gl X.prog X.w) A (call (.builtin "isinstance") [u,c]) Q E s:=by
 cases ty with
 | aB=>cases (show u=C4 from rx);exact AV PySem.W.kitx_none I.gL Bz e (λz=>nomatch z) h
 | bl y=>cases (show u=CN y from rx);exact AV PySem.W.kitx_bool I.gL Bz e (λz=>nomatch z) h
 | int i=>obtain⟨t,q⟩:=(show ∃t,u=DV i t from rx);cases q;exact AV PySem.W.kitx_int I.gL Bz e (λz=>nomatch z) h
 | str y=>obtain⟨t,q⟩:=(show ∃t,u=ET y t from rx);cases q;exact AV PySem.W.kitx_str I.gL Bz e (λz=>nomatch z) h
 | IK y=>obtain⟨t,q⟩:=(show ∃t,u=Value.float y t from rx);cases q;exact AV PySem.W.kitx_float I.gL Bz e (λz=>nomatch z) h
 | @lst a xs ea=>
  cases (show u=AR a from rx);obtain⟨_,_,n,_,h1⟩:=(show bu X.prog X.w H s.heap a (.lst xs) from I.aV a _ ea);exact AV DN I.gL ⟨_,h1,rfl⟩ e (λz=>nomatch z) h
 | @dc a ob xs ea=>
  cases (show u=AR a from rx);obtain⟨_,_,_,n,_,h1⟩:=(show bu X.prog X.w H s.heap a (.dc ob (.lst xs)) from I.aV a _ ea);exact AV DN I.gL ⟨_,h1,rfl⟩ e (λz=>nomatch z) h
 | @tup a xs ea=>
  cases (show u=AR a from rx);obtain⟨_,_,_,p,_⟩:=(show bu X.prog X.w H s.heap a (.tup xs) from I.aV a _ ea);obtain⟨o,h1,h2,_⟩:=p;exact AV EC I.gL ⟨o,h1,h2⟩ e (λz=>nomatch z) h
 | @dK a aw ea=>
  cases (show u=AR a from rx);obtain⟨_,_,vs,_,p⟩:=(show bu X.prog X.w H s.heap a (.dK aw) from I.aV a _ ea);obtain⟨o,es,ep,h1,h2,_⟩:=p;exact AV DP I.gL ⟨o,h1,h2.1⟩ e (λz=>nomatch z) h
 | @dT a aw ea=>
  cases (show u=AR a from rx);obtain⟨_,_,xs,_,o,es,ep,h1,h2,_⟩:=(show bu X.prog X.w H s.heap a (.dT aw) from I.aV a _ ea);exact AV DP I.gL ⟨o,h1,h2.1⟩ e (λz=>nomatch z) h
 | @ins a C dx fs ea cl ha hn Q4 hm=>
  cases (show u=AR a from rx);obtain⟨mA,O_,_⟩:=jW I.aV ea;obtain⟨od,J,_⟩:=O_.look;exact AV (PySem.W.kitx_own (cl.get _) cl.hd ha hn Q4 hm) I.gL J e (λz=>nomatch z) h
end
end L2
variable{o:BL}{v Å pm bO ct oc:Be}{vs:O L2.V}{mg:Bv->Option Be}{base:D8}{fd:PySem.FuncData}{ps:O Bv}{outer:O PySem.Env}{sc scope:PySem.Scope}{qual:Bv}{an od:Option AL}{wQ:Array (Option Be)}
namespace L2
structure bt(k:Nat)(A:tz):Prop where
 hd:A.handled=bn
 dp:A.depth+3*k+5 < recursionLimit
 un:A.units+16*k+200 < sB
 gd:A.guards=al []
theorem bt.mono{k:Nat}(r:bt k A)(h:j<=k):bt j A:=⟨r.hd,by have:=r.dp;omega,by have:=r.un;omega,r.gd⟩
theorem bt.deeper{k:Nat}(r:bt (k+1) A)(env:Env):bt k (A.deeper env):=
 ⟨r.hd,by have:=r.dp;show A.depth+1+3*k+5 < _;omega,by have:=r.un;show A.units+3+16*k+200 < _;omega,r.gd⟩
def qZ{C:db}:(A.under (.builtin "type.__call__" ⟨.ref C::us,kw⟩)).depth=A.depth+1:=by
 first | rfl | simp
def qY{C:db}:(A.under (.builtin "type.__call__" ⟨.ref C::us,kw⟩)).units=A.units+1:=by
 first | rfl | simp
theorem bt.make{k:Nat}(r:bt (k+1) A)(C:db)(us:O ce)(kw:O (Str×ce)):bt k (A.under (.builtin "type.__call__" ⟨.ref C::us,kw⟩)):=
 ⟨r.hd,by have:=r.dp;rw[qZ];omega,by have:=r.un;rw[qY];omega,by have h:=r.gd;simp[Around.under,Code.guards,Code.isGuard,guardIds,pushGuards,h]⟩
theorem bt.depth{k:Nat}(r:bt k A):A.depth < recursionLimit:=by have:=r.dp;omega
def Om:TA:=λ_ H Q=>Q [] H
def Kn(ta:TE)(tr:TA):TA:=λσ H Q=>ta σ H λx H1=>tr σ H1 λxs H2=>Q (x::xs) H2
section
variable{t:TA}
def aD:PA X [] Om:=λ_ _ _ _ H Q I h=>Cn ⟨[],H,I,.nil,h⟩
def ak(ha:PE X e te)(hr:PA X es t)(hs:dA X e es:=by rfl):PA X (e::es) (Kn te t):=by
 intro pos U s σ H Q I h;rw[hs];exact BZ (aY (ha U s σ H _ I h) λu s1 ⟨x,H1,I1,r1,q1⟩=>aY (hr pos U s1 σ H1 _ I1 q1) λus s2 ⟨xs,H2,I2,r2,q2⟩=>⟨x::xs,H2,I2,.cons r1 r2,q2⟩)
end
abbrev Sp:=O V->Hp->VK->XK->Prop
abbrev vE:=O Env->Hp->eM->XK->ce->eM->Prop
structure oq(P:re)(w:sK)(K:Aa)(mg:Str->Option ce)(base:lm)(A:tz)(outer:List Env)(s:eM)(H:Hp):Prop where
 frames:A.frames=al outer
 mod:Mod K mg base
 bs:∀b o,base.get? b=al o->s.heap.get? b=al o/\H b=bn
 yD:base.objs.size<=s.heap.objs.size
 gA:s.heap.FunFrames base outer
 y6:∀b∈frs outer,H b=bn
 aV:iA P w H s.heap
 bare:FS s.gens
def CE(outer:O Env)(P:re)(w:sK)(H:Hp)(s:eM)(Q:VK)(u:ce)(s':eM):Prop:=
 ∃v H',s'.os=s.os/\FS s'.gens/\Un (frs outer) [] H H' s.heap s'.heap/\iA P w H' s'.heap/\RelV v u/\Q v H'
def CR(CX:vE)(outer:O Env)(P:re)(w:sK)(H:Hp)(s:eM)(Q:VK)(E:XK)(r:Result)(s':eM):Prop:=
 match r with
 | .ok (.ret u)=>CE outer P w H s Q u s'
 | .ok _=>False
 | .error e=>CX outer H s E e s'
structure bx(P:re)(w:sK)(K:Aa)(mg:Str->Option ce)(base:lm)(CX:vE)(k:Nat)(f:db)(fd:wn)(ps:List Str)(sp:Sp):Prop where
 len:∀vs H Q E,sp vs H Q E->vs.length=ps.length
 run:∀(A:tz) (outer:List Env) (s:eM) (H:Hp) (args:Args) (us:List ce) (vs:List V) (Q:VK) (E:XK),bt k A->oq P w K mg base A outer s H->BindsTo s fd args (ps.zip us)->Vals vs us->sp vs H Q E->
  CF (gl P w) A (.call (.ref f) args) (CR CX outer P w H s Q E) s
def bx.mono{K:Aa}{CX:vE}{k:Nat}{f:db}{sp:Sp}(F:bx P w K mg base CX j f fd ps sp)(h:j<=k) :
  bx P w K mg base CX k f fd ps sp:=⟨F.len,λA outer s H args us vs Q E hr=>F.run A outer s H args us vs Q E (hr.mono h)⟩
def bx.imp{K:Aa}{CX:vE}{k:Nat}{f:db}{sp QO:Sp}(F:bx P w K mg base CX k f fd ps sp)
  (h:∀vs H Q E,QO vs H Q E->sp vs H Q E):bx P w K mg base CX k f fd ps QO:=
 ⟨λvs H Q E q=>F.len vs H Q E (h _ _ _ _ q),λA outer s H args us vs Q E hr he hb hv hs=>F.run A outer s H args us vs Q E hr he hb hv (h _ _ _ _ hs)⟩
def oq.make{K:Aa}{s:eM}(e:oq P w K mg base A outer s H)(C:db)(us:O ce)(kw:O (Str×ce)) :
  oq P w K mg base (A.under (.builtin "type.__call__" ⟨.ref C::us,kw⟩)) outer s H:=⟨by first | exact e.frames | (simpa[Around.under,Code.envs,Code.isFrame,pushEnvs]using e.frames),e.mod,e.bs,e.yD,e.gA,e.y6,e.aV,e.bare⟩
section
variable{s:eM}
def Inv.Jb(I:Inv X U σ H s):oq X.prog X.w X.K X.mg X.base X.A X.stack s H:=
 ⟨I.ok.frames,I.ok.mod,I.bs,Ba I.ok.yD I.sz,I.stack,I.sQ,I.aV,I.bare⟩
def Inv.after{Q:VK}(I:Inv X U σ H s)(h:CE X.stack X.prog X.w H s Q u s'):EP X U σ Q u s':=by
 obtain⟨v,H',os,bare,un,aV,r,q⟩:=h;obtain⟨hh,g,d,t,OX⟩:=s';obtain rfl:OX=s.os:=os;exact⟨v,H',I.call (h':=hh) (g':=g) (d':=d) (t':=t) (ch:=[]) un aV bare (λb z=>absurd z (by simp)),r,q⟩
end
def Ki(C:db)(m:Str)(sp:Sp)(mj:O V)(E:XK)(ta:TE)(t:TA):TE:=λσ H Q=>ta σ H λx H1=>∃a dx fs,x=.ref a/\H1 a=al (.ins C dx fs)/\fs.lookup m=bn/\
 t σ H1 λvs H2=>sp (x::(vs++mj)) H2 Q E
def Kj(C:db)(sp:Sp)(mj:O V)(E:XK)(t:TA):TE:=λσ H Q=>t σ H λvs H1=>∀x dx,H1 x=bn->H1 dx=bn->dx≠x->
 sp (.ref x::(vs++mj)) (upd (upd H1 dx (.own x)) x (.ins C dx [])) (λv H2=>v=.aB/\Q (.ref x) H2) E
def Binds(K:Aa)(fd:wn)(ps:O Str)(ds:O ce):Prop:=
 ∀(s:eM) (us:O ce),K.In s.heap->(us++ds).length=ps.length->BindsTo s fd ⟨us,[]⟩ (ps.zip (us++ds))
def Binds.all{K:Aa}(h:∀us:O ce,us.length=ps.length->Db fd ⟨us,[]⟩=pure (ps.zip us)):Binds K fd ps []:=λs us _ hl=>by
 rw[Bg]at hl ⊢;exact .of_eq (h us hl)
def Passes(CX:vE)(X:Cx)(E:XK):Prop:=∀(U:O (db×Obj)) (σ:St) (H:Hp) (s:eM) (e:ce) (s':eM),Inv X U σ H s->CX X.stack H s E e s'->X.xe e s'
section
variable{CX:vE}{k:Nat}{f C:db}{sp:Sp}{mj:O V}{ds:O ce}{E:XK}{x m:Str}{p:Pos}{t:TA}
def ki{s:eM}{Q:VK}(F:bx X.prog X.w X.K X.mg X.base CX k f fd ps sp)(hr:bt k X.A)(hb:Binds X.K fd ps ds)(hd:Vals mj ds)(hx:Passes CX X E)
  (I:Inv X U σ H s) (r:Vals vs us) (h:sp (vs++mj) H Q E):ge (gl X.prog X.w) X.A (call (.ref f) us) (EP X U σ Q) X.xe s:=by
 have r2:Vals (vs++mj) (us++ds):=r.append hd;have hl:(us++ds).length=ps.length:=by rw[<- r2.length];exact F.len _ _ _ _ h
 refine EH (wp (F.run X.A X.stack s H ⟨us,[]⟩ (us++ds) (vs++mj) Q E hr I.Jb (hb s us I.gL hl) r2 h) λr s' hq=>?_);cases r with
 | error e=>exact hx U σ H s e s' I hq
 | ok fl=>
  cases fl with
  | ret u=>exact I.after hq
  | next=>exact AM hq
  | brk=>exact AM hq
  | cont=>exact AM hq
def dY(he:PE X o ta)(c:uh X.K C)(hm:Meth X.K C m f)(F:bx X.prog X.w X.K X.mg X.base CX k f fd ps sp)(hr:bt k X.A)(hb:Binds X.K fd ps ds)(hd:Vals mj ds)(hx:Passes CX X E)(ha:PA X (e::es) t)
  (jO:dA X e es:=by rfl) (bZ:fF X pos es:=by rfl)
  (ht:lc (.Call (.Attribute o m À) (e::es) [] pos) X.env=(do
   let ov <- lc o X.env
   CD À.atName
   let (f,first) <- r9 [ov] (getMethod ov m pl)
   callWith pos f first (Fk pos (ii (e::es) X.env)) (backToKw pos (keywordEach [] X.env))):=by rfl) :
  PE X (.Call (.Attribute o m À) (e::es) [] pos) (Ki C m sp mj E ta t):=by
 intro U s σ H Q I h;refine Ei (pl:=pl) (aY (he U s σ H _ I h) λu s1 ⟨x,H1,I1,rx,a,dx,fs,ex,ea,l,q⟩=>?_) ht;subst ex;obtain rfl:u=AR a:=rx;refine kK I1 ea c hm l ?_;refine Cd (first:=[.ref a]) (h₀:=X.base) I.ok.mod.E9 hm.kp (aY (ha pos U s1 σ H1 _ I1 q) λus s2 ⟨vs,H2,I2,r,q2⟩=>⟨I2.gL,?_⟩) jO bZ;exact ki (us:=.ref a::us) (vs:=.ref a::vs) F hr hb hd hx I2 (.cons rfl r) q2
structure Mk(K:Aa)(C f:db):Prop where
 makes:Ee K C=true
 init:AO K (.ref C) "__init__"=al (al (.ref f))
 fn:CT K (.ref f)=true
 kp:A7 K (.ref C)=true
def vW{s:eM}{Q:VK}(M:Mk X.K C f)(F:bx X.prog X.w X.K X.mg X.base CX k f fd ps sp)(hr:bt (k+1) X.A)(hb:Binds X.K fd ps ds)(hd:Vals mj ds)
  (hx:Passes CX X E) (I:Inv X U σ H s) (r:Vals vs us)
  (h:∀x dx,H x=bn->H dx=bn->dx≠x->sp (.ref x::(vs++mj)) (upd (upd H dx (.own x)) x (.ins C dx [])) (λv H2=>v=.aB/\Q (.ref x) H2) E) :
  ge (gl X.prog X.w) X.A (call (.ref C) us) (EP X U σ Q) X.xe s:=by
 have hq:=h (s.heap.objs.size+1) s.heap.objs.size (I.aV.fresh (EZ _)) (I.aV.fresh (Aj _)) (Az (Bq _));have I2:=Inv.made (C:=C) I;have r2:Vals (V.ref (s.heap.objs.size+1)::(vs++mj)) (AR (s.heap.objs.size+1)::(us++ds)):=.cons rfl (r.append hd);have hl:(AR (s.heap.objs.size+1)::us++ds).length=ps.length:=by
  have e:=r2.length;rw[F.len _ _ _ _ hq]at e;exact e.symm
 refine EH (xo I.gL M.makes M.init (beq_iff_eq.mp M.fn) (wp (F.run _ X.stack _ _ ⟨AR (s.heap.objs.size+1)::us,[]⟩ (AR (s.heap.objs.size+1)::(us++ds)) _ _ E (hr.make C us [])
  (I2.Jb.make C us []) (hb _ (AR (s.heap.objs.size+1)::us) I2.gL hl) r2 hq) λr s' LB=>?_))
 cases r with
 | error e=>exact hx U σ _ _ e s' I2 LB
 | ok fl=>
  cases fl with
  | ret u=>
   obtain⟨v,H',I3,rv,ev,q3⟩:=I2.after LB;subst ev;exact⟨rv,⟨V.ref (s.heap.objs.size+1),H',I3,rfl,q3⟩⟩
  | next=>exact AM LB
  | brk=>exact AM LB
  | cont=>exact AM LB
def zI(M:Mk X.K C f)(F:bx X.prog X.w X.K X.mg X.base CX k f fd ps sp)(hr:bt (k+1) X.A)(hg:Gl X x)(hm:X.mg x=al (.ref C))(hb:Binds X.K fd ps ds)(hd:Vals mj ds)(hx:Passes CX X E)
  (ha:PA X (e::es) t) (fU:eJ x:=by decide) (he:dA X e es:=by rfl) (bZ:fF X pos es:=by rfl) :
  PE X (.Call (.Name x p) (e::es) [] pos) (Kj C sp mj E t):=by
 intro U s σ H Q I h;exact AQ (jU I hg hm (Cd I.ok.mod.E9 M.kp (aY (ha pos U s σ H _ I h) λus s1 ⟨vs,H1,I1,r,q⟩=>⟨I1.gL,vW M F hr hb hd hx I1 r q⟩) he bZ) fU)
end
structure bN(N P:List Str)(sc:u8):Prop where
 kind:sc.kind=.function
 co:sc.isCoroutine=false
 gen:sc.isGenerator=false
 nd:N.Nodup
 pre:N.take P.length=P
 par:∀x∈P,sc.names.lookup x=al .local\/sc.names.lookup x=al .cell
 HK:∀y∈sc.names,y.2≠.free
theorem mn{kindOf:Str->Option wE}{x:Str}:∀{binds:O (Str×ce)}{m:Str->Option ce},(∀v,(x,v)∉binds)->bindL kindOf binds m x=m x
 | [],_,_=>rfl
 | (n,v)::r,m,h=>by
  unfold bindL;rw[mn λw hw=>h w (AE _ hw)]
  split
  ·have:x≠n:=by rintro rfl;exact h v AZ
   simp[this]
  ·rfl
theorem mr{kindOf:Str->Option wE}{x:Str}:∀{binds:O (Str×ce)}{m:Str->Option ce},(∀v,(x,v)∉binds)->bindC kindOf binds m x=m x
 | [],_,_=>rfl
 | (n,v)::r,m,h=>by
  unfold bindC;rw[mr λw hw=>h w (AE _ hw)]
  split
  ·rfl
  ·have:x≠n:=by rintro rfl;exact h v AZ
   simp[this]
theorem mq{kindOf:Str->Option wE}{x:Str}:∀{P:O Str}{vs:O ce}{i:Nat}{m:Str->Option ce},P.Nodup->P[i]?=al x->vs[i]?=al v->kindOf x=al .local->
  bindL kindOf (P.zip vs) m x=al v
 | [],_,_,_,_,h,_,_=>by simp at h
 | _::_,[],_,_,_,_,h,_=>by simp at h
 | p::P,w::vs,0,m,nd,h1,h2,hk=>by
  simp at h1 h2;subst h1;subst h2;show bindL kindOf ((p,w)::P.zip vs) m p=_;unfold bindL;rw[mn λv hv=>(B3.mp nd).1 (CM hv).1,if_pos hk];simp
 | p::P,w::vs,i+1,m,nd,h1,h2,hk=>by
  unfold bindL;exact mq (B3.mp nd).2 (by simpa using h1) (by simpa using h2) hk
theorem mw{kindOf:Str->Option wE}{x:Str}:∀{P:O Str}{vs:O ce}{i:Nat}{m:Str->Option ce},P.Nodup->P[i]?=al x->vs[i]?=al v->kindOf x≠al .local->
  bindC kindOf (P.zip vs) m x=al v
 | [],_,_,_,_,h,_,_=>by simp at h
 | _::_,[],_,_,_,_,h,_=>by simp at h
 | p::P,w::vs,0,m,nd,h1,h2,hk=>by
  simp at h1 h2;subst h1;subst h2;show bindC kindOf ((p,w)::P.zip vs) m p=_;unfold bindC;rw[mr λv hv=>(B3.mp nd).1 (CM hv).1,if_neg hk];simp
 | p::P,w::vs,i+1,m,nd,h1,h2,hk=>by
  unfold bindC;exact mw (B3.mp nd).2 (by simpa using h1) (by simpa using h2) hk
def start(N:O Str)(vs:O V):St:=vs.map al++Aq (N.length-vs.length) bn
def jQ(CX:vE)(P:re)(w:sK)(K:Aa)(mg:Str->Option ce)(base:lm)(N:O Str)(qual:Str)(scope:u8)(f:db)(cd:ce)(A:tz)(outer:O Env)(s:eM)(H:Hp)(E:XK):Cx where
 prog:=P
 w:=w
 K:=K
 mg:=mg
 base:=base
 A:=A.deeper (wS qual scope s.heap.objs.size f cd)
 N:=N
 s₀:=s
 H₀:=H
 env:=wS qual scope s.heap.objs.size f cd
 outer:=outer
 stack:=wS qual scope s.heap.objs.size f cd::outer
 ex:=[]
 calm:=true
 fn:=λ_=>true
 pn:=[]
 xe:=λe s'=>ge (gl P w) (A.deeper (wS qual scope s.heap.objs.size f cd)) (leaving (wS qual scope s.heap.objs.size f cd) e) (λ_ Hd=>CX outer H s E e Hd) (λe' Hd=>CX outer H s E e' Hd) s'
def pV{x:Str}(h:sc.names.lookup x=al .cell):∃c,(cellsFrom n sc.names []).lookup x=al c:=by
 exact Option.isSome_iff_exists.mp (D5 sc.names n [] (.inl h))
theorem uP{CX:vE}{K:Aa}{N:O Str}{f:db}{cd:ce}{s s1:eM}{E:XK}
  (S:bN N ps scope) (hd:A.handled=bn) (e0:oq P w K mg base A outer s H) (hl:vs.length=ps.length) (r:Vals vs us)
  (x:InCallC s s.heap.objs.size (bindL (wS qual scope s.heap.objs.size f cd).kindOf (ps.zip us) λ_=>bn) (cellsFrom (s.heap.objs.size+1) scope.names []) (bindC (wS qual scope s.heap.objs.size f cd).kindOf (ps.zip us) λ_=>bn) s1) :
  Inv (jQ CX P w K mg base N qual scope f cd A outer s H E) [] (start N vs) H s1:=by
 have bZ:ps.length<=N.length:=by have:=congrArg CS S.pre;rw[Bb]at this;omega
 obtain⟨h1,tk,rfl,hk⟩:=x.done;have K8:∀b:db,b∉(jQ CX P w K mg base N qual scope f cd A outer s H E).ex:=λb z=>absurd (show b∈([]) from z) (by simp);refine⟨⟨e0.mod,S.kind,rfl,rfl,Aj _,λy z c h1 h2=>?_,λy hy=>?_,λy c _ h=>?_,λ_=>hd,Dd e0.frames,.inr ⟨rfl,rfl⟩,λb z=>absurd z (K8 b),e0.bs,e0.yD,λb _ _=>K8 b,λb z=>absurd z (K8 b),e0.gA,e0.y6⟩,
  rfl,e0.bare,Un.kept hk,⟨_,x.toInCall.ns,λi y v h1 h2 h3=>?_⟩,λy c h=>⟨_,x.cell y c h⟩,e0.aV.fresh (Aj _),λy c h=>?_,λp hp=>absurd (show p∈([]) from hp) (by simp),e0.aV.kept hk,?_⟩
 ·exact name_of_addr x.apart (AU h1) (AU h2)
 ·rcases hy with hy | hy
  ·exact pV hy
  ·exact absurd rfl (S.HK _ (AU hy))
 ·exact Dv (x.above y c (AU h))
 ·have hi:i < vs.length:=by
   unfold start at h2;by_cases hi:i < vs.length
   ·exact hi
   ·rw[Ah (by simpa using hi)]at h2;rw[Br]at h2
    split at h2 <;> cases h2
  have ha:vs[i]?=al v:=by
   unfold start at h2;rw[An (by simpa using hi),Ak]at h2;cases e:vs[i]? with
   | none=>rw[e]at h2;cases h2
   | some a=>rw[e]at h2;cases h2;rfl
  obtain⟨u,hu,rv⟩:=r.get ha;have hp:ps[i]?=al y:=by
   rw[<- S.pre,List.getElem?_take_of_lt ∅];exact h1
  have QX:ps.Nodup:=by rw[<- S.pre];exact S.nd.sublist (List.take_sublist _ _)
  refine⟨u,rv,?_⟩;rcases S.par y (AB hp) with k | k
  ·exact .inl ⟨k,mq QX hp hu k⟩
  ·obtain⟨c,e⟩:=pV k;refine .inr ⟨.inl k,c,e,?_⟩;have q:=x.cell y c e;rw[mw QX hp hu (by show scope.names.lookup y≠_;rw[k];decide)]at q;exact q
 ·exact e0.aV.fresh (Dv (x.above y c (AU h)))
 ·unfold start;show _=N.length;rw[Ab,Al,Bl];omega
def GA{CX:vE}{K:Aa}{k:Nat}{f:db}{name:Str}{params:Arguments}{dV kV:ce}{N:O Str}{sp:Sp}(lk:K.lookup f=al ⟨oc,od,.func (A9 name qual params body scope dV kV Å pm an bO ct),wQ⟩)(eW:BW K bO qual=true)(S:bN N ps scope)
  (len:∀vs H Q E,sp vs H Q E->vs.length=ps.length)
  (pA:∀(A:tz) (outer:O Env) (s:eM) (H:Hp) (vs:O V) (Q:VK) (E:XK),bt k (A.deeper (wS qual scope s.heap.objs.size f bO))->sp vs H Q E->
   ∃t,PSs (jQ CX P w K mg base N qual scope f bO A outer s H E) body t/\t {nx:=λ_ H'=>Q .aB H',rt:=Q} (start N vs) H) :
  bx P w K mg base CX (k+1) f (A9 name qual params body scope dV kV Å pm an bO ct) ps sp:=by
 refine⟨len,λA outer s H args us vs Q E hr e0 hb r rj=>?_⟩;have hl:=len _ _ _ _ rj;have KX:K.In s.heap:=e0.mod.E9.keeps λb o e=>(e0.bs b o e).1;have lim:s.heap.NoLimit:=e0.mod.nolimit.keeps λb o e=>(e0.bs b o e).1;have LJ:∀y∈ps.zip us,scope.names.lookup y.1=al .local\/(scope.names.lookup y.1=al .cell/\((cellsFrom (s.heap.objs.size+1) scope.names []).lookup y.1).isSome=true):=λ⟨n,v⟩ hy=>by
  rcases S.par n (CM hy).1 with q | q
  ·exact .inl q
  ·exact .inr ⟨q,D5 _ _ _ (.inl q)⟩
 refine codeAny_call_function hr.depth (KX _ _ lk) rfl S.co S.gen rfl (PySem.W.codeRec_of KX eW) (hb _ _ _ _ ?_);refine wpAny_newFunctionEnv_cells S.kind LJ λenv he s1 x=>?_;subst he;refine⟨lim.keeps x.toInCall.keep,codeAny_func ?_⟩;obtain⟨t,ht,hq⟩:=pA A outer s H vs Q E (hr.deeper _) rj;have I:Inv (jQ CX P w K mg base N qual scope f bO A outer s H E) [] (start N vs) H s1:=uP S hr.hd e0 hl r x;refine BM (ht [] s1 (start N vs) H _ I hq) (λfl s' hs=>?_) λe s' hs=>hs;have fin:∀{σ':St}{H':Hp}{v:V}{u:ce},Inv (jQ CX P w K mg base N qual scope f bO A outer s H E) [] σ' H' s'->RelV v u->Q v H'->CE outer P w H s Q u s':=
  λ{σ' H' v u} J rv q=>⟨v,H',J.os,J.bare,J.base,J.aV,rv,q⟩
 cases fl with
 | ret u=>
  obtain⟨v,σ',H',J,rv,q⟩:=hs;exact fin J rv q
 | next=>
  obtain⟨σ',H',J,q⟩:=hs;exact fin (v:=V.aB) (u:=C4) J rfl q
 | brk=>
  obtain⟨_,_,_,q⟩:=hs;exact AM q
 | cont=>
  obtain⟨_,_,_,q⟩:=hs;exact AM q
end L2
variable{T:String}
namespace L2
section
variable{x:Str}{p:Pos}{t:TA}{id:String}{r:O V->Hp->VK->Prop}
def QM(r:O V->Hp->VK->Prop)(t:TA):TE:=λσ H Q=>t σ H λvs H1=>r vs H1 Q
def bT(hc:bG X (.builtin id) r)(hg:Gl X x)(hm:X.mg x=bn)(hv:nn x=al (.builtin id))(ha:PA X (e::es) t)(hn:x≠"__name__":=by decide)(fU:eJ x:=by decide)
  (he:dA X e es:=by rfl) (bZ:fF X pos es:=by rfl):PE X (.Call (.Name x p) (e::es) [] pos) (QM r t):=by
 intro U s σ H Q I h;refine AQ (fo I hg hm hv ?_ hn fU);exact C6 (aY (ha pos U s σ H _ I h) λus s1 ⟨vs,H1,I1,r1,q1⟩=>hc U s1 σ H1 vs us Q I1 r1 q1) he bZ
def jl(hc:bG X (.type T) r)(hg:Gl X x)(hm:X.mg x=bn)(hv:nn x=al (.type T))(ha:PA X (e::es) t)(hn:x≠"__name__":=by decide)(fU:eJ x:=by decide)
  (he:dA X e es:=by rfl) (bZ:fF X pos es:=by rfl):PE X (.Call (.Name x p) (e::es) [] pos) (QM r t):=by
 intro U s σ H Q I h;refine AQ (fo I hg hm hv ?_ hn fU);exact Bd (aY (ha pos U s σ H _ I h) λus s1 ⟨vs,H1,I1,r1,q1⟩=>hc U s1 σ H1 vs us Q I1 r1 q1) he bZ
end
end L2
namespace HT
open PySem PyProof.Rows
section
variable{s:eM}
def FP{t:db}{vs ws:O ce}(ht:IsTup s.heap t vs.toArray)(hb:IsTup s.heap b ws.toArray)(hv:vs≠[])
  (h1:ws=[]->Q (.ref t) s) (h2:ws≠[]->Q (.ref s.heap.objs.size) {s with heap:=s.heap.push {cls:=.type "tuple",data:=.seq (vs++ws).toArray}})
  (hsz:vs.length+ws.length<=sizeLine):ge (gl prog w) A (sn .Add (.ref t) (.ref b)) Q E s:=by
 obtain⟨⟨cls,dd,data,sl⟩,ho,hc,n,hd⟩:=id ht;obtain⟨⟨Mr,Mn,data2,Jx⟩,yX,JK,n2,Ü⟩:=id hb;simp only at hc hd JK Ü;subst hc hd JK Ü;have e:vs.toArray++ws.toArray=(vs++ws).toArray:=by simp
 by_cases hw:ws=[]
 ·exact concat_meets ⟨_,ho,rfl⟩ ⟨_,yX,rfl⟩ noFill_tuple_add seq_tuple_add CW CP (CJ _ _)
   (tuple_addW1 t b vs.toArray ws.toArray n n2 dd Mn sl Jx (by simpa using hv) (by simp[hw])) ⟨ho,yX,h1 hw⟩
 ·refine concat_meets ⟨_,ho,rfl⟩ ⟨_,yX,rfl⟩ noFill_tuple_add seq_tuple_add CW CP (CJ _ _)
   (tuple_addW2 t b vs.toArray ws.toArray n n2 dd Mn sl Jx (by simpa using hv) (by simpa using hw) (by rw[Af,Af];exact hsz)) ⟨ho,yX,?_⟩
  rw[e];exact h2 hw
def lW(n d:Nat):Option Int->Nat
 | none=>d
 | some v=>if v < 0 then (v+(n:Int)).toNat else min v.toNat n
theorem oM(n d:Nat):lW n d bn=d:=rfl
theorem sV(n d k:Nat):lW n d (al (k:Int))=min k n:=by
 show(if k < 0 then ((k:Int)+n).toNat else min (k:Int).toNat n)=min k n;rw[if_neg ∅,B5]
end
end HT
variable{p2:Ci}
namespace L2
abbrev TO:=St->Hp->(Option Int->Hp->Prop)->Prop
def PO(X:Cx)(e:Option jp)(t:TO):Prop:=
 ∀(U:O (db×Obj)) (s:eM) (σ:St) (H:Hp) (Q:Option Int->Hp->Prop),Inv X U σ H s->t σ H Q->
  ge (gl X.prog X.w) X.A (evalPart e X.env) (λu s'=>∃o H',Inv X U σ H' s'/\IsPart u o/\Q o H') X.xe s
def zf:TO:=λ_ H Q=>Q bn H
def Kg(t:TE):TO:=λσ H Q=>t σ H λx H1=>∃i,x=.int i/\Q (al i) H1
section
variable{lo hi:Option jp}{tl th:TO}
def zD:PO X bn zf:=by
 intro U s σ H Q I h;exact Au ⟨bn,H,I,.none,h⟩
def zC(h:PE X e te):PO X (al e) (Kg te):=by
 intro U s σ H Q I hw;refine aY (h U s σ H _ I hw) λu s1 ⟨x,H1,I1,r1,q1⟩=>?_;obtain⟨i,rfl,q⟩:=q1;obtain⟨t,rfl⟩:=r1;exact⟨al i,H1,I1,.int i t,q⟩
def Jq(X:Cx)(r:V->Option Int->Option Int->Hp->VK->Prop):Prop:=
 ∀(U:O (db×Obj)) (s:eM) (σ:St) (H:Hp) (x:V) (v vl vu:ce) (lo hi:Option Int) (sl:db) (Q:VK),Inv X U σ H s->RelV x v->s.heap.IsSliceOf sl vl vu .none->IsPart vl lo->IsPart vu hi->r x lo hi H Q->
  ∃T id,typeLookup (.type T) "__getitem__"=pure (al (.builtin id))/\s.TypeIs v T/\ge (gl X.prog X.w) X.A (getItem v (.ref sl)) (EP X U σ Q) X.xe s
def R7(r:V->Option Int->Option Int->Hp->VK->Prop)(te:TE)(tl th:TO):TE:=λσ H Q=>te σ H λx H1=>tl σ H1 λl H2=>th σ H2 λu H3=>r x l u H3 Q
def wH{r:V->Option Int->Option Int->Hp->VK->Prop}(hr:Jq X r)(he:PE X e te)(hl:PO X lo tl)(hu:PO X hi th):PE X (.Subscript e (.Slice lo hi bn p2) pos) (R7 r te tl th):=by
 intro U s σ H Q I h;refine Subscript_ (aY (he U s σ H _ I h) λv s1 ⟨x,H1,I1,r1,q1⟩=>?_);refine wpAny_Slice (aY (hl U s1 σ H1 _ I1 q1) λvl s2 ⟨l,H2,I2,pl,q2⟩=>aY (hu U s2 σ H2 _ I2 q2) λvu s3 ⟨u,H3,I3,pu,q3⟩=>?_);rw[evalPart_none];refine Au ?_;have I4:Inv X U σ H3 {s3 with heap:=s3.heap.push {cls:=.type "slice",data:=.fields #[vl,vu,.none]}}:=I3.kept (t':=s3.toks) λb ob q=>Ae _ q;obtain⟨T,id,hT,ht,hg⟩:=hr U {s3 with heap:=s3.heap.push {cls:=.type "slice",data:=.fields #[vl,vu,.none]}} σ H3 x v vl vu l u s3.heap.objs.size Q I4 r1 (Heap.IsSliceOf.new ..) pl pu q3;show ge (gl X.prog X.w) X.A (subscriptTail e (.Slice lo hi bn p2) v (.ref s3.heap.objs.size)) (EP X U σ Q) X.xe {s3 with heap:=s3.heap.push {cls:=.type "slice",data:=.fields #[vl,vu,.none]}};exact tail_any (ops:=[.ref s3.heap.objs.size,v]) ht hT hg (by with_unfolding_all rfl)
def vf(xs:O V)(lo hi:Option Int):O V:=(xs.drop (HT.lW xs.length 0 lo)).take (HT.lW xs.length xs.length hi-HT.lW xs.length 0 lo)
theorem pU(xs:O V)(lo hi:Option Int):(vf xs lo hi).length<=xs.length:=by
 unfold vf;rw[Bb,CA];omega
def Gg(K:Aa):R2:=λx y H Q=>∃a b xs ys,x=.ref a/\y=.ref b/\cf K H a xs/\cf K H b ys/\xs≠[]/\xs.length+ys.length<=sizeLine/\
 (ys=[]->Q (.ref a) H)/\(ys≠[]->∀p,H p=bn->Q (.ref p) (upd H p (.tup (xs++ys))))
def Vals.fh(r:Vals xs us):us=[]↔xs=[]:=by
 cases r with
 | nil=>simp
 | cons _ _=>simp
def tq:dB X (sn .Add) (Gg X.K):=by
 intro U s σ H x y v u Q I rx ry h;obtain⟨a,b,xs,ys,rfl,rfl,ha,hb,hx,hz,q1,q2⟩:=h;cases rx;cases ry;obtain⟨ay,r1,p1,_⟩:=I.tuple ha;obtain⟨bS,r2,p2,_⟩:=I.tuple hb;refine HT.FP p1 p2 (λz=>hx (r1.fh.mp z)) (λz=>⟨.ref a,H,I,rfl,q1 (r2.fh.mp z)⟩) (λz=>?_) (by rw[<- r1.length,<- r2.length];exact hz);refine⟨.ref s.heap.objs.size,_,I.laid (λb ob q=>Ae _ q) (Aj _) ?_,rfl,q2 (λw=>z (r2.fh.mpr w)) _ (I.aV.fresh (Aj _))⟩;exact⟨by rw[Ab];exact hz,_,r1.append r2,IsTup.new _ _,_,Ap _ rfl,rfl⟩
end
end L2
variable{r':L2.R2}{its':O Be}
namespace L2
def nh(n:Nat)(i:Int):Option Nat:=if 0<=i then (if i < n then al i.toNat else bn) else if -(n:Int)<=i then al (i+n).toNat else bn
def cF(xs:List α)(i:Int):Option α:=(nh xs.length i).bind λj=>xs[j]?
theorem tJ(h:nh n i=al j):seqIndex? i n=al j/\j < n/\-(n:Int)<=i/\i < n:=by
 unfold nh at h;by_cases h0:0<=i
 ·rw[if_pos h0]at h;by_cases h1:i < n
  ·rw[if_pos h1]at h;have e:=Option.some.inj h;exact⟨by rw[seqIndex_of h0 h1,e],by omega,by omega,h1⟩
  ·rw[if_neg h1]at h;cases h
 ·rw[if_neg h0]at h;by_cases h1:-n<=i
  ·rw[if_pos h1]at h;have e:=Option.some.inj h;exact⟨by rw[seqIndex_neg ∅ h1,e],by omega,h1,by omega⟩
  ·rw[if_neg h1]at h;cases h
def nW{xs:List α}{v:α}(h:cF xs i=al v):∃j,seqIndex? i xs.length=al j/\xs[j]?=al v/\j < xs.length/\-(xs.length:Int)<=i/\i < xs.length:=by
 unfold cF at h;cases e:nh xs.length i with
 | none=>rw[e]at h;cases h
 | some j=>
  rw[e]at h;obtain⟨h1,h2,h3,h4⟩:=tJ e;exact⟨j,h1,h,h2,h3,h4⟩
theorem nV{xs:List α}{v:α}(h:xs[j]?=al v):cF xs (j:Int)=al v:=by
 have hj:=(Ai.mp h).1;have e:nh xs.length j=al j:=by
  unfold nh;rw[if_pos ∅,if_pos ∅];simp
 unfold cF;rw[e];exact h
theorem gF(xs:List α)(v:α):cF (xs++[v]) (-1)=al v:=by
 have hl:(xs++[v]).length=xs.length+1:=by simp
 have e:nh (xs++[v]).length (-1)=al xs.length:=by
  unfold nh;rw[hl,if_neg ⋯,if_pos ∅];congr 1;omega
 unfold cF;rw[e];simp
def om(b:jp):Prop:=∀o i,subscripted b false o i=operate [o,i] (getItem o i)
def y7(X:Cx)(r:R2):Prop:=
 ∀(Ã É:jp) (U:O (db×Obj)) (s:eM) (σ:St) (H:Hp) (x y:V) (v u:ce) (Q:VK),Inv X U σ H s->RelV x v->RelV y u->r x y H Q->
  subscripted É false v u=operate [v,u] (getItem v u)->ge (gl X.prog X.w) X.A (subscriptTail Ã É v u) (EP X U σ Q) X.xe s
def N2(X:Cx)(id:String)(r:V->O V->Hp->VK->Prop):Prop:=
 ∀(U:O (db×Obj)) (s:eM) (σ:St) (H:Hp) (x:V) (xs:O V) (v:ce) (us:O ce) (Q:VK),Inv X U σ H s->RelV x v->Vals xs us->r x xs H Q->
  ge (gl X.prog X.w) X.A (call (.builtin id) (v::us)) (EP X U σ Q) X.xe s
section
variable{X:Cx}{a b:jp}{ta tb:TE}{pos:Pos}
def y7.or{r:R2}(h:y7 X r)(h':y7 X r'):y7 X (λx y H Q=>r x y H Q\/r' x y H Q):=by
 intro Ã É U s σ H x y v u Q I rx ry q hs;rcases q with q | q
 ·exact h Ã É U s σ H x y v u Q I rx ry q hs
 ·exact h' Ã É U s σ H x y v u Q I rx ry q hs
def gh{r:R2}(hr:y7 X r)(ha:PE X a ta)(hb:PE X b tb)(hs:om b):PE X (.Subscript a b pos) (F8 r ta tb):=by
 intro U s σ H Q I h;exact Subscript_ (Jl ha hb I h λv u s2 x y H2 I2 rx ry q=>hr a b U s2 σ H2 x y v u Q I2 rx ry q (hs _ _))
def KH(K:Aa):R2:=λx y H Q=>∃p xs i v,x=.ref p/\y=.int i/\cp K H p xs/\cF xs i=al v/\Q v H
def KG(K:Aa):R2:=λx y H Q=>∃p xs i v,x=.ref p/\y=.int i/\cf K H p xs/\cF xs i=al v/\Q v H
def Hi:R2:=λx y H Q=>∃z i c,x=.str z/\y=.int i/\z.length<=sizeLine/\cF z.cps.toList i=al c/\Q (.str ⟨#[c]⟩) H
theorem Fd:y7 X (KH X.K):=by
 intro Ã É U s σ H x y v u Q I rx ry h hs;obtain⟨p,xs,i,z,rfl,rfl,hq,he,q⟩:=h;cases rx;obtain⟨t,rfl⟩:=ry;obtain⟨ay,r,pl,hz⟩:=I.list hq;obtain⟨j,h1,h2,h3,h4,h5⟩:=nW he;obtain⟨w,ew,vV⟩:=r.get h2;have hl:=r.length;have hn:=m9;have fin:EP X U σ Q w s:=⟨z,H,I,vV,q⟩;by_cases h0:0<=i
 ·have hj:i.toNat=j:=by
   rw[seqIndex_of h0 h5]at h1;exact Option.some.inj h1
  exact item_listR pl.isList h0 ∅ (by rw[hj];simpa using ew) fin hs
 ·have hj:(i+ay.toArray.size).toNat=j:=by
   rw[seqIndex_neg ∅ h4]at h1;rw[Af,<- hl];exact Option.some.inj h1
  exact subscriptTail_builtinR pl.isList.typeIs slot_list_getitem.lookup
   (wpAny_getItem_list_neg pl.isList ∅ (by rw[Af] <;> omega) ∅ (by rw[hj];simpa using ew) ⟨rfl,fin⟩) hs
theorem Ij:y7 X (KG X.K):=by
 intro Ã É U s σ H x y v u Q I rx ry h hs;obtain⟨p,xs,i,z,rfl,rfl,hq,he,q⟩:=h;cases rx;obtain⟨t,rfl⟩:=ry;obtain⟨ay,r,pl,hz⟩:=I.tuple hq;obtain⟨j,h1,h2,h3,h4,h5⟩:=nW he;obtain⟨w,ew,vV⟩:=r.get h2;have hn:=m9;have fin:EP X U σ Q w s:=⟨z,H,I,vV,q⟩;exact subscriptTail_builtinR pl.typeIs slot_tuple_getitem.lookup
  (getItem_tuple pl ∅ ∅ (by rw[Af,<- r.length];exact h1) (by simpa using ew) ⟨rfl,fin⟩) hs
theorem xC:y7 X Hi:=by
 intro Ã É U s σ H x y v u Q I rx ry h hs;obtain⟨z,i,c,rfl,rfl,hz,he,q⟩:=h;obtain⟨t,rfl⟩:=rx;obtain⟨t',rfl⟩:=ry;obtain⟨j,h1,h2,h3,h4,h5⟩:=nW he;have hl:z.cps.toList.length=z.length:=by simp[C5]
 rw[hl]at h1 h4 h5;have hn:=m9;exact tail_any (typeIs_str s z t) slot_str_getitem.lookup (getItem_str (by
  rw[(decide_eq_false ∅),(decide_eq_false ∅),Bool.or_false]) (by rw[h1];simpa using h2) ⟨.str ⟨#[c]⟩,H,I.tok _,⟨_,rfl⟩,q⟩) hs
def QR(K:Aa):R2:=λx y H Q=>KH K x y H Q\/KG K x y H Q\/Hi x y H Q
def Ik:y7 X (QR X.K):=Fd.or (Ij.or xC)
def qW(ay:O ce)(n j:Nat)(u:ce):BK (·.setIfInBounds j u) {cls:=.type "list",data:=.seq ay.toArray n}={cls:=.type "list",data:=.seq (ay.set j u).toArray n}:=by
 simp[BK]
def Inv.lst{U:O (db×Obj)}{σ:St}{H:Hp}{s:eM}{p:db}{xs:O V}(I:Inv X U σ H s)(h:H p=al (.lst xs)) :
  ∃(ay:O ce) (n:Nat),Vals xs ay/\s.heap.get? p=al {cls:=.type "list",data:=.seq ay.toArray n}/\xs.length<=sizeLine:=by
 obtain⟨z,ay,n,r,e⟩:=I.aV p _ h;exact⟨ay,n,r,e,z⟩
def Inv.HV{s:eM}{p:db}{n':Nat}{f:Obj->Obj}(I:Inv X U σ H s)(h:H p=al (.lst xs))
  (ho:s.heap.get? p=al {cls:=.type "list",data:=.seq ay.toArray n}) (hf:f {cls:=.type "list",data:=.seq ay.toArray n}={cls:=.type "list",data:=.seq its'.toArray n'}) (r:Vals ys its') (hz:ys.length<=sizeLine) (t:Nat) :
  Inv X U σ (upd H p (.lst ys)) {s with heap:=s.heap.update p f,toks:=t}:=by
 have e:(s.heap.update p f).get? p=al {cls:=.type "list",data:=.seq its'.toArray n'}:=by
  rw[Ck f ho (by rw[hf] <;> rfl),hf]
 refine I.write (x:=p) (e:=p) (by rw[h];trivial) (.inl rfl) (λb u hb q=>(Ce _ _ (BR hb)).trans q) ⟨_,e⟩ ?_;exact⟨hz,its',n',r,e⟩
def KC:V->V->V->Hp->(Hp->Prop)->Prop:=λo i v H Q=>∃p xs k j,o=.ref p/\i=.int k/\H p=al (.lst xs)/\nh xs.length k=al j/\Q (upd H p (.lst (xs.set j v)))
theorem set_list:vt X KC:=by
 intro U s σ H o i v ov iv u Q I ro ri rv h;obtain⟨p,xs,k,j,rfl,rfl,hp,hj,q⟩:=h;cases ro;obtain⟨t,rfl⟩:=ri;obtain⟨ay,n,r,ho,hz⟩:=I.lst hp;obtain⟨h1,h2,h3,h4⟩:=tJ hj;have hl:=r.length;have hn:=m9;have I':=
  I.HV hp ho (qW ay n j u) (r.set rv j) (by rw[Cg];exact hz) s.toks
 by_cases h0:0<=k
 ·have hk:k.toNat=j:=by
   rw[seqIndex_of h0 h4]at h1;exact Option.some.inj h1
  exact PySem.W.ki_setAt ho h0 ∅ (by rw[Af,<- hl];exact h4) (by rw[hk];exact⟨_,I',q⟩)
 ·have hk:(k+ay.toArray.size).toNat=j:=by
   rw[seqIndex_neg ∅ h3]at h1;rw[Af,<- hl];exact Option.some.inj h1
  exact PySem.W.ki_setBack ho ∅ (by rw[Af,<- hl];exact h3) ∅ (by rw[hk];exact⟨_,I',q⟩)
theorem mI(lo hi:Option Int)(n:Nat):(ut lo hi bn n).1=((HT.lW n 0 lo:Nat):Int)/\(ut lo hi bn n).2.1=((HT.lW n n hi:Nat):Int)/\(ut lo hi bn n).2.2=1:=by
 refine⟨?_,?_,rfl⟩
 ·cases lo with
  | none=>simp[ut,HT.lW]
  | some i=>
   simp only[ut,HT.lW,DY];by_cases h:i < 0
   ·simp only[h,if_true] <;> omega
   ·simp only[h,if_false] <;> omega
 ·cases hi with
  | none=>simp[ut,HT.lW]
  | some i=>
   simp only[ut,HT.lW,DY,if_true];by_cases h:i < 0
   ·simp only[h,if_true] <;> omega
   ·simp only[h,if_false] <;> omega
def lA(ay:O ce)(lo hi:Option Int):slicePick ay.toArray lo hi bn=((ay.drop (HT.lW ay.length 0 lo)).take (HT.lW ay.length ay.length hi-HT.lW ay.length 0 lo)).toArray:=by
 obtain⟨h1,h2,h3⟩:=mI lo hi ay.toArray.size;unfold slicePick;rw[h1,h2,h3];simp only[sliceRange_one,pick_run] <;> rfl
def OL(K:Aa):V->Option Int->Option Int->Hp->VK->Prop:=λx lo hi H Q=>∃a xs,x=.ref a/\cp K H a xs/\∀p,H p=bn->Q (.ref p) (upd H p (.lst (vf xs lo hi)))
theorem zl:Jq X (OL X.K):=by
 intro U s σ H x v vl vu lo hi sl Q I rx hs pl pu h;obtain⟨a,xs,rfl,hx,q⟩:=h;cases rx;obtain⟨ay,r,ht,hz⟩:=I.list hx;have Â:=r.length;refine⟨"list",_,slot_list_getitem.lookup,ht.isList.typeIs,?_⟩;refine wpAny_getItem_list_slice ht.isList hs pl pu .none (by simp) ?_ (by rw[Af] <;> omega);rw[lA,<- Â];refine⟨.ref s.heap.objs.size,_,I.laid (λb ob q=>Ae _ q) (Aj _) ?_,rfl,q _ (I.aV.fresh (Aj _))⟩;exact⟨Ba (pU xs lo hi) hz,_,0,(r.drop (HT.lW xs.length 0 lo)).take (HT.lW xs.length xs.length hi-HT.lW xs.length 0 lo),Ap _ rfl⟩
theorem nS:bG X (.type "list") (λxs H Q=>∃p ys,xs=[.ref p]/\(cp X.K H p ys\/cf X.K H p ys)/\∀l,H l=bn->Q (.ref l) (upd H l (.lst ys))):=by
 intro U s σ H xs us Q I r h;obtain⟨p,ys,rfl,hq,q⟩:=h;obtain⟨u,rfl,rx⟩:=vals1 r;cases rx;have fin:∀ay,Vals ys ay->ys.length<=sizeLine->∀(h':lm) c',(∀b o',s.heap.get? b=al o'->h'.get? b=al o')->
   h'.get? s.heap.objs.size=al {cls:=.type "list",dict:=bn,data:=.seq ay.toArray c',slots:=#[]}->EP X U σ Q (.ref s.heap.objs.size) {s with heap:=h'}:=λay r' hz h' c' kp e=>
  ⟨.ref s.heap.objs.size,_,I.laid (t':=s.toks) kp (Aj _) (show bu X.prog X.w _ h' _ (.lst ys) from⟨hz,ay,c',r',e⟩),rfl,q _ (I.aV.fresh (Aj _))⟩
 rcases hq with hq | hq
 ·obtain⟨ay,r',pl,hz⟩:=I.list hq;have Â:=r'.length;obtain⟨o,ho,hc,n,hd⟩:=pl.isList;exact call_list_seq p (.inl rfl) ho hc hd (λh' c' kp e=>fin ay r' hz h' c' kp e) (by simp only[Af] <;> omega)
 ·obtain⟨ay,r',pl,hz⟩:=I.tuple hq;have Â:=r'.length;obtain⟨o,ho,hc,n,hd⟩:=pl;exact call_list_seq p (.inr rfl) ho hc hd (λh' c' kp e=>fin ay r' hz h' c' kp e) (by simp only[Af] <;> omega)
theorem lO:bG X (.type "tuple") (λxs H Q=>∃p ys,xs=[.ref p]/\((cp X.K H p ys/\∀l,H l=bn->Q (.ref l) (upd H l (.tup ys)))\/(cf X.K H p ys/\Q (.ref p) H))):=by
 intro U s σ H xs us Q I r h;obtain⟨p,ys,rfl,h⟩:=h;obtain⟨u,rfl,rx⟩:=vals1 r;cases rx;rcases h with⟨hq,q⟩ | ⟨hq,q⟩
 ·obtain⟨ay,r',pl,hz⟩:=I.list hq;have Â:=r'.length;refine call_tuple_list pl.isList (λh' kp=>?_) (by simp <;> omega);have I1:=I.kept (t':=s.toks) kp;have I2:=
   I1.laid (t':=s.toks) (λb o e=>Ae _ e) (Aj _) (show bu X.prog X.w _ _ _ (.tup ys) from⟨hz,ay,r',IsTup.new _ _,_,Ap _ rfl,rfl⟩)
  exact⟨.ref h'.objs.size,_,I2,rfl,q _ (I1.aV.fresh (Aj _))⟩
 ·obtain⟨ay,r',pl,hz⟩:=I.tuple hq;exact call_tuple_same pl ⟨.ref p,H,I,rfl,q⟩
def MX(K:Aa)(T:String)(x:V)(H:Hp):Prop:=match x with
 | .str _=>T="str"
 | .int _=>T="int"
 | .ref p=>(T="list"/\∃xs,cp K H p xs)\/(T="tuple"/\∃o,K.lookup p=al o/\o.cls=.type "tuple"/\o.dict=bn)\/
   (T="dict"/\((∃aw,H p=al (.dK aw))\/∃aw,H p=al (.dT aw)))\/(T="set"/\∃S n,H p=al (.set S n))
 | _=>False
def vJ{s:eM}{x:V}(I:Inv X U σ H s)(r:RelV x v)(ty:MX X.K T x H) :
  s.TypeIs v T/\∀a,v=.ref a->∃ob,s.heap.get? a=al ob/\ob.dict=bn:=by
 cases x with
 | str z=>
  obtain⟨t,rfl⟩:=r;cases (ty);exact⟨typeIs_str s z t,λ_ e=>nomatch e⟩
 | int i=>
  obtain⟨t,rfl⟩:=r;cases (ty);exact⟨typeIs_int s i t,λ_ e=>nomatch e⟩
 | ref p=>
  cases r;rcases ty with⟨rfl,xs,hq⟩ | ⟨rfl,o,hk,hc,hd⟩ | ⟨rfl,hk⟩ | ⟨rfl,S,n,hk⟩
  ·obtain⟨ay,_,pl,_⟩:=I.list hq;refine⟨pl.isList.typeIs,λa e=>?_⟩;cases e;obtain⟨o,n,e,c,hd,_⟩:=pl;exact⟨o,e,hd⟩
  ·refine⟨⟨o,I.gL p o hk,hc⟩,λa e=>?_⟩;cases e;exact⟨o,I.gL _ o hk,hd⟩
  ·have z:∃o,s.heap.get? p=al o/\o.ExactDict:=by
    rcases hk with⟨aw,hk⟩ | ⟨aw,hk⟩
    ·obtain⟨_,_,_,_,o,_,_,e,ex,_⟩:=I.aV p _ hk;exact⟨o,e,ex⟩
    ·obtain⟨_,_,_,_,o,_,_,e,ex,_⟩:=I.aV p _ hk;exact⟨o,e,ex⟩
   obtain⟨o,e,ex⟩:=z;refine⟨⟨o,e,ex.1⟩,λa e2=>?_⟩;cases e2;exact⟨o,e,ex.2.1⟩
  ·obtain⟨o,_,_,_,e,ex,_⟩:=I.aV p _ hk;refine⟨⟨o,e,ex.1⟩,λa e2=>?_⟩;cases e2;exact⟨o,e,ex.2.1⟩
 | _=>exact AM ty
def Kp(K:Aa)(T:String)(r:V->O V->Hp->VK->Prop)(to:TE):TE:=λσ H Q=>to σ H λx H1=>MX K T x H1/\r x [] H1 Q
def QN(K:Aa)(T:String)(r:V->O V->Hp->VK->Prop)(to:TE)(t:TA):TE:=λσ H Q=>to σ H λx H1=>MX K T x H1/\t σ H1 λxs H2=>r x xs H2 Q
variable{o e:jp}{es:O jp}{to:TE}{t:TA}{name:Str}{À bC:Pos}{T id:String}{r:V->O V->Hp->VK->Prop}
def Hx(pa:PlainAttrs T)(slot:Slot T name id)(qj:typeOf (.builtin id)=pure (.type "method_descriptor"))(hm:N2 X id r)(ho:PE X o to)
  (c8:pi o name X.env (lc o X.env)=lc o X.env:=by rfl) (c7:F4 À bC:=by rfl):PE X (.Call (.Attribute o name À) [] [] bC) (Kp X.K T r to):=by
 intro U s σ H Q I h;refine wpAny_Call_method0_late c8 c7 (aY (ho U s σ H _ I h) λv s1 ⟨x,H1,I1,r1,ty,q1⟩=>?_);obtain⟨h1,h2⟩:=vJ I1 r1 ty;exact⟨T,id,pa,slot,qj,h1,h2,CY rfl (PySem.evalArgs_none (hm U s1 σ H1 x [] v [] Q I1 r1 .nil q1))⟩
def KW(pa:PlainAttrs T)(slot:Slot T name id)(qj:typeOf (.builtin id)=pure (.type "method_descriptor"))(hm:N2 X id r)(ho:PE X o to)(ha:PA X (e::es) t)
  (c8:pi o name X.env (lc o X.env)=lc o X.env:=by rfl)
  (kJ:JW X bC (e::es):=by rfl)
  (c7:F4 À bC:=by rfl) (hs:dA X e es:=by rfl) (dF:fF X bC es:=by rfl) :
  PE X (.Call (.Attribute o name À) (e::es) [] bC) (QN X.K T r to t):=by
 intro U s σ H Q I h;refine wpAny_Call_method_late c8 kJ c7 rfl (aY (ho U s σ H _ I h) λv s1 ⟨x,H1,I1,r1,ty,q1⟩=>?_);obtain⟨h1,h2⟩:=vJ I1 r1 ty;refine⟨T,id,pa,slot,qj,h1,h2,?_⟩;have hA:=ha bC U s1 σ H1 _ I1 q1;rw[hs]at hA ⊢;exact CY (by show(false||(Fk bC (ii es X.env)).any (·.1))=false;rw[dF] <;> rfl) (Et (aY hA λus s2 ⟨vs,H2,I2,r2,q2⟩=>hm U s2 σ H2 x vs v us Q I2 r1 r2 q2))
end
end L2
variable{l:AL}
namespace L2
def vv(X:Cx)(id:String)(r:V->O V->Hp->VK->Prop):Prop:=
 ∀(U:O (db×Obj)) (s:eM) (σ:St) (H:Hp) (x:V) (xs:O V) (v:ce) (us:O ce) (Q:VK),Inv X U σ H s->RelV x v->Vals xs us->r x xs H Q->
  ge (gl X.prog X.w) X.A (call (.builtin id) (v::us)) (EP X U σ Q) X.xe s
def Vals.one:∀{x:V}{us:O ce},Vals [x] us->∃u,us=[u]/\RelV x u
 | _,_,.cons r .nil=>⟨_,rfl,r⟩
def Vals.zero:∀{us:O ce},Vals [] us->us=[]
 | _,.nil=>rfl
def Vals.dropLast(h:Vals xs us):Vals xs.dropLast us.dropLast:=by
 induction h with
 | nil=>exact .nil
 | cons r t ih=>
  cases t with
  | nil=>exact .nil
  | cons q t'=>exact .cons r ih
theorem rL(l:List α):l.eraseIdx (l.length-1)=l.dropLast:=by
 induction l with
 | nil=>rfl
 | cons a r ih=>
  cases r with
  | nil=>rfl
  | cons b r=>
   have e:(a::b::r).length-1=((b::r).length-1)+1:=by
    have h1:(a::b::r).length=r.length+2:=rfl;have h2:(b::r).length=r.length+1:=rfl;omega
   rw[e,List.eraseIdx_cons_succ,ih]
   all_goals rfl
section
variable{s:eM}
def Inv.uH{f:Array ce->Array ce}{t':Nat}(I:Inv X U σ H s)(hH:H l=al (.lst xs))
  (e:s.heap.get? l=al {cls:=.type "list",data:=.seq ay.toArray n}) (hf:f ay.toArray=its'.toArray) (hv:Vals ys its') (hz:ys.length<=sizeLine) :
  Inv X U σ (upd H l (.lst ys)) {s with heap:=s.heap.update l (BK f),toks:=t'}:=by
 have q:=PySem.IsL.update e f;rw[hf]at q;refine I.write (by rw[hH];exact trivial) (.inl rfl) (λb' u hb hu=>(Ce s.heap (BK f) (BR hb)).trans hu) ⟨_,q⟩ ?_;exact⟨hz,its',_,hv,q⟩
def Inv.Lf{t':Nat}(I:Inv X U σ H s)(hv:Vals ys ay)(hz:ys.length<=sizeLine) :
  Inv X U σ (upd H s.heap.objs.size (.lst ys)) {s with heap:=s.heap.push {cls:=.type "list",data:=.seq ay.toArray},toks:=t'}:=
 I.laid (λ_ _ q=>Ae _ q) (Aj _) ⟨hz,ay,0,hv,Ap _ rfl⟩
def Inv.fresh(I:Inv X U σ H s):H s.heap.objs.size=bn:=I.aV.fresh (Aj _)
def Inv.kC(I:Inv X U σ H s)(hH:H l=al (.lst xs)):xs.length<=sizeLine/\∃(ay:O ce) (n:Nat),Vals xs ay/\xs.length=ay.length/\s.heap.get? l=al {cls:=.type "list",data:=.seq ay.toArray n}:=by
 obtain⟨z,ay,n,r,e⟩:=I.aV l _ hH;exact⟨z,ay,n,r,r.length,e⟩
theorem gn(h:n<=sizeLine):Builtin.List.listTooLong n=false:=by
 exact decide_eq_false ∅
end
section
def zy:V->O V->Hp->VK->Prop:=λx vs H Q=>∃l xs y,x=.ref l/\vs=[y]/\H l=al (.lst xs)/\xs.length < sizeLine/\Q .aB (upd H l (.lst (xs++[y])))
theorem uG:vv X "list.append" zy:=by
 intro U s σ H x vs v us Q I rx rv h;obtain⟨l,xs,y,rfl,rfl,hH,hz,q⟩:=h;cases rx;obtain⟨u,rfl,ru⟩:=rv.one;obtain⟨z,ay,n,r,hl,e⟩:=I.kC hH;refine Fa F.slot_list_append ⟨_,e,rfl⟩ F.entry_list_append (F.args_list_append_2 _ _) (PySem.list_append l ay.toArray n u (by rw[Af];omega)) ⟨e,?_⟩;refine⟨.aB,_,I.uH hH e (by simp) (r.append (.cons ru .nil)) ?_,rfl,q⟩;rw[Ab,Bc];omega
def zw:V->O V->Hp->VK->Prop:=λx vs H Q=>∃l b xs zs,x=.ref l/\vs=[.ref b]/\H l=al (.lst xs)/\H b=al (.lst zs)/\xs.length+zs.length<=sizeLine/\Q .aB (upd H l (.lst (xs++zs)))
theorem JD:vv X "list.extend" zw:=by
 intro U s σ H x vs v us Q I rx rv h;obtain⟨l,b,xs,zs,rfl,rfl,hH,hB,hz,q⟩:=h;cases rx;obtain⟨u,rfl,ru⟩:=rv.one;cases ru;obtain⟨z,ay,n,r,hl,e⟩:=I.kC hH;obtain⟨z2,bS,n2,r2,Gx,e2⟩:=I.kC hB;have hsz:ay.toArray.size+bS.toArray.size<=sizeLine:=by rw[Af,Af];omega
 have pz:¬(!ay.toArray.isEmpty&&Builtin.List.listTooLong (ay.toArray.size+bS.toArray.size))=true:=by
  rw[gn hsz,DJ];exact AD
 refine Fa Dz ⟨_,e,rfl⟩ Dp (C9 _ _)
  (AutoSeq1.list_extend_list_list_0 l ay.toArray n b bS.toArray n2 pz (by rw[Af];omega) ∅) ⟨e,e2,?_⟩
 refine⟨.aB,_,I.uH hH e (by simp) (r.append r2) ?_,rfl,q⟩;rw[Ab];omega
def OM:V->O V->Hp->VK->Prop:=λx vs H Q=>∃l xs y,x=.ref l/\vs=[]/\H l=al (.lst xs)/\xs[xs.length-1]?=al y/\Q y (upd H l (.lst xs.dropLast))
theorem HQ:vv X "list.pop" OM:=by
 intro U s σ H x vs v us Q I rx rv h;obtain⟨l,xs,y,rfl,rfl,hH,hy,q⟩:=h;cases rx;have Ta:=rv.zero;subst Ta;obtain⟨z,ay,n,r,hl,e⟩:=I.kC hH;obtain⟨u,hu,ru⟩:=r.get hy;have S8:ay.toArray[ay.toArray.size-1]?=al u:=by
  show ay.toArray[ay.length-1]?=al u;rw[<- Em,<- hl];exact hu
 refine Fa F.slot_list_pop ⟨_,e,rfl⟩ F.entry_list_pop (F.args_list_pop_1 _) (MeetsSeq.list_pop_last l ay.toArray n u S8 (by rw[Af];omega)) ⟨e,?_⟩;refine⟨y,_,I.uH hH e ?_ r.dropLast ?_,ru,q⟩
 ·rw[Af,List.eraseIdxIfInBounds_toArray,rL]
 ·rw[List.length_dropLast];omega
def OP:R2:=λx y H Q=>∃l b xs zs,x=.ref l/\y=.ref b/\H l=al (.lst xs)/\H b=al (.lst zs)/\xs.length+zs.length<=sizeLine/\∀p,H p=bn->Q (.ref p) (upd H p (.lst (xs++zs)))
theorem HI:dB X (sn .Add) OP:=by
 intro U s σ H x y v u Q I rx ry h;obtain⟨l,b,xs,zs,rfl,rfl,hH,hB,hz,q⟩:=h;cases rx;cases ry;obtain⟨z,ay,n,r,hl,e⟩:=I.kC hH;obtain⟨z2,bS,n2,r2,Gx,e2⟩:=I.kC hB;refine PySem.P.add_list e e2 ?_ (by rw[Af,Af];omega);have ea:ay.toArray++bS.toArray=(ay++bS).toArray:=by simp
 rw[ea];exact⟨.ref _,_,I.Lf (r.append r2) (by rw[Ab];omega),rfl,q _ I.fresh⟩
end
section
variable{s:eM}
def uq(ay bS:O ce)(a c:Nat):ay.toArray.extract 0 a++bS.toArray++ay.toArray.extract c ay.toArray.size=(ay.take a++bS++ay.drop c).toArray:=by
 apply Array.toList_inj.mp
 first
  | (
    simp;exact Bh (by simp))
  | simp
  | simp
theorem sd{a c:Nat}(JL:a<=c)(hc:c<=n):ut (al (a:Int)) (al (c:Int)) bn n=((a:Int),(c:Int),1):=by
 simp only[ut,DY];have h1:¬(a < 0):=by omega
 congr 1
 ·omega
 ·congr 1;omega
set_option maxRecDepth 100000 in
theorem lB{l b sl:db}{items new:Array ce}{n n2:Nat}{vl vu:ce}{a c:Nat}{Q:Unit->eM->Prop}
  (e:s.heap.get? l=al {cls:=.type "list",data:=.seq items n}) (e2:s.heap.get? b=al {cls:=.type "list",data:=.seq new n2}) (yY:l≠b)
  (hs:s.heap.IsSliceOf sl vl vu .none) (pl:IsPart vl (al (a:Int))) (pu:IsPart vu (al (c:Int))) (JL:a<=c) (hc:c<=items.size)
  (hsz:items.size+new.size<=sizeLine) (h:Q () {s with heap:=s.heap.update l (BK λxs=>xs.extract 0 a++new++xs.extract c xs.size)}) :
  ge (gl prog w) A (EQ (.ref l) (.ref sl) (.ref b)) Q E s:=by
 have hl:s.heap.IsList l items:=EW e;have hb:s.heap.IsList b new:=EW e2;obtain⟨os,Np,TN,Pz⟩:=id hs;have Rk:s.TypeIs (.ref sl) "slice":=⟨os,Np,TN⟩;have Lz:¬((rawPart bn==o0 0)=true):=AD;have xD:Builtin.List.listSameRef (.ref l) (.ref b)=false:=by
  unfold Builtin.List.listSameRef;exact beq_eq_false_iff_ne.mpr yY
 have Pq:(max (a:Int) (c:Int)).toNat=c:=by omega
 have Gw:((λxs:Array ce=>xs.extract 0 a++new++xs.extract c xs.size) items).size<=sizeLine+1:=by
  simp only[Array.size_append,Array.size_extract];omega
 unfold EQ
 try with_reducible refine Bt ?_
 first | refine Ad (Au ?_) | skip
 refine Ad (wpAny_sequenceKey hl.typeIs ⋯ ?_);refine Ad (BI (name:=D6 "__setitem__") hl.typeIs slot_list_setitem
  (B9 slot_list_setitem hl.typeIs entry_list_setitem ?_ (args_list_setitem _ _ _)))
 show ge _ _ (Builtin.List.listSubscript? (.ref sl) >>= _) _ _ s;refine Ad ?_;unfold Builtin.List.listSubscript?;refine Ad (Eg Rk slice_no_index ?_);simp only[Option.isNone_none,if_true];refine Au ?_;show ge _ _ (typeOf (.ref sl) >>= _) _ _ s;refine Ad (wpAny_typeOf Rk ?_)
 first
  | rw[if_neg ⋯]
  | refine PySem.W.KFB.if_not ⋯ ?_
 rw[listSliceParts_eq];refine Ad (Ad (Bw Np Pz (x:=.none) rfl (Ad (Ew .none ?_))));rw[if_neg Lz];refine Ad (Bw Np Pz (x:=vl) rfl (Ad (Ew pl ?_)));refine Ad (Bw Np Pz (x:=vu) rfl (Ad (Ew pu (Au ?_))))
 first
  | simp only[xD,Am,if_false]
  | refine PySem.W.KFB.if_not xD ?_
  | (
    dsimp only;rw[if_neg (by rw[xD];exact AD)])
 refine Ad (m:=Builtin.List.listAllItems (.ref b) "must assign iterable to extended slice") ?_;unfold Builtin.List.listAllItems;refine Ad (wpAny_typeOf hb.typeIs ?_)
 first
  | refine PySem.W.KFB.if_so ⋯ ?_
  | rw[if_pos ⋯]
  | simp only[beq_self_eq_true,Bool.true_or,if_true]
 unfold Builtin.List.listItems;refine Ad (DC e2 rfl (Au ?_));refine Ad (Ad (DC e rfl (Au ?_)));refine Ad (De ((sliceIndices_raw (al (a:Int)) (al (c:Int)) bn items.size (by simp)).trans (congrArg (pure:Int×Int×Int->Sem (Int×Int×Int)) (sd JL hc))) ?_);show ge _ _ (if ((1:Int)==1)=true then _ else _) _ _ s;rw[if_pos ⋯];refine Ad (EG ?_)
 first
  | simp only[gn hsz,Am,if_false]
  | refine PySem.W.KFB.if_not (gn hsz) ?_
 first | refine Ad (Au ?_) | skip
 show ge _ _ (updateSeq l (λxs=>xs.extract 0 ((a:Int)).toNat++new++xs.extract (max (a:Int) (c:Int)).toNat xs.size) >>= _) _ _ s;rw[Pq,B5];refine Ad (Dh (hz:=Ba (C7 _ _) hsz) (_hz':=Gw) e rfl ?_);refine Ad (wpAny_letGo ?_)
 first
  | exact Ad (Au (Au ⟨.none,rfl,Au h⟩))
  | exact Au ⟨.none,rfl,Au h⟩
end
section
theorem ur{s:eM}{sl:db}{a c:Int}{vl vu:ce}{Q:Unit->eM->Prop}(I:Inv X U σ H s)
  (hH:H l=al (.lst xs)) (hB:H b=al (.lst ys)) (yY:l≠b) (hs:s.heap.IsSliceOf sl vl vu .none) (ra:RelV (.int a) vl) (rc:RelV (.int c) vu) (h0:0<=a) (JL:a<=c) (hc:c<=xs.length)
  (hz:xs.length+ys.length<=sizeLine) (h:∀s',Inv X U σ (upd H l (.lst (xs.take a.toNat++ys++xs.drop c.toNat))) s'->Q () s') :
  ge (gl X.prog X.w) X.A (EQ (.ref l) (.ref sl) (.ref b)) Q X.xe s:=by
 obtain⟨ta,rfl⟩:=ra;obtain⟨tc,rfl⟩:=rc;obtain⟨z,ay,n,r,hl,e⟩:=I.kC hH;obtain⟨z2,bS,n2,r2,Gx,e2⟩:=I.kC hB;obtain⟨a',rfl⟩:=D4 h0;obtain⟨c',rfl⟩:=D4 (Int.le_trans h0 JL);simp only[B5]at h;refine lB (a:=a') (c:=c') e e2 yY hs (.int _ _) (.int _ _) ∅ (by rw[Af];omega) (by rw[Af,Af];omega) (h _ ?_);refine I.uH (its':=ay.take a'++bS++ay.drop c') (t':=s.toks) hH e ?_ (Vals.append (Vals.append (r.take _) r2) (r.drop _)) ?_
 ·exact uq ay bS a' c'
 ·rw[Ab,Ab,Bb,CA];omega
end
end L2
variable{xs:O (O L2.Key×AL×Be)}{v:L2.V}{aw:O (O L2.Key×L2.V)}
namespace L2
section
variable{κ:Type}[DecidableEq κ]
def jI(aw:O (κ×V))(k:κ):Option V:=(aw.find? λkv=>decide (kv.1=k)).map (·.2)
def putK(aw:O (κ×V))(k:κ)(v:V):O (κ×V):=
 if (aw.any λkv=>decide (kv.1=k))=true then aw.map (λkv=>if kv.1=k then (kv.1,v) else kv) else aw++[(k,v)]
def j9{p:κ×V}{r:O (κ×V)}{k:κ}(e:p.1=k):jI (p::r) k=al p.2:=by simp[jI,e]
def ka{p:κ×V}{r:O (κ×V)}{k:κ}(e:¬p.1=k):jI (p::r) k=jI r k:=by simp[jI,e]
theorem iB(k:κ):∀aw:O (κ×V),(aw.any λkv=>decide (kv.1=k))=(jI aw k).isSome
 | []=>rfl
 | p::r=>by
  rw[BF];by_cases e:p.1=k
  ·simp only[j9 e,decide_eq_true e,Bool.true_or,Option.isSome_some]
  ·rw[ka e,decide_eq_false e,Bool.false_or];exact iB k r
theorem jz(aw:O (κ×V))(k:κ)(v:V):(putK aw k v).length<=aw.length+1:=by
 unfold putK
 split
 ·rw[Al];omega
 ·rw[Ab,Av,List.length_nil];omega
def jv.jq{o:Option V}{u:Option ce}(r:jv o u):o.isSome=u.isSome:=by
 cases o with
 | none=>cases u with
  | none=>rfl
  | some _=>exact(r).elim
 | some _=>cases u with
  | none=>exact(show False from r).elim
  | some _=>rfl
def KV.val{aw:O (κ×V)}{vs:O (κ×ce)}(r:KV aw vs)(k:κ):jv (jI aw k) (valueAt vs k):=by
 unfold KV at r
 induction r with
 | nil=>exact Bz
 | @cons p q ps qs h t ih=>
  obtain⟨h1,h2⟩:=h;by_cases e:p.1=k
  ·have e':q.1=k:=h1.symm.trans e;have b:valueAt (q::qs) k=al q.2:=by simp[valueAt,Dk,e']
   rw[j9 e,b];exact h2
  ·have e':¬q.1=k:=λz=>e (h1.trans z);have b:valueAt (q::qs) k=valueAt qs k:=by simp[valueAt,Dk,e']
   rw[ka e,b];exact ih
def KV.any{aw:O (κ×V)}{vs:O (κ×ce)}(r:KV aw vs)(k:κ):(aw.any λkv=>decide (kv.1=k))=vs.any λkv=>decide (kv.1=k):=by
 induction r with
 | nil=>rfl
 | cons h t ih=>rw[BF,BF,ih,h.1]
def KV.He{aw:O (κ×V)}{vs:O (κ×ce)}(r:KV aw vs)(k:κ)(ry:RelV y u) :
  KV (aw.map λkv=>if kv.1=k then (kv.1,y) else kv) (vs.map λkv=>if kv.1=k then (kv.1,u) else kv):=by
 induction r with
 | nil=>exact .nil
 | @cons p q ps qs h t ih=>
  rw[A1,A1];refine .cons ?_ ih;obtain⟨h1,h2⟩:=h;by_cases e:p.1=k
  ·rw[if_pos e,if_pos (h1.symm.trans e)];exact⟨h1,ry⟩
  ·rw[if_neg e,if_neg (λz=>e (h1.trans z))];exact⟨h1,h2⟩
def KV.put{aw:O (κ×V)}{vs:O (κ×ce)}(r:KV aw vs)(k:κ)(ry:RelV y u):KV (putK aw k y) (stored vs k u):=by
 unfold putK stored;rw[r.any k];by_cases e:(vs.any λkv=>decide (kv.1=k))=true
 ·rw[if_pos e,if_pos e];exact r.He k ry
 ·rw[if_neg e,if_neg e];exact Paired.snoc r ⟨rfl,ry⟩
def KV.length{aw:O (κ×V)}{vs:O (κ×ce)}(r:KV aw vs):aw.length=vs.length:=Paired.length r
end
def xy{k:Key}(r:RelV (kV k) u):(bR P w).is k u=true:=by
 cases k with
 | inl i=>obtain⟨t,e⟩:=(r);subst e;exact pe P w i t
 | inr x=>obtain⟨t,e⟩:=(r);subst e;exact o9 P w x t
theorem l9:∀{ks:O Key}{us:O ce},Vals (ks.map kV) us->ItemsAre (bR P w) ks us
 | [],_,r=>by rw[D9]at r;cases r;exact .nil
 | k::ks,_,r=>by
  cases r with
  | cons h t=>exact .cons (xy h) (l9 t)
abbrev KT(H:Hp):O (O Key×V)->O (O Key×db×ce)->Prop:=Paired λp q=>p.1=q.1/\H q.2.1=al (.tup (p.1.map kV))/\RelV p.2 q.2.2
def KT.val(r:KT H aw xs)(k:O Key):jv (jI aw k) ((atKey xs k).map (·.2)):=by
 induction r with
 | nil=>exact Bz
 | @cons p q ps qs h t ih=>
  obtain⟨h1,_,h2⟩:=h;by_cases e:p.1=k
  ·have e':=h1.symm.trans e;have b:atKey (q::qs) k=al q.2:=by simp[atKey,Dk,e']
   rw[j9 e,b];exact h2
  ·have e':¬q.1=k:=λz=>e (h1.trans z);have b:atKey (q::qs) k=atKey qs k:=by simp[atKey,Dk,e']
   rw[ka e,b];exact ih
def KT.He(r:KT H aw xs)(k:O Key)(ry:RelV y u) :
  KT H (aw.map λkv=>if kv.1=k then (kv.1,y) else kv) (xs.map (putAt k u)):=by
 induction r with
 | nil=>exact .nil
 | @cons p q ps qs h t ih=>
  rw[A1,A1];refine .cons ?_ ih;obtain⟨h1,h2,h3⟩:=h;unfold putAt;by_cases e:p.1=k
  ·rw[if_pos e,if_pos (h1.symm.trans e)];exact⟨h1,h2,ry⟩
  ·rw[if_neg e,if_neg (λz=>e (h1.trans z))];exact⟨h1,h2,h3⟩
def KT.put(r:KT H aw xs)(k:O Key)(hb:H b=al (.tup (k.map kV)))(ry:RelV y u) :
  KT H (putK aw k y) (storedH xs k b u):=by
 have e:(aw.any λkv=>decide (kv.1=k))=(atKey xs k).isSome:=by
  rw[iB,(r.val k).jq,EM]
 unfold putK storedH;rw[e];by_cases q:(atKey xs k).isSome=true
 ·rw[if_pos q,if_pos q];exact r.He k ry
 ·rw[if_neg q,if_neg q];exact Paired.snoc r ⟨rfl,hb,ry⟩
def KT.keeps(r:KT H aw xs)(ht:∀b ys,H b=al (.tup ys)->H' b=al (.tup ys)):KT H' aw xs:=
 Paired.HU r λ_ _ z=>⟨z.1,ht _ _ z.2.1,z.2.2⟩
section
def Gb{u:HO}(ok:iA P w H h)(e:Rd H a u):bu P w H h a u:=e.ok ok
def pT{aw:O (Key×V)}(ok:iA P w H h)(e:Rd H a (.dK aw)):aw.length<=sizeLine/\(a==up)=false/\∃vs,KV aw vs/\h.DictOf (bR P w) a vs:=
 show bu P w H h a (.dK aw) from Gb ok e
def Mm{aw:O (Key×V)}(ok:iA P w H h)(e:H a=al (.dK aw)):aw.length<=sizeLine/\(a==up)=false/\∃vs,KV aw vs/\h.DictOf (bR P w) a vs:=pT ok (.inl e)
def q9{ks:O Key}(ok:iA P w H h)(e:H a=al (.tup (ks.map kV))):(tupleKind (bR P w)).is h ks a:=by
 obtain⟨_,ay,r,⟨o,h1,h2,n,h3⟩,_⟩:=(show bu P w H h a (.tup (ks.map kV)) from ok a _ e);exact⟨o,ay.toArray,n,h1,h2,h3,by simpa using l9 r⟩
def pS(ok:iA P w H h)(e:Rd H a (.dT aw)):aw.length<=sizeLine/\(a==up)=false/\
  ∃xs,KT H aw xs/\h.DictOfH (tupleKind (bR P w)) a xs:=by
 obtain⟨z,y,xs,r,o,es,ep,h1,h2,h3,h4,h5⟩:=(Gb ok e);refine⟨z,y,xs,r,o,es,ep,h1,h2,h3,h4,λx hx=>?_,h5⟩;have all:∀{l:O (O Key×V)}{m:O (O Key×db×ce)},KT H l m->∀x∈m,(tupleKind (bR P w)).is h x.1 x.2.1:=by
  intro l m q
  induction q with
  | nil=>intro x hx;exact nomatch hx
  | @cons p q ps qs hq t ih=>
   intro x hx;rcases AA.mp hx with e | hx
   ·subst e;exact q9 ok (by rw[<- hq.1];exact hq.2.1)
   ·exact ih x hx
 exact all r x hx
def Ml(ok:iA P w H h)(e:H a=al (.dT aw)):aw.length<=sizeLine/\(a==up)=false/\
  ∃xs,KT H aw xs/\h.DictOfH (tupleKind (bR P w)) a xs:=pS ok (.inl e)
end
def vz(H:Hp)(a:db)(y:V)(r:Option V):Prop:=
 (∃aw k,Rd H a (.dK aw)/\y=kV k/\r=jI aw k)\/∃aw k b,Rd H a (.dT aw)/\y=.ref b/\H b=al (.tup (k.map kV))/\r=jI aw k
def yT(H:Hp)(a:db)(y v:V)(H':Hp):Prop:=
 (∃aw k,H a=al (.dK aw)/\y=kV k/\aw.length < sizeLine/\H'=upd H a (.dK (putK aw k v)))\/
 ∃aw k b,H a=al (.dT aw)/\y=.ref b/\H b=al (.tup (k.map kV))/\aw.length < sizeLine/\H'=upd H a (.dT (putK aw k v))
theorem vz.k{aw:O (Key×V)}{k:Key}(e:H a=al (.dK aw)):vz H a (kV k) (jI aw k):=.inl ⟨aw,k,.inl e,rfl,rfl⟩
theorem yT.k{aw:O (Key×V)}{k:Key}(e:H a=al (.dK aw))(hl:aw.length < sizeLine):yT H a (kV k) v (upd H a (.dK (putK aw k v))):=.inl ⟨aw,k,e,rfl,hl,rfl⟩
section
variable{s:eM}{r:ce}{o:Option V}
def Inv.big(I:Inv X U σ H s):up < s.heap.objs.size:=by
 exact Nat.lt_trans ⋯ ((I.mod.glob.keeps I.bk).lt)
def Qs(hu:A.units+1 < sB)(I:Inv X U σ H s)(g:vz H a y o)(ry:RelV y u)(h:∀s',Inv X U σ H s'->Q (.bool o.isSome) s') :
  ge (gl X.prog X.w) A (im .In u (.ref a)) Q E s:=by
 rcases g with⟨aw,k,e,ey,l⟩ | ⟨aw,k,b,e,ey,eb,l⟩
 ·subst ey;obtain⟨z,hd,vs,Ð,dd⟩:=pT I.aV e;refine wpAny_in_of (xy ry) hd dd.mapOf ?_;rw[<- (Ð.val k).jq,<- l];exact h _ (I.tok _)
 ·subst ey;cases (show u=AR b from ry);obtain⟨z,hd,xs,Ð,dd⟩:=pS I.aV e;refine wpAny_in_heap (tupleKind_room_in1 hu) (q9 I.aV eb) hd dd ?_;have q:=(Ð.val k).jq;rw[EM]at q;rw[<- q,<- l];exact h _ (I.tok _)
def tX{t':Nat}{ob:HO}(I:Inv X U σ H s)(mu:MK (H a))(hs:Cy a s.heap h')(he:∃q,h'.get? a=al q)(new:bu X.prog X.w (upd H a ob) h' a ob) :
  Inv X U σ (upd H a ob) {s with heap:=h',toks:=t'}:=
 I.write (x:=a) (e:=a) mu (.inl rfl) (λb q hb z=>(hs.2 b hb).trans z) he new
def Jg{aw:O (Key×V)}{vs:O (Key×ce)}(z:aw.length<=sizeLine)(hd:(a==up)=false)(Ð:KV aw vs)(dd:h'.DictOf (bR P w) a vs) :
  bu P w H' h' a (.dK aw):=⟨z,hd,vs,Ð,dd⟩
theorem ve{Q:Unit->eM->Prop}(hu:A.units+1 < sB)(I:Inv X U σ H s)(g:yT H a y v H')(ry:RelV y u)(rv:RelV v r)(h:∀s',Inv X U σ H' s'->Q () s') :
  ge (gl X.prog X.w) A (EQ (.ref a) u r) Q E s:=by
 rcases g with⟨aw,k,e,ey,l,eH⟩ | ⟨aw,k,b,e,ey,eb,l,eH⟩
 ·subst ey eH;obtain⟨z,hd,vs,Ð,dd⟩:=Mm I.aV e;have hz:vs.length<=sizeLine:=by rw[<- Ð.length];exact z
  have hl:(putK aw k v).length<=sizeLine:=by have:=jz aw k v;omega
  refine wpAny_setItem_pairs (hsz:=hz) (xy ry) dd λh' NZ hs=>h _ ?_;have he:∃q,h'.get? a=al q:=let ⟨q,_,_,hq,_⟩:=NZ;⟨q,hq⟩;exact tX I (by rw[e];exact Bz) hs he (Jg hl hd (Ð.put k rv) NZ)
 ·subst ey eH;cases (show u=AR b from ry);obtain⟨z,hd,xs,Ð,dd⟩:=Ml I.aV e;have hz:xs.length<=sizeLine:=by rw[<- Paired.length Ð];exact z
  have hl:(putK aw k v).length<=sizeLine:=by have:=jz aw k v;omega
  refine wpAny_setItem_heap (hsz:=hz) (tupleKind_room_in1 hu) (q9 I.aV eb) dd λh' NZ hs=>h _ ?_;obtain⟨q,es,ep,hq,h2,h3,h4,_,h5⟩:=NZ;refine tX I (by rw[e];exact Bz) hs ⟨q,hq⟩ ⟨hl,hd,_,(Ð.put k eb rv).keeps λc ys ec=>?_,q,es,ep,hq,h2,h3,h4,h5⟩;rw[ax (o6 ec e (λz=>nomatch z))];exact ec
end
def Ov(ty td:TE):TE:=λσ H Q=>ty σ H λy H1=>td σ H1 λx H2=>∃a o,x=.ref a/\vz H2 a y o/\Q (.bl o.isSome) H2
def Kw(td ty tv:TE):TS:=λD σ H=>tv σ H λv H1=>td σ H1 λx H2=>ty σ H2 λy H3=>∃a H4,x=.ref a/\yT H3 a y v H4/\D.nx σ H4
section
variable{i Ã:jp}{td ty tv:TE}
def Hy(hu:X.A.units+1 < sB)(hi:PE X i ty)(ho:PE X o td):PC X .In i o (Ov ty td):=by
 intro U s σ H Q I h;refine aY (hi U s σ H _ I h) λiv s1 ⟨y,H1,I1,ry,q1⟩=>aY (ho U s1 σ H1 _ I1 q1) λu s2 ⟨x,H2,I2,rx,a,ov,ex,g,q2⟩=>?_;subst ex;obtain rfl:u=AR a:=rx;exact Qs hu I2 g ry λs3 I3=>⟨.bl ov.isSome,H2,I3,rfl,q2⟩
def zB(hu:X.A.units+1 < sB)(ho:PE X o td)(hi:PE X i ty)(hv:PE X Ã tv)(hs:pr Ã (al (.Subscript o i È)) pos.line X.env=pure false) :
  PS X (.Assign [.Subscript o i È] Ã pos) (Kw td ty tv):=by
 intro U s σ H D I h;refine wpAny_Assign_Subscript (aY (hv U s σ H _ I h) λr s1 ⟨v,H1,I1,rv,q1⟩=>aY (ho U s1 σ H1 _ I1 q1) λu s2 ⟨x,H2,I2,rx,q2⟩=>aY (hi U s2 σ H2 _ I2 q2) λiv s3 ⟨y,H3,I3,ry,a,H4,ex,g,q3⟩=>?_) hs;subst ex;obtain rfl:u=AR a:=rx;exact ve hu I3 g ry rv λs4 I4=>⟨σ,H4,I4,q3⟩
end
def yz(h:lm)(hb:up < h.objs.size):bu P w H (h.push {cls:=.type "dict",data:=.dict #[]}) h.objs.size (.dK []):=
 ⟨Bj _,beq_eq_false_iff_ne.mpr (BR (Az hb)),[],.nil,Heap.DictOf.new h⟩
def G4:TE:=λ_ H Q=>∀p,H p=bn->Q (.ref p) (upd H p (.dK []))
section
def wK:PE X (.Dict [] [] pos) G4:=λU s σ H Q I h=>
 wpAny_Dict_empty ⟨.ref s.heap.objs.size,_,I.laid (λ_ _ q=>Ae _ q) (Aj _) (yz s.heap I.big),rfl,h _ (I.aV.fresh (Aj _))⟩
end
structure M2(X:Cx)(o:jp)(m:Str)(À:Pos)(e f:jp)(bC:Pos):Prop where
 base:pi o m X.env (lc o X.env)=lc o X.env
 few:((Fk bC (ii [e,f] X.env)).all (λx=>!x.1)&&(backToKw bC (keywordEach [] X.env)).all (λx=>x.1.isSome)
  && decide (([e,f]:List jp).length+([]:List Keyword).length+(if ([]:List Keyword).isEmpty then 0 else 1) < 30))=true
 line:(À.endLine==bC.line)=true
 trees:Fk bC (ii [e,f] X.env)=[(false,lc e X.env),(false,lc f X.env)]
def UR(H:Hp)(a:db):Prop:=(∃aw,Rd H a (.dK aw))\/∃aw,Rd H a (.dT aw)
end L2
variable{Ñ:O Bv}{XP:(Bv->Option Be)->D8->Prop}{YP:PySem.World->D8->Prop}
namespace Att
open PySem PySem.W PySem.Calls PyProof.Rows
def jN{P:Params}:∀(ns:O Int) (vs:O ce),WellAll P h vs (ns.map WData.int)->IntsAre vs ns:=by
 intro ns
 induction ns with
 | nil=>
  intro vs w;cases w;exact .nil
 | cons n ns ih=>
  intro vs w;cases w with
  | cons a b=>
   cases a;exact .cons _ _ (ih _ b)
theorem uv{l:OpenLaw}(hn:l.most=al n){P:Params}{args:O WData}{Ú:O ce}
  (Fl:l.row.toRowW.claim.pre args=true) (Pg:WellAll P h Ú args) :
  ∃a vs ns,Ú=[AR a]/\args=[WData.list (ns.map WData.int)]/\h.get? a=al {cls:=.type "list",data:=.seq vs.toArray}/\IntsAre vs ns/\ns.length<=n:=by
 have hc:l.pre.holds [] {args:=args}=true:=(pre_splitW Fl).2;obtain⟨d,r,rfl,h1,h2⟩:=hasAllW_cons ((pre_splitW Fl).1);obtain rfl:=hasAllW_nil h2;obtain⟨xs,rfl,h3⟩:=hasW_list h1;obtain⟨ns,rfl⟩:=items_int h3;have Â:ns.length<=n:=by
  unfold OpenLaw.pre at hc;have h4:(WTm.not (.lt (.lit (.int (n:Int))) (.len (.arg 0)))).holds [] {args:=[.list (ns.map .int)]}=true:=by
   have h4:=(holds_andW hc).1;rw[hn]at h4;exact h4
  have h5:=condW_of h4 (w_not (w_lt w_lit (w_len_list (w_arg rfl))));refine Nat.le_of_not_lt λq=>?_
  first
   | (rw[decide_eq_true q']at h5;exact absurd h5 ⋯)
   | (simp at h5;omega)
 cases Pg with
 | cons w1 w2=>
  cases w2;cases w1 with
  | list ho rq=>exact⟨_,_,ns,rfl,rfl,ho,jN ns _ rq,Â⟩
def uA(l:OpenLaw)(args:O WData):l.row.toRowW.claim.post args (.bool true) args=true:=
 postW_of
  (show WShape.has [] (.bool true) .bool=true by first | rfl | decide | simp[WShape.has,WShape.arms])
  (w_eq_bool (w_res rfl) w_lit) rfl
def pY{l:OpenLaw}{q:re}{d:DefRec}
  (hn:l.most=al n) (PB:d.params.defaults=[])
  (call:∀(w:sK) (s₀ s₁:eM) (mg mb:Str->Option ce) (fa:db) (o:Obj) (pm cd Å:ce) (a:db) (vs:O ce) (ns:O Int),
   Ground q Ñ [] XP w s₀ mg mb s₁.heap->YP w s₁.heap->
   s₁.heap.get? fa=al o->o.data=.func (docDef d.name d.params d.body d.scope pm cd Å)->s₁.heap.CodeRec cd d.name->mg d.name=al (.ref fa)->
   s₁.heap.get? a=al {cls:=.type "list",data:=.seq vs.toArray}->IntsAre vs ns->ns.length<=n->s₁.gens=#[]->
   CF (gl l.prog w) callerA (.call (.ref fa) ⟨[.ref a],[]⟩) (λr s'=>r=.ok (.ret (.bool true))/\OldK s₁.heap s'.heap/\s'.os=s₁.os/\FS s'.gens) s₁) :
  WalkO q Ñ XP YP l.row.toRowW d [] (λf vs=>PySem.call f vs):=by
 intro w s₀ s₁ mg mb G Y fa o pm cd Å dV kV ho hd eW hD hmg hg args Ú as Fl Tv U3 Pg U5;obtain rfl:dV=.none:=Dflts.none hD PB;obtain rfl:kV=.none:=Dflts.noKw hD;obtain⟨a,vs,ns,rfl,rfl,Iv,Ò,Â⟩:=uv hn Fl Pg;refine enter_call (wp (call w s₀ s₁ mg mb fa o pm cd Å a vs ns G Y ho (fd_plain hd) eW hmg Iv Ò Â hg) λr s' hq=>?_);obtain⟨rfl,h2,h3,h4⟩:=hq;exact⟨.inl ⟨.bool true,.bool true,[],rfl,λ_=>rfl,.bool true,uA l _,λ_=>⟨List.Pairwise.nil,λ_ hm=>(nomatch hm)⟩⟩,h2,h3,h4⟩
end Att
namespace L2
theorem lS:∀{vs:O ce}{ns:O Int},IntsAre vs ns->Vals (ns.map V.int) vs
 | _,_,.nil=>.nil
 | _,_,.cons n t h=>.cons ⟨t,rfl⟩ (lS h)
end L2
variable{k:Nat}{sp:L2.Sp}{B:Prop}
namespace L2
def bL(s:r6):Arguments:=match s with
 | .FunctionDef _ a _ _ _ _ _ _ _ _=>a
 | _=>{posonlyargs:=[],args:=[],vararg:=bn,kwonlyargs:=[],kw_defaults:=[],kwarg:=bn,defaults:=[]}
def aU(s:r6):O r6:=match s with
 | .FunctionDef _ _ b _ _ _ _ _ _ _=>b
 | _=>[]
def au(s:r6):u8:=match s with
 | .FunctionDef _ _ _ _ _ _ sc _ _ _=>sc
 | _=>{kind:=.function,names:=[],isGenerator:=false,isCoroutine:=false}
abbrev fD:vE:=λ_ _ _ _ _ _=>False
abbrev E0:XK:=λ_ _ _=>False
def dZ:Passes fD X E0:=λ_ _ _ _ _ _ _ h=>h.elim
structure Fun(K:Aa)(x qual:Str)(st:r6)(f:db)(fd:wn):Prop where
 ex:∃(oc:ce) (od:Option db) (kV Å pm:ce) (an:Option db) (bO ct:ce) (wQ:Array (Option ce)),
  fd=A9 x qual (bL st) (aU st) (au st) .none kV Å pm an bO ct/\K.lookup f=al ⟨oc,od,.func fd,wQ⟩/\BW K bO qual=true
 kp:A7 K (.ref f)=true
section
variable{K:Aa}
def Fun.ok{x:Str}{st:r6}{f:db}{N:O Str}(F:Fun K x qual st f fd)(S:bN N ps (au st))(len:∀vs H Q E,sp vs H Q E->vs.length=ps.length)
  (pA:∀(bO:ce) (A:tz) (outer:O Env) (s:eM) (H:Hp) (vs:O V) (Q:VK) (E:XK),bt k (A.deeper (wS qual (au st) s.heap.objs.size f bO))->sp vs H Q E->
   ∃t,PSs (jQ fD P w K mg base N qual (au st) f bO A outer s H E).xc (aU st) t/\t {nx:=λ_ H'=>Q .aB H',rt:=Q} (start N vs) H):bx P w K mg base fD (k+1) f fd ps sp:=by
 obtain⟨oc,od,kV,Å,pm,an,bO,ct,wQ,rfl,lk,eW⟩:=F.ex;refine GA lk eW S len λA outer s H vs Q E hr rj=>?_;obtain⟨t,h,q⟩:=pA bO A outer s H vs Q E hr rj;exact⟨t,h.xc,q⟩
def Fun.binds{x:Str}{st:r6}{f:db}(F:Fun K x qual st f fd)
  (h:∀(kV Å pm:ce) (an:Option db) (bO ct:ce) (us:O ce),us.length=ps.length->Db (A9 x qual (bL st) (aU st) (au st) .none kV Å pm an bO ct) ⟨us,[]⟩=pure (ps.zip us)):Binds K fd ps []:=by
 obtain⟨oc,od,kV,Å,pm,an,bO,ct,wQ,rfl,lk,eW⟩:=F.ex;exact .all (h kV Å pm an bO ct)
def kN{x:Str}{st:r6}{f:db}{kV:ce}(l:K.lookup f=al ⟨oc,od,.func (A9 x qual (bL st) (aU st) (au st) .none kV Å pm an bO ct),wQ⟩)
  (c:BW K bO qual=true) (k:A7 K (.ref f)=true):Fun K x qual st f (A9 x qual (bL st) (aU st) (au st) .none kV Å pm an bO ct):=⟨⟨oc,od,kV,Å,pm,an,bO,ct,wQ,rfl,l,c⟩,k⟩
end
def jd(h:n<=1000):n < sizeLine:=Nat.lt_of_le_of_lt h ⋯
section
def pv(i:Nat){x:Str}(hN:X.N[i]?=al x:=by rfl)(hv:qa X.env.scope x:=by first | exact Bm rfl | exact BG (Bm rfl) | exact BG (BG rfl))(hd:eJ x:=by decide)
  (eW:qo x:=by decide):PE X (.Name x pos) (G1 i):=cL hN hv hd eW
end
def eU{A:Prop}(h:B):if false=true then A else B:=by
 exact h
def gX{A:Prop}(h:A):if true=true then A else B:=by
 exact h
def dh(H H':Hp):Prop:=∀b o,H b=al o->H' b=al o
def dh.refl(H:Hp):dh H H:=λ_ _ h=>h
def dh.free(e:dh H H')(h:H' l=Option.none):H l=Option.none:=by
 cases q:H l with
 | none=>rfl
 | some o=>
  rw[e l o q]at h;cases h
end L2
variable{b:Nat}{H2:L2.Hp}{Xs:PySem.Scope}{N':O Bv}{ix:O (Option Nat)}{Ç:BL}{Ë:O BL}{cl:O (Bv×AL)}{oJ:Ci}
namespace L2
def Nc{o:Obj}(e:h.get? b=al o):b < h.objs.size:=Ao e
def neN{a:Nat}(h:a≠b):a≠b:=h
def ltN{a:Nat}(h:a < b):a < b:=h
def GN{c:Nat}{v:Option ce}(q:h.IsCell c v):c < h.objs.size:=q.lt
structure bM(Xs:u8)(N:List Str)(sc:u8)(N':List Str)(ix:List (Option Nat)):Prop where
 kind:sc.kind=.function
 nc:∀y∈sc.names,y.2≠.cell
 loc:∀y∈sc.names,y.2=.local->sc.names.lookup y.1=al .local
 fr:∀y∈sc.names,y.2=.free->(Xs.names.lookup y.1=al .cell\/Xs.names.lookup y.1=al .free)
 nd:N'.Nodup
 len:ix.length=N'.length
 map:((ix.zip N').all λp=>match p.1 with | none=>true | some j=>decide (N[j]?=al p.2)&&decide (sc.names.lookup p.2=al .free))=true
def bM.at{N:O Str}(S:bM Xs N sc N' ix){i:Nat}{x:Str}(h1:ix[i]?=al (al j))(h2:N'[i]?=al x) :
  N[j]?=al x/\sc.names.lookup x=al .free:=by
 have hm:((al j,x):Option Nat×Str)∈ix.zip N':=by
  refine AB (i:=i) ?_;rw[DK];exact⟨h1,h2⟩
 have q:=D3.mp S.map _ hm;simp at q;exact q
def i6(ix:O (Option Nat))(σ:St):St:=ix.map λo=>match o with | some j=>(σ[j]?).getD bn | none=>bn
def fW(X:Cx)(sc:u8)(N':O Str)(cl:O (Str×db))(C:db)(s2:eM)(H2:Hp)(fp:O db):Cx where
 prog:=X.prog
 w:=X.w
 K:=X.K
 mg:=X.mg
 base:=X.base
 A:=X.A
 N:=N'
 s₀:=s2
 H₀:=H2
 env:=compEnvC sc cl C X.env
 outer:=X.stack
 stack:=X.stack
 ex:=fp
 calm:=X.calm
 fn:=λ_=>false
 pn:=[]
 xe:=λ_ _=>False
theorem ir:∀(names:O (Str×wE)) (cs:O (Str×db)),(∀y∈names,y.2=.free->∃c,env.cells.lookup y.1=al c)->
  ∃cl,(forIn names cs λ(x:Str×wE) (c:O (Str×db))=>(match x with | (name,kind)=>do
    let c <- if (kind==AX)=true then do let a <- cellOf env name;pure ((name,a)::c) else pure c
    pure (B4 c):Sem (ForInStep (O (Str×db)))))=pure cl/\(∀x c,cl.lookup x=al c->cs.lookup x=al c\/(env.cells.lookup x=al c/\(x,AX)∈names))/\(∀x,((x,AX)∈names\/(∃c,cs.lookup x=al c))->∃c,cl.lookup x=al c)
 | [],cs,_=>⟨cs,rfl,λ_ _ h=>.inl h,λx h=>h.elim (λz=>nomatch z) λz=>z⟩
 | (n,k)::r,cs,h=>by
  by_cases hk:k=.free
  ·subst hk;obtain⟨c,hc⟩:=h (n,.free) AZ rfl;obtain⟨cl,e,h1,h2⟩:=ir r ((n,c)::cs) λy hy=>h y (AE _ hy);refine⟨cl,?_,λx d hd=>?_,λx hx=>?_⟩
   ·rw[Eh,<- e];simp only[beq_self_eq_true,if_true,cellOf,hc,pure_bind]
   ·rcases h1 x d hd with z | ⟨z1,z2⟩
    ·rw[AW]at z;by_cases hx:(x==n)=true
     ·rw[hx]at z;have pq:x=n:=eq_of_beq hx;subst pq;cases z;exact .inr ⟨hc,AZ⟩
     ·have pq:(x==n)=false:=by simpa using hx
      rw[pq]at z;exact .inl z
    ·exact .inr ⟨z1,AE _ z2⟩
   ·refine h2 x ?_;rcases hx with hx | ⟨d,hd⟩
    ·rcases AA.mp hx with z | z
     ·injection z with z1 _;subst z1;exact .inr ⟨c,by rw[AW];simp⟩
     ·exact .inl z
    ·by_cases hx:(x==n)=true
     ·exact .inr ⟨c,by rw[AW,hx]⟩
     ·have pq:(x==n)=false:=by simpa using hx
      exact .inr ⟨d,by rw[AW,pq];exact hd⟩
  ·obtain⟨cl,e,h1,h2⟩:=ir r cs λy hy=>h y (AE _ hy);refine⟨cl,?_,λx d hd=>?_,λx hx=>?_⟩
   ·have hb:(k==AX)=false:=by simpa using hk
    rw[Eh,<- e];simp only[hb,Am,if_false,pure_bind]
   ·rcases h1 x d hd with z | ⟨z1,z2⟩
    ·exact .inl z
    ·exact .inr ⟨z1,AE _ z2⟩
   ·refine h2 x ?_;rcases hx with hx | hx
    ·rcases AA.mp hx with z | z
     ·injection z with _ z2;exact absurd z2.symm hk
     ·exact .inl z
    ·exact .inr hx
def eF(h:∀y∈sc.names,y.2=.free->∃c,env.cells.lookup y.1=al c) :
  ∃cl,closureFor sc env=pure cl/\(∀x c,cl.lookup x=al c->env.cells.lookup x=al c/\(x,AX)∈sc.names)/\(∀x,(x,AX)∈sc.names->∃c,cl.lookup x=al c):=by
 obtain⟨cl,e,h1,h2⟩:=ir sc.names [] h;refine⟨cl,?_,λx c hc=>(h1 x c hc).resolve_left (λz=>nomatch z),λx hx=>h2 x (.inl hx)⟩;unfold closureFor;have e':(forIn sc.names ([]) λx r=>(match x with | (name,kind)=>if (kind==AX)=true then do let a <- cellOf env name;pure (B4 ((name,a)::r)) else pure (B4 r):Sem (ForInStep (O (Str×db)))))=pure cl:=by
  rw[<- e]
  first
   | rfl
   | (
     congr 1;funext x r;by_cases hk)
   | simp
 simpa using e'
theorem dD{env:Env}:∀{names:O (Str×wE)}{x:Str},
  (names.map λ(n,k)=>if (k==AX&&env.scope.kind==.function&&env.kindOf n==al .cell) then (n,EA) else (n,k)).lookup x =
   (names.lookup x).map λk=>if (k==AX&&env.scope.kind==.function&&env.kindOf x==al .cell) then EA else k
 | [],_=>rfl
 | (n,k)::r,x=>by
  have ih:=@dD env r x;show Cu x ((if (k==AX&&env.scope.kind==.function&&env.kindOf n==al .cell)=true then (n,EA) else (n,k))::_)=_;cases hx:x==n with
  | true=>
   have e:=eq_of_beq hx;subst e;by_cases hc:(k==AX&&env.scope.kind==.function&&env.kindOf x==al .cell)=true
   ·rw[if_pos hc,AW,AW,hx];simp only[CK,hc,if_true]
   ·rw[if_neg hc,AW,AW,hx];simp only[CK,hc];simp
  | false=>
   by_cases hc:(k==AX&&env.scope.kind==.function&&env.kindOf n==al .cell)=true
   ·rw[if_pos hc,AW,AW,hx];exact ih
   ·rw[if_neg hc,AW,AW,hx];exact ih
def JV(X:Cx)(Ë:O jp)(t:TT):Prop:=
 ∀(U:O (db×Obj)) (s:eM) (σ:St) (H:Hp) (Q:Bool->Hp->Prop),Inv X U σ H s->t σ H Q->
  ge (gl X.prog X.w) X.A (forIn Ë true λc r=>if r=true then do let ok <- isTrue c X.env (lc c X.env);pure (B4 ok) else pure (B4 r)) (TP X U σ Q) X.xe s
def Ox:TT:=λ_ H Q=>Q true H
def zH:JV X [] Ox:=λU s σ H Q I h=>by
 exact Au ⟨H,I,h⟩
def zG{c:jp}{t:TT}(hc:PT X c t):JV X [c] t:=λU s σ H Q I h=>by
 rw[Eh];simp only[if_true,bind_assoc];exact Ad (aY (hc U s σ H Q I h) λb s1 q=>Au q)
def Oo(ix:O (Option Nat))(wi:TI)(g:TG)(tf:TT)(te:TE):TE:=λσ H Q=>wi σ H λJ H1=>∀D,H1 D=bn->∃W:Nat->Nat->St->O V->Hp->Prop,
 (∃m,W 0 m (i6 ix σ) [] (upd H1 D (.lst [])))/\∀i m σ' ys H,W i m σ' ys H->H D=al (.lst ys)/\
  ((J.stop i H/\Q (.ref D) H)\/(J.go i H/\∀x H',J.GP i H x H'->g x σ' H' λσ2 H2=>tf σ2 H2 λb H3=>
   if b=true then te σ2 H3 λy H4=>H4 D=al (.lst ys)/\ys.length+1<=sizeLine/\∃m',m' < m/\W (i+1) m' σ2 (ys++[y]) (upd H4 D (.lst (ys++[y]))) else ∃m',m' < m/\W (i+1) m' σ2 ys H3))
def gY{s:eM}{Ê:jp}{it Æ:ce}(I:Nat->eM->Prop)
  (Í:∀n s,I n s->ge (gl prog w) A (pyNext it) (λr s₁=>match r with
   | none=>R (.ok .next) s₁
   | some v=>ge (gl prog w) A (Gc Ê it v) (λ_ Ga=>ge (gl prog w) A (Ch Ê env v) (λ_ s₂=>
     ge (gl prog w) A (forIn Ë true λc r=>if r=true then do let ok <- isTrue c env (lc c env);pure (B4 ok) else pure (B4 r)) (λok s₃=>
      if ok=true then ge (gl prog w) A (lc Ç env) (λx s₄=>
       ge (gl prog w) A (call (.builtin "list.append") [Æ,x]) (λ_ s₅=>∃m,m < n/\I m s₅) (λ_ _=>False) s₄) (λ_ _=>False) s₃
      else ∃m,m < n/\I m s₃) (λ_ _=>False) s₂) (λ_ _=>False) Ga) (λ_ _=>False) s₁) (λ_ _=>False) s)
  n (h:I n s) :
  CF (gl prog w) A (.compLoop (.ListComp Ç [⟨Ê,iter,Ë,0⟩] scope pos) 0 it Æ env) R s:=by
 refine codeAny_loop rfl I (λn s hI=>?_) n h;refine wpAny_noted ?_;refine Ad (C8 (Ad (BM (Í n s hI) (λr s₁ h₁=>?_) λ_ _ h'=>h'.elim)));cases r with
 | none=>exact Au h₁
 | some v=>
  refine Ad (BM h₁ (λ_ Ga Lw=>?_) λ_ _ h'=>h'.elim);refine Ad (BM Lw (λ_ s₂ h₂=>Ad (BM h₂ (λok s₃ h₃=>?_) λ_ _ h'=>h'.elim)) λ_ _ h'=>h'.elim);cases ok with
  | false=>exact Au ⟨rfl,h₃⟩
  | true=>
   exact Ad (Ad (BM h₃ (λx s₄ h₄=>Ad (BM h₄ (λ_ s₅ h₅=>Au (Au ⟨rfl,h₅⟩)) λ_ _ h'=>h'.elim)) λ_ _ h'=>h'.elim))
section
variable{g:TG}{tf:TT}
structure MP(X:Cx)(U:List (db×Obj))(H:Hp)(C:db):Prop where
 hn:H C=bn
 hL:C≠X.env.locals
 ab:X.s₀.heap.objs.size<=C
 cl:∀x c,X.env.cells.lookup x=al c->c≠C
 pn:∀p∈X.pn++U,p.1≠C
theorem tI(hc:X.calm=true)(S:bM X.env.scope X.N sc N' ix)
  (hg:∀cl C s2 H2 fp,PG (fW X sc N' cl C s2 H2 fp) tg g) (hf:∀cl C s2 H2 fp,JV (fW X sc N' cl C s2 H2 fp) Ë tf) (he:∀cl C s2 H2 fp,PE (fW X sc N' cl C s2 H2 fp) Ç te) {s2:eM} (iW:∀x c,cl.lookup x=al c->X.env.cells.lookup x=al c/\(x,AX)∈sc.names) (nr:∀x,(x,AX)∈sc.names->∃c,cl.lookup x=al c) {tn:Nat->lm->Prop}{J:It}{Q:VK} (I2:Inv X U σ H2 s2) (T:Turn X.prog X.w X.K tg J fp it tn) (lz:tn 0 s2.heap) (f2:∀b∈fp,lR X U H2 b)
  (hW:∀D,H2 D=bn->∃W:Nat->Nat->St->O V->Hp->Prop,
   (∃m,W 0 m (i6 ix σ) [] (upd H2 D (.lst [])))/\∀i m σ' ys H,W i m σ' ys H->H D=al (.lst ys)/\
    ((J.stop i H/\Q (.ref D) H)\/(J.go i H/\∀x H',J.GP i H x H'->g x σ' H' λσ2 H2=>tf σ2 H2 λb H3=>
     if b=true then te σ2 H3 λy H4=>H4 D=al (.lst ys)/\ys.length+1<=sizeLine/\∃m',m' < m/\W (i+1) m' σ2 (ys++[y]) (upd H4 D (.lst (ys++[y]))) else ∃m',m' < m/\W (i+1) m' σ2 ys H3)))
  {RR:ce->db->Result->eM->Prop}{E:ce->eM->Prop}
  (T7:∀D C m s' H',Inv X U σ H' s'->Q (.ref D) H'->s'.heap.Ns C m->MP X U H' C->RR (.ref D) C (.ok .next) s') :
  ge (gl X.prog X.w) X.A (newList []) (λÆ s₃=>ge (gl X.prog X.w) X.A (newFunctionEnv sc X.env.globals cl [] X.env.qual bn .none (al X.env)) (λMv s₄=>
   CF (gl X.prog X.w) X.A (.compStart (.ListComp Ç [⟨tg,iter,Ë,0⟩] sc pos) 0 (.ref it) Æ {Mv with scope:=relabel sc X.env}) (RR Æ Mv.locals) s₄) E s₃) E s2:=by
 refine Co (Df S.nc (by intro y hy;simp at hy) (λh₁ rk nk=>?_) S.kind);generalize PX:s2.heap.push {cls:=.type "list",dict:=bn,data:=.seq ([]).toArray}=G2 at rk nk ⊢;have hC:G2.objs.size=s2.heap.objs.size+1:=by rw[<- PX,B8]
 obtain⟨D,hD⟩:∃D:Nat,s2.heap.objs.size=D:=⟨_,rfl⟩;obtain⟨C,Ud⟩:∃C:Nat,G2.objs.size=C:=⟨_,rfl⟩;simp only[hD,Ud]at rk nk hC ⊢;have Rp:D≠C:=by omega
 have Ì:∀b o,s2.heap.get? b=al o->h₁.get? b=al o:=λb o e=>by
  have hb:=Nc e;exact nk.extBut b o (neN ∅) (Ae _ (PX▸Ae _ e))
 have LQ:h₁.get? D=al {cls:=.type "list",data:=.seq ([]:O ce).toArray}:=by
  refine nk.extBut D _ Rp (Ae _ ?_);rw[<- PX,<- hD];exact Ap _ rfl
 have Rr:H2 D=bn:=I2.aV.fresh ∅;obtain⟨W,⟨m0,w0⟩,Í⟩:=hW D Rr;have GL:∀x c,cl.lookup x=al c->∃v,s2.heap.IsCell c v:=λx c e=>I2.cell x c (iW x c e).1;have Qu:∀x c,cl.lookup x=al c->c < D:=λx c e=>by
  obtain⟨v,q⟩:=GL x c e;have:=GN q;exact ltN ∅
 have P8:∀b∈fp,b < D:=λb hb=>by
  obtain⟨o,e,_⟩:=T.obj 0 _ lz b hb;have:=Nc e;exact ltN ∅
 have RI:(fW X sc N' cl C s2 H2 fp).Ok:=by
  refine⟨I2.ok.mod,S.kind,I2.ok.glob,I2.ok.blt,?_,?_,?_,?_,I2.ok.hd,I2.ok.frames,.inl rfl,?_,I2.bs,?_,?_,?_,I2.stack,I2.sQ⟩
  ·show s2.heap.objs.size<=C;omega
  ·intro x y c e1 e2;exact I2.ok.inj x y c (iW x c e1).1 (iW y c e2).1
  ·intro x hx;have pq:(relabel sc X.env).names.lookup x=al .cell\/(relabel sc X.env).names.lookup x=al .free:=hx;unfold relabel at pq;rw[dD]at pq;cases q:sc.names.lookup x with
   | none=>rw[q]at pq;simp at pq
   | some k=>
    have hm:=AU q;by_cases hk:k=.free
    ·subst hk;exact nr x hm
    ·rw[q]at pq;have hb:(k==AX)=false:=by simpa using hk
     simp only[CK,hb,Bool.false_and,Am,if_false]at pq;rcases pq with z | z
     ·exact absurd (Option.some.inj z) (S.nc _ hm)
     ·exact absurd (Option.some.inj z) hk
  ·intro x c Fp;exact absurd Fp AD
  ·intro b hb;refine⟨?_,λx c e z=>(f2 b hb).2.2.2.2.1 x c (iW x c e).1 z⟩;show b≠C;have:=ltN (P8 b hb);exact neN ∅
  ·exact Ba I2.ok.yD I2.sz
  ·intro b o e hb;rcases (f2 b hb).2.2.2.1 with z | z
   ·exact I2.ok.xg b o e z
   ·have h1:=Nc (h:=X.base) e;have h2:=I2.ok.yD;omega
  ·intro b hb z;rcases AA.mp (I2.mG b z) with q | q
   ·exact(f2 b hb).2.1 q
   ·exact(f2 b hb).2.2.1 q
 have RZ:Un (frs X.stack) fp H2 (upd H2 D (.lst [])) s2.heap h₁:=Un.laid Ì ∅ Rr;have IY:∀tk,Inv (fW X sc N' cl C s2 H2 fp) [] (i6 ix σ) (upd H2 D (.lst [])) {s2 with heap:=h₁,toks:=tk}:=λtk=>by
  refine⟨RI,rfl,I2.bare,RZ,⟨_,rk,λi x v e1 e2 e3=>?_⟩,λx c e=>?_,?_,λx c e=>?_,λp hp=>absurd (show p∈([]) from hp) (by simp),(I2.aV.laid Ì ∅ ⟨Bj _,[],0,.nil,LQ⟩),?_⟩
  ·have ql:=e1;unfold i6 at e2;rw[Ak]at e2;cases q:ix[i]? with
   | none=>rw[q]at e2;cases e2
   | some o=>
    cases o with
    | none=>rw[q]at e2;cases e2
    | some j=>
     rw[q]at e2;have NY:(σ[j]?).getD bn=al v:=Option.some.inj e2;have e4:σ[j]?=al (al v):=by
      cases z:σ[j]? with
      | none=>rw[z]at NY;cases NY
      | some y=>rw[z]at NY;exact congrArg al NY
     obtain⟨a1,a2⟩:=S.at q ql;have LH:=AU a2;have hk:=S.fr _ LH rfl;obtain⟨m,_,hl⟩:=I2.loc;obtain⟨u,r,l⟩:=hl j x v a1 e4 (.inr hk);refine⟨u,r,.inr ⟨?_,?_⟩⟩
     ·show(relabel sc X.env).names.lookup x=al .cell\/(relabel sc X.env).names.lookup x=al .free;unfold relabel;rw[dD,a2];by_cases hb:(X.env.scope.kind==.function&&X.env.kindOf x==al .cell)=true
      ·left
       simp only[CK,beq_self_eq_true,Bool.true_and,hb,if_true]
      ·right
       simp only[CK,beq_self_eq_true,Bool.true_and,hb,if_false,Am]
     ·obtain⟨c,Rg⟩:=nr x LH;refine⟨c,Rg,?_⟩;rcases l with⟨k,_⟩ | ⟨k,c',e',z⟩
      ·have k':X.env.scope.names.lookup x=al .local:=k;rcases hk with y | y <;> rw[k']at y <;> cases y
      ·rw[((iW x c Rg).1)]at e';cases e';obtain⟨o,ho,hd⟩:=z;exact⟨o,Ì _ _ ho,hd⟩
  ·obtain⟨v,o,ho,hd⟩:=GL x c e;exact⟨v,o,Ì _ _ ho,hd⟩
  ·show upd H2 D (.lst []) C=bn;rw[ax (BR Rp)];exact(I2.aV.fresh ∅)
  ·have jC:=ltN (Qu x c e);rw[ax (neN ∅)];exact I2.gB x c (iW x c e).1
  ·unfold i6;rw[Al];exact S.len
 have P7:∀{oS:O (db×Obj)}{H':Hp},(∀b∈fp,H' b=bn)->(∀p∈oS,p.1∉fp)->∀b∈fp,lR (fW X sc N' cl C s2 H2 fp) oS H' b:=λhn hp b hb=>by
  refine⟨hn b hb,?_,?_,.inl hb,λx c e z=>(f2 b hb).2.2.2.2.1 x c (iW x c e).1 z,λp Tj z=>?_⟩
  ·show b≠C;have:=ltN (P8 b hb);exact neN ∅
  ·exact RI.xX b hb
  ·exact hp p Tj (z▸hb)
 have Ý:∀s₃:eM,s₃={s2 with heap:=h₁,toks:=s2.toks+([]:O (Str×ce)).length}->
   CF (gl X.prog X.w) X.A (.compLoop (.ListComp Ç [⟨tg,iter,Ë,0⟩] sc pos) 0 (.ref it) (.ref D) (compEnvC sc cl C X.env)) (RR (.ref D) C) s₃:=by
  rintro s₃ rfl;refine gY (λn s'=>∃i σ' ys H',Inv (fW X sc N' cl C s2 H2 fp) [] σ' H' s'/\tn i s'.heap/\(∀b∈fp,H' b=bn)/\W i n σ' ys H') ?_ m0
   ⟨0,_,[],_,IY _,T.keep _ _ _ lz (λb _ o e=>Ì b o e),λb hb=>by rw[ax (Az (P8 b hb))];exact(f2 b hb).1,w0⟩
  rintro n s3 ⟨i,σ3,ys,H3,I3,Kr,L1,w3⟩;obtain⟨Vc,w3⟩:=Í i n σ3 ys H3 w3;rcases w3 with⟨stop,qn⟩ | ⟨go,step⟩
  ·refine aY (T.done (fW X sc N' cl C s2 H2 fp) rfl rfl rfl hc i [] s3 σ3 H3 _ I3 (P7 L1 (by simp)) Kr stop) λr s4 ⟨hr,I4⟩=>?_;subst hr;obtain⟨m,hn,_⟩:=I4.loc;refine T7 D C m s4 H3 (I2.MC I4.os I4.base I4.aV I4.bare λb hb=>?_) qn hn ?_
   ·obtain⟨a0,a1,a2,a3,a4,a5⟩:=f2 b hb;exact⟨a3,a1,a4,a5⟩
   ·refine⟨I4.free,?_,?_,λx c e z=>?_,λp hp z=>?_⟩
    ·have:=ltN I2.lt;exact neN ∅
    ·have:=I2.sz;omega
    ·obtain⟨v,q⟩:=I2.cell x c e;have:=GN q;exact neN (a:=c) (b:=C) ∅ z
    ·have:=Nc (I2.pin p hp).1;exact neN (b:=C) ∅ z
  ·refine aY (T.item (fW X sc N' cl C s2 H2 fp) rfl rfl rfl hc i [] s3 σ3 H3 (λ_ _=>False) I3 (P7 L1 (by simp)) Kr go) λr s4 ⟨u,hr,h4⟩=>?_;subst hr;refine aY h4 λ_ s5 ⟨x,H5,I5,r5,y5,G8,P6⟩=>?_;refine aY (hg _ _ _ _ _ _ s5 σ3 H5 x u _ (I5.pinned (P7 P6 (by simp)) (T.obj _ _ G8)) r5 (step x H5 y5)) λ_ s6 ⟨σ6,H6,I6,q6⟩=>?_;refine aY (hf _ _ _ _ _ _ s6 σ6 H6 _ I6 q6) λb s7 ⟨H7,I7,q7⟩=>?_;have xx:∀{s8:eM}{σ8:St}{H8:Hp},Inv (fW X sc N' cl C s2 H2 fp) ([]++jk fp s5.heap) σ8 H8 s8->tn (i+1) s8.heap/\∀b∈fp,H8 b=bn:=λ{s8 σ8 H8} I8=>by
    refine⟨T.keep _ _ _ G8 λb hb o e=>(I8.pin (b,o) (Ax _ (Ax _ (fj hb e)))).1,λb hb=>?_⟩;obtain⟨o,e,d⟩:=T.obj _ _ G8 b hb;exact(I8.pin (b,o) (Ax _ (Ax _ (fj hb e)))).2.1
   cases b with
   | false=>
    obtain⟨m',hm,w7⟩:=q7;obtain⟨t7,Ui⟩:=xx I7;exact⟨m',hm,i+1,σ6,ys,H7,I7.fZ,t7,Ui,w7⟩
   | true=>
    refine aY (he _ _ _ _ _ _ s7 σ6 H7 _ I7 q7) λyv s8 ⟨y,H8,I8,r8,Rq,S6,m',hm,w8⟩=>?_;obtain⟨z,ay,k,rv,U7,e8⟩:=I8.kC Rq;obtain⟨t8,Ve⟩:=xx I8;refine wpAny_list_append_plain (s:=s8) ⟨_,e8⟩ λh9 Tw Ti=>?_;obtain⟨k9,e9⟩:=Tw;have I9:Inv (fW X sc N' cl C s2 H2 fp) ([]++jk fp s5.heap) σ6 (upd H8 D (.lst (ys++[y]))) {s8 with heap:=h9,toks:=s8.toks}:=by
     refine I8.write (x:=D) (e:=D) (by rw[Rq];exact trivial) (.inl rfl) (λb u hb hu=>(Ti.2 b hb).trans hu) ⟨_,e9⟩ ?_;refine⟨by rw[Ab,Bc];exact S6,ay++[yv],k9,(Vals.append rv (.cons r8 .nil)),?_⟩;rw[e9];simp
    obtain⟨t9,Uh⟩:=xx I9;exact⟨m',hm,i+1,σ6,_,_,I9.fZ,t9,Uh,w8⟩
 exact codeAny_compStart_list (Ý _ rfl) (T.self _ 0 _ _ _ (T.keep _ _ _ lz λb _ o e=>Ì b o e) (Ý _ rfl))
def KS(hc:X.calm=true)(S:bM X.env.scope X.N sc N' ix)(hi:PI X tg iter wi)
  (hg:∀cl C s2 H2 fp,PG (fW X sc N' cl C s2 H2 fp) tg g) (hf:∀cl C s2 H2 fp,JV (fW X sc N' cl C s2 H2 fp) Ë tf) (he:∀cl C s2 H2 fp,PE (fW X sc N' cl C s2 H2 fp) Ç te)
  (hs:sD X iter:=by intro _;rfl):PE X (.ListComp Ç [⟨tg,iter,Ë,0⟩] sc pos) (Oo ix wi g tf te):=by
 intro U s σ H Q I h;obtain⟨cl,md,iW,nr⟩:=eF (λy hy hk=>I.ok.has y.1 (S.fr y hy hk));refine DU rfl hs md S.kind S.loc (aY (hi U s σ H _ I h) λv s1 h1=>aY h1 λNf s2 h2=>?_);obtain⟨it,fp,tn,J,H2,rfl,I2,T,lz,f2,hW⟩:=h2;exact tI hc S hg hf he iW nr I2 T lz f2 hW λD C m s' H' I' q hn F=>⟨m,hn,λh' Pl=>⟨.ref D,H',I'.turned (λb o hb e=>(Pl.2 b hb).trans e) F.hn F.hL (.inr F.ab) F.cl F.pn,rfl,q⟩⟩
def wz{i:Nat}{x:Str}(hc:X.calm=true)(hN:X.N.Nodup)(xH:X.N[i]?=al x)(hx:X.env.scope.names.lookup x=al .local)(S:bM X.env.scope X.N sc N' ix)(hi:PI X tg iter wi)
  (hg:∀cl C s2 H2 fp,PG (fW X sc N' cl C s2 H2 fp) tg g) (hf:∀cl C s2 H2 fp,JV (fW X sc N' cl C s2 H2 fp) Ë tf) (he:∀cl C s2 H2 fp,PE (fW X sc N' cl C s2 H2 fp) Ç te)
  (rh:pr (.ListComp Ç [⟨tg,iter,Ë,0⟩] sc pos) (al (.Name x px)) oJ.line X.env=pure true:=by rfl)
  (hs:sD X iter:=by intro _;rfl):PS X (.Assign [.Name x px] (.ListComp Ç [⟨tg,iter,Ë,0⟩] sc pos) oJ) (G5 (Oo ix wi g tf te) (eY i)):=by
 intro U s σ H D0 I h;rw[exec_Assign_Name_used _ _ _ _ rh];refine Ad (C8 (Ad ?_));show ge _ X.A (do let _ <- comprehension (.ListComp Ç [⟨tg,iter,Ë,0⟩] sc pos) sc X.env _ (newList []) false (lc iter X.env) (al (Ch (.Name x px) X.env))) _ _ s;have IE:∀y∈sc.names,y.2=.free->∃c,X.env.cells.lookup y.1=al c:=λy hy hk=>I.ok.has y.1 (S.fr y hy hk);obtain⟨cl,md,iW,nr⟩:=eF IE;refine Ad (BM (DU (use:=al (Ch (.Name x px) X.env)) (Q:=λ_ s'=>SP X U D0 .next s') rfl hs md S.kind S.loc (aY (hi U s σ H _ I h) λv s1 h1=>aY h1 λNf s2 h2=>?_)) (λ_ s' hq=>Au (Au hq)) λ_ _ e=>e);obtain⟨it,fp,tn,J,H2,rfl,I2,T,lz,f2,hW⟩:=h2;refine tI (RR:=λÆ C=>compPost (gl X.prog X.w) X.A X.xe (al (Ch (.Name x px) X.env)) (λ_ s'=>SP X U D0 .next s') Æ C) (Q:=λx H1=>eY i x σ H1 D0.nx) hc S hg hf he iW nr I2 T lz f2 hW λD C m s' H' I' q hn F=>?_;show ge _ X.A (Ch (.Name x px) X.env (.ref D)) _ _ _;refine wpAny_assign_Name (lU (v:=.ref D) I' hN xH (.inl hx) rfl (λHd US vB=>?_) (.inr hx));obtain⟨a,vB,ha⟩:=vB;have TZ:C≠a:=by
  rcases ha with z | z
  ·rw[z];exact F.hL
  ·exact BR (F.cl _ _ z)
 refine⟨m,hn.sameBut vB TZ,λh' Pl=>⟨_,H',?_,q⟩⟩;exact US.turned (it:=C) (t':=Hd.toks) (λb o hb e=>(Pl.2 b hb).trans e) F.hn F.hL (.inr F.ab) F.cl F.pn
end
end L2
variable{b:BL}
namespace L2
section
def gE:bG X (.builtin "isinstance") (λxs H Q=>∃x c t b,xs=[x,.ty c]/\gG X.K H x t/\A6 X.K t (.type c)=al b/\Q (.bl b) H):=by
 intro U s σ H xs us Q I r h;obtain⟨x,c,t,b,rfl,ty,hk,q⟩:=h;obtain⟨u,w',rfl,ru,vV⟩:=vals2 r;cases (vV);exact uN I ru ty hk λtk=>⟨.bl b,H,I.tok _,rfl,q⟩
def wU:dB X (im .Is) (λx y H Q=>∃i j,x=.bl i/\y=.bl j/\Q (.bl (i==j)) H):=by
 intro U s σ H x y v u Q I rx ry h;obtain⟨i,j,rfl,rfl,q⟩:=h;cases rx;cases ry;exact Au ⟨.bl (i==j),H,I,by cases i <;> cases j <;> rfl,q⟩
def oX:dB X (im .IsNot) (λx y H Q=>∃i j,x=.bl i/\y=.bl j/\Q (.bl (!(i==j))) H):=by
 intro U s σ H x y v u Q I rx ry h;obtain⟨i,j,rfl,rfl,q⟩:=h;cases rx;cases ry;exact Au ⟨.bl (!(i==j)),H,I,by cases i <;> cases j <;> rfl,q⟩
def uC(hu:X.A.units < sB):dB X (im .NotEq) (λx y H Q=>∃p q xs,x=.ref p/\y=.ref q/\cp X.K H p xs/\cp X.K H q []/\Q (.bl (!xs.isEmpty)) H):=by
 intro U s σ H x y v u Q I rx ry h;obtain⟨p,q,xs,rfl,rfl,hp,hq,k⟩:=h;cases rx;cases ry;obtain⟨ay,r,pl,hz⟩:=I.list hp;obtain⟨bS,r2,KR,S7⟩:=I.list hq;cases r2;cases xs with
 | nil=>
  cases r;exact DQ (EE (e:=λ_=>true) pl.isList KR.isList rfl hu λj h1=>absurd h1 (by simp)) ⟨.bl false,H,I,rfl,k⟩
 | cons y ys=>
  have hl:=r.length;exact DQ (Dx pl.isList KR.isList (by simp at hl ⊢;intro z;subst z;simp at hl) hu) ⟨.bl true,H,I,rfl,k⟩
def yE{bs:O Bool}:∀{us:O ce},Vals (bs.map V.bl) us->us=bs.map CN:=by
 induction bs with
 | nil=>intro us r;rw[D9]at r;cases r;rfl
 | cons n ns ih=>
  intro us r;cases r with
  | cons r1 r2=>
   cases r1;rw[ih r2];rfl
def rZ(hc:X.calm=true):bG X (.builtin "all") (λxs H Q=>∃(p:db) (bs:O Bool),xs=[.ref p]/\cp X.K H p (bs.map V.bl)/\Q (.bl (bs.all id)) H):=by
 intro U s σ H xs us Q I r h;obtain⟨p,bs,rfl,hp,q⟩:=h;obtain⟨u,rfl,ru⟩:=vals1 r;cases ru;obtain⟨ay,rv,pl,hz⟩:=I.list hp;have eb:=yE rv;subst eb;have hl:=pl.isList;have jC:p < s.heap.objs.size:=by obtain⟨_,e,_⟩:=hl;exact Ao e
 refine call_all_walk (wpAny_pyIter_list hl ?_);refine⟨s.heap.objs.size,[s.heap.objs.size,p],[s.heap.objs.size],(bs.map CN).toArray.size,_,_,λi=>(bs[i]?).getD true,rfl,Walks.list (A:=X.A.in1) (I.ok.hd hc) _ p (Az jC) (bs.map CN).toArray,
  ⟨⟨_,Ap _ rfl,rfl,rfl⟩,hl.push _⟩,λi v s' Q' E' hP hQ=>?_,λh' tk hk=>?_⟩
 ·have LW:(bs.map CN)[i]?=al v:=by simpa using hP
  rw[Ak]at LW;cases e:bs[i]? with
  | none=>rw[e]at LW;cases LW
  | some b=>
   rw[e]at LW;cases LW;simp only[e]at hQ;exact Bu hQ
 ·have e:((BN (bs.map CN).toArray.size).all λi=>(bs[i]?).getD true)=bs.all id:=by
   rw[Af,Al];exact LSm.range_all bs
  rw[e];exact⟨.bl (bs.all id),H,I.kept (LSm.kept_iter hk),rfl,q⟩
def jL(l:db)(items:Array ce)(n:Nat)(b:db)(fq:Array ce)(n2:Nat)(dd:Option db)(sl:Array (Option ce))(Nk:¬(!items.isEmpty&&Builtin.List.listTooLong (items.size+fq.size))=true)(Fj:items.size<=sizeLine)(vC:items.size+fq.size<=sizeLine+1) :
  Meets (FM.«list.extend» ⟨[.ref l,.ref b],[]⟩) (λ_ R s=>s.heap.get? l=al {cls:=.type "list",dict:=bn,data:=.seq items n,slots:=#[]}/\s.heap.get? b=al {cls:=.type "tuple",dict:=dd,data:=.seq fq n2,slots:=sl}/\R (.ok (.ret C4)) {s with heap:=s.heap.update l (BK λx=>x++fq),toks:=s.toks}):=
 .of_wp λprog w A R s h=>by
  obtain⟨hp,g,d,tk,os⟩:=s;obtain⟨hl,hb,h⟩:=h;have f5:=Dc;
  wp_walk using (Dh hl rfl),BC hl,BC hb;exact⟨_,rfl,h⟩
def wj(K:Aa):V->O V->Hp->VK->Prop:=λx vs H Q=>∃l b xs zs,x=.ref l/\vs=[.ref b]/\H l=al (.lst xs)/\cf K H b zs/\xs.length+zs.length<=sizeLine/\Q .aB (upd H l (.lst (xs++zs)))
theorem qT:vv X "list.extend" (wj X.K):=by
 intro U s σ H x vs v us Q I rx rv h;obtain⟨l,b,xs,zs,rfl,rfl,hH,hB,hz,q⟩:=h;cases rx;obtain⟨u,rfl,ru⟩:=rv.one;cases ru;obtain⟨z,ay,n,r,hl,e⟩:=I.kC hH;obtain⟨bS,r2,⟨⟨cls,dd,data,sl⟩,e2,hc,n2,hd⟩,z2⟩:=I.tuple hB;subst hc hd;have Gx:=r2.length;have hsz:ay.toArray.size+bS.toArray.size<=sizeLine:=by rw[Af,Af];omega
 have pz:¬(!ay.toArray.isEmpty&&Builtin.List.listTooLong (ay.toArray.size+bS.toArray.size))=true:=by
  rw[gn hsz,DJ];exact AD
 refine Fa Dz ⟨_,e,rfl⟩ Dp (C9 _ _)
  (jL l ay.toArray n b bS.toArray n2 dd sl pz (by rw[Af];omega) ∅) ⟨e,e2,?_⟩
 refine⟨.aB,_,I.uH hH e (by simp) (r.append r2) ?_,rfl,q⟩;rw[Ab];omega
def RK(x:Str):It:=⟨λi _=>i < x.cps.size,λi H v H'=>H'=H/\∃c,x.cps[i]?=al c/\v=.str ⟨#[c]⟩,λi _=>x.cps.size<=i⟩
def qB{K:Aa}(it:db)(x:Str)(t:Tok)(ty:String)(qj:ty="str_ascii_iterator"\/ty="str_iterator"):Turn P w K tg (RK x) [it] it (λi h=>h.IsStrIter it ty x t i/\i<=x.cps.size) where
 mem:=by simp
 obj:=λi h st b hb=>by
  have e:b=it:=by simpa using hb
  subst e;obtain⟨⟨o,e,c,d⟩,_⟩:=st;exact⟨o,e,λv z=>by rw[d]at z;cases z⟩
 keep:=λi h h' st k=>⟨let ⟨o,ho,r⟩:=st.1;⟨o,k it (by simp) o ho,r⟩,st.2⟩
 item:=by
  intro X hP hw hK hc i U s σ H E I hf st hg;subst hP hw hK;obtain⟨f0,f1,f2,f3,f4,f5⟩:=hf it (by simp);have Gy:i < x.cps.size:=hg;obtain⟨st,_⟩:=st;rcases qj with rfl | rfl
  ·refine wpAny_pyNext_ascii_item st (c:=x.cps[i]) (by simp[Gy]) λh' kb sb=>?_;have I1:Inv X U σ H {s with heap:=h',toks:=s.toks+1}:=I.turned (λb o hb e=>(sb.2 b hb).trans e) f0 f1 f3 f4 f5;obtain⟨o,e,c,d⟩:=id kb;exact⟨_,rfl,pB e c d ⋯ ⟨.str ⟨#[x.cps[i]]⟩,H,I1,⟨_,rfl⟩,⟨rfl,_,by simp[Gy],rfl⟩,⟨kb,Gy⟩,λb hb=>(hf b hb).1⟩⟩
  ·refine wpAny_pyNext_wide_item st (c:=x.cps[i]) (by simp[Gy]) λh' kb sb=>?_;obtain⟨o,e,c,d⟩:=id kb;exact⟨_,rfl,pB e c d ⋯ ⟨.str ⟨#[x.cps[i]]⟩,H,(I.turned (λb o hb e=>(sb.2 b hb).trans e) f0 f1 f3 f4 f5),⟨_,rfl⟩,⟨rfl,_,by simp[Gy],rfl⟩,⟨kb,Gy⟩,λb hb=>(hf b hb).1⟩⟩
 done:=by
  intro X hP hw hK hc i U s σ H E I hf st hg;obtain⟨f0,f1,f2,f3,f4,f5⟩:=hf it (by simp);obtain⟨st,_⟩:=st;have hn:x.cps[i]?=bn:=by
   have Gy:x.cps.size<=i:=hg;simp[Gy]
  rcases qj with rfl | rfl
  ·exact wpAny_pyNext_ascii_end (I.ok.hd hc) st hn λh' eb=>⟨rfl,I.turned (λb o hb e=>eb b o hb e) f0 f1 f3 f4 f5⟩
  ·exact wpAny_pyNext_wide_end (I.ok.hd hc) st hn λh' eb=>⟨rfl,I.turned (t':=s.toks) (λb o hb e=>eb b o hb e) f0 f1 f3 f4 f5⟩
 self:=λ_ _ _ _ _ st h=>by
  obtain⟨st,_⟩:=st;rcases qj with rfl | rfl
  ·exact wpAny_pyIter_striter_ascii st h
  ·exact wpAny_pyIter_striter_wide st h
def Pf(tl:TE):TI:=λσ H R=>tl σ H λx H1=>∃z,x=.str z/\R (RK z) H1
def Ht{l:jp}{tl:TE}(hl:PE X l tl):PI X tg l (Pf tl):=by
 intro U s σ H R I h;refine aY (hl U s σ H _ I h) λv s1 ⟨x,H1,I1,r1,q1⟩=>?_;obtain⟨z,e,q⟩:=q1;subst e;obtain⟨t,rfl⟩:=r1;have fin:∀ty qj o,(s1.heap.push o).IsStrIter s1.heap.objs.size ty z t 0->QC X U σ tg R (.ref s1.heap.objs.size) {s1 with heap:=s1.heap.push o}:=λty qj o st=>by
  refine⟨s1.heap.objs.size,[s1.heap.objs.size],_,_,H1,rfl,I1.kept λb o e=>Ae _ e,qB _ z t ty qj,⟨st,Bj _⟩,λb hb=>?_,q⟩;have e:b=s1.heap.objs.size:=by simpa using hb
  subst e;exact I1.uV (Aj _) (I1.aV.fresh (Aj _))
 cases ha:z.cps.all (· < 128)
 ·exact wpAny_pyIter_wide ha (fin _ (.inr rfl) _ ⟨_,Ap _ rfl,rfl,rfl⟩)
 ·exact wpAny_pyIter_ascii ha (fin _ (.inl rfl) _ ⟨_,Ap _ rfl,rfl,rfl⟩)
end
section
variable{CX:vE}{f:db}{mj:O V}{ds:O ce}{E:XK}{x:Str}{p:Pos}{t:TA}
def vN(f:db)(sp:Sp)(mj:O V)(E:XK)(ta:TE)(t:TA):TE:=λσ H Q=>ta σ H λx H1=>x=.ref f/\t σ H1 λvs H2=>sp (vs++mj) H2 Q E
def wM(F:bx X.prog X.w X.K X.mg X.base CX k f fd ps sp)(hr:bt k X.A)(hf:PE X (.Name x p) ta)(hk:A7 X.K (.ref f)=true)(hb:Binds X.K fd ps ds)(hd:Vals mj ds)(hx:Passes CX X E)
  (ha:PA X (e::es) t) (he:dA X e es:=by rfl) (bZ:fF X pos es:=by rfl) :
  PE X (.Call (.Name x p) (e::es) [] pos) (vN f sp mj E ta t):=by
 intro U s σ H Q I h;refine AQ (aY (hf U s σ H _ I h) λv s1 ⟨y,H1,I1,r1,ey,q1⟩=>?_);subst ey;cases r1;exact Cd I.ok.mod.E9 hk (aY (ha pos U s1 σ H1 _ I1 q1) λus s2 ⟨vs,H2,I2,r,q⟩=>⟨I2.gL,ki F hr hb hd hx I2 r q⟩) he bZ
end
section
variable{lo hi:jp}{tl th:TE}
def IJ(to tl th:TE):TG:=λv σ H Q=>to σ H λx H1=>tl σ H1 λi H2=>th σ H2 λj H3=>∃l b xs ys a c,x=.ref l/\v=.ref b/\i=.int a/\j=.int c/\H3 l=al (.lst xs)/\H3 b=al (.lst ys)/\l≠b/\0<=a/\a<=c/\c<=xs.length/\xs.length+ys.length<=sizeLine/\
 Q σ (upd H3 l (.lst (xs.take a.toNat++ys++xs.drop c.toNat)))
def wF(ho:PE X o to)(hl:PE X lo tl)(hh:PE X hi th)
  (ha:∀v,Ch (.Subscript o (.Slice (al lo) (al hi) bn p2) pos) X.env v=(do
   let ov <- r9 [v] (lc o X.env)
   let iv <- r9 [v,ov] (lc (.Slice (al lo) (al hi) bn p2) X.env)
   CD pos
   r9 [v,ov,iv] (EQ ov iv v)
   release [iv,v,ov] []):=by intro _;rfl):PG X (.Subscript o (.Slice (al lo) (al hi) bn p2) pos) (IJ to tl th):=by
 intro U s σ H v u Q I r h;refine Ad (Bt (aY (ho U s σ H _ I h) λov s1 ⟨x,H1,I1,r1,q1⟩=>?_));refine Ad (Bt (wpAny_Slice ?_));refine aY (hl U s1 σ H1 _ I1 q1) λvl s2 ⟨i,H2,I2,r2,q2⟩=>aY (hh U s2 σ H2 _ I2 q2) λvu s3 ⟨j,H3,I3,r3,q3⟩=>Au ?_;obtain⟨l,b,xs,ys,a,c,rfl,rfl,rfl,rfl,hH,hB,yY,h0,JL,hc,hz,q⟩:=q3;cases r;cases r1;refine Ad (C8 (Ad (Bt (ur (I3.kept λb ob q=>Ae _ q) hH hB yY (Heap.IsSliceOf.new ..) r2 r3 h0 JL hc hz λs' I'=>?_))));exact wpAny_release ⟨σ,_,I',q⟩
end
end L2
variable{xs:O L2.V}{k':Nat}{bC:Ci}
namespace L2
def hO(l:db)(H H':Hp):Prop:=∀b u,b≠l->H b=al u->H' b=al u
def iE{p:db}(h:H p=bn)(o:HO):dh H (upd H p o):=λb u q=>by rw[ax (aW q h)];exact q
def uw{p:db}(o:HO):hO p H (upd H p o):=λb u n q=>by rw[ax n];exact q
def ik(H:Hp)(o:HO)(Q:VK):Prop:=∀p H',dh H H'->H' p=al o->H p=bn->Q (.ref p) H'
def ik.at{o:HO}{Q:VK}(h:ik H o Q)(p:db)(hp:H p=bn):Q (.ref p) (upd H p o):=h p _ (iE hp o) aF hp
def qx(H:Hp)(l:db)(o:HO)(Q:Hp->Prop):Prop:=∀H',hO l H H'->H' l=al o->Q H'
def qx.at{o:HO}{Q:Hp->Prop}(h:qx H l o Q):Q (upd H l o):=h _ (uw o) aF
def dB.mono{f:ce->ce->Sem ce}{r:R2}(h:dB X f r)(hr:∀x y H Q,r' x y H Q->r x y H Q):dB X f r':=λU s σ H x y v u Q I rx ry q=>h U s σ H x y v u Q I rx ry (hr _ _ _ _ q)
def bG.mono{f:ce}{r r':O V->Hp->VK->Prop}(h:bG X f r)(hr:∀xs H Q,r' xs H Q->r xs H Q):bG X f r':=λU s σ H xs us Q I rx q=>h U s σ H xs us Q I rx (hr _ _ _ q)
def vv.mono{id:String}{r r':V->O V->Hp->VK->Prop}(h:vv X id r)(hr:∀x xs H Q,r' x xs H Q->r x xs H Q):vv X id r':=λU s σ H x xs v us Q I rx rv q=>h U s σ H x xs v us Q I rx rv (hr _ _ _ _ q)
def vt.mono{r r':yP}(h:vt X r)(hr:∀o i v H Q,r' o i v H Q->r o i v H Q):vt X r':=λU s σ H o i v ov iv u Q I ro ri rv q=>h U s σ H o i v ov iv u Q I ro ri rv (hr _ _ _ _ _ q)
def Jq.mono{r r':V->Option Int->Option Int->Hp->VK->Prop}(h:Jq X r)(hr:∀x lo hi H Q,r' x lo hi H Q->r x lo hi H Q):Jq X r':=λU s σ H x v vl vu lo hi sl Q I rx hs pl pu q=>h U s σ H x v vl vu lo hi sl Q I rx hs pl pu (hr _ _ _ _ _ q)
section
variable{t:TA}
def Kf(t:TA):TE:=λσ H Q=>t σ H λxs H1=>xs.length<=sizeLine/\ik H1 (.tup xs) Q
def Kk(t:TA):TE:=λσ H Q=>t σ H λxs H1=>xs.length<=sizeLine/\ik H1 (.lst xs) Q
def iK{x1}(h:PA X es t):PE X (.Tuple es x1 pos) (Kf t):=by
 intro U s σ H Q I hq;refine wpAny_Tuple_spliced (aY (h pos U s σ H _ I hq) λus s1 ⟨xs,H1,I1,r,z,q⟩=>⟨by rw[<- r.length];exact z,?_⟩);have hf:=I1.aV.fresh (Aj _);refine⟨.ref s1.heap.objs.size,upd H1 s1.heap.objs.size (.tup xs),I1.laid (λb u e=>Ae _ e) (Aj _) ?_,rfl,q.at _ hf⟩;exact⟨z,us,r,⟨_,Ap _ rfl,rfl,_,rfl⟩,_,Ap _ rfl,rfl⟩
def mT(h:PA X es t):PE X (.List es pos) (Kk t):=by
 intro U s σ H Q I hq;refine wpAny_List_spliced (aY (h pos U s σ H _ I hq) λus s1 ⟨xs,H1,I1,r,z,q⟩=>⟨by rw[<- r.length];exact z,?_⟩);have hf:=I1.aV.fresh (Aj _);refine⟨.ref s1.heap.objs.size,upd H1 s1.heap.objs.size (.lst xs),I1.laid (λb u e=>Ae _ e) (Aj _) ?_,rfl,q.at _ hf⟩;exact⟨z,us,0,r,Ap _ rfl⟩
def G3:TE:=λ_ H Q=>ik H (.dK []) Q
def wL:PE X (.Dict [] [] pos) G3:=λU s σ H Q I h=>wK U s σ H Q I λp hp=>h.at p hp
def Ge(K:Aa):R2:=λx y H Q=>match x with
 | .int i=>∃j,y=.int j/\Q (.int (i+j)) H
 | .str i=>∃j,y=.str j/\i.length+j.length<=sizeLine/\Q (.str (i++j)) H
 | .ref a=>(∃b xs zs,y=.ref b/\H a=al (.lst xs)/\H b=al (.lst zs)/\xs.length+zs.length<=sizeLine/\ik H (.lst (xs++zs)) Q)\/Gg K x y H Q
 | _=>False
def zQ:dB X (sn .Add) (Ge X.K):=by
 refine((wV.or qO).or (HI.or tq)).mono λx y H Q h=>?_;cases x with
 | int i=>obtain⟨j,rfl,q⟩:=h;exact .inl (.inl ⟨i,j,rfl,rfl,q⟩)
 | str i=>obtain⟨j,rfl,hl,q⟩:=h;exact .inl (.inr ⟨i,j,rfl,rfl,hl,q⟩)
 | ref a=>
  rcases h with⟨b,xs,zs,rfl,h1,h2,hz,q⟩ | h
  ·exact .inr (.inl ⟨a,b,xs,zs,rfl,rfl,h1,h2,hz,λp hp=>q.at p hp⟩)
  ·exact .inr (.inr h)
 | _=>exact h.elim
def zN:dB X (sn .Mult) (rI wf λi j=>.int (i*j)):=M7 λ_ _ _ _ _ _ _ hc q=>mul_int q hc
def Gd(K:Aa):V->Option Int->Option Int->Hp->VK->Prop:=λx lo hi H Q=>∃a xs,x=.ref a/\cp K H a xs/\ik H (.lst (vf xs lo hi)) Q
def vS:Jq X (Gd X.K):=zl.mono λx lo hi H Q ⟨a,xs,e,h,q⟩=>⟨a,xs,e,h,λp hp=>q.at p hp⟩
def rX:bG X (.type "list") (λxs H Q=>∃p ys,xs=[.ref p]/\(cp X.K H p ys\/cf X.K H p ys)/\ik H (.lst ys) Q):=nS.mono λxs H Q ⟨p,ys,e,h,q⟩=>⟨p,ys,e,h,λl hl=>q.at l hl⟩
def wo:V->O V->Hp->VK->Prop:=λx vs H Q=>∃l xs y,x=.ref l/\vs=[y]/\H l=al (.lst xs)/\xs.length < sizeLine/\qx H l (.lst (xs++[y])) (Q .aB)
def il:vv X "list.append" wo:=uG.mono λx xs H Q ⟨l,ys,y,e1,e2,h,hz,q⟩=>⟨l,ys,y,e1,e2,h,hz,q.at⟩
def uy(K:Aa):V->O V->Hp->VK->Prop:=λx vs H Q=>∃l b xs zs,x=.ref l/\vs=[.ref b]/\H l=al (.lst xs)/\cf K H b zs/\xs.length+zs.length<=sizeLine/\qx H l (.lst (xs++zs)) (Q .aB)
def o7:vv X "list.extend" (uy X.K):=qT.mono λx xs H Q ⟨l,b,ys,zs,e1,e2,h1,h2,hz,q⟩=>⟨l,b,ys,zs,e1,e2,h1,h2,hz,q.at⟩
def KD:V->O V->Hp->VK->Prop:=λx vs H Q=>∃l xs y,x=.ref l/\vs=[]/\H l=al (.lst (xs++[y]))/\qx H l (.lst xs) (Q y)
def tH:vv X "list.pop" KD:=HQ.mono λx xs H Q ⟨l,ys,y,e1,e2,h,q⟩=>⟨l,ys++[y],y,e1,e2,h,by simp,by rw[List.dropLast_concat];exact q.at⟩
def Hf:yP:=λo i v H Q=>∃p xs k j,o=.ref p/\i=.int k/\H p=al (.lst xs)/\nh xs.length k=al j/\qx H p (.lst (xs.set j v)) Q
def uu:vt X Hf:=set_list.mono λo i v H Q ⟨p,xs,k,j,e1,e2,h,hj,q⟩=>⟨p,xs,k,j,e1,e2,h,hj,q.at⟩
end
section
variable(K:Aa)(hK:X.K=K){a:jp}{t:TA}{name:Str}{JG:String}{r:V->O V->Hp->VK->Prop}
include hK
def c0:y7 X (QR K):=hK▸Ik
def tD:dB X (sn .Add) (Ge K):=hK▸zQ
def vR:Jq X (Gd K):=hK▸vS
def Hh(K:Aa):O V->Hp->VK->Prop:=λxs H Q=>∃x n,xs=[x]/\MM K x H n/\Q (.int n) H
def dz:bG X (.builtin "len") (Hh K):=hK▸yB
def OO(K:Aa):O V->Hp->VK->Prop:=λxs H Q=>∃x c t b,xs=[x,.ty c]/\gG K H x t/\A6 K t (.type c)=al b/\Q (.bl b) H
def vh:bG X (.builtin "isinstance") (OO K):=hK▸gE
def wg(K:Aa):O V->Hp->VK->Prop:=λxs H Q=>∃p ys,xs=[.ref p]/\(cp K H p ys\/cf K H p ys)/\ik H (.lst ys) Q
def rV:bG X (.type "list") (wg K):=hK▸rX
def KO(K:Aa):O V->Hp->VK->Prop:=λxs H Q=>∃(p:db) (bs:O Bool),xs=[.ref p]/\cp K H p (bs.map V.bl)/\Q (.bl (bs.all id)) H
def vm(hc:X.calm=true):bG X (.builtin "all") (KO K):=hK▸rZ hc
def Hg(K:Aa):R2:=λx y H Q=>∃p q xs,x=.ref p/\y=.ref q/\cp K H p xs/\cp K H q []/\Q (.bl (!xs.isEmpty)) H
def qM(hu:X.A.units < sB):dB X (im .NotEq) (Hg K):=hK▸uC hu
def Og(K:Aa)(ta:TE):TT:=λσ H Q=>ta σ H λx H'=>∃k,FY K x H' k/\Q k H'
def eL(ha:PE X a ta)(he:∀Á,isTrue a X.env Á=(do let v <- Á;CD a.pos;r9 [v] (truthy v))):PT X a (Og K ta):=hK▸wu ha he
def s9(pa:PlainAttrs T)(slot:Slot T name JG)(qj:typeOf (.builtin JG)=pure (.type "method_descriptor"))(hm:N2 X JG r)(ho:PE X o to)
  (c8:pi o name X.env (lc o X.env)=lc o X.env:=by rfl) (c7:F4 À bC:=by rfl):PE X (.Call (.Attribute o name À) [] [] bC) (Kp K T r to):=hK▸Hx pa slot qj hm ho c8 c7
def mU(pa:PlainAttrs T)(slot:Slot T name JG)(qj:typeOf (.builtin JG)=pure (.type "method_descriptor"))(hm:N2 X JG r)(ho:PE X o to)(ha:PA X (e::es) t)
  (c8:pi o name X.env (lc o X.env)=lc o X.env:=by rfl)
  (kJ:JW X bC (e::es):=by rfl)
  (c7:F4 À bC:=by rfl) (hs:dA X e es:=by rfl) (dF:fF X bC es:=by rfl) :
  PE X (.Call (.Attribute o name À) (e::es) [] bC) (QN K T r to t):=hK▸KW pa slot qj hm ho ha c8 kJ c7 hs dF
omit hK
end
structure qi(P:re)(w:sK)(K:Aa)(mg:Str->Option ce)(base:lm)(x:Str)(k:Nat)(ps:List Str)(sp:Sp) where
 f:db
 fd:wn
 ok:bx P w K mg base fD k f fd ps sp
 bi:Binds K fd ps []
 kp:A7 K (.ref f)=true
 at':mg x=al (.ref f)
section
variable{x:Str}{p:Pos}{t:TA}
def Ko(sp:Sp)(t:TA):TE:=λσ H Q=>t σ H λvs H1=>sp vs H1 Q E0
def kn(G:qi X.prog X.w X.K X.mg X.base x k ps sp)(hr:bt k' X.A)(hk:k<=k')(hg:Gl X x)(ha:PA X (e::es) t)(fU:eJ x:=by decide)
  (he:dA X e es:=by rfl) (bZ:fF X pos es:=by rfl) :
  PE X (.Call (.Name x p) (e::es) [] pos) (Ko sp t):=by
 intro U s σ H Q I h;refine AQ (jU I hg G.at' ?_ fU);refine Cd I.ok.mod.E9 G.kp (aY (ha pos U s σ H _ I h) λus s1 ⟨vs,H1,I1,r,q⟩=>⟨I1.gL,?_⟩) he bZ;refine ki G.ok (hr.mono hk) G.bi .nil dZ I1 r ?_;rw[Bg];exact q
def F9(f:db)(sp:Sp)(ta:TE)(t:TA):TE:=λσ H Q=>ta σ H λx H1=>x=.ref f/\t σ H1 λvs H2=>sp vs H2 Q E0
def zJ{x':Str}(G:qi X.prog X.w X.K X.mg X.base x' k ps sp)(hr:bt k' X.A)(hk:k<=k')(hf:PE X (.Name x p) ta)(ha:PA X (e::es) t)
  (he:dA X e es:=by rfl) (bZ:fF X pos es:=by rfl) :
  PE X (.Call (.Name x p) (e::es) [] pos) (F9 G.f sp ta t):=by
 intro U s σ H Q I h;refine wM G.ok (hr.mono hk) hf G.kp G.bi .nil dZ ha he bZ U s σ H Q I ?_;unfold vN;unfold F9 at h;simp;exact h
def Hw(G:qi X.prog X.w X.K X.mg X.base x k ps sp)(hg:Gl X x)(fU:eJ x:=by decide):PE X (.Name x p) (tC (.ref G.f)):=gJ hg G.at' rfl fU
end
section
theorem yI{xs:List α}(h0:0<=i)(h1:i < xs.length):∃v,cF xs i=al v/\xs[i.toNat]?=al v:=by
 have hk:i.toNat < xs.length:=by omega
 have q:=nV (by rw[Ag hk]);have e:i.toNat=i:=by omega
 rw[e]at q;exact⟨_,q,by rw[Ag hk]⟩
def qH{K:Aa}(h:H l=al (.lst xs)):MX K "list" (.ref l) H:=.inl ⟨rfl,_,cp.of h⟩
def xl{j:Int}(h1:-18446744073709551616 < i)(h2:i < 18446744073709551616):wf i j:=F3.ok (.inl ⟨h1,h2⟩)
def mul_r{j:Int}(h1:-18446744073709551616 < j)(h2:j < 18446744073709551616):wf i j:=F3.ok (.inr ⟨h1,h2⟩)
end
def cT(h:n<=1000):n<=sizeLine:=Dv (jd h)
section
variable(K:Aa)(hK:X.K=K)
include hK
def Hj(K:Aa):R2:=λx y H Q=>∃p q xs,x=.ref p/\y=.ref q/\cp K H p xs/\cp K H q []/\Q (.bl xs.isEmpty) H
def qN(hu:X.A.units < sB):dB X (im .Eq) (Hj K):=by
 subst hK;intro U s σ H x y v u Q I rx ry h;obtain⟨p,q,xs,rfl,rfl,hp,hq,k⟩:=h;cases rx;cases ry;obtain⟨ay,r,pl,hz⟩:=I.list hp;obtain⟨bS,r2,KR,S7⟩:=I.list hq;cases r2;cases xs with
 | nil=>
  cases r;refine Ef (EU (e:=λ_=>true) pl.isList KR.isList rfl hu λj h1=>absurd h1 (by simp)) ?_;exact⟨.bl true,H,I,rfl,k⟩
 | cons y ys=>
  have hl:=r.length;refine Ef (DT pl.isList KR.isList (by simp at hl ⊢;intro z;subst z;simp at hl) hu) ?_;exact⟨.bl false,H,I,rfl,k⟩
omit hK
end
end L2
variable{items:Array Be}{p1:Ci}
namespace L2
theorem Vals.oO:∀{xs:O V}{us:O ce},Vals xs us->Vals xs.reverse us.reverse
 | _,_,.nil=>.nil
 | _,_,.cons h t=>by rw[C0,C0];exact(Vals.oO t).append (.cons h .nil)
def HW:typeLookup (.type "list_reverseiterator") (D6 "__len__")=pure bn:=by kernel_rfl
def z9:typeLookup (.type "list_reverseiterator") (D6 "__length_hint__")=pure (al (.builtin "list_reverseiterator.__length_hint__")):=by kernel_rfl
def zj:splitId "list_reverseiterator.__length_hint__"=al ("list_reverseiterator","__length_hint__"):=by kernel_rfl
def zg:isSubtype (.type "list_reverseiterator") (.type "list_reverseiterator")=pure true:=by kernel_rfl
def xF{s:eM}{r:db}{Q:Bool->eM->Prop}(h:s.heap.IsRevIter r l i)(q:Q false s):ge (gl prog w) A (Builtin.List.listLengthHint (AR r)) Q E s:=by
 refine Ad (Eg h.typeIs HW ?_);refine Ad (Eg h.typeIs z9 ?_);dsimp only;rw[zj];dsimp only;exact Ad (wpAny_isInstance h.typeIs zg (Au q))
def lF{s:eM}{r S:db}(hA:A.handled=bn)(h:s.heap.IsRevIter r l (items.size-1))(hl:s.heap.IsList l items)(yY:l≠r)(PQ:S≠r)(Rm:S≠l)(hz:items.size<=sizeLine)
  (hS:s.heap.get? S=al {cls:=Cr "list",data:=EK #[]})
  (q:∀(h':lm) (tk:Nat) (Æ:Array ce) (c:Nat),(∀b o,b≠S->b≠r->s.heap.get? b=al o->h'.get? b=al o)->h'.get? S=al {cls:=Cr "list",data:=EK Æ c}->ItemsOf (λi v=>items[items.size-1-i]?=al v) Æ items.size->R (.ok (.ret .none)) {s with heap:=h',toks:=tk}) :
  ge (gl prog w) A.in1 (FM.«list.__init__» {pos:=[AR S,AR r]})
   (λfin s'=>match fin with | Fin.done f=>R (Except.ok f) s' | Fin.again c'=>c'.quiet=true/\CF (gl prog w) A c' R s') (λe s'=>R (Except.error e) s') s:=by
 unfold FM.«list.__init__»;refine Ad (wpAny_listItems hS rfl ?_);refine Ad ?_;refine Dh hS rfl ?_ (by simp) (by simp);refine Ad (wpAny_letGo ?_);have k1:∀b o,b≠S->s.heap.get? b=al o->(s.heap.update S (BK λ_=>#[])).get? b=al o:=λb o hb e=>by rw[Ce _ _ (BR hb)];exact e
 have Rn:=Ck (BK λ_=>#[]) hS rfl;generalize s.heap.update S (BK λ_=>#[])=h1 at k1 Rn ⊢;have Nl:h1.IsRevIter r l (items.size-1):=let ⟨o,e,p⟩:=h;⟨o,k1 _ _ (BR PQ) e,p⟩;have Pu:h1.IsList l items:=let ⟨o,e,p⟩:=hl;⟨o,k1 _ _ (BR Rm) e,p⟩;unfold Builtin.List.listExtendWith;refine Ad (wpAny_typeOf Nl.typeIs ?_);rw[if_neg (by
  have e1:Builtin.List.listSameRef (AR S) (AR r)=false:=by
   unfold Builtin.List.listSameRef;simpa using PQ
  rw[e1];decide)]
 refine Ad (wpAny_pyIter_revIter Nl ?_);refine Ad (Bt (xF Nl ?_));refine Au ⟨plainId_quiet F.plain_extend_loop _,?_⟩;refine codeAny_extend_loopS (Walks.toS (Walks.listRev (A:=A.in1) hA r l yY items)) hz S (by simp[PQ,Rm]) .none items.size 0 _ #[] _ (Nat.sub_zero _) (Bj _) ⟨Bj _,by simpa using Nl,Pu⟩ Rn (ItemsOf.nil _) ?_;intro s' Æ c mv e io;rw[mv.eq_with];exact q s'.heap s'.toks Æ c (λb o n1 n2 e'=>mv.heap b o (by simp[n1,n2]) (k1 b o n1 e')) e io
def lP{s:eM}{r:db}(hA:A.handled=bn)(h:s.heap.IsRevIter r l (items.size-1))(hl:s.heap.IsList l items)(yY:l≠r)(hz:items.size<=sizeLine)
  (q:∀(h':lm) (tk:Nat) (Æ:Array ce) (c:Nat),(∀b o,b≠r->s.heap.get? b=al o->h'.get? b=al o)->h'.get? s.heap.objs.size=al {cls:=Cr "list",data:=EK Æ c}->ItemsOf (λi v=>items[items.size-1-i]?=al v) Æ items.size->Q (.ref s.heap.objs.size) {s with heap:=h',toks:=tk}) :
  ge (gl prog w) A (call (Cr "list") [AR r]) Q E s:=by
 have lr:=let ⟨_,e,_⟩:=h;Ao e;have ll:=let ⟨_,e,_⟩:=hl;Ao e;refine callType_codes F.called_list (F.typeCall_list_1 _) F.entry_list_init (code_list_new (Q₁:=λv s₁=>v=.ref s.heap.objs.size/\s₁={s with heap:=s.heap.push {cls:=Cr "list",data:=EK #[]}}) _ ⟨rfl,rfl⟩) ?_;rintro obj s₁ ⟨rfl,rfl⟩;refine⟨⟨_,Ap _ rfl,rfl⟩,F.args_list_init_2 _ _,?_⟩;have kp:∀b o,s.heap.get? b=al o->(s.heap.push {cls:=Cr "list",data:=EK #[]}).get? b=al o:=λb o e=>Ae _ e;refine lF hA (let ⟨o,e,p⟩:=h;⟨o,kp _ _ e,p⟩) (let ⟨o,e,p⟩:=hl;⟨o,kp _ _ e,p⟩) yY (λz=>by rw[z]at lr;exact AY _ lr) (λz=>by rw[z]at ll;exact AY _ ll) hz (Ap _ rfl) ?_;intro h' tk Æ c k e io;exact⟨rfl,q h' tk Æ c (λb o n e'=>k b o (λz=>by rw[z]at e';exact AY _ (Ao e')) n (kp b o e')) e io⟩
def R9(K:Aa)(te:TE):TE:=λσ H Q=>te σ H λx H1=>∃p ys,x=.ref p/\cp K H1 p ys/\ik H1 (.lst ys.reverse) Q
section
variable(K:Aa)(hK:X.K=K){q1 q2:Pos}
include hK
theorem qL(hc:X.calm=true)(IB:Gl X "list")(Iy:X.mg "list"=bn)(IA:Gl X "reversed")(Iw:X.mg "reversed"=bn)(he:PE X e te)
  (Fj:ii [.Call (.Name "reversed" q1) [e] [] q2] X.env=(false,lc (.Call (.Name "reversed" q1) [e] [] q2) X.env)::ii [] X.env:=by rfl) (vC:dA X e []:=by rfl) :
  PE X (.Call (.Name "list" p1) [.Call (.Name "reversed" q1) [e] [] q2] [] p2) (R9 K te):=by
 intro U s σ H Q I h;subst hK;refine AQ (fo I IB Iy boot_list ?_ ⋯ ⋯);refine Bd ?_ Fj rfl;refine BZ ?_;refine AQ (fo I IA Iw boot_reversed ?_ ⋯ ⋯);refine Bd ?_ vC rfl;rw[vC];refine BZ (aY (he U s σ H _ I h) λu s1 ⟨x,H1,I1,r1,pa,ys,ex,hS,q⟩=>Cn ?_);subst ex;cases r1;obtain⟨ay,rv,pl,hz⟩:=I1.list hS;have Â:=rv.length;have lp:=let ⟨_,e,_⟩:=pl.isList;Ao e;refine call_reversed_list pl.isList ?_;refine Cn ?_;have kp:∀b o,s1.heap.get? b=al o->(s1.heap.push (revObj pa (ay.toArray.size-1))).get? b=al o:=λb o e=>Ae _ e;refine lP (I1.ok.hd hc) ⟨_,Ap _ rfl,rfl,rfl⟩ (let ⟨o,e,p⟩:=pl.isList;⟨o,kp _ _ e,p⟩) (λz=>by rw[z]at lp;exact AY _ lp) (by rw[Af];omega) ?_;intro h' tk Æ c k e io;have ea:Æ=ay.reverse.toArray:=by
  obtain⟨z1,z2⟩:=io;apply Array.ext
  ·rw[z1,Af,Af,B6]
  ·intro j h1 h2;have:=z2 j Æ[j] (Array.getElem?_eq_getElem h1);rw[Af]at this;have hj:j < ay.length:=by rw[z1,Af]at h1;exact h1
   rw[List.getElem?_toArray]at this;have e3:ay.reverse[j]?=al Æ[j]:=by rw[List.getElem?_reverse hj];exact this
   rw[List.getElem_toArray];exact(Option.some.inj (((Ag (by rw[B6];exact hj)).symm.trans e3))).symm
 subst ea;have vC:s1.heap.objs.size<=(s1.heap.push (revObj pa (ay.toArray.size-1))).objs.size:=by simp
 exact⟨.ref _,upd H1 _ (.lst ys.reverse),I1.laid (λb o eb=>k b o (λz=>by rw[z]at eb;exact AY _ (Ao eb)) (kp b o eb)) vC ⟨by rw[B6];exact hz,ay.reverse,c,rv.oO,e⟩,rfl,q.at _ (I1.aV.fresh vC)⟩
end
end L2
variable{y:Bv}
namespace My
def Wd(x:Str):Prop:=1<=x.length/\x.length<=8/\∀c∈x.cps.toList,97<=c/\c < 123
def Part(x:Str)(n:Nat):Prop:=x.length<=n/\∀c∈x.cps.toList,97<=c/\c < 123
theorem Part.append{x:Str}{m:Nat}(a:Part x m)(b:Part y n):Part (x++y) (m+n):=by
 refine⟨?_,λc hc=>?_⟩
 ·rw[Ar];have:=a.1;have:=b.1;omega
 ·rw[Cs,BQ]at hc;rcases A5.mp hc with h | h
  ·exact a.2 c h
  ·exact b.2 c h
theorem lG{d st:Int}(h:st=1\/st=3\/st=5\/st=7\/st=9\/st=11)(hn:n<=26):((BN n).map λk:Nat=>al (97+((d+st*(0+(k:Int))) % 26).toNat)).Nodup:=by
 unfold List.Nodup;rw[List.pairwise_map];refine List.Pairwise.imp_of_mem ?_ List.pairwise_lt_range;intro a b ha hb LR hz;have PN:=DG.mp hb;have Gw:=Option.some.inj hz;rcases h with rfl | rfl | rfl | rfl | rfl | rfl <;> omega
def mX{g:α->β}{l:List α}(h:(l.map g).Nodup):l.Nodup:=(List.pairwise_map.mp h).imp λh e=>h (congrArg g e)
def uj(x y:Str)(c:Nat):(x++⟨#[c]⟩++y).cps[x.length]?=al c:=by
 show((x.cps++#[c])++y.cps)[x.cps.size]?=al c;rw[Array.getElem?_append_left (by simp),Array.getElem?_append_right (Aj _)];simp
def q8:∀k:_root_.Fin 26,cF ("abcdefghijklmnopqrstuvwxyz":Str).cps.toList (k.val:Int)=al (97+k.val):=by decide +kernel
theorem uJ{n:Int}(h0:0<=n)(h1:n < 26):cF ("abcdefghijklmnopqrstuvwxyz":Str).cps.toList n=al (97+n.toNat):=by
 have e:=q8 ⟨n.toNat,by omega⟩;have e2:n.toNat=n:=by omega
 rw[e2]at e;exact e
def wW{c:Nat}(h0:97<=c)(h1:c < 123):Part ⟨#[c]⟩ 1:=by
 refine⟨Aj _,λd hd=>?_⟩;have:d=c:=by simpa using hd
 subst this;exact⟨h0,h1⟩
theorem zb{x:Str}{c:Nat}(a:Part x 2)(b:Part y 5)(h0:97<=c)(h1:c < 123):Wd (x++⟨#[c]⟩++y):=by
 have q:=(a.append (wW h0 h1)).append b;refine⟨?_,q.1,q.2⟩;rw[Ar,Ar];show 1<=x.length+1+y.length;omega
inductive Tr where
 | leaf (x:Str)
 | node (l r:Tr)
def Tr.ae:Tr->O Str
 | .leaf x=>[x]
 | .node l r=>l.ae++r.ae
def Tr.size:Tr->Nat
 | .leaf _=>1
 | .node l r=>l.size+r.size+1
def Tr.depth:Tr->Nat
 | .leaf _=>0
 | .node l r=>max l.depth r.depth+1
def Tr.Ws(t:Tr):Prop:=∀x∈t.ae,Wd x
theorem Tr.dE:∀t:Tr,1<=t.ae.length
 | .leaf _=>Aj _
 | .node l r=>by have:=l.dE;show 1<=(l.ae++r.ae).length;rw[Ab];omega
theorem Tr.dM:∀t:Tr,t.depth < t.ae.length
 | .leaf _=>Bq 0
 | .node l r=>by
  have h1:=l.dM;have h2:=r.dM;have h4:=r.dE;show max l.depth r.depth+1 < (l.ae++r.ae).length;rw[Ab];omega
theorem Tr.size_eq:∀t:Tr,t.size+1=2*t.ae.length
 | .leaf _=>rfl
 | .node l r=>by
  have h1:=l.size_eq;have h2:=r.size_eq;show l.size+r.size+1+1=2*(l.ae++r.ae).length;rw[Ab];omega
theorem pj(K:Aa):A6 K (.type "str") (.type "str")=al true:=rfl
def kH:∀k:_root_.Fin 26,(!(Builtin.Str.occurrences ("abcdefghijklmnopqrstuvwxyz":Str) ⟨#[97+k.val]⟩ 0 ("abcdefghijklmnopqrstuvwxyz":Str).length 1).isEmpty)=true:=by decide +kernel
theorem kI{c:Nat}(h0:97<=c)(h1:c < 123):(!(Builtin.Str.occurrences ("abcdefghijklmnopqrstuvwxyz":Str) ⟨#[c]⟩ 0 ("abcdefghijklmnopqrstuvwxyz":Str).length 1).isEmpty)=true:=by
 have e:=kH ⟨c-97,by omega⟩;have e2:97+(c-97)=c:=by omega
 simp only[e2]at e;exact e
def aX(ts:O Tr):Nat:=(ts.map Tr.size).sum
def aH(a b:O Tr):aX (a++b)=aX a+aX b:=by unfold aX;rw[AN,List.sum_append]
def bF(t:Tr):aX [t]=t.size:=by simp[aX]
theorem Tr.size_pos:∀t:Tr,1<=t.size
 | .leaf _=>Aj _
 | .node l r=>by show 1<=l.size+r.size+1;omega
theorem gK:∀ts:O Tr,ts.length<=aX ts
 | []=>Aj _
 | t::r=>by have:=gK r;have:=t.size_pos;show r.length+1<=t.size+aX r;omega
end My
variable{e1:BL}{t1:L2.TE}
namespace L2
section
variable(K:Aa)(hK:X.K=K){k1 k2 k3 e2:jp}{t2:TE}
def Sb(a b c:Str)(t1 t2:TE):TE:=λσ H Q=>t1 σ H λx H1=>∃u,x=.str u/\u.length<=1000/\t2 σ H1 λy H2=>∃v,y=.str v/\v.length<=1000/\Q (.str (A3++a++u++b++v++c)) H2
theorem KU{a b c:Str}(h1:PE X k1 (tC (.str a)))(TK:PE X e1 t1)(h2:PE X k2 (tC (.str b)))(IC:PE X e2 t2)(h3:PE X k3 (tC (.str c)))(la:a.length+b.length+c.length<=100:=by decide +kernel) :
  PE X (.JoinedStr [k1,.FormattedValue e1 (-1) bn p1,k2,.FormattedValue e2 (-1) bn p2,k3] pos) (Sb a b c t1 t2):=by
 intro U s σ H Q I h;refine JoinedStr_many ?_;have e0:(A3:Str).length=0:=rfl;have big:3000<=sizeLine:=by rw[sizeLine_eq];decide
 refine CI (aY (h1 U s σ H (λx H1=>x=.str a/\H1=H) I ⟨rfl,rfl⟩) λu0 s0 ⟨x0,H0,I0,r0,Up,Uv⟩=>?_);subst Up;subst Uv;obtain⟨t0,rfl⟩:=r0;refine⟨by rw[Ar];omega,?_⟩;refine CI (FormattedValue_plain (aY (TK U s0 σ _ _ I0 h) λu1 s1 ⟨x1,H1,I1,r1,u,Uo,lu,h⟩=>?_));subst Uo;obtain⟨UZ,rfl⟩:=r1;refine formatField_str (λt' tk=>⟨by rw[Ar,Ar];omega,?_⟩) ∅;refine CI (aY (h2 U _ σ H1 (λx H2=>x=.str b/\H2=H1) (I1.tok _) ⟨rfl,rfl⟩) λu2 s2 ⟨x2,H2,I2,r2,Um,Uu⟩=>?_);subst Um;subst Uu;obtain⟨UY,rfl⟩:=r2;refine⟨by rw[Ar,Ar,Ar];omega,?_⟩;refine CI (FormattedValue_plain (aY (IC U s2 σ _ _ I2 h) λu3 s3 ⟨x3,H3,I3,r3,v,Ul,lv,h⟩=>?_));subst Ul;obtain⟨UX,rfl⟩:=r3;refine formatField_str (λt' tk=>⟨by rw[Ar,Ar,Ar,Ar];omega,?_⟩) ∅;refine CI (aY (h3 U _ σ H3 (λx H4=>x=.str c/\H4=H3) (I3.tok _) ⟨rfl,rfl⟩) λu4 s4 ⟨x4,H4,I4,r4,Uk,Ut⟩=>?_);subst Uk;subst Ut;obtain⟨UW,rfl⟩:=r4;refine⟨by rw[Ar,Ar,Ar,Ar,Ar];omega,?_⟩;refine joinParts_nil ⟨.str _,_,I4.tok _,⟨_,rfl⟩,h⟩ (by rw[Ar,Ar,Ar,Ar,Ar];omega)
include hK
end
end L2
namespace My
def Tr.post:Tr->O Tr
 | .leaf x=>[.leaf x]
 | .node l r=>l.post++r.post++[.node l r]
def Tr.aK:∀t:Tr,t.post.length=t.size
 | .leaf _=>rfl
 | .node l r=>by show(l.post++r.post++[_]).length=l.size+r.size+1;rw[Ab,Ab,l.aK,r.aK];rfl
def eN(ts:O Tr):O Tr:=(ts.map Tr.post).flatten
def fg(a b:O Tr):eN (a++b)=eN a++eN b:=by unfold eN;rw[AN,List.flatten_append]
def jh(t:Tr):eN [t]=t.post:=by simp[eN]
def uz(t u:Tr):eN [t,u]=t.post++u.post:=by simp[eN]
inductive Ent where
 | word (x:Str)
 | pair (a b:Nat)
def Tr.nd:Tr->Nat->O Ent
 | .leaf x,_=>[.word x]
 | .node l r,o=>l.nd o++r.nd (o+l.size)++[.pair (o+l.size-1) (o+l.size+r.size-1)]
def Tr.bU:∀(t:Tr) (o:Nat),(t.nd o).length=t.size
 | .leaf _,_=>rfl
 | .node l r,o=>by show(l.nd o++r.nd (o+l.size)++[_]).length=l.size+r.size+1;rw[Ab,Ab,l.bU,r.bU];rfl
def run:O Tr->O Ent->O Nat->Option (O Ent×O Nat)
 | [],Z,ls=>al (Z,ls)
 | .leaf x::k,Z,ls=>run k (Z++[.word x]) (Z.length::ls)
 | .node _ _::k,Z,b::a::ls=>run k (Z++[.pair a b]) (Z.length::ls)
 | .node _ _::_,_,_=>bn
theorem kh:∀(t:Tr) (k:O Tr) (Z:O Ent) (ls:O Nat),run (t.post++k) Z ls=run k (Z++t.nd Z.length) ((Z.length+t.size-1)::ls)
 | .leaf x,k,Z,ls=>rfl
 | .node l r,k,Z,ls=>by
  have e1:(Tr.node l r).post++k=l.post++(r.post++(Tr.node l r::k)):=by show l.post++r.post++[_]++k=_;simp
  rw[e1,kh l,kh r];have e2:(Z++l.nd Z.length).length=Z.length+l.size:=by rw[Ab,l.bU]
  rw[e2];show run k _ _=run k _ _;have e3:(Z++l.nd Z.length++r.nd (Z.length+l.size)).length=Z.length+(Tr.node l r).size-1:=by
   rw[Ab,Ab,l.bU,r.bU];show _=Z.length+(l.size+r.size+1)-1;omega
  rw[e3];have e4:Z++(Tr.node l r).nd Z.length=Z++l.nd Z.length++r.nd (Z.length+l.size)++[.pair (Z.length+l.size-1) (Z.length+l.size+r.size-1)]:=by
   show Z++(l.nd Z.length++r.nd (Z.length+l.size)++[_])=_;simp
  rw[e4]
def ux(t:Tr):run t.post [] []=al (t.nd 0,[t.size-1]):=by
 have:=kh t [] [] [];rw[Bg]at this;rw[this];show al ([]++t.nd 0,[0+t.size-1])=_;simp
theorem Tr.eO:∀t:Tr,t.post[t.size-1]?=al t
 | .leaf _=>rfl
 | .node l r=>by
  show(l.post++r.post++[_])[l.size+r.size+1-1]?=_;rw[Ah (by rw[Ab,l.aK,r.aK];omega),Ab,l.aK,r.aK];have:l.size+r.size+1-1-(l.size+r.size)=0:=by omega
  rw[this];rfl
theorem lY:∀(t:Tr) (o k:Nat) (u:Tr),t.post[k]?=al u->match u with
  | .leaf x=>(t.nd o)[k]?=al (.word x)
  | .node l r=>∃a b,(t.nd o)[k]?=al (.pair (o+a) (o+b))/\a < k/\b < k/\t.post[a]?=al l/\t.post[b]?=al r
 | .leaf x,o,k,u,h=>by
  have hk:k=0:=by
   have:=(Ai.mp h).1;simp[Tr.post]at this;exact this
  subst hk;cases h;rfl
 | .node l r,o,k,u,h=>by
  have hp:(Tr.node l r).post=l.post++r.post++[.node l r]:=rfl;have hn:(Tr.node l r).nd o=l.nd o++r.nd (o+l.size)++[.pair (o+l.size-1) (o+l.size+r.size-1)]:=rfl;have lp:=l.aK;have rp:=r.aK;have ln:=l.bU o;have rn:=r.bU (o+l.size);rw[hp]at h;by_cases c1:k < l.size
  ·have h':l.post[k]?=al u:=by
    rw[Ay,An ∅]at h;exact h
   have q:=lY l o k u h';have en:((Tr.node l r).nd o)[k]?=(l.nd o)[k]?:=by rw[hn,Ay,An ∅]
   cases u with
   | leaf x=>rw[en];exact q
   | node l2 r2=>
    obtain⟨a,b,q1,q2,q3,q4,q5⟩:=q;refine⟨a,b,by rw[en];exact q1,q2,q3,?_,?_⟩
    ·rw[hp,Ay,An ∅];exact q4
    ·rw[hp,Ay,An ∅];exact q5
  ·by_cases c2:k < l.size+r.size
   ·have h':r.post[k-l.size]?=al u:=by
     rw[Ay,Ah ∅,An ∅,lp]at h;exact h
    have q:=lY r (o+l.size) (k-l.size) u h';have en:((Tr.node l r).nd o)[k]?=(r.nd (o+l.size))[k-l.size]?:=by rw[hn,Ay,Ah ∅,An ∅,ln]
    cases u with
    | leaf x=>rw[en];exact q
    | node l2 r2=>
     obtain⟨a,b,q1,q2,q3,q4,q5⟩:=q;refine⟨l.size+a,l.size+b,by rw[en,q1,BV,BV],by omega,by omega,?_,?_⟩
     ·rw[hp,Ay,Ah ∅,An ∅,lp,Ca];exact q4
     ·rw[hp,Ay,Ah ∅,An ∅,lp,Ca];exact q5
   ·have hk:k=l.size+r.size:=by
     have:=(Ai.mp h).1;rw[Ab,Ab,lp,rp]at this;simp at this;omega
    subst hk;rw[Ah (by rw[Ab];omega),Ab,lp,rp,Du]at h;cases h;have s1:=l.size_pos;have s2:=r.size_pos;refine⟨l.size-1,l.size+(r.size-1),?_,by omega,by omega,?_,?_⟩
    ·rw[hn,Ah (by rw[Ab];omega),Ab,ln,rn,Du];have e1:o+l.size-1=o+(l.size-1):=by omega
     have e2:o+l.size+r.size-1=o+(l.size+(r.size-1)):=by omega
     rw[e1,e2];rfl
    ·rw[hp,Ay,An ∅];exact l.eO
    ·rw[hp,Ay,Ah ∅,An ∅,lp,Ca];exact r.eO
def Tr.text:Tr->Str
 | .leaf x=>x
 | .node l r=>A3++"("++l.text++","++r.text++")"
theorem Tr.text_len:∀t:Tr,t.Ws->t.text.length+3<=11*t.ae.length
 | .leaf x,h=>by have:=(h x (AG.mpr rfl)).2.1;show x.length+3<=11*1;omega
 | .node l r,h=>by
  have h1:=l.text_len λx hx=>h x (Bf _ hx);have h2:=r.text_len λx hx=>h x (Ax _ hx);show(A3++"("++l.text++","++r.text++")").length+3<=11*(l.ae++r.ae).length;rw[Ar,Ar,Ar,Ar,Ar,Ab];have e1:A3.length=0:=rfl;have e2:("(":Str).length=1:=by decide +kernel
  have e3:(",":Str).length=1:=by decide +kernel
  have e4:(")":Str).length=1:=by decide +kernel
  omega
def Tr.tl(t:Tr):O Nat:=t.text.cps.toList
def Mp:("(":Str).cps.toList=[40]:=by decide +kernel
def Mq:(",":Str).cps.toList=[44]:=by decide +kernel
def Mo:(")":Str).cps.toList=[41]:=by decide +kernel
def sL(l r:Tr)(k:O Nat):(Tr.node l r).tl++k=40::(l.tl++(44::(r.tl++(41::k)))):=by
 show(A3++"("++l.text++","++r.text++")").cps.toList++k=_;rw[Cs,Cs,Cs,Cs,Cs,BQ,BQ,BQ,BQ,BQ,Mp,Mq,Mo];have:A3.cps.toList=[]:=rfl;rw[this];simp[Tr.tl]
def zh{x:Str}(h:x.cps.toList=y.cps.toList):x=y:=by
 cases x;cases y;congr 1;exact Array.toList_inj.mp h
end My
variable{σ:L2.St}{i:Nat}
namespace L2
def iU{s:eM}{t:db}{x:ce}(h:s.heap.IsTupleIter it t i)(ht:s.heap.IsTuple t items)(hx:items[i]?=al x)
  (q:∀h':lm,h'.IsTupleIter it t (i+1)->Cy it s.heap h'->Q x {s with heap:=h'}):ge (gl prog w) A (Builtin.SmallTypes.nextOf (.ref it)) Q E s:=by
 unfold Builtin.SmallTypes.nextOf;refine Ad (BI h.typeIs BX (B9 BX h.typeIs Ds ?_ (Dg _)));obtain⟨o,ho,hc,hd⟩:=id h;obtain⟨ot,Pn,Tc,n,Ph⟩:=id ht;show ge _ _ (field (.ref it) 0 >>= λseq=>_) _ _ s;refine Ad (Bw ho hd rfl ?_);refine Ad (Bw ho hd rfl ?_);refine Ad (DC Pn Ph ?_);show ge _ _ (match items[i]? with | some x=>(do setField (.ref it) 1 (o0 (i+1));ret x) | none=>_) _ _ s;rw[hx];refine Ad (wpAny_setField ho hd (show 1 < 2 by decide) ?_);refine Au ⟨x,rfl,Au (q _ ⟨_,Ck _ ho (by rw[Obj.isFreed_of_fields (Obj.data_mapFields hd _)]),by rw[Obj.cls_mapFields];exact hc,by rw[Obj.data_mapFields hd];rfl⟩ (Cy.update ..))⟩
def zi{s:eM}{Q:α->eM->Prop}(hA:A.handled=bn)
  (q:∀(h':lm) (e:db),(∀b o,s.heap.get? b=al o->h'.get? b=al o)->(∃o,h'.get? e=al o/\o.cls=.type "StopIteration")->E (.ref e) {s with heap:=h'}):ge (gl prog w) A (Builtin.SmallTypes.stopIteration (α:=α)) Q E s:=by
 refine Ad ?_;refine Ad (wpAny_newTuple ?_ ⋯);refine Ad (De rfl ?_);refine Co ?_ (sizeOk_excFields ..);unfold raiseNew;refine Ad (wpAny_handled ?_);rw[hA];refine wpAny_throw (q _ _ (λb o e=>Ae _ (Ae _ e)) ⟨_,Ap _ rfl,rfl⟩)
def jm{s:eM}{t:db}(hA:A.handled=bn)(h:s.heap.IsTupleIter it t i)(ht:s.heap.IsTuple t items)(hx:items[i]?=bn)
  (q:∀(h':lm) (e:db),Heap.ExtBut it s.heap h'->(∃o,h'.get? e=al o/\o.cls=.type "StopIteration")->E (.ref e) {s with heap:=h'}):ge (gl prog w) A (Builtin.SmallTypes.nextOf (.ref it)) Q E s:=by
 unfold Builtin.SmallTypes.nextOf;refine Ad (BI h.typeIs BX (B9 BX h.typeIs Ds ?_ (Dg _)));obtain⟨o,ho,hc,hd⟩:=id h;obtain⟨ot,Pn,Tc,n,Ph⟩:=id ht;show ge _ _ (field (.ref it) 0 >>= λseq=>_) _ _ s;refine Ad (Bw ho hd rfl ?_);refine Ad (Bw ho hd rfl ?_);refine Ad (DC Pn Ph ?_);show ge _ _ (match items[i]? with | some x=>(do setField (.ref it) 1 (o0 (i+1));ret x) | none=>(do rule _;setField (.ref it) 0 .none;Builtin.SmallTypes.stopIteration)) _ _ s;rw[hx];refine Ad (EG ?_);refine Ad (wpAny_setField ho hd (show 0 < 2 by decide) ?_);refine zi hA λh' e k ex=>q h' e (λb o n eb=>k b o ?_) ex;rw[(Cy.update _ _ _).2 b n];exact eb
def Inv.oH{s:eM}{t':Nat}{o:HO}(I:Inv X U σ H s)(hf:∀b∈ch,lR X U H b)(k:∀b u,b∉ch->s.heap.get? b=al u->h'.get? b=al u)
  (hp:s.heap.objs.size<=a) (new:bu X.prog X.w (upd H a o) h' a o):Inv X U σ (upd H a o) {s with heap:=h',toks:=t'}:=by
 have hn:=I.aV.fresh hp;have Gi:∀b u,H b=al u->b∉ch:=λb u e z=>by rw[(hf b z).1]at e;cases e
 refine I.step (λb hb=>⟨(hf b hb).2.2.2.1,(hf b hb).2.1,(hf b hb).2.2.2.2.1,(hf b hb).2.2.2.2.2⟩) (λb u _ _ hc e _=>k b u hc e) (λb u _ _ hc e _=>⟨u.slots,k b u hc e⟩)
  (λb u _ e n=>by rw[ax (Az (Aw (Ao e) hp))];exact n) (λb u hc e=>⟨u,k b u hc e⟩) (λb xs e=>by rw[ax (aW e hn)];exact e) (λb u xs e=>by rw[ax (aW e hn)];exact e)
  (λb ps e=>⟨#[],by rw[ax (aW e hn),e];simp⟩) (λm hm=>?_) (λb u e=>?_) I.bare
 ·obtain⟨o',es,ep,ho,r⟩:=hm;exact⟨o',es,ep,k _ o' (λz=>(hf _ z).2.1 rfl) ho,r⟩
 ·by_cases hb:b=a
  ·subst hb;rw[aF]at e;cases e;exact new
  ·rw[ax hb]at e;refine(I.aV b u e).oI (λc v hc q=>k c v ?_ q) (λc q=>by rw[ax (aW q hn)];exact q) λc xs q=>by rw[ax (aW q hn)];exact q
   rcases hc with z | z
   ·rw[z];exact Gi b u e
   ·exact Gi c _ z
def Inv.sG{s:eM}{t':Nat}(I:Inv X U σ H s)(hf:∀b∈ch,lR X U H b)(k:∀b u,b∉ch->s.heap.get? b=al u->h'.get? b=al u) :
  Inv X U σ H {s with heap:=h',toks:=t'}:=by
 have Gi:∀b u,H b=al u->b∉ch:=λb u e z=>by rw[(hf b z).1]at e;cases e
 refine I.step (λb hb=>⟨(hf b hb).2.2.2.1,(hf b hb).2.1,(hf b hb).2.2.2.2.1,(hf b hb).2.2.2.2.2⟩) (λb u _ _ hc e _=>k b u hc e) (λb u _ _ hc e _=>⟨u.slots,k b u hc e⟩)
  (λ_ _ _ _ n=>n) (λb u hc e=>⟨u,k b u hc e⟩) (λ_ _ e=>e) (λ_ _ _ e=>e) (λb ps e=>⟨#[],by rw[e];simp⟩) (λm hm=>?_) (λb u e=>?_) I.bare
 ·obtain⟨o',es,ep,ho,r⟩:=hm;exact⟨o',es,ep,k _ o' (λz=>(hf _ z).2.1 rfl) ho,r⟩
 ·refine(I.aV b u e).oI (λc v hc q=>k c v ?_ q) (λ_ q=>q) λ_ _ q=>q;rcases hc with z | z
  ·rw[z];exact Gi b u e
  ·exact Gi c _ z
def oE(h:Vals xs us):∀{i:Nat}{x:V},xs[i]?=al x->∃u,us[i]?=al u/\RelV x u:=by
 induction h with
 | nil=>intro i x e;simp at e
 | cons r t ih=>
  intro i x e;cases i with
  | zero=>simp at e;subst e;exact⟨_,rfl,r⟩
  | succ i=>exact ih (by simpa using e)
end L2
namespace My
theorem kD:∀(a b:O Nat),a < b->¬b < a
 | [],b,_,h=>by exact absurd h (List.not_lt_nil _)
 | a::as,[],h,_=>by exact absurd h (List.not_lt_nil _)
 | a::as,b::bs,h,h'=>by
  rw[List.cons_lt_cons_iff]at h h';rcases h with h | ⟨h1,h2⟩ <;> rcases h' with h' | ⟨eX,nv⟩
  ·omega
  ·omega
  ·omega
  ·exact kD as bs h2 nv
def mk2(a b:Tr):Tr:=if b.tl < a.tl then .node b a else .node a b
def Tr.plain:Tr->Tr
 | .leaf x=>.leaf x
 | .node l r=>mk2 l.plain r.plain
theorem qU(a b:Tr):(∀x,x∈(mk2 a b).ae↔x∈a.ae\/x∈b.ae)/\(mk2 a b).ae.length=a.ae.length+b.ae.length:=by
 unfold mk2
 split
 ·refine⟨λx=>?_,?_⟩
  ·show x∈b.ae++a.ae↔_;rw[A5];exact Or.comm
  ·show(b.ae++a.ae).length=_;rw[Ab];omega
 ·refine⟨λx=>?_,?_⟩
  ·show x∈a.ae++b.ae↔_;rw[A5]
  ·show(a.ae++b.ae).length=_;rw[Ab]
theorem bH:∀t:Tr,(∀x,x∈t.plain.ae↔x∈t.ae)/\t.plain.ae.length=t.ae.length
 | .leaf x=>⟨λ_=>Iff.rfl,rfl⟩
 | .node l r=>by
  obtain⟨a1,a2⟩:=bH l;obtain⟨b1,b2⟩:=bH r;obtain⟨c1,c2⟩:=qU l.plain r.plain;refine⟨λx=>?_,?_⟩
  ·show x∈(mk2 l.plain r.plain).ae↔x∈l.ae++r.ae;rw[c1,a1,b1,A5]
  ·show(mk2 l.plain r.plain).ae.length=(l.ae++r.ae).length;rw[c2,a2,b2,Ab]
def iJ{t:Tr}(h:t.Ws):t.plain.Ws:=λx hx=>h x (((bH t).1 x).mp hx)
theorem f9:∀t:Tr,t.plain.plain=t.plain
 | .leaf x=>rfl
 | .node l r=>by
  show(mk2 l.plain r.plain).plain=mk2 l.plain r.plain;have h1:=f9 l;have h2:=f9 r;unfold mk2;by_cases h:r.plain.tl < l.plain.tl
  ·rw[if_pos h];show mk2 r.plain.plain l.plain.plain=_;rw[h1,h2];unfold mk2;rw[if_neg (kD _ _ h)]
  ·rw[if_neg h];show mk2 l.plain.plain r.plain.plain=_;rw[h1,h2];unfold mk2;rw[if_neg h]
end My
variable{e:AL}{Ì:Be}{Õ:O BL}{kk:Nat}
namespace L2
def jP{E:ce->eM->Prop}{s:eM}{t:db}{x:ce}(vD:e≠it)(Nj:t≠e)(Ni:t≠it)
  (hz:IsEnum s.heap e it i Ì) (hi:s.heap.IsTupleIter it t i) (ht:s.heap.IsTuple t items) (hx:items[i]?=al x)
  (q:∀(h':lm) (tk:Nat),IsEnumOut h' e it (i+1:Nat) x s.heap.objs.size->h'.IsTupleIter it t (i+1)->IsPair h' s.heap.objs.size (.int i s.toks) x->(∀c o,c≠e->c≠it->s.heap.get? c=al o->h'.get? c=al o)->Q (.ref s.heap.objs.size) {s with heap:=h',toks:=tk}) :
  ge (gl prog w) A (FM.«enumerate.__next__» {pos:=[.ref e]}) (λfin s'=>∃v,fin=Fin.done (Flow.ret v)/\Q v s') E s:=by
 show ge _ _ (field (.ref e) 2 >>= λr=>_) _ _ s;refine Ad (Bw hz rfl rfl ?_);refine Ad (iU hi ht hx λh1 j1 b1=>?_);have z1:=(b1.2 _ vD).trans hz;refine Ad (Bw z1 rfl rfl ?_);refine Ad (Bw z1 rfl rfl ?_);refine Ad (wpAny_mkInt ?_);refine Ad (Cf z1 (show 3 < 6 by decide) λh2 z2 b2=>?_);refine Ad (Cf z2 (show 4 < 6 by decide) λh3 z3 b3=>?_);refine Ad (wpAny_newTuple ?_ (by show 2<=sizeLine;decide));have kp:∀b o,h3.get? b=al o->(h3.push {cls:=.type "tuple",data:=.seq [DV i s.toks,x].toArray}).get? b=al o:=λb o e=>Ae _ e;have HP:(h3.push {cls:=.type "tuple",data:=.seq [DV i s.toks,x].toArray}).get? h3.objs.size=al {cls:=.type "tuple",data:=.seq #[.int i s.toks,x]}:=Ap _ rfl;generalize h3.push {cls:=.type "tuple",data:=.seq [DV i s.toks,x].toArray}=h4 at kp HP ⊢;have z4:=kp _ _ z3;refine Ad ?_;refine Ad (Bw z4 rfl rfl ?_);refine Au ?_;refine Ad (EG ?_);refine Ad (Bw z4 rfl rfl ?_);refine Ad (Cf z4 (show 5 < 6 by decide) λh5 z5 b5=>?_);refine Ad ?_;refine Ad (Cf z5 (show 0 < 6 by decide) λh6 z6 b6=>?_);refine Cf z6 (show 1 < 6 by decide) λh7 z7 b7=>?_;refine Ad (wpAny_letGo ?_);have II:∀b,b≠e->h7.get? b=h4.get? b:=λb n=>(b7.2 b n).trans ((b6.2 b n).trans (b5.2 b n));have ne:s.heap.objs.size≠e:=λz=>by have:=Ao hz;rw[<- z]at this;exact AY _ this
 refine Au ⟨.ref h3.objs.size,rfl,?_⟩;rw[(b3.1.trans (b2.1.trans b1.1))]at z7 HP ⊢;refine q h7 _ ?_ ?_ ?_ ?_
 ·exact z7
 ·obtain⟨o,eo,p⟩:=j1;refine⟨o,?_,p⟩;rw[II _ (BR vD)];exact kp _ _ ((b3.2 _ (BR vD)).trans ((b2.2 _ (BR vD)).trans eo))
 ·rw[IsPair,II _ ne];exact HP
 ·intro c o n1 n2 ec;rw[II _ n1];exact kp _ _ (((λb n1 n2=>(b3.2 b n1).trans ((b2.2 b n1).trans (b1.2 b n2))) _ n1 n2).trans ec)
def kX{s:eM}{t:db}{Q:PySem.Fin->eM->Prop}(hA:A.handled=bn)
  (hz:IsEnum s.heap e it i Ì) (hi:s.heap.IsTupleIter it t i) (ht:s.heap.IsTuple t items) (hx:items[i]?=bn)
  (q:∀(h':lm) (x:db),(∀c o,c≠it->s.heap.get? c=al o->h'.get? c=al o)->(∃o,h'.get? x=al o/\o.cls=.type "StopIteration")->E (.ref x) {s with heap:=h'}) :
  ge (gl prog w) A (FM.«enumerate.__next__» {pos:=[.ref e]}) Q E s:=by
 show ge _ _ (field (.ref e) 2 >>= λr=>_) _ _ s;exact Ad (Bw hz rfl rfl (Ad (jm hA hi ht hx λh' x k ex=>q h' x (λc o n e'=>k c o n e') ex)))
def iH{s:eM}{t:db}{x:ce}{Q:Option ce->eM->Prop}(vD:e≠it)(Nj:t≠e)(Ni:t≠it)
  (hz:IsEnum s.heap e it i Ì) (hi:s.heap.IsTupleIter it t i) (ht:s.heap.IsTuple t items) (hx:items[i]?=al x)
  (q:∀(h':lm) (tk:Nat),IsEnumOut h' e it (i+1:Nat) x s.heap.objs.size->h'.IsTupleIter it t (i+1)->IsPair h' s.heap.objs.size (.int i s.toks) x->(∀c o,c≠e->c≠it->s.heap.get? c=al o->h'.get? c=al o)->Q (al (.ref s.heap.objs.size)) {s with heap:=h',toks:=tk}) :
  ge (gl prog w) A (pyNext (.ref e)) Q E s:=by
 have ty:s.TypeIs (.ref e) "enumerate":=⟨_,hz,rfl⟩;refine Ad (wpAny_attempt (BI ty Cm (B9 Cm ty D7 ?_ (DW _))));exact jP vD Nj Ni hz hi ht hx λh' tk a b c d=>Au (q h' tk a b c d)
def je{s:eM}{t:db}{Q:Option ce->eM->Prop}(hA:A.handled=bn)
  (hz:IsEnum s.heap e it i Ì) (hi:s.heap.IsTupleIter it t i) (ht:s.heap.IsTuple t items) (hx:items[i]?=bn)
  (q:∀h':lm,(∀c o,c≠it->s.heap.get? c=al o->h'.get? c=al o)->Q bn {s with heap:=h'}) :
  ge (gl prog w) A (pyNext (.ref e)) Q E s:=by
 have ty:s.TypeIs (.ref e) "enumerate":=⟨_,hz,rfl⟩;refine Ad (wpAny_attempt (BI ty Cm (B9 Cm ty D7 ?_ (DW _))));refine kX hA hz hi ht hx λh' x k ex=>?_;obtain⟨o,eo,hc⟩:=ex;exact Ad (wpAny_isInstance ⟨o,eo,hc⟩ isSubtype_stop (Au (q h' k)))
def jK(t:db)(items:Array ce):Meets (FM.«enumerate.__new__» {pos:=[.type "enumerate",.ref t]}) (λ_ R s=>s.heap.IsTuple t items/\
  ∀h':lm,IsEnum h' (s.heap.objs.size+1) s.heap.objs.size (0:Nat) .none->h'.IsTupleIter s.heap.objs.size t 0->(∀b o,s.heap.get? b=al o->h'.get? b=al o)->R (.ok (.ret (.ref (s.heap.objs.size+1)))) {s with heap:=h'}):=
 .of_wp λprog w A R s h=>by
  obtain⟨h1,q⟩:=h;refine Ad ?_;refine Ad (De rfl ?_);refine Ad (De sub_enumerate ?_);refine Au ?_;refine Ad ?_;refine Ad (wpAny_stack_any λst=>Au ?_);have fin:ge (gl prog w) A.in1 (pyIter (.ref t) >>= λit=>(Builtin.SmallTypes.newRecord (.type "enumerate") (Builtin.SmallTypes.ownedTupleFields++[it,o0 0,.none,.none]) >>= λr=>ret r)) (λfin s'=>∃v,fin=Fin.done (Flow.ret v)/\R (Except.ok (Flow.ret v)) s') (λe s'=>R (Except.error e) s') s:=by
   refine Ad (DD h1 ?_);have k1:∀b o,s.heap.get? b=al o->(s.heap.push {cls:=.type "tuple_iterator",data:=.fields #[.ref t,.int 0 0]}).get? b=al o:=λb o e=>Ae _ e;have g1:(s.heap.push {cls:=.type "tuple_iterator",data:=.fields #[.ref t,.int 0 0]}).get? s.heap.objs.size=al {cls:=.type "tuple_iterator",data:=.fields #[.ref t,.int 0 0]}:=Ap _ rfl;have z1:(s.heap.push {cls:=.type "tuple_iterator",data:=.fields #[.ref t,.int 0 0]}).objs.size=s.heap.objs.size+1:=B8 ..;generalize s.heap.push {cls:=.type "tuple_iterator",data:=.fields #[.ref t,.int 0 0]}=Pm at k1 g1 z1 ⊢;show ge _ _ (newObj (.type "enumerate") (.fields #[.none,.bool false,.ref s.heap.objs.size,o0 0,.none,.none]) >>= λr=>ret r) _ _ _;refine Ad (Co ?_ (by simp[sizeOk];decide));have g2:(Pm.push {cls:=.type "enumerate",data:=.fields #[.none,.bool false,.ref s.heap.objs.size,o0 0,.none,.none]}).get? Pm.objs.size=al {cls:=.type "enumerate",data:=.fields #[.none,.bool false,.ref s.heap.objs.size,o0 0,.none,.none]}:=Ap _ rfl;refine Au ⟨.ref Pm.objs.size,rfl,?_⟩;rw[z1]at g2 ⊢;exact q _ g2 ⟨_,Ae _ g1,rfl,rfl⟩ λb o e=>Ae _ (k1 _ _ e)
  refine wpAny_ite_split (λ_=>?_) (λ_=>?_)
  ·exact Ad (De rfl fin)
  ·exact Ad (De rfl fin)
def rY{s:eM}{t:db}(h1:s.heap.IsTuple t items)
  (q:∀h':lm,IsEnum h' (s.heap.objs.size+1) s.heap.objs.size (0:Nat) .none->h'.IsTupleIter s.heap.objs.size t 0->(∀b o,s.heap.get? b=al o->h'.get? b=al o)->Q (.ref (s.heap.objs.size+1)) {s with heap:=h'}) :
  ge (gl prog w) A (call (.type "enumerate") [.ref t]) Q E s:=
 callType_new F.called_enumerate ⋯ (F.typeCall_enumerate_1 _) (F.newCall_enumerate_1 _) (λo=>F.args_object_init_2 o _) F.entry_enumerate_new (jK t items) ⟨h1,λh' z i k=>⟨⟨_,z,rfl⟩,q h' z i k⟩⟩
def RM(K:Aa)(a:db):It where
 go:=λi H=>∃xs x,cf K H a xs/\xs[i]?=al x
 GP:=λi H v H'=>∃p x,v=.ref p/\H p=bn/\H'=upd H p (.tup [.int i,x])/\∀xs,cf K H a xs->xs[i]?=al x
 stop:=λi H=>∃xs,cf K H a xs/\xs.length<=i
theorem uo{K:Aa}{t:db}(vD:e≠it)(Nj:t≠e)(Ni:t≠it):Turn P w K (.Tuple Õ kk pos) (RM K t) [e,it] e (λi h=>(∃Ì,IsEnum h e it (i:Nat) Ì)/\h.IsTupleIter it t i) where
 mem:=by simp
 obj:=λi h st b hb=>by
  simp at hb;rcases hb with rfl | rfl
  ·obtain⟨⟨_,e⟩,_⟩:=st;exact⟨_,e,λv z=>by cases z⟩
  ·obtain⟨_,⟨o,e,_,d⟩⟩:=st;exact⟨o,e,λv z=>by rw[d]at z;cases z⟩
 keep:=λi h h' st k=>⟨let ⟨o,e'⟩:=st.1;⟨o,k e (by simp) _ e'⟩,let ⟨o,e',p⟩:=st.2;⟨o,k it (by simp) _ e',p⟩⟩
 item:=by
  intro X hP hw hK hc i U s σ H E I hf st hg;subst hP hw hK;obtain⟨xs,x,hx,gx⟩:=hg;obtain⟨ay,rx,tx,_⟩:=I.tuple hx;obtain⟨u,gu,ru⟩:=oE rx gx;obtain⟨⟨Ì,hz⟩,hi⟩:=st;refine iH vD Nj Ni hz hi tx (by simpa using gu) λh' tk zo j np k=>?_;refine⟨_,rfl,?_⟩;refine DE zo λh2 z2 b2=>?_;have le:=Ao hz;have li:=let ⟨_,e',_⟩:=hi;Ao e';have lt:∀b∈[e,it],b < s.heap.objs.size:=λb hb=>by
   simp at hb;rcases hb with rfl | rfl
   ·exact le
   ·exact li
  have O8:∀b o,b∉[e,it]->s.heap.get? b=al o->h2.get? b=al o:=λb o hb e'=>by
   have Gw:b≠e:=λq=>hb (by simp[q]);rw[b2.2 b Gw];exact k b o Gw (λq=>hb (by simp[q])) e'
  refine⟨.ref s.heap.objs.size,upd H s.heap.objs.size (.tup [.int i,x]),I.oH hf O8 (Aj _) ⟨by show 2<=sizeLine;decide,[.int i s.toks,u],.cons ⟨_,rfl⟩ (.cons ru .nil),⟨_,((b2.2 _ (λz=>AY _ (by have:=le;rw[<- z]at this;exact this))).trans np),rfl,_,rfl⟩,_,((b2.2 _ (λz=>AY _ (by have:=le;rw[<- z]at this;exact this))).trans np),rfl⟩,rfl,⟨_,x,rfl,(I.aV.fresh (Aj s.heap.objs.size)),rfl,λRS h'=>by rw[I.jc h' hx];exact gx⟩,⟨⟨_,z2⟩,let ⟨o,e',p⟩:=j;⟨o,(b2.2 _ (BR vD)).trans e',p⟩⟩,λb hb=>?_⟩;rw[ax (Az (lt b hb))];exact(hf b hb).1
 done:=by
  intro X hP hw hK hc i U s σ H E I hf st hg;subst hP hw hK;obtain⟨xs,hx,hl⟩:=hg;obtain⟨ay,rx,tx,_⟩:=I.tuple hx;have el:=rx.length;obtain⟨⟨Ì,hz⟩,hi⟩:=st;refine je (I.ok.hd hc) hz hi tx (by simp;omega) λh' k=>⟨rfl,I.sG hf λb o hb e'=>k b o (λz=>hb (by simp[z])) e'⟩
 self:=λA i s Q E st h=>let ⟨_,e'⟩:=st.1;CZ e' h
end L2
namespace My
def yL(l:O V)(i:Nat):Ent->O V
 | .word _=>l
 | .pair a b=>(l.set a (.int i)).set b (.int i)
def ah:O Ent->Nat->O V->O V
 | [],_,l=>l
 | e::es,i,l=>ah es (i+1) (yL l i e)
theorem nZ:∀(es:O Ent) (e:Ent) (i:Nat) (l:O V),ah (es++[e]) i l=yL (ah es i l) (i+es.length) e
 | [],e,i,l=>rfl
 | x::es,e,i,l=>by
  show ah (es++[e]) (i+1) (yL l i x)=yL (ah es (i+1) (yL l i x)) (i+(es.length+1)) e;rw[nZ es e];congr 1;omega
def FX(l:O V)(i:Nat)(e:Ent):(yL l i e).length=l.length:=by cases e with
 | word=>rfl
 | pair=>show((l.set _ _).set _ _).length=_;rw[Cg,Cg]
theorem sf:∀(es:O Ent) (i:Nat) (l:O V),(ah es i l).length=l.length
 | [],_,_=>rfl
 | e::es,i,l=>by show(ah es (i+1) (yL l i e)).length=_;rw[sf es,FX]
end My
namespace L2
def MN(K:Aa)(a:db):It where
 go:=λi H=>∃xs x,cp K H a xs/\xs[i]?=al x
 GP:=λi H v H'=>∃p x,v=.ref p/\H p=bn/\H'=upd H p (.tup [.int i,x])/\∀xs,cp K H a xs->xs[i]?=al x
 stop:=λi H=>∃xs,cp K H a xs/\xs.length<=i
theorem qD{K:Aa}{t:db}(vD:e≠it):Turn P w K (.Tuple Õ kk pos) (MN K t) [e,it] e (λi h=>(∃Ì,IsEnum h e it (i:Nat) Ì)/\h.IsListIter it t i) where
 mem:=by simp
 obj:=λi h st b hb=>by
  simp at hb;rcases hb with rfl | rfl
  ·obtain⟨⟨_,e⟩,_⟩:=st;exact⟨_,e,λv z=>by cases z⟩
  ·obtain⟨_,⟨o,e,_,d⟩⟩:=st;exact⟨o,e,λv z=>by rw[d]at z;cases z⟩
 keep:=λi h h' st k=>⟨let ⟨o,e'⟩:=st.1;⟨o,k e (by simp) _ e'⟩,let ⟨o,e',p⟩:=st.2;⟨o,k it (by simp) _ e',p⟩⟩
 item:=by
  intro X hP hw hK hc i U s σ H E I hf st hg;subst hP hw hK;obtain⟨xs,x,hx,gx⟩:=hg;obtain⟨ay,rx,tx,_⟩:=I.list hx;obtain⟨u,gu,ru⟩:=oE rx gx;obtain⟨⟨Ì,hz⟩,hi⟩:=st;refine wpAny_pyNext_enum_item hz hi tx.isList (by simpa using gu) vD λh' zo j np _ k=>?_;refine⟨_,rfl,?_⟩;refine DE zo λh2 z2 b2=>?_;have le:=Ao hz;have li:=let ⟨_,e',_⟩:=hi;Ao e';have lt:∀b∈[e,it],b < s.heap.objs.size:=λb hb=>by
   simp only[AA,Cz,or_false]at hb;rcases hb with rfl | rfl
   ·exact le
   ·exact li
  have O8:∀b o,b∉[e,it]->s.heap.get? b=al o->h2.get? b=al o:=λb o hb e'=>by
   have Gw:b≠e:=λq=>hb (by simp[q]);rw[b2.2 b Gw];exact k b o Gw (λq=>hb (by simp[q])) e'
  refine⟨.ref s.heap.objs.size,upd H s.heap.objs.size (.tup [.int i,x]),I.oH hf O8 (Aj _) ⟨by show 2<=sizeLine;decide,[.int i s.toks,u],.cons ⟨_,rfl⟩ (.cons ru .nil),⟨_,((b2.2 _ (λz=>AY _ (by have:=le;rw[<- z]at this;exact this))).trans np),rfl,_,rfl⟩,_,((b2.2 _ (λz=>AY _ (by have:=le;rw[<- z]at this;exact this))).trans np),rfl⟩,rfl,⟨_,x,rfl,(I.aV.fresh (Aj s.heap.objs.size)),rfl,λRS h'=>by rw[I.ph h' hx];exact gx⟩,⟨⟨_,z2⟩,let ⟨o,e',p⟩:=j;⟨o,(b2.2 _ (BR vD)).trans e',p⟩⟩,λb hb=>?_⟩;rw[ax (Az (lt b hb))];exact(hf b hb).1
 done:=by
  intro X hP hw hK hc i U s σ H E I hf st hg;subst hP hw hK;obtain⟨xs,hx,hl⟩:=hg;obtain⟨ay,rx,tx,_⟩:=I.list hx;have el:=rx.length;obtain⟨⟨Ì,hz⟩,hi⟩:=st;refine wpAny_pyNext_enum_end (I.ok.hd hc) hz hi tx.isList (by simp;omega) λh' k=>⟨rfl,I.sG hf λb o hb e'=>k b o (λz=>hb (by simp[z])) e'⟩
 self:=λA i s Q E st h=>let ⟨_,e'⟩:=st.1;CZ e' h
end L2
namespace My
def en:Tr->Nat->Nat->Ent
 | .leaf x,_,_=>.word x
 | .node l r,o,j=>if j < l.size then en l o j else if j < l.size+r.size then en r (o+l.size) (j-l.size) else .pair (o+l.size-1) (o+l.size+r.size-1)
def se:Tr->Nat->Nat->V->V
 | .leaf _,_,_,p=>p
 | .node l r,o,j,p=>if j < l.size then se l o j (.int (o+l.size+r.size:Nat)) else if j < l.size+r.size then se r (o+l.size) (j-l.size) (.int (o+l.size+r.size:Nat)) else p
def be:Tr->Nat->Nat->O Nat
 | .leaf _,o,_=>[o]
 | .node l r,o,j=>if j < l.size then be l o j else if j < l.size+r.size then be r (o+l.size) (j-l.size) else be l o (l.size-1)++be r (o+l.size) (r.size-1)
theorem tG:∀(t:Tr) (o j:Nat),j < t.size->(t.nd o)[j]?=al (en t o j)
 | .leaf x,o,j,h=>by
  have:j=0:=by have:j < 1:=h;omega
  subst this;rfl
 | .node l r,o,j,h=>by
  have es:(Tr.node l r).size=l.size+r.size+1:=rfl;have hn:(Tr.node l r).nd o=l.nd o++r.nd (o+l.size)++[.pair (o+l.size-1) (o+l.size+r.size-1)]:=rfl;have ln:=l.bU o;have rn:=r.bU (o+l.size);unfold en;by_cases c1:j < l.size
  ·rw[if_pos c1,hn,Ay,An ∅];exact tG l o j c1
  ·rw[if_neg c1];by_cases c2:j < l.size+r.size
   ·rw[if_pos c2,hn,Ay,Ah ∅,An ∅,ln];exact tG r _ _ ∅
   ·rw[if_neg c2,hn,Ah (by rw[Ab];omega),Ab,ln,rn];have:j-(l.size+r.size)=0:=by omega
    rw[this];rfl
theorem yG:∀(t:Tr) (o j:Nat),j < t.size->(∃x,en t o j=.word x/\be t o j=[o+j])\/∃a b,en t o j=.pair (o+a) (o+b)/\a < j/\b < j/\be t o j=be t o a++be t o b
 | .leaf x,o,j,h=>by
  have:j=0:=by have:j < 1:=h;omega
  subst this;exact .inl ⟨x,rfl,rfl⟩
 | .node l r,o,j,h=>by
  have es:(Tr.node l r).size=l.size+r.size+1:=rfl;have lp:=l.size_pos;have rp:=r.size_pos;by_cases c1:j < l.size
  ·have e1:en (.node l r) o j=en l o j:=by rw[en,if_pos c1]
   have e2:∀k,k < l.size->be (.node l r) o k=be l o k:=λk hk=>by rw[be,if_pos hk]
   rw[e1];rcases yG l o j c1 with⟨x,q1,q2⟩ | ⟨a,b,q1,q2,q3,q4⟩
   ·exact .inl ⟨x,q1,by rw[e2 j c1];exact q2⟩
   ·exact .inr ⟨a,b,q1,q2,q3,by rw[e2 j c1,e2 a ∅,e2 b ∅];exact q4⟩
  ·by_cases c2:j < l.size+r.size
   ·have e1:en (.node l r) o j=en r (o+l.size) (j-l.size):=by rw[en,if_neg c1,if_pos c2]
    have e2:∀k,k < r.size->be (.node l r) o (l.size+k)=be r (o+l.size) k:=λk hk=>by
     rw[be,if_neg ∅,if_pos ∅];congr 1;omega
    have ej:j=l.size+(j-l.size):=by omega
    rw[e1];rcases yG r (o+l.size) (j-l.size) ∅ with⟨x,q1,q2⟩ | ⟨a,b,q1,q2,q3,q4⟩
    ·refine .inl ⟨x,q1,?_⟩;rw[ej,e2 _ ∅,q2];congr 1;omega
    ·refine .inr ⟨l.size+a,l.size+b,?_,by omega,by omega,?_⟩
     ·rw[q1,BV,BV]
     ·rw[e2 a ∅,e2 b ∅,ej,e2 _ ∅,q4]
   ·have ej:j=l.size+r.size:=by omega
    refine .inr ⟨l.size-1,l.size+r.size-1,?_,by omega,by omega,?_⟩
    ·rw[en,if_neg c1,if_neg c2];congr 1 <;> omega
    ·rw[be,if_neg c1,if_neg c2,be,if_pos ∅,be,if_neg ∅,if_pos ∅];congr 2;omega
def hE:Tr->Nat->V->O V
 | .leaf _,_,p=>[p]
 | .node l r,o,p=>hE l o (.int (o+l.size+r.size:Nat))++hE r (o+l.size) (.int (o+l.size+r.size:Nat))++[p]
theorem fB:∀(t:Tr) (o:Nat) (p:V),(hE t o p).length=t.size
 | .leaf _,_,_=>rfl
 | .node l r,o,p=>by
  unfold hE;rw[Ab,Ab,fB l,fB r];rfl
theorem uc(t:Tr)(o:Nat)(p q:V)(A B:O V):(A++hE t o p++B).set (A.length+t.size-1) q=A++hE t o q++B:=by
 have key:∃I,hE t o p=I++[p]/\hE t o q=I++[q]:=by
  cases t with
  | leaf _=>exact⟨[],rfl,rfl⟩
  | node l r=>exact⟨_,rfl,rfl⟩
 obtain⟨I,e1,e2⟩:=key;have h1:=fB t o p;rw[e1,Ab]at h1;have eX:I.length+1=t.size:=h1;rw[e1,e2];have ei:A.length+t.size-1=(A++I).length:=by rw[Ab];omega
 rw[ei,show A++(I++[p])++B=(A++I)++p::B by simp,List.set_append_right _ _ (Aj _),Du];simp
theorem yK:∀(es fs:O Ent) (i:Nat) (l:O V),ah (es++fs) i l=ah fs (i+es.length) (ah es i l)
 | [],fs,i,l=>rfl
 | e::es,fs,i,l=>by
  show ah (es++fs) (i+1) (yL l i e)=ah fs (i+(es.length+1)) (ah es (i+1) (yL l i e));rw[yK es fs];congr 1;omega
theorem sh:∀(t:Tr) (A B:O V),ah (t.nd A.length) A.length (A++Aq t.size .aB++B)=A++hE t A.length .aB++B
 | .leaf x,A,B=>rfl
 | .node l r,A,B=>by
  have es:(Tr.node l r).size=l.size+r.size+1:=rfl;have hn:(Tr.node l r).nd A.length=l.nd A.length++r.nd (A.length+l.size)++[.pair (A.length+l.size-1) (A.length+l.size+r.size-1)]:=rfl;have ln:=l.bU A.length;have h1:=sh l A (Aq r.size .aB++([V.aB]++B));have e0:A++Aq (Tr.node l r).size V.aB++B=A++Aq l.size .aB++(Aq r.size .aB++([V.aB]++B)):=by
   rw[es,<- C2,<- C2];simp only[Ay];rfl
  rw[hn,nZ,yK,e0,h1,ln];have la:(A++hE l A.length V.aB).length=A.length+l.size:=by rw[Ab,fB]
  have h2:=sh r (A++hE l A.length V.aB) ([V.aB]++B);rw[la]at h2;have e1:A++hE l A.length V.aB++(Aq r.size V.aB++([V.aB]++B))=A++hE l A.length V.aB++Aq r.size V.aB++([V.aB]++B):=by simp[Ay]
  rw[e1,h2,Ab,ln,(r.bU (A.length+l.size))];show((_:O V).set (A.length+l.size-1) _).set (A.length+l.size+r.size-1) _=_;have e2:A++hE l A.length V.aB++hE r (A.length+l.size) V.aB++([V.aB]++B)=A++hE l A.length V.aB++(hE r (A.length+l.size) V.aB++([V.aB]++B)):=by simp[Ay]
  rw[e2,(uc l A.length .aB (.int (A.length+(l.size+r.size):Nat)) A (hE r (A.length+l.size) V.aB++([V.aB]++B)))];have lb:(A++hE l A.length (V.int (A.length+(l.size+r.size):Nat))).length=A.length+l.size:=by rw[Ab,fB]
  have s2:=uc r (A.length+l.size) .aB (.int (A.length+(l.size+r.size):Nat)) (A++hE l A.length (V.int (A.length+(l.size+r.size):Nat))) ([V.aB]++B);rw[lb]at s2;have e3:A++hE l A.length (V.int (A.length+(l.size+r.size):Nat))++(hE r (A.length+l.size) V.aB++([V.aB]++B))=A++hE l A.length (V.int (A.length+(l.size+r.size):Nat))++hE r (A.length+l.size) V.aB++([V.aB]++B):=by simp[Ay]
  rw[e3,s2];have e4:hE (.node l r) A.length .aB=hE l A.length (.int (A.length+l.size+r.size:Nat))++hE r (A.length+l.size) (.int (A.length+l.size+r.size:Nat))++[.aB]:=rfl;rw[e4,BV A.length l.size r.size];simp[Ay]
theorem nX:∀(t:Tr) (o j:Nat) (p:V),j < t.size->(hE t o p)[j]?=al (se t o j p)
 | .leaf x,o,j,p,h=>by
  have:j=0:=by have:j < 1:=h;omega
  subst this;rfl
 | .node l r,o,j,p,h=>by
  have es:(Tr.node l r).size=l.size+r.size+1:=rfl;have ln:=fB l o (.int (o+l.size+r.size:Nat));have rn:=fB r (o+l.size) (.int (o+l.size+r.size:Nat));unfold hE se;by_cases c1:j < l.size
  ·rw[if_pos c1,Ay,An ∅];exact nX l _ _ _ c1
  ·rw[if_neg c1];by_cases c2:j < l.size+r.size
   ·rw[if_pos c2,Ay,Ah ∅,An ∅,ln];exact nX r _ _ _ ∅
   ·rw[if_neg c2,Ah (by rw[Ab];omega),Ab,ln,rn];have:j-(l.size+r.size)=0:=by omega
    rw[this];rfl
def Jn(t:Tr)(h:j < t.size):(ah (t.nd 0) 0 (Aq t.size .aB))[j]?=al (se t 0 j .aB):=by
 have q:=sh t [] [];have e:([]:O V)++Aq t.size .aB++[]=Aq t.size .aB:=by simp
 have e2:([]:O V)++hE t ([]:O V).length .aB++[]=hE t 0 .aB:=by simp
 rw[e,e2]at q;have q':ah (t.nd 0) 0 (Aq t.size .aB)=hE t 0 .aB:=q;rw[q'];exact nX t 0 j .aB h
end My
variable{H1:L2.Hp}{ι:O AL}
namespace PL
section
variable{K:Aa}
def yS(K:Aa)(H:Hp)(a:db)(xs:O V):Prop:=(∃o,H a=al (.dc o (.lst xs)))\/
  ∃(o:Obj) (ay:Array ce) (n:Nat),K.lookup a=al o/\o.cls=.type "list"/\o.dict=bn/\o.data=.seq ay n/\ay.size<=sizeLine/\Vals xs ay.toList
def yS.sq(h:yS K H a xs):cp K H a xs:=h.elim (λh=>.inl (.inr h)) .inr
def QD(b:db)(h:lm):Prop:=∃(ns:O Int) (ay:O ce) (n:Nat),ns.length<=sizeLine/\Vals (ns.map V.int) ay/\h.get? b=al {cls:=.type "list",data:=.seq ay.toArray n}
def QA(a b:db)(m:Nat)(h:lm):Prop:=∃(s c:Int) (ay:O ce) (n:Nat),0<=c/\c<=m/\Vals [.ref b,.int s,.int c] ay/\h.get? a=al {cls:=.type "list",data:=.seq ay.toArray n}
def QB(H:Hp)(a:db)(m:Nat):Prop:=∃b,a≠b/\H a=al (.ext (QA a b m))/\H b=al (.ext (QD b))
def lg(H:Hp)(a:db):Prop:=∃m,QB H a m
def xk(h:∀p φ,H p=al (.ext φ)->H' p=al (.ext φ)):∀a,lg H a->lg H' a:=λ_ ⟨m,b,n,e1,e2⟩=>⟨m,b,n,h _ _ e1,h _ _ e2⟩
structure aN(K:Aa)(H H':Hp):Prop where
 t:∀p vs,H p=al (.tup vs)->H' p=al (.tup vs)
 z:∀p o u,H p=al (.dc o u)->H' p=al (.dc o u)
 x:∀a,lg H a->lg H' a
def aN.f{H H':Hp}(t:aN K H H')(p:db)(vs:O V)(h:yS K H p vs):yS K H' p vs:=h.elim (λ⟨o,h⟩=>.inl ⟨o,t.z _ _ _ h⟩) .inr
def aN.refl(H:Hp):aN K H H:=⟨λ_ _ h=>h,λ_ _ _ h=>h,λ_ h=>h⟩
def aN.trans(a:aN K H H1)(b:aN K H1 H2):aN K H H2:=⟨λp vs h=>b.t p vs (a.t p vs h),λp o w h=>b.z p o w (a.z p o w h),λp h=>b.x p (a.x p h)⟩
def _root_.L2.dh.dj(s:dh H H'):aN K H H':=⟨λp vs h=>s _ _ h,λp o u h=>s _ _ h,xk λp φ h=>s _ _ h⟩
inductive PV where
 | aB | bl (b:Bool) | int (i:Int) | str (x:Str) | tup (l:List PV) | ref (n:Nat) | ty (n:String) | cl (l:List PV) | dv (ks vs:List PV) | ob (ns:List Str) (l:List PV) | hand
def kP:Key->PV
 | .inl i=>.int i
 | .inr x=>.str x
inductive PO where
 | lst (xs:List PV) | dk (aw:List (Key×PV)) | dt (aw:List (List Key×PV)) | Sn (φ:List V->Prop)
abbrev PH:=O PO
abbrev oz:=O (Option PV)
mutual
inductive VR(K:Aa)(ι:List db)(H:Hp):V->PV->Prop
 | aB:VR K ι H .aB .aB
 | bl (b:Bool):VR K ι H (.bl b) (.bl b)
 | int (i:Int):VR K ι H (.int i) (.int i)
 | str (x:Str):VR K ι H (.str x) (.str x)
 | ty (n:String):VR K ι H (.ty n) (.ty n)
 | tup {p:db}{vs:List V}{l:List PV} (h:H p=al (.tup vs)) (r:aA K ι H vs l):VR K ι H (.ref p) (.tup l)
 | ref {n:Nat}{a:db} (h:ι[n]?=al a):VR K ι H (.ref a) (.ref n)
 | cl {a:db}{vs:List V}{l:List PV} (h:yS K H a vs) (r:aA K ι H vs l):VR K ι H (.ref a) (.cl l)
 | dk {a:db}{o:Obj}{aw:List (Key×V)}{ks l:List PV} (h:H a=al (.dc o (.dK aw))) (e:ks=aw.map λkv=>kP kv.1) (r:aA K ι H (aw.map (·.2)) l):VR K ι H (.ref a) (.dv ks l)
 | dt {a:db}{o:Obj}{aw:List (List Key×V)}{ks l:List PV} (h:H a=al (.dc o (.dT aw))) (e:ks=aw.map λkv=>.tup (kv.1.map kP)) (r:aA K ι H (aw.map (·.2)) l):VR K ι H (.ref a) (.dv ks l)
 | ob {a C dx:db}{o:Obj}{fs:List (Str×V)}{ns:List Str}{l:List PV} (h:H a=al (.dc o (.ins C dx fs))) (c:uh K C) (na:∀f∈ns,di K C f) (e:ns=fs.map (·.1)) (r:aA K ι H (fs.map (·.2)) l):VR K ι H (.ref a) (.ob ns l)
 | hand {a:db} (h:lg H a):VR K ι H (.ref a) .hand
inductive aA(K:Aa)(ι:List db)(H:Hp):List V->List PV->Prop
 | nil:aA K ι H [] []
 | cons {v:V}{p:PV}{vs:List V}{ps:List PV} (r:VR K ι H v p) (t:aA K ι H vs ps):aA K ι H (v::vs) (p::ps)
end
section
variable{ι':O db}
mutual
theorem VR.mono(ht:aN K H H')(hi:∀(n:Nat) (a:db),ι[n]?=al a->ι'[n]?=al a):∀{v:V}{p:PV},VR K ι H v p->VR K ι' H' v p
 | _,_,.aB=>.aB
 | _,_,.bl b=>.bl b
 | _,_,.int i=>.int i
 | _,_,.str x=>.str x
 | _,_,.ty n=>.ty n
 | _,_,.tup h r=>.tup (ht.t _ _ h) (aA.mono ht hi r)
 | _,_,.cl h r=>.cl (ht.f _ _ h) (aA.mono ht hi r)
 | _,_,.dk h e r=>.dk (ht.z _ _ _ h) e (aA.mono ht hi r)
 | _,_,.dt h e r=>.dt (ht.z _ _ _ h) e (aA.mono ht hi r)
 | _,_,.ob h c na e r=>.ob (ht.z _ _ _ h) c na e (aA.mono ht hi r)
 | _,_,.hand h=>.hand (ht.x _ h)
 | _,_,.ref h=>.ref (hi _ _ h)
theorem aA.mono(ht:aN K H H')(hi:∀(n:Nat) (a:db),ι[n]?=al a->ι'[n]?=al a):∀{vs:O V}{ps:O PV},aA K ι H vs ps->aA K ι' H' vs ps
 | _,_,.nil=>.nil
 | _,_,.cons r t=>.cons (VR.mono ht hi r) (aA.mono ht hi t)
end
theorem aA.length:∀{vs:O V}{ps:O PV},aA K ι H vs ps->vs.length=ps.length
 | _,_,.nil=>rfl
 | _,_,.cons _ t=>by rw[Av,Av,aA.length t]
theorem aA.get:∀{vs:O V}{ps:O PV}{i:Nat}{p:PV},aA K ι H vs ps->ps[i]?=al p->∃v,vs[i]?=al v/\VR K ι H v p
 | _,_,_,_,.nil,e=>by simp at e
 | _,_,0,_,.cons r _,e=>by simp at e;subst e;exact⟨_,rfl,r⟩
 | _,_,i+1,p,.cons _ t,e=>by
  obtain⟨v,h1,h2⟩:=aA.get t (by simpa using e);exact⟨v,by simpa using h1,h2⟩
theorem aA.set{p:PV}(r:VR K ι H v p):∀{vs:O V}{ps:O PV} (i:Nat),aA K ι H vs ps->aA K ι H (vs.set i v) (ps.set i p)
 | _,_,_,.nil=>.nil
 | _,_,0,.cons _ t=>.cons r t
 | _,_,i+1,.cons q t=>.cons q (aA.set r i t)
theorem aA.append:∀{xs ys:O V}{us ws:O PV},aA K ι H xs us->aA K ι H ys ws->aA K ι H (xs++ys) (us++ws)
 | _,_,_,_,.nil,s=>s
 | _,_,_,_,.cons r t,s=>.cons r (aA.append t s)
theorem aA.take:∀{xs:O V}{us:O PV} (n:Nat),aA K ι H xs us->aA K ι H (xs.take n) (us.take n)
 | _,_,0,_=>.nil
 | _,_,_+1,.nil=>.nil
 | _,_,n+1,.cons r t=>.cons r (aA.take n t)
theorem aA.drop:∀{xs:O V}{us:O PV} (n:Nat),aA K ι H xs us->aA K ι H (xs.drop n) (us.drop n)
 | _,_,0,r=>r
 | _,_,_+1,.nil=>.nil
 | _,_,n+1,.cons _ t=>aA.drop n t
theorem aA.reverse:∀{xs:O V}{us:O PV},aA K ι H xs us->aA K ι H xs.reverse us.reverse
 | _,_,.nil=>.nil
 | _,_,.cons r t=>by rw[C0,C0];exact(aA.reverse t).append (.cons r .nil)
def aA.one{p:PV}(r:VR K ι H v p):aA K ι H [v] [p]:=.cons r .nil
end
structure Go(ι ι':List db)(H H':Hp):Prop where
 ext:∃m,ι'=ι++m
 new:∀a,a∈ι'->a∉ι->H a=bn
 keep:∀a o,a∉ι->H a=al o->H' a=al o
def Go.refl(ι:O db)(H:Hp):Go ι ι H H:=⟨⟨[],by simp⟩,λa h n=>absurd h n,λ_ _ _ h=>h⟩
def OR(K:Aa)(ι:O db)(H:Hp)(a:db):PO->Prop
 | .lst xs=>∃vs,H a=al (.lst vs)/\aA K ι H vs xs
 | .dk aw=>∃vs:O (Key×V),H a=al (.dK vs)/\vs.map (·.1)=aw.map (·.1)/\aA K ι H (vs.map (·.2)) (aw.map (·.2))
 | .dt aw=>∃vs:O (O Key×V),H a=al (.dT vs)/\vs.map (·.1)=aw.map (·.1)/\aA K ι H (vs.map (·.2)) (aw.map (·.2))
 | .Sn φ=>∃vs,H a=al (.lst vs)/\φ vs
structure HR(K:Aa)(ι:List db)(H:Hp)(h:PH):Prop where
 nd:ι.Nodup
 len:ι.length=h.length
 obj:∀(n:Nat) (a:db) (o:PO),ι[n]?=al a->h[n]?=al o->OR K ι H a o
end
end PL
variable{a e:BL}
namespace PL
section
variable{K:Aa}
abbrev QV:=PV->PH->Prop
structure ME where
 run:oz->PH->QV->Prop
 mono:∀{ps h}{Q Q':QV},(∀v h',Q v h'->Q' v h')->run ps h Q->run ps h Q'
structure MT where
 run:oz->PH->(Bool->PH->Prop)->Prop
 mono:∀{ps h}{Q Q':Bool->PH->Prop},(∀v h',Q v h'->Q' v h')->run ps h Q->run ps h Q'
structure MA where
 run:oz->PH->(List PV->PH->Prop)->Prop
 mono:∀{ps h}{Q Q':List PV->PH->Prop},(∀v h',Q v h'->Q' v h')->run ps h Q->run ps h Q'
structure ML where
 run:oz->PH->(List PV->PH->Prop)->Prop
 mono:∀{ps h}{Q Q':List PV->PH->Prop},(∀v h',Q v h'->Q' v h')->run ps h Q->run ps h Q'
structure Src where
 items:List PV
 ok:PH->Prop
 fz:Bool
structure MI where
 run:oz->PH->(Src->PH->Prop)->Prop
 mono:∀{ps h}{Q Q':Src->PH->Prop},(∀v h',Q v h'->Q' v h')->run ps h Q->run ps h Q'
structure PD where
 nx:oz->PH->Prop
 rt:QV
 bk:oz->PH->Prop
 ct:oz->PH->Prop
structure PD.Le(D D':PD):Prop where
 nx:∀ps h,D.nx ps h->D'.nx ps h
 rt:∀v h,D.rt v h->D'.rt v h
 bk:∀ps h,D.bk ps h->D'.bk ps h
 ct:∀ps h,D.ct ps h->D'.ct ps h
structure MS where
 run:PD->oz->PH->Prop
 mono:∀{D D' ps h},PD.Le D D'->run D ps h->run D' ps h
structure MG where
 run:PV->oz->PH->(oz->PH->Prop)->Prop
 mono:∀{v ps h}{Q Q':oz->PH->Prop},(∀ps h,Q ps h->Q' ps h)->run v ps h Q->run v ps h Q'
def pQ(K:Aa)(ι:O db)(H:Hp)(Q:VK):QV:=λp h'=>∀ι' v H',Go ι ι' H H'->HR K ι' H' h'->VR K ι' H' v p->Q v H'
def PE.imp{t t':TE}(h:PE X e t)(f:∀σ H Q,t' σ H Q->t σ H Q):PE X e t':=λU s σ H Q I q=>h U s σ H Q I (f _ _ _ q)
def PT.imp{t t':TT}(h:PT X e t)(f:∀σ H Q,t' σ H Q->t σ H Q):PT X e t':=λU s σ H Q I q=>h U s σ H Q I (f _ _ _ q)
def PW.imp{t t':TT}(h:PW X e t)(f:∀σ H Q,t' σ H Q->t σ H Q):PW X e t':=λw U s σ H Q I q=>h w U s σ H Q I (f _ _ _ q)
def PA.imp{e:O jp}{t t':TA}(h:PA X e t)(f:∀σ H Q,t' σ H Q->t σ H Q):PA X e t':=λpos U s σ H Q I q=>h pos U s σ H Q I (f _ _ _ q)
def PSs.imp{e:O r6}{t t':TS}(h:PSs X e t)(f:∀D σ H,t' D σ H->t D σ H):PSs X e t':=λU s σ H D I q=>h U s σ H D I (f _ _ _ q)
def PG.imp{t t':TG}(h:PG X e t)(f:∀v σ H Q,t' v σ H Q->t v σ H Q):PG X e t':=λU s σ H v u Q I r q=>h U s σ H v u Q I r (f _ _ _ _ q)
def PI.imp{t t':TI}(h:PI X tg e t)(f:∀σ H Q,t' σ H Q->t σ H Q):PI X tg e t':=λU s σ H R I q=>h U s σ H R I (f _ _ _ q)
section
abbrev P2:=PV->PV->PH->QV->Prop
structure M2 where
 f:P2
 mono:∀{x y h}{Q Q':QV},(∀v h',Q v h'->Q' v h')->f x y h Q->f x y h Q'
def M2.Ok(K:Aa)(r:R2)(m:M2):Prop:=∀{ι H h u v x y Q},HR K ι H h->VR K ι H u x->VR K ι H v y->m.f x y h (pQ K ι H Q)->r u v H Q
end
end
section
variable{K:Aa}
section
def gs:∀{vs:O V}{l:O PV},aA K ι H vs l->(!l.isEmpty)=!vs.isEmpty
 | _,_,.nil=>rfl
 | _,_,.cons _ _=>rfl
structure MQ where
 run:oz->PH->(Src->PH->Prop)->Prop
 mono:∀{ps h}{Q Q':Src->PH->Prop},(∀v h',Q v h'->Q' v h')->run ps h Q->run ps h Q'
end
end
section
structure Vi where
 run:List PV->oz->PH->(oz->PH->Prop)->Prop
 mono:∀{v ps h}{Q Q':oz->PH->Prop},(∀ps h,Q ps h->Q' ps h)->run v ps h Q->run v ps h Q'
end
section
variable{K:Aa}
section
structure qp where
 f:List PV->PH->QV->Prop
 mono:∀{l h}{Q Q':QV},(∀v h',Q v h'->Q' v h')->f l h Q->f l h Q'
def qp.Ok(K:Aa)(r:O V->Hp->VK->Prop)(m:qp):Prop:=∀{ι H h vs l Q},HR K ι H h->aA K ι H vs l->m.f l h (pQ K ι H Q)->r vs H Q
end
end
end PL
variable{g':Int->Int->L2.V}{g:Int->Int->PL.PV}
namespace PL
section
variable{K:Aa}
def aI(g:Int->Int->PV):M2:=⟨λx y h Q=>match x,y with | .int i,.int j=>Q (g i j) h | _,_=>False,λf q=>by
 revert q
 split
 ·exact f _ _
 ·exact λz=>z⟩
def Jo(C:Int->Int->Prop)(g:Int->Int->PV):M2:=⟨λx y h Q=>match x,y with | .int i,.int j=>C i j/\Q (g i j) h | _,_=>False,λf q=>by
 revert q
 split
 ·exact λq=>⟨q.1,f _ _ q.2⟩
 ·exact λz=>z⟩
def p9(hg:∀ι H i j,VR K ι H (g' i j) (g i j)):M2.Ok K (zv g') (aI g):=by
 intro ι H h u v x y Q hr hu hv q;unfold aI at q;dsimp only at q;revert q
 split
 ·intro q;cases hu;cases hv;exact⟨_,_,rfl,rfl,q ι _ H (Go.refl _ _) hr (hg _ _ _ _)⟩
 ·exact AM
def n8{C:Int->Int->Prop}(hg:∀ι H i j,VR K ι H (g' i j) (g i j)):M2.Ok K (rI C g') (Jo C g):=by
 intro ι H h u v x y Q hr hu hv q;unfold Jo at q;dsimp only at q;revert q
 split
 ·intro q;cases hu;cases hv;exact⟨_,_,rfl,rfl,q.1,q.2 ι _ H (Go.refl _ _) hr (hg _ _ _ _)⟩
 ·exact AM
def uF:=aI λi j=>.int (i-j)
def gm:=Jo wf λi j=>.int (i*j)
def oDiv:=Jo yV λi j=>.int (i / j)
def oMod:=Jo (λ_ j=>0 < j) λi j=>.int (i % j)
def lE:=Jo yU λi j=>.int (i ^ j.toNat)
def oLt:=aI λi j=>.bl (decide (i < j))
def oLe:=aI λi j=>.bl (decide (i<=j))
def OY:=aI λi j=>.bl (decide (j < i))
def M9:=aI λi j=>.bl (decide (j<=i))
section
def aA.fh:∀{vs:O V}{l:O PV},aA K ι H vs l->(vs=[]↔l=[])
 | _,_,.nil=>by simp
 | _,_,.cons _ _=>by simp
end
end
section
variable{K:Aa}
section
def PV.ma:PV->Bool
 | .aB=>true
 | _=>false
def tE:M2:=⟨λx y h Q=>match y with | .aB=>Q (.bl (!x.ma)) h | _=>False,λf q=>by
 revert q
 split
 ·exact f _ _
 ·exact λz=>z⟩
def uO{x:PV}(h:VR K ι H v x):decide (v=.aB)=x.ma:=by cases h <;> simp[PV.ma]
def w6:M2.Ok K (λx y H Q=>y=.aB/\Q (.bl (!decide (x=.aB))) H) tE:=by
 intro ι H h u v x y Q hr hu hv q;cases hv with
 | aB=>exact⟨rfl,q ι _ H (Go.refl _ _) hr (by rw[uO hu];exact .bl _)⟩
 | _=>exact q.elim
def xa:M2:=⟨λx y h Q=>match x,y with | .bl i,.bl j=>Q (.bl (i==j)) h | _,_=>False,λf q=>by
 revert q
 split
 ·exact f _ _
 ·exact λz=>z⟩
def iP:M2:=⟨λx y h Q=>match x,y with | .bl i,.bl j=>Q (.bl (!(i==j))) h | _,_=>False,λf q=>by
 revert q
 split
 ·exact f _ _
 ·exact λz=>z⟩
def zW:M2.Ok K (λx y H Q=>∃i j,x=.bl i/\y=.bl j/\Q (.bl (i==j)) H) xa:=by
 intro ι H h u v x y Q hr hu hv q;cases hu <;> first
  | exact q.elim
  | (cases hv <;> first | exact q.elim | exact⟨_,_,rfl,rfl,q ι _ H (Go.refl _ _) hr (.bl _)⟩)
def qS:M2.Ok K (λx y H Q=>∃i j,x=.bl i/\y=.bl j/\Q (.bl (!(i==j))) H) iP:=by
 intro ι H h u v x y Q hr hu hv q;cases hu <;> first
  | exact q.elim
  | (cases hv <;> first | exact q.elim | exact⟨_,_,rfl,rfl,q ι _ H (Go.refl _ _) hr (.bl _)⟩)
end
end
end PL
variable{l:O PL.PV}
namespace PL
section
variable{K:Aa}
section
def v8{v':V}{w:ce}(h:RelV v w)(h':RelV v' w):v=v':=Option.some.inj (h.abs.symm.trans h'.abs)
end
section
variable{c:jp}
def U1(a:MQ)(b:ME):ME:=⟨λps h Q=>a.run ps h λS h1=>b.run ps h1 λy h2=>match y with
 | .int k=>S.ok h2/\match cF S.items k with | some v=>Q v h2 | none=>False
 | _=>False,λf q=>a.mono (λ_ _ q=>b.mono (λ_ _ q=>by
  revert q
  split
  ·rintro⟨q0,q⟩;refine⟨q0,?_⟩;revert q
   split
   ·exact f _ _
   ·exact λz=>z
  ·exact λz=>z) q) q⟩
def aA.cF(r:aA K ι H vs l){k:Int}{p:PV}(e:L2.cF l k=al p):∃v,L2.cF vs k=al v/\VR K ι H v p:=by
 unfold L2.cF at e ⊢;rw[r.length];cases z:nh l.length k with
 | none=>rw[z]at e;cases e
 | some j=>
  rw[z]at e;exact r.get e
def w9:M2:=⟨λx y h Q=>match x,y with
 | .str z,.int k=>z.length<=sizeLine/\match L2.cF z.cps.toList k with | some c=>Q (.str ⟨#[c]⟩) h | none=>False
 | _,_=>False,λf q=>by
  revert q
  split
  ·rintro⟨q0,q⟩;refine⟨q0,?_⟩;revert q
   split
   ·exact f _ _
   ·exact λz=>z
  ·exact λz=>z⟩
def zV:M2.Ok K Hi w9:=by
 intro ι H h u v x y Q hr hu hv q;unfold w9 at q;dsimp only at q;revert q
 split
 ·rename_i z k;rintro⟨q0,q⟩;cases hu;cases hv;cases e:L2.cF z.cps.toList k with
  | none=>rw[e]at q;exact q.elim
  | some c=>rw[e]at q;exact⟨z,k,c,rfl,rfl,q0,e,q ι _ H (Go.refl _ _) hr (.str _)⟩
 ·exact AM
def eG:qp:=⟨λl h Q=>match l with
 | [.str y]=>y.length<=sizeLine/\Q (.int y.length) h
 | [.tup l]=>Q (.int l.length) h
 | [.cl l]=>Q (.int l.length) h
 | [.ref n]=>match h[n]? with
  | some (.lst xs)=>Q (.int xs.length) h
  | _=>False
 | _=>False,λf q=>by
  revert q
  split
  ·exact λq=>⟨q.1,f _ _ q.2⟩
  ·exact f _ _
  ·exact f _ _
  ·split
   ·exact f _ _
   ·exact λz=>z
  ·exact λz=>z⟩
def FQ(K:Aa):qp.Ok K (Hh K) eG:=by
 intro ι H h vs l Q hr hv q;unfold eG at q;dsimp only at q;revert q
 split
 ·intro q;cases hv with
  | cons x t=>cases t;cases x;exact⟨_,_,rfl,⟨q.1,rfl⟩,q.2 ι _ H (Go.refl _ _) hr (.int _)⟩
 ·intro q;cases hv with
  | cons x t=>
   cases t;cases x with
   | tup e r=>exact⟨_,_,rfl,.inr ⟨_,cf.of e,r.length.symm⟩,q ι _ H (Go.refl _ _) hr (.int _)⟩
 ·intro q;cases hv with
  | cons x t=>
   cases t;cases x with
   | cl e r=>exact⟨_,_,rfl,.inl ⟨_,e.sq,r.length.symm⟩,q ι _ H (Go.refl _ _) hr (.int _)⟩
 ·rename_i n;cases hv with
  | cons x t=>
   cases t;cases x with
   | @ref _ a e=>
   split
   ·rename_i xs hn;intro q;obtain⟨ws,e1,e2⟩:=hr.obj n a _ e hn;exact⟨_,_,rfl,.inl ⟨ws,cp.of e1,e2.length.symm⟩,q ι _ H (Go.refl _ _) hr (.int _)⟩
   ·exact AM
 ·exact AM
inductive Kd where
 | str | tup | int | bool
def Kd.name:Kd->String
 | .str=>"str" | .tup=>"tuple" | .int=>"int" | .bool=>"bool"
def Kd.is:Kd->PV->Bool
 | .str,.str _=>true
 | .tup,.tup _=>true
 | .int,.int _=>true
 | .int,.bl _=>true
 | .bool,.bl _=>true
 | _,_=>false
def KI(K:Aa):O V->Hp->VK->Prop:=λxs H Q=>∃x c t b,xs=[x,.ty c]/\(gG K H x t\/(t=.type "tuple"/\∃a vs,x=.ref a/\cf K H a vs))/\A6 K t (.type c)=al b/\Q (.bl b) H
def vi(K:Aa)(hK:X.K=K):bG X (.builtin "isinstance") (KI K):=by
 subst hK;intro U s σ H xs us Q I r h;obtain⟨x,c,t,b,rfl,ty | ⟨rfl,a,vs,rfl,hT⟩,e,q⟩:=h
 ·exact gE U s σ H _ us Q I r ⟨x,c,t,b,rfl,ty,e,q⟩
 ·obtain⟨u,w,rfl,r1,r2⟩:=vals2 r;cases r1;cases r2;obtain⟨ay,_,⟨o,h1,h2,_⟩,_⟩:=I.tuple hT;exact AV EC I.gL ⟨o,h1,h2⟩ e (λz=>nomatch z) λtk=>⟨.bl b,H,I.tok _,rfl,q⟩
def jV(K:Aa):(∀k:Kd,A6 K (.type "NoneType") (.type k.name)=al false)/\(∀k:Kd,A6 K (.type "list") (.type k.name)=al false)/\(∀k:Kd,A6 K (.type "dict") (.type k.name)=al false):=
 ⟨λk=>by cases k <;> kernel_rfl,λk=>by cases k <;> kernel_rfl,λk=>by cases k <;> kernel_rfl⟩
def Ia(K:Aa)(b:Bool)(k:Kd):A6 K (.type "bool") (.type k.name)=al (k.is (.bl b)):=by cases k <;> kernel_rfl
def E8(K:Aa)(b:Int)(k:Kd):A6 K (.type "int") (.type k.name)=al (k.is (.int b)):=by cases k <;> kernel_rfl
def E7(K:Aa)(b:Str)(k:Kd):A6 K (.type "str") (.type k.name)=al (k.is (.str b)):=by cases k <;> kernel_rfl
def E6(K:Aa)(b:O PV)(k:Kd):A6 K (.type "tuple") (.type k.name)=al (k.is (.tup b)):=by cases k <;> kernel_rfl
def pX:qp:=⟨λl h Q=>match l with | [.int i]=>Q (.int (if i < 0 then -i else i)) h | _=>False,λf q=>by
 revert q
 split
 ·exact f _ _
 ·exact λz=>z⟩
def FT:qp.Ok K (λxs H Q=>∃i,xs=[.int i]/\Q (.int (if i < 0 then -i else i)) H) pX:=by
 intro ι H h vs l Q hr hv q;unfold pX at q;dsimp only at q;revert q
 split
 ·intro q;cases hv with
  | cons x t=>cases t;cases x;exact⟨_,rfl,q ι _ H (Go.refl _ _) hr (.int _)⟩
 ·exact AM
def nU:qp:=⟨λl h Q=>match l with | [.int i]=>Q (.int i) h | [.bl k]=>Q (.int (if k then 1 else 0)) h | _=>False,λf q=>by
 revert q
 split
 ·exact f _ _
 ·exact f _ _
 ·exact λz=>z⟩
def FR:qp.Ok K (λxs H Q=>(∃i,xs=[.int i]/\Q (.int i) H)\/∃k,xs=[.bl k]/\Q (.int (if k then 1 else 0)) H) nU:=by
 intro ι H h vs l Q hr hv q;unfold nU at q;dsimp only at q;revert q
 split
 ·intro q;cases hv with
  | cons x t=>cases t;cases x;exact .inl ⟨_,rfl,q ι _ H (Go.refl _ _) hr (.int _)⟩
 ·intro q;cases hv with
  | cons x t=>cases t;cases x;exact .inr ⟨_,rfl,q ι _ H (Go.refl _ _) hr (.int _)⟩
 ·exact AM
end
end
section
variable{K:Aa}
section
def wd(K:Aa):O V->Hp->VK->Prop:=λxs H Q=>∃p ys,xs=[.ref p]/\((cp K H p ys/\ik H (.tup ys) Q)\/(cf K H p ys/\Q (.ref p) H))
def vg(K:Aa)(hK:X.K=K):bG X (.type "tuple") (wd K):=by
 subst hK;exact lO.mono λxs H Q ⟨p,ys,e,h⟩=>⟨p,ys,e,h.imp (λ⟨h1,h2⟩=>⟨h1,λl hl=>h2.at l hl⟩) λz=>z⟩
theorem ml:∀{bs:O Bool}{vs:O V},aA K ι H vs (bs.map PV.bl)->vs=bs.map V.bl
 | [],_,h=>by cases h;rfl
 | b::bs,_,h=>by
  cases h with
  | cons x t=>cases x;rw[ml t];rfl
structure Vh where
 run:oz->PH->(Src->PH->Prop)->Prop
 mono:∀{ps h}{Q Q':Src->PH->Prop},(∀v h',Q v h'->Q' v h')->run ps h Q->run ps h Q'
structure MO where
 run:oz->PH->(Option Int->PH->Prop)->Prop
 mono:∀{ps h}{Q Q':Option Int->PH->Prop},(∀v h',Q v h'->Q' v h')->run ps h Q->run ps h Q'
def PO.imp{e:Option jp}{t t':TO}(h:L2.PO X e t)(f:∀σ H Q,t' σ H Q->t σ H Q):L2.PO X e t':=λU s σ H Q I q=>h U s σ H Q I (f _ _ _ q)
def lN(xs:O PV)(lo hi:Option Int):O PV:=(xs.drop (HT.lW xs.length 0 lo)).take (HT.lW xs.length xs.length hi-HT.lW xs.length 0 lo)
def aA.cut(r:aA K ι H vs l)(lo hi:Option Int):aA K ι H (vf vs lo hi) (lN l lo hi):=by
 unfold vf lN;rw[r.length];exact(r.drop _).take _
end
end
end PL
variable{tp:Ci}
namespace PL
section
variable{K:Aa}
section
variable{c:jp}{p:Pos}
def iV(lo:Int)(n:Nat):O PV:=(BN n).map λ(i:Nat)=>.int (lo+(i:Int))
def eV(lo:Int)(n:Nat):(iV lo n).length=n:=by unfold iV;simp
def jr{lo:Int}{p:PV}(h:(iV lo n)[i]?=al p):i < n/\p=.int (lo+i):=by
 unfold iV at h;rw[Ak]at h;cases z:(BN n)[i]? with
 | none=>rw[z]at h;cases h
 | some k=>
  rw[z]at h;obtain⟨h1,h2⟩:=Ai.mp z;simp at h1 h2;subst h2;exact⟨h1,(Option.some.inj h).symm⟩
def iZ(k:Nat):O PV->O PV
 | []=>[]
 | x::l=>.tup [.int (k:Int),x]::iZ (k+1) l
theorem cX:∀(k:Nat) (l:O PV),(iZ k l).length=l.length
 | _,[]=>rfl
 | k,x::l=>by rw[iZ,Av,Av,cX]
theorem gU:∀{k:Nat}{l:O PV}{i:Nat}{p:PV},(iZ k l)[i]?=al p->∃x,l[i]?=al x/\p=.tup [.int ((k+i:Nat):Int),x]
 | _,[],_,_,h=>by simp[iZ]at h
 | k,x::l,0,p,h=>by simp[iZ]at h;subst h;exact⟨x,rfl,by simp⟩
 | k,x::l,i+1,p,h=>by
  obtain⟨y,h1,h2⟩:=gU (by simpa[iZ]using h);exact⟨y,by simpa using h1,by rw[h2,show k+1+i=k+(i+1) by omega]⟩
def Io(K:Aa)(t1:TE):TI:=λσ H R=>t1 σ H λx H1=>∃a,x=.ref a/\(((∃xs,cp K H1 a xs)/\R (MN K a) H1)\/((∃xs,cf K H1 a xs)/\R (RM K a) H1))
def wD{X:Cx}(K:Aa)(hK:X.K=K)(hg:Gl X "enumerate")(hm:X.mg "enumerate"=bn)(h1:PE X e1 t1)
  (Fj:dA X e1 []:=by rfl):PI X (.Tuple Õ kk tp) (.Call (.Name "enumerate" p1) [e1] [] p2) (Io K t1):=by
 subst hK;intro U s σ H R I h;refine AQ (fo I hg hm boot_enumerate ?_ ⋯ ⋯);refine Bd ?_ Fj rfl;rw[Fj];refine BZ (aY (h1 U s σ H _ I h) λu1 s1 ⟨x,H1,I1,r1,a,ex,hh⟩=>Cn ?_);subst ex;cases r1;have d1:s1.heap.objs.size+1≠s1.heap.objs.size:=Nat.succ_ne_self _;rcases hh with⟨⟨xs,hx⟩,q⟩ | ⟨⟨xs,hx⟩,q⟩
 ·obtain⟨ay,rx,tx,_⟩:=I1.list hx;refine call_enumerate_list tx.isList λh' ze hi _ k=>?_;refine CZ ze ?_;refine⟨_,_,_,_,H1,rfl,I1.kept k,qD d1,⟨⟨_,ze⟩,hi⟩,λc hc=>?_,q⟩;have Ø:s1.heap.objs.size<=c:=by
   simp at hc;rcases hc with rfl | rfl
   ·exact C7 _ _
   ·exact Aj _
  exact I1.uV Ø (I1.aV.fresh Ø)
 ·obtain⟨ay,rx,tx,_⟩:=I1.tuple hx;have l1:=let ⟨_,e,_⟩:=tx;Ao e;refine rY tx λh' ze hi k=>?_;refine CZ ze ?_;refine⟨_,_,_,_,H1,rfl,I1.kept k,uo d1 (Az (Aw l1 (C7 _ 1))) (Az l1),⟨⟨_,ze⟩,hi⟩,λc hc=>?_,q⟩;have Ø:s1.heap.objs.size<=c:=by
   simp at hc;rcases hc with rfl | rfl
   ·exact C7 _ _
   ·exact Aj _
  exact I1.uV Ø (I1.aV.fresh Ø)
end
end
end PL
variable{p3 p4:Ci}
namespace PL
section
variable{K:Aa}{p:Pos}
section
structure JC(X:Cx)(K:Aa)(op:CmpOp)(b:jp)(m:M2):Prop where
 p:∃r,dB X (im op) r/\M2.Ok K r m
 k:pc op b=false
def Lr:JC X K .Lt b oLt:=⟨⟨_,tm,p9 λ_ _ _ _=>.bl _⟩,cy _⟩
def xA:JC X K .LtE b oLe:=⟨⟨_,K0,p9 λ_ _ _ _=>.bl _⟩,cy _⟩
def Ls:JC X K .Gt b OY:=⟨⟨_,K1,p9 λ_ _ _ _=>.bl _⟩,cy _⟩
def Lu:JC X K .GtE b M9:=⟨⟨_,K2,p9 λ_ _ _ _=>.bl _⟩,cy _⟩
def Fc:JC X K .IsNot b tE:=⟨⟨_,zL,w6⟩,cy _⟩
def xB:JC X K .Is b xa:=⟨⟨_,wU,zW⟩,cy _⟩
def l7:JC X K .IsNot b iP:=⟨⟨_,oX,qS⟩,cy _⟩
def zU:M2:=⟨λx y h Q=>match x,y with | .str i,.str j=>Q (.bl (decide (i.cps.toList < j.cps.toList))) h | _,_=>False,λf q=>by
 revert q
 split
 ·exact f _ _
 ·exact λz=>z⟩
def Ih:JC X K .Lt b zU:=⟨⟨_,uD,by
 intro ι H h u v x y Q hr hu hv q;unfold zU at q;dsimp only at q;revert q
 split
 ·intro q;cases hu;cases hv;exact⟨_,_,rfl,rfl,q ι _ H (Go.refl _ _) hr (.bl _)⟩
 ·exact AM⟩,cy _⟩
def zX:M2:=⟨λx y h Q=>match x,y with | .str i,.str j=>Q (.bl (!(Builtin.Str.occurrences j i 0 j.length 1).isEmpty)) h | _,_=>False,λf q=>by
 revert q
 split
 ·exact f _ _
 ·exact λz=>z⟩
def Ii(hk:pc .In b=false):JC X K .In b zX:=⟨⟨_,lX,by
 intro ι H h u v x y Q hr hu hv q;unfold zX at q;dsimp only at q;revert q
 split
 ·intro q;cases hu;cases hv;exact⟨_,_,rfl,rfl,q ι _ H (Go.refl _ _) hr (.bl _)⟩
 ·exact AM⟩,hk⟩
end
end
section
variable{K:Aa}
section
def yi(h:aA K ι H vs l):vs.isEmpty=l.isEmpty:=by cases h <;> rfl
theorem ni:∀{ns:O Int}{vs:O V},aA K ι H vs (ns.map PV.int)->vs=ns.map V.int
 | [],_,h=>by cases h;rfl
 | b::bs,_,h=>by
  cases h with
  | cons x t=>cases x;rw[ni t];rfl
theorem nj(ι:O db)(H:Hp):∀ns:O Int,aA K ι H (ns.map V.int) (ns.map PV.int)
 | []=>.nil
 | n::ns=>.cons (.int n) (nj ι H ns)
end
end
end PL
variable{a:AL}
namespace L2
section
variable{σ:St}{s:eM}
def Inv.freeze(I:Inv X U σ H s)(e:H a=al (.dT aw)):∃o,Inv X U σ (upd H a (.dc o (.dT aw))) s:=by
 obtain⟨z,hs,xs,r,o,es,ep,h1,h2,h3,h4,h5⟩:=(show bu X.prog X.w H s.heap a (.dT aw) from I.aV a _ e);refine⟨o,?_⟩;have q:=I.write (x:=a) (e:=a) (o:=.dc o (.dT aw)) (h':=s.heap) (t':=s.toks) (by rw[e];exact Bz) (.inl rfl) (λb u _ z=>z) ⟨o,h1⟩
  ⟨h1,z,hs,xs,KT.keeps r λb ys eb=>by rw[ax (o6 eb e (λz=>nomatch z))];exact eb,o,es,ep,h1,h2,h3,h4,h5⟩
 exact q
end
end L2
variable{o:L2.HO}{v:PL.PV}{ws:O (Bv×L2.V)}{fz:O (AL×EY)}{φ:O L2.V->Prop}
noncomputable section
namespace FL
section
variable{K:Aa}
structure W(α:Type) where
 run:(α->Prop)->Prop
 mono:∀{Q Q':α->Prop},(∀a,Q a->Q' a)->run Q->run Q'
namespace W
variable{α β γ:Type}
def ext'{a b:W α}(h:∀Q,a.run Q↔b.run Q):a=b:=by
 cases a;cases b;congr;funext Q;exact propext (h Q)
noncomputable def ret(a:α):W α:=⟨λQ=>Q a,λh q=>h _ q⟩
noncomputable def bind(w:W α)(k:α->W β):W β:=⟨λQ=>w.run λa=>(k a).run Q,λh q=>w.mono (λa q=>(k a).mono h q) q⟩
def fail:W α:=⟨λ_=>False,λ_ q=>q⟩
def e7(p:Prop)(w:W α):W α:=⟨λQ=>p/\w.run Q,λh q=>⟨q.1,w.mono h q.2⟩⟩
def any(p:α->Prop):W α:=⟨λQ=>∀a,p a->Q a,λh q a pa=>h a (q a pa)⟩
def Jz:Option α->W α
 | some a=>ret a
 | none=>fail
@[simp] theorem af(a:α)(k:α->W β):bind (ret a) k=k a:=(rfl)
@[simp] theorem bind_assoc(w:W α)(f:α->W β)(g:β->W γ):bind (bind w f) g=bind w λa=>bind (f a) g:=(rfl)
@[simp] theorem MH(w:W α):bind w ret=w:=(rfl)
@[simp] theorem JP(k:α->W β):bind fail k=fail:=(rfl)
@[simp] theorem ai(a:α)(Q:α->Prop):(ret a).run Q=Q a:=(rfl)
@[simp] theorem run_bind(w:W α)(k:α->W β)(Q:β->Prop):(bind w k).run Q=w.run λa=>(k a).run Q:=(rfl)
@[simp] theorem Kz(Q:α->Prop):(fail:W α).run Q=False:=(rfl)
@[simp] theorem sW(p Q:α->Prop):(any p).run Q=∀a,p a->Q a:=(rfl)
@[simp] theorem zr(p:Prop)(w:W α)(Q:α->Prop):(e7 p w).run Q=(p/\w.run Q):=(rfl)
@[simp] theorem yA(p:Prop)(w:W α)(k:α->W β):bind (e7 p w) k=e7 p (bind w k):=(rfl)
def az{p:Prop}{w:W α}(h:p):e7 p w=w:=ext' λQ=>⟨λq=>q.2,λq=>⟨h,q⟩⟩
@[simp] theorem Mu{w:W α}:e7 True w=w:=az trivial
@[simp] theorem aP(a:α):Jz (al a)=ret a:=(rfl)
@[simp] theorem K5:Jz (bn:Option α)=fail:=(rfl)
end W
inductive FD where
 | v (p:PV) | o (b:db) (l:List PV)
def fdB:O (Str×FD)->O db
 | []=>[]
 | (_,.v _)::l=>fdB l
 | (_,.o b _)::l=>b::fdB l
inductive FdR(K:Aa)(H:Hp):List (Str×V)->List (Str×FD)->Prop
 | nil:FdR K H [] []
 | v {n:Str}{u:V}{p:PV}{ws:List (Str×V)}{fd:List (Str×FD)} (r:VR K [] H u p) (t:FdR K H ws fd):FdR K H ((n,u)::ws) ((n,.v p)::fd)
 | o {n:Str}{b:db}{vs:List V}{l:List PV}{ws:List (Str×V)}{fd:List (Str×FD)} (e:H b=al (.lst vs)) (r:aA K [] H vs l) (t:FdR K H ws fd):FdR K H ((n,.ref b)::ws) ((n,.o b l)::fd)
inductive SL where
 | val (v:PV) | adr (b:db) (us:List V) (ps:List PV) (fz:List (db×Obj)) | ol (q:Option db) (l:List PV) | M8 (bs:List db) (ls:List (List PV)) | od (aw:List (Key×PV)) | ot (aw:List (List Key×PV)) | jg (φ:List V->Prop) | ob (q C:db) (fd:List (Str×FD))
abbrev bj:=O (Option SL)
def mz(H:Hp)(fz:O (db×Obj)):Prop:=∀p∈fz,∃u,H p.1=al (.dc p.2 u)
def mz.tk(h:mz H fz)(t:aN K H H'):mz H' fz:=λp hp=>let ⟨u,e⟩:=h p hp;⟨u,t.z _ _ _ e⟩
def mz.nil:mz H []:=λ_ h=>nomatch h
def _root_.L2.HO.nt:HO->Bool
 | .jJ _=>false
 | _=>true
def _root_.L2.HO.ow:HO->Bool
 | .lst _=>true
 | .dK _=>true
 | .dT _=>true
 | .ins _ _ _=>true
 | _=>false
def Gh(h:o.ow=true):o.nt=true:=by cases o <;> first | rfl | cases h
class bD where
 ts:List (db×Str)
def QE(H:Hp)(c:ce)(q:Str):Prop:=∃a o u vs t,c=.ref a/\H a=al (.dc o u)/\o.data=.fields vs/\vs[1]?=al (.str q t)
variable[bD]
def TB(H:Hp):Prop:=∀p∈bD.ts,∃ps,H p.1=al (.jJ ps)/\TriplesOk ps.toList/\∀pos c,Ev pos ps.toList=al c->QE H c p.2
def TB.mono(h:TB H)(h1:∀a ps,H a=al (.jJ ps)->H' a=al (.jJ ps))(h2:∀a o u vs,H a=al (.dc o u)->o.data=.fields vs->∃u,H' a=al (.dc o u)):TB H':=λp hp=>by
 obtain⟨ps,e,q,k⟩:=h p hp;refine⟨ps,h1 _ _ e,q,λpos c z=>?_⟩;obtain⟨a,o,u,vs,t,e1,e2,e3,e4⟩:=k pos c z;obtain⟨u',e5⟩:=h2 a o u vs e2 e3;exact⟨a,o,u',vs,t,e1,e5,e3,e4⟩
def TB.same(h:TB H)(s:dh H H'):TB H':=h.mono (λa _ z=>s a _ z) λa _ _ _ z _=>⟨_,s a _ z⟩
def TB.vU{ob:HO}(h:TB H)(s:hO a H H')(e:H a=al ob)(n1:ob.nt=true)(n2:∀o u,ob≠.dc o u):TB H':=
 h.mono (λb _ z=>s b _ (λy=>by subst y;rw[e]at z;cases z;cases n1) z) λb _ _ _ z _=>⟨_,s b _ (λy=>by subst y;rw[e]at z;cases z;exact n2 _ _ rfl) z⟩
def SL.own:SL->Bool
 | .val _=>false
 | .adr _ _ _ _=>false
 | _=>true
def SL.Gs:SL->O db
 | .M8 bs _=>bs
 | .ob _ _ fd=>fdB fd
 | _=>[]
def SL.has(s:SL)(x a:db):Prop:=a=x\/a∈s.Gs
def eZ(K:Aa)(H:Hp)(a:db):SL->Prop
 | .val _=>False
 | .adr b us ps fz=>a=b/\aA K [] H us ps/\mz H fz
 | .M8 bs ls=>H a=al (.lst (bs.map V.ref))/\a∉bs/\bs.Nodup/\bs.length=ls.length/\∀(j:Nat) (b:db) (l:O PV),bs[j]?=al b->ls[j]?=al l->∃ws,H b=al (.lst ws)/\aA K [] H ws l
 | .ol q l=>(∀b,q=al b->a=b)/\∃vs,H a=al (.lst vs)/\aA K [] H vs l
 | .od aw=>∃vs:O (Key×V),H a=al (.dK vs)/\vs.map (·.1)=aw.map (·.1)/\aA K [] H (vs.map (·.2)) (aw.map (·.2))
 | .ot aw=>∃vs:O (O Key×V),H a=al (.dT vs)/\vs.map (·.1)=aw.map (·.1)/\aA K [] H (vs.map (·.2)) (aw.map (·.2))
 | .jg φ=>∃vs,H a=al (.lst vs)/\φ vs
 | .ob q C fd=>a=q/\uh K C/\(∀p∈fd,di K C p.1)/\a∉fdB fd/\(fdB fd).Nodup/\∃dx ws,H a=al (.ins C dx ws)/\FdR K H ws fd
def my(K:Aa)(H:Hp)(u:V)(s:SL):Prop:=(∃v,s=.val v/\VR K [] H u v)\/∃a,u=.ref a/\eZ K H a s
def bW(σ:L2.St)(fs:bj)(a:db):Prop:=∃(i:Nat) (s:SL) (x:db),fs[i]?=al (al s)/\s.own=true/\σ[i]?=al (al (.ref x))/\s.has x a
def fM(σ:L2.St)(fs:bj)(φ:O V->Prop)(a:db):Prop:=∃i:Nat,fs[i]?=al (al (.jg φ))/\σ[i]?=al (al (.ref a))
structure aM(K:Aa)(H:Hp)(σ:L2.St)(fs:bj):Prop where
 len:σ.length=fs.length
 at':∀(i:Nat) (s:SL),fs[i]?=al (al s)->∃u,σ[i]?=al (al u)/\my K H u s
 nd:∀(i j:Nat) (s t:SL) (x y a:db),fs[i]?=al (al s)->fs[j]?=al (al t)->s.own=true->t.own=true->σ[i]?=al (al (.ref x))->σ[j]?=al (al (.ref y))->s.has x a->t.has y a->i=j
 tb:TB H
structure bP(σ:L2.St)(fs:bj)(H:Hp)(σ':L2.St)(aZ:bj)(H':Hp):Prop where
 keep:∀a o,H a=al o->¬bW σ fs a->(o.nt=true->H' a=al o)/\¬bW σ' aZ a
 there:∀a,H' a=bn->H a=bn
 pk:∀a φ,fM σ fs φ a->fM σ' aZ φ a\/(¬bW σ' aZ a/\∃vs,H' a=al (.lst vs)/\φ vs)
structure cI(σ:L2.St)(fs:bj)(H H':Hp):Prop where
 keep:∀a o,H a=al o->(∀φ,¬fM σ fs φ a)->(nt:o.nt=true:=by rfl)->H' a=al o
 there:∀a,H' a=bn->H a=bn
section
variable{σ σ' σ1 σ2:L2.St}{fs aZ xP da:bj}{H H' H1 H2:Hp}
def fM.lD(p:fM σ fs φ a):bW σ fs a:=let ⟨i,e1,e2⟩:=p;⟨i,_,_,e1,rfl,e2,.inl rfl⟩
def cI.refl:cI σ fs H H:=⟨λ_ _ h _ _=>h,λ_ h=>h⟩
def cI.trans(a:cI σ fs H H1)(b:cI σ fs H1 H2):cI σ fs H H2:=⟨λx o h n t=>b.keep x o (a.keep x o h n t) n t,λx h=>a.there x (b.there x h)⟩
def cI.f(g:cI σ fs H H'):bP σ fs H σ fs H':=⟨λa o h n=>⟨λt=>g.keep a o h (λφ p=>n p.lD) t,n⟩,g.there,λa φ p=>.inl p⟩
def cI.kE(g:cI σ fs H H')(h:H a=al o)(n:¬bW σ fs a)(t:o.nt=true:=by rfl):H' a=al o:=g.keep a o h (λφ p=>n p.lD) t
def cI.same(h:dh H H'):cI σ fs H H':=⟨λa o e _ _=>h a o e,λa e=>(by
 cases z:H a with
 | none=>rfl
 | some o=>rw[h a o z]at e;cases e)⟩
def FdR.ex{fd:O (Str×FD)}(h:FdR K H ws fd){c:db}(hc:c∈fdB fd):∃vs,H c=al (.lst vs):=by
 induction h with
 | nil=>cases hc
 | v r t ih=>exact ih hc
 | @o n b vs l ws fd e r t ih=>
  rcases AA.mp (hc) with rfl | hc
  ·exact⟨vs,e⟩
  ·exact ih hc
def eZ.ex{c:db}{s:SL}(h:eZ K H a s)(ho:s.own=true)(hc:s.has a c):∃o,H c=al o/\(∀vs,o≠.tup vs)/\(∀ob u,o≠.dc ob u)/\o.ow=true:=by
 cases s with
 | val _=>exact h.elim
 | adr _ _ _ _=>cases ho
 | ol q l=>obtain⟨_,vs,e,_⟩:=h;rcases hc with rfl | hc;exact⟨_,e,by simp,by simp,rfl⟩;cases hc
 | M8 bs ls=>
  obtain⟨e,_,_,hl,hb⟩:=h;rcases hc with rfl | hc
  ·exact⟨_,e,by simp,by simp,rfl⟩
  ·obtain⟨j,hj⟩:=BH (hc);obtain⟨ws,e,_⟩:=hb j c _ hj (Ag (by rw[<- hl];exact((Ai.mp hj).1)));exact⟨_,e,by simp,by simp,rfl⟩
 | od l=>obtain⟨vs,e,_⟩:=h;rcases hc with rfl | hc;exact⟨_,e,by simp,by simp,rfl⟩;cases hc
 | ot l=>obtain⟨vs,e,_⟩:=h;rcases hc with rfl | hc;exact⟨_,e,by simp,by simp,rfl⟩;cases hc
 | jg l=>obtain⟨vs,e,_⟩:=h;rcases hc with rfl | hc;exact⟨_,e,by simp,by simp,rfl⟩;cases hc
 | ob q C fd=>
  obtain⟨_,_,_,_,_,dx,ws,e,r⟩:=h;rcases hc with rfl | hc
  ·exact⟨_,e,by simp,by simp,rfl⟩
  ·obtain⟨vs,e⟩:=r.ex hc;exact⟨_,e,by simp,by simp,rfl⟩
def aM.ownAt(s:aM K H σ fs){t:SL}(h1:fs[i]?=al (al t))(h2:t.own=true)(h3:σ[i]?=al (al (.ref a))):eZ K H a t:=by
 obtain⟨u,e,r⟩:=s.at' i t h1;rw[h3]at e;cases e;rcases r with⟨v,rfl,_⟩ | ⟨b,e,r⟩
 ·cases h2
 ·cases e;exact r
def aM.lD(s:aM K H σ fs)(h:bW σ fs a):∃o,H a=al o/\(∀vs,o≠.tup vs)/\(∀ob u,o≠.dc ob u)/\o.ow=true:=by
 obtain⟨i,t,x,h1,h2,h3,h4⟩:=h;exact(s.ownAt h1 h2 h3).ex h2 h4
def aM.noOwn(s:aM K H σ fs)(h:H a=bn):¬bW σ fs a:=λz=>by
 obtain⟨o,e,_⟩:=s.lD z;rw[h]at e;cases e
def aM.HM(s:aM K H σ fs)(h:H a=al (.tup vs)):¬bW σ fs a:=λz=>by
 obtain⟨o,e,n,_⟩:=s.lD z;rw[h]at e;cases e;exact n vs rfl
def aM.HN(s:aM K H σ fs){ob:Obj}{u:HO}(h:H a=al (.dc ob u)):¬bW σ fs a:=λz=>by
 obtain⟨o,e,_,n,_⟩:=s.lD z;rw[h]at e;cases e;exact n ob u rfl
def aM.HL(s:aM K H σ fs){φ:lm->Prop}(h:H a=al (.ext φ)):¬bW σ fs a:=λz=>by
 obtain⟨o,e,_,_,n⟩:=s.lD z;rw[h]at e;cases e;cases n
def bP.refl:bP σ fs H σ fs H:=⟨λ_ _ h n=>⟨λ_=>h,n⟩,λ_ h=>h,λ_ _ h=>.inl h⟩
def bP.zZ(a:bP σ fs H σ1 xP H1)(b:bP σ1 xP H1 σ2 da H2){x:db}(h:H x=al o)(n:¬bW σ fs x):¬bW σ2 da x:=by
 cases z:H1 x with
 | none=>rw[a.there x z]at h;cases h
 | some o1=>exact(b.keep x o1 z ((a.keep x o h n).2)).2
def bP.trans(a:bP σ fs H σ1 xP H1)(b:bP σ1 xP H1 σ2 da H2):bP σ fs H σ2 da H2:=
 ⟨λx o h n=>⟨λt=>let ⟨h1,n1⟩:=a.keep x o h n;(b.keep x o (h1 t) n1).1 t,a.zZ b h n⟩,λx h=>a.there x (b.there x h),λx φ h=>(a.pk x φ h).elim (b.pk x φ) λ⟨n,vs,e,p⟩=>.inr (let ⟨h1,n1⟩:=b.keep x _ e n;⟨n1,vs,h1 rfl,p⟩)⟩
def bP.cu(g:bP σ fs H σ' aZ H')(s:aM K H σ fs):aN K H H':=
 ⟨λa vs h=>(g.keep a _ h (s.HM h)).1 rfl,λa o u h=>(g.keep a _ h (s.HN h)).1 rfl,xk λa φ h=>(g.keep a _ h (s.HL h)).1 rfl⟩
def VR.tk{u:V}(t:aN K H H')(r:VR K [] H u v):VR K [] H' u v:=r.mono t λ_ _ e=>e
def aA.tk{u:O V}{v:O PV}(t:aN K H H')(r:aA K [] H u v):aA K [] H' u v:=r.mono t λ_ _ e=>e
def bP.vr(g:bP σ fs H σ' aZ H')(s:aM K H σ fs){u:V}(r:VR K [] H u v):VR K [] H' u v:=VR.tk (g.cu s) r
def cI.cu(g:cI σ fs H H')(s:aM K H σ fs):aN K H H':=g.f.cu s
def cI.vr(g:cI σ fs H H')(s:aM K H σ fs){u:V}(r:VR K [] H u v):VR K [] H' u v:=VR.tk (g.cu s) r
def cI.uk(g:cI σ fs H H')(s:aM K H σ fs){u:O V}{v:O PV}(r:aA K [] H u v):aA K [] H' u v:=aA.tk (g.cu s) r
def FdR.mono{fd:O (Str×FD)}(t:aN K H H')(h:FdR K H ws fd)(e:∀c vs,c∈fdB fd->H c=al (.lst vs)->H' c=al (.lst vs)):FdR K H' ws fd:=by
 induction h with
 | nil=>exact .nil
 | v r _ ih=>exact .v (VR.tk t r) (ih e)
 | @o n b vs l ws fd q r _ ih=>exact .o (e b vs (.head _) q) (aA.tk t r) (ih λc vs hc=>e c vs (.tail _ hc))
def eZ.mono{s:SL}(t:aN K H H')(e:∀c o,s.own=true->s.has a c->H c=al o->o.nt=true->H' c=al o)(h:eZ K H a s):eZ K H' a s:=by
 cases s with
 | val _=>exact h
 | adr _ _ _ _=>exact⟨h.1,aA.tk t h.2.1,h.2.2.tk t⟩
 | ol _ l=>obtain⟨z,vs,q,r⟩:=h;exact⟨z,vs,e _ _ rfl (.inl rfl) q rfl,aA.tk t r⟩
 | M8 bs ls=>
  obtain⟨z,h1,h2,h3,h4⟩:=h;refine⟨e _ _ rfl (.inl rfl) z rfl,h1,h2,h3,λj b l hb hl=>?_⟩;obtain⟨ws,q,r⟩:=h4 j b l hb hl;exact⟨ws,e _ _ rfl (.inr (AB hb)) q rfl,aA.tk t r⟩
 | od l=>obtain⟨vs,q,k,r⟩:=h;exact⟨vs,e _ _ rfl (.inl rfl) q rfl,k,aA.tk t r⟩
 | ot l=>obtain⟨vs,q,k,r⟩:=h;exact⟨vs,e _ _ rfl (.inl rfl) q rfl,k,aA.tk t r⟩
 | jg φ=>obtain⟨vs,q,k⟩:=h;exact⟨vs,e _ _ rfl (.inl rfl) q rfl,k⟩
 | ob q C fd=>obtain⟨h0,h1,h2,h3,h4,dx,ws,q,r⟩:=h;exact⟨h0,h1,h2,h3,h4,dx,ws,e _ _ rfl (.inl rfl) q rfl,r.mono t λc vs hc q=>e c _ rfl (.inr hc) q rfl⟩
def my.mono{u:V}{s:SL}(t:aN K H H')(e:∀x a o,u=.ref x->s.own=true->s.has x a->H a=al o->o.nt=true->H' a=al o)(h:my K H u s):my K H' u s:=by
 rcases h with⟨v,q,r⟩ | ⟨a,q,r⟩
 ·exact .inl ⟨v,q,VR.tk t r⟩
 ·exact .inr ⟨a,q,r.mono t (λc o z y w nt=>e a c o q z y w nt)⟩
def aM.same(s:aM K H σ fs)(h:dh H H'):aM K H' σ fs:=⟨s.len,λi t e=>let ⟨u,h1,h2⟩:=s.at' i t e;⟨u,h1,h2.mono h.dj (λ_ a o _ _ _ z _=>h a o z)⟩,s.nd,s.tb.same h⟩
def bP.same(h:dh H H')(s:aM K H σ fs):bP σ fs H σ fs H':=⟨λa o e n=>⟨λ_=>h a o e,n⟩,λa e=>(by
 cases z:H a with
 | none=>rfl
 | some o=>rw[h a o z]at e;cases e),λa φ p=>.inl p⟩
inductive fV:bj->bj->Prop
 | nil:fV [] []
 | drop {s:Option SL}{a b:bj} (h:fV a b):fV (s::a) (bn::b)
 | keep {s:Option SL}{a b:bj} (h:fV a b):fV (s::a) (s::b)
theorem fV.at{a b:bj}(h:fV a b):∀(i:Nat) (s:SL),b[i]?=al (al s)->a[i]?=al (al s):=by
 induction h with
 | nil=>intro i s e;simp at e
 | drop h ih=>intro i s e;cases i with | zero=>simp at e | succ i=>simp at e ⊢;exact ih i s e
 | keep h ih=>intro i s e;cases i with | zero=>simpa using e | succ i=>simp at e ⊢;exact ih i s e
theorem fV.length{a b:bj}(h:fV a b):a.length=b.length:=by induction h <;> simp_all
theorem fV.refl:∀a:bj,fV a a
 | []=>.nil
 | _::a=>.keep (fV.refl a)
def aM.le(s:aM K H σ fs)(h:fV fs aZ):aM K H σ aZ:=⟨s.len.trans h.length,λi t e=>s.at' i t (h.at i t e),λi j t u x y a e1 e2=>s.nd i j t u x y a (h.at i t e1) (h.at j u e2),s.tb⟩
def bW.le(h:fV fs aZ)(o:bW σ aZ a):bW σ fs a:=let ⟨i,t,x,e1,e2,e3⟩:=o;⟨i,t,x,h.at i t e1,e2,e3⟩
def bP.le(s:aM K H σ fs)(h:fV fs aZ):bP σ fs H σ aZ H:=⟨λa o e n=>⟨λ_=>e,λz=>n (z.le h)⟩,λ_ e=>e,λa φ p=>by
 obtain⟨i,e1,e2⟩:=p;by_cases c:bW σ aZ a
 ·obtain⟨j,t,x,c1,c2,c3,c4⟩:=c;have ij:=s.nd i j _ t a x a e1 (h.at j t c1) rfl c2 e2 c3 (.inl rfl) c4;subst ij;have:=h.at i t c1;rw[e1]at this;cases this;exact .inl ⟨i,c1,e2⟩
 ·obtain⟨vs,q,r⟩:=s.ownAt e1 rfl e2;exact .inr ⟨c,vs,q,r⟩⟩
def bX{l:O (Option α)}{x y:α}(h:(l.set i (al x))[j]?=al (al y)):(j=i/\y=x)\/(j≠i/\l[j]?=al (al y)):=by
 by_cases c:j=i
 ·subst c;rw[List.getElem?_set]at h;simp at h;exact .inl ⟨rfl,h.2.symm⟩
 ·rw[Cv (λz=>c z.symm)]at h;exact .inr ⟨c,h⟩
def bJ{l:List α}{x:α}(h:i < l.length):(l.set i x)[i]?=al x:=by rw[List.getElem?_set];simp[h]
def aL{l:List α}{x:α}(h:j≠i):(l.set i x)[j]?=l[j]?:=Cv (λz=>h z.symm)
def aM.put(s:aM K H σ fs){u:V}{t:SL}(hr:my K H u t)(hf:∀x a,u=.ref x->t.own=true->t.has x a->∀(j:Nat) (w:SL) (y:db),j≠i->fs[j]?=al (al w)->w.own=true->σ[j]?=al (al (.ref y))->¬w.has y a):aM K H (σ.set i (al u)) (fs.set i (al t)):=by
 refine⟨by simp[s.len],λj w e=>?_,λj k w x b1 b2 a e1 e2 o1 o2 q1 q2 z1 z2=>?_,s.tb⟩
 ·rcases bX e with⟨rfl,rfl⟩ | ⟨n,e⟩
  ·have hl:j < σ.length:=by
    have:=(Ai.mp e).1;rw[Cg]at this;rw[s.len];exact this
   exact⟨u,bJ hl,hr⟩
  ·obtain⟨v,h1,h2⟩:=s.at' j w e;exact⟨v,by rw[aL n];exact h1,h2⟩
 ·rcases bX e1 with⟨y1,y2⟩ | ⟨n1,f1⟩ <;> rcases bX e2 with⟨y3,y4⟩ | ⟨n2,f2⟩
  ·exact y1.trans y3.symm
  ·subst y1;subst y2;rw[aL n2]at q2;have hl:j < σ.length:=by have:=(Ai.mp q1).1;simpa using this
   rw[bJ hl]at q1;cases q1;exact absurd z2 (hf _ a rfl o1 z1 k x b2 n2 f2 o2 q2)
  ·subst y3;subst y4;rw[aL n1]at q1;have hl:k < σ.length:=by have:=(Ai.mp q2).1;simpa using this
   rw[bJ hl]at q2;cases q2;exact absurd z1 (hf _ a rfl o2 z2 j w b1 n1 f1 o1 q1)
  ·rw[aL n1]at q1;rw[aL n2]at q2;exact s.nd j k w x b1 b2 a f1 f2 o1 o2 q1 q2 z1 z2
def aM.fN(s:aM K H σ fs){u:V}(hr:VR K [] H u v)(i:Nat):aM K H (σ.set i (al u)) (fs.set i (al (.val v))):=s.put (.inl ⟨v,rfl,hr⟩) λ_ _ _ z=>by cases z
def oV{u:V}{t:SL}(o:bW (σ.set i (al u)) (fs.set i (al t)) a)(hl:σ.length=fs.length):bW σ fs a\/∃x,u=.ref x/\t.own=true/\t.has x a:=by
 obtain⟨j,w,x,e1,e2,e3,e4⟩:=o;rcases bX e1 with⟨rfl,rfl⟩ | ⟨n,e1⟩
 ·have h2:j < σ.length:=by have:=(Ai.mp e3).1;simpa using this
  rw[bJ h2]at e3;cases e3;exact .inr ⟨x,rfl,e2,e4⟩
 ·rw[aL n]at e3;exact .inl ⟨j,w,x,e1,e2,e3,e4⟩
def sY(s:aM K H σ fs){u:V}{t:SL}(p:fM σ fs φ a)(hu:∀x,u=.ref x->t.own=true->t.has x a->t=.jg φ):fM (σ.set i (al u)) (fs.set i (al t)) φ a\/¬bW (σ.set i (al u)) (fs.set i (al t)) a:=by
 obtain⟨j,e1,e2⟩:=p;by_cases c:j=i
 ·subst c;by_cases c2:∃x,u=.ref x/\t.own=true/\t.has x a
  ·obtain⟨x,c3,c4,c5⟩:=c2;have et:=hu x c3 c4 c5;subst et;rcases c5 with rfl | c5
   ·exact .inl ⟨j,by rw[bJ ((Ai.mp e1).1)],by rw[bJ ((Ai.mp e2).1),c3]⟩
   ·cases c5
  ·refine .inr λo=>?_;obtain⟨k,w,y,q1,q2,q3,q4⟩:=o;rcases bX q1 with⟨rfl,rfl⟩ | ⟨n,q1⟩
   ·rw[bJ ((Ai.mp e2).1)]at q3;cases q3;exact c2 ⟨y,rfl,q2,q4⟩
   ·rw[aL n]at q3;exact n (s.nd k j w _ y a a q1 e1 q2 rfl q3 e2 q4 (.inl rfl))
 ·exact .inl ⟨j,by rw[aL c];exact e1,by rw[aL c];exact e2⟩
def bP.fN(s:aM K H σ fs)(u:V)(v:PV)(i:Nat):bP σ fs H (σ.set i (al u)) (fs.set i (al (.val v))) H:=
 ⟨λa o e n=>⟨λ_=>e,λz=>(oV z s.len).elim n λ⟨_,_,z,_⟩=>by cases z⟩,λ_ e=>e,λa φ p=>(sY s p (λ_ _ z=>by cases z)).imp id λn=>⟨n,by
  obtain⟨j,e1,e2⟩:=p;obtain⟨vs,q,r⟩:=s.ownAt e1 rfl e2;exact⟨vs,q,r⟩⟩⟩
def aM.wq(s:aM K H σ fs){t:SL}(hr:eZ K H a t)(hn:∀c,t.has a c->¬bW σ fs c)(i:Nat):aM K H (σ.set i (al (.ref a))) (fs.set i (al t)):=s.put (.inr ⟨a,rfl,hr⟩) λx c e _ hc j w y n e1 e2 e3 z=>by
 cases e;exact hn c hc ⟨j,w,y,e1,e2,e3,z⟩
def nu{t:SL}(hi:t.Gs=[]){c:db}(h:t.has a c):c=a:=by
 rcases h with h | h
 ·exact h
 ·rw[hi]at h;cases h
def aM.mM(s:aM K H σ fs){t:SL}(hr:eZ K H a t)(hn:¬bW σ fs a)(i:Nat)(hi:t.Gs=[]:=by rfl):aM K H (σ.set i (al (.ref a))) (fs.set i (al t)):=s.wq hr (λc hc=>by rw[nu hi hc];exact hn) i
def bP.wq(s:aM K H1 σ fs)(g:bP σ fs H σ fs H1){t:SL}(hn:∀c,t.has a c->¬bW σ fs c)(h0:∀c,t.has a c->H c=bn)(i:Nat):bP σ fs H (σ.set i (al (.ref a))) (fs.set i (al t)) H1:=by
 refine⟨λb o e n=>⟨(g.keep b o e n).1,λz=>(oV z s.len).elim n λ⟨x,z,_,y⟩=>?_⟩,g.there,λb φ p=>?_⟩
 ·cases z;rw[h0 b y]at e;cases e
 ·obtain⟨j,e1,e2⟩:=p;obtain⟨vs,q,r⟩:=s.ownAt e1 rfl e2;refine(sY s ⟨j,e1,e2⟩ (λx z o y=>?_)).imp id λn=>⟨n,vs,q,r⟩;cases z;exact absurd ⟨j,_,_,e1,rfl,e2,.inl rfl⟩ (hn b y)
def bP.mM(s:aM K H1 σ fs)(g:bP σ fs H σ fs H1){t:SL}(hn:¬bW σ fs a)(h0:H a=bn)(i:Nat)(hi:t.Gs=[]:=by rfl):bP σ fs H (σ.set i (al (.ref a))) (fs.set i (al t)) H1:=bP.wq s g (λc hc=>by rw[nu hi hc];exact hn) (λc hc=>by rw[nu hi hc];exact h0) i
def oW(s:aM K H σ fs){t t':SL}{c:db}(e1:fs[i]?=al (al t))(o:t.own=true)(np:∀φ,t≠.jg φ)(e2:σ[i]?=al (al (.ref a)))(hc:t.has a c)(qk:t'.has a c)(uR:∀b,t'.has a b->t.has a b)(o':t'.own=true)(sx:hO c H H')(ht:aN K H H'->eZ K H' a t'):aM K H' σ (fs.set i (al t'))/\bP σ fs H σ (fs.set i (al t')) H':=by
 have oa:=s.ownAt e1 o e2;obtain⟨ob,q,n1,n2,n3⟩:=oa.ex o hc;have tk:aN K H H':=⟨λb vs z=>sx b _ (λy=>by subst y;rw[q]at z;cases z;exact n1 _ rfl) z,λb o u z=>sx b _ (λy=>by subst y;rw[q]at z;cases z;exact n2 _ _ rfl) z,xk λb φ z=>sx b _ (λy=>by subst y;rw[q]at z;cases z;cases n3) z⟩;have QU:=ht tk;have hi:i < fs.length:=(Ai.mp e1).1;have zK:∀b,bW σ (fs.set i (al t')) b->bW σ fs b:=λb z=>by
  obtain⟨j,w,x,z1,z2,z3,z4⟩:=z;rcases bX z1 with⟨rfl,rfl⟩ | ⟨n,z1⟩
  ·rw[e2]at z3;cases z3;exact⟨j,t,a,e1,o,e2,uR b z4⟩
  ·exact⟨j,w,x,z1,z2,z3,z4⟩
 refine⟨⟨by simp[s.len],λj w e=>?_,λj k w x b1 b2 b z1 z2 o1 o2 q1 q2 y1 y2=>?_,s.tb.vU sx q (Gh n3) n2⟩,⟨λb ob e n=>⟨λ_=>sx b ob (λz=>by subst z;exact n ⟨i,t,a,e1,o,e2,hc⟩) e,λz=>n (zK b z)⟩,λb e=>?_,λb φ p=>?_⟩⟩
 ·rcases bX e with⟨rfl,rfl⟩ | ⟨n,e⟩
  ·exact⟨_,e2,.inr ⟨a,rfl,QU⟩⟩
  ·obtain⟨u,h1,h2⟩:=s.at' j w e;refine⟨u,h1,h2.mono tk (λx b ob eb ow hb z _=>sx b ob (λy=>?_) z)⟩;subst y;subst eb;exact n (s.nd j i w t x a b e e1 ow o h1 e2 hb hc)
 ·have f:∀{j:Nat}{w:SL}{y:db},(fs.set i (al t'))[j]?=al (al w)->w.own=true->σ[j]?=al (al (.ref y))->w.has y b->∃w',fs[j]?=al (al w')/\w'.own=true/\w'.has y b:=λ{j w y} z ow qy hy=>by
   rcases bX z with⟨rfl,rfl⟩ | ⟨n,z⟩
   ·rw[e2]at qy;cases qy;exact⟨t,e1,o,uR b hy⟩
   ·exact⟨w,z,ow,hy⟩
  obtain⟨w',a1,a2,a3⟩:=f z1 o1 q1 y1;obtain⟨x',c1,c2,c3⟩:=f z2 o2 q2 y2;exact s.nd j k w' x' b1 b2 b a1 c1 a2 c2 q1 q2 a3 c3
 ·cases z:H b with
  | none=>rfl
  | some ob=>
   by_cases cc:b=c
   ·subst cc;obtain⟨o2,y,_⟩:=QU.ex o' qk;rw[e]at y;cases y
   ·rw[sx b ob cc z]at e;cases e
 ·obtain⟨j,p1,p2⟩:=p;have ji:j≠i:=λz=>by subst z;rw[e1]at p1;cases p1;exact np φ rfl
  exact .inl ⟨j,by rw[aL ji];exact p1,p2⟩
def ib(s:aM K H σ fs){t t':SL}(e1:fs[i]?=al (al t))(o:t.own=true)(np:∀φ,t≠.jg φ)(e2:σ[i]?=al (al (.ref a)))(sx:hO a H H')(ht:aN K H H'->eZ K H' a t')(hi:t'.Gs=t.Gs:=by rfl)(o':t'.own=true:=by rfl):aM K H' σ (fs.set i (al t'))/\bP σ fs H σ (fs.set i (al t')) H':=
 oW s e1 o np e2 (.inl rfl) (.inl rfl) (λb h=>by unfold SL.has at h ⊢;rw[hi]at h;exact h) o' sx ht
end
end
end FL
open FL.W renaming bind→am,ret→ap,run_bind→f8,af→lf,ai→mo,az→sw,ext'→ww,aP→FB
local macro_rules | `($a\$b)=>`(am (ap $a) $b)
variable{u:L2.V}{fs aZ:FL.bj}{σ':L2.St}{wa wb wc:FL.W PL.PV}{wl:FL.W (O PL.PV)}
namespace FL
section
variable[bD]
variable{K:Aa}
def fE(K:Aa)(fs:bj)(w:W PV):TE:=λσ H Q=>aM K H σ fs/\w.run λv=>∀u H',cI σ fs H H'->aM K H' σ fs->VR K [] H' u v->Q u H'
def fT(K:Aa)(fs:bj)(w:W Bool):TT:=λσ H Q=>aM K H σ fs/\w.run λb=>∀H',cI σ fs H H'->aM K H' σ fs->Q b H'
def fO(K:Aa)(fs:bj)(w:W (Option Int)):TO:=λσ H Q=>aM K H σ fs/\w.run λb=>∀H',cI σ fs H H'->aM K H' σ fs->Q b H'
def fL(K:Aa)(fs:bj)(w:W (O PV)):TE:=λσ H Q=>aM K H σ fs/\w.run λl=>∀a vs H',cI σ fs H H'->aM K H' σ fs->H a=bn->H' a=al (.lst vs)->aA K [] H' vs l->Q (.ref a) H'
def JU(K:Aa)(H:Hp)(u:V)(l:O PV):Prop:=∃a vs,u=.ref a/\(yS K H a vs\/H a=al (.tup vs))/\aA K [] H vs l
def F0(K:Aa)(σ:L2.St)(fs:bj)(H:Hp)(u:V)(l:O PV):Prop:=JU K H u l\/∃a,u=.ref a/\((¬bW σ fs a/\∃vs,H a=al (.lst vs)/\aA K [] H vs l)\/∃(i:Nat) (q:Option db),fs[i]?=al (al (.ol q l))/\σ[i]?=al (al (.ref a)))
def fQ(K:Aa)(fs:bj)(w:W (O PV)):TE:=λσ H Q=>aM K H σ fs/\w.run λl=>∀u H',cI σ fs H H'->aM K H' σ fs->F0 K σ fs H' u l->Q u H'
def fI(K:Aa)(fs:bj)(w:W (O PV)):TE:=λσ H Q=>aM K H σ fs/\w.run λl=>∀u H',cI σ fs H H'->aM K H' σ fs->JU K H' u l->Q u H'
inductive AK where
 | v | p (φ:List V->Prop) | f (a:db) (us:List V) (ps:List PV) (fz:List (db×Obj))
inductive cM(K:Aa)(σ:L2.St)(fs:bj)(H:Hp):List V->List AK->List PV->Prop
 | nil:cM K σ fs H [] [] []
 | v {u:V}{x:PV}{vs:List V}{ks:List AK}{l:List PV} (r:VR K [] H u x) (t:cM K σ fs H vs ks l):cM K σ fs H (u::vs) (.v::ks) (x::l)
 | p {a:db}{φ:List V->Prop}{vs:List V}{ks:List AK}{l:List PV} (r:fM σ fs φ a) (t:cM K σ fs H vs ks l):cM K σ fs H (.ref a::vs) (.p φ::ks) l
 | f {a:db}{us vs:List V}{ps:List PV}{fz:List (db×Obj)}{ks:List AK}{l:List PV} (r:aA K [] H us ps) (z:mz H fz) (t:cM K σ fs H vs ks l):cM K σ fs H (.ref a::vs) (.f a us ps fz::ks) l
def fA(K:Aa)(fs:bj)(ks:O AK)(w:W (O PV)):TA:=λσ H Q=>aM K H σ fs/\w.run λl=>∀vs H',cI σ fs H H'->aM K H' σ fs->cM K σ fs H' vs ks l->Q vs H'
structure EF(X:Cx)(K:Aa)(fs:bj)(e:jp)(w:W PV):Prop where p:PE X e (fE K fs w)
structure LF(X:Cx)(K:Aa)(fs:bj)(e:jp)(w:W (List PV)):Prop where p:PE X e (fL K fs w)
structure QF(X:Cx)(K:Aa)(fs:bj)(e:jp)(w:W (List PV)):Prop where p:PE X e (fQ K fs w)
structure IF(X:Cx)(K:Aa)(fs:bj)(e:jp)(w:W (List PV)):Prop where p:PE X e (fI K fs w)
structure TF(X:Cx)(K:Aa)(fs:bj)(e:jp)(w:W Bool):Prop where p:PT X e (fT K fs w)
structure qf(X:Cx)(K:Aa)(fs:bj)(e:jp)(w:W Bool):Prop where p:PW X e (fT K fs w)
structure OF(X:Cx)(K:Aa)(fs:bj)(e:Option jp)(w:W (Option Int)):Prop where p:L2.PO X e (fO K fs w)
structure AF(X:Cx)(K:Aa)(fs:bj)(es:List jp)(ks:List AK){R:Type}(B:(List PV->W R)->W R):Prop where
 p:∃w:W (List PV),PA X es (fA K fs ks w)/\∀k,B k=am w k
section
def JU.tk(t:aN K H H')(h:JU K H u l):JU K H' u l:=by
 obtain⟨a,vs,e,q,r⟩:=h;exact⟨a,vs,e,q.imp (t.f _ _) (t.t _ _),aA.tk t r⟩
def F0.go(h:F0 K σ fs H u l)(s:aM K H σ fs)(g:cI σ fs H H'):F0 K σ fs H' u l:=by
 rcases h with h | ⟨a,e,⟨n,vs,q,r⟩ | q⟩
 ·exact .inl (h.tk (g.cu s))
 ·exact .inr ⟨a,e,.inl ⟨n,vs,(g.kE q n),g.uk s r⟩⟩
 ·exact .inr ⟨a,e,.inr q⟩
def F0.sq(h:F0 K σ fs H u l)(s:aM K H σ fs):∃a vs,u=.ref a/\(cp K H a vs\/cf K H a vs)/\aA K [] H vs l:=by
 rcases h with⟨a,vs,e,q,r⟩ | ⟨a,e,⟨n,vs,q,r⟩ | ⟨i,_,q1,q2⟩⟩
 ·exact⟨a,vs,e,q.elim (λq=>.inl q.sq) λq=>.inr (cf.of q),r⟩
 ·exact⟨a,vs,e,.inl (cp.of q),r⟩
 ·obtain⟨_,vs,q,r⟩:=s.ownAt q1 rfl q2;exact⟨a,vs,e,.inl (cp.of q),r⟩
end
section
variable{a c o:jp}{rest:O jp}{w:W PV}
def ag(i:Nat){x:Str}(hs:fs[i]?=al (al (.val v)):=by rfl)(hN:X.N[i]?=al x:=by rfl)(hv:qa X.env.scope x:=by first | exact Bm rfl | exact BG (Bm rfl) | exact BG (BG rfl))(hd:eJ x:=by decide)(eW:qo x:=by decide):EF X K fs (.Name x pos) (.ret v):=
 ⟨PE.imp (cL hN hv hd eW) λσ H Q ⟨sr,q⟩=>by
  obtain⟨u,e1,r⟩:=sr.at' i _ hs;rcases r with⟨w,e,r⟩ | ⟨a,_,r⟩
  ·cases e;exact⟨u,e1,q u H .refl sr r⟩
  ·exact r.elim⟩
def JQ{v:V}{p:PV}(hv:∀H,VR K [] H v p)(h:PE X e (tC v)):EF X K fs e (.ret p):=⟨PE.imp h λσ H Q ⟨sr,q⟩=>q v H .refl sr (hv _)⟩
def aq{i j}:EF X K fs (.Constant (.int i) j pos) (.ret (.int i)):=JQ (λ_=>.int i) de
def dP{b j}:EF X K fs (.Constant (.bool b) j pos) (.ret (.bl b)):=JQ (λ_=>.bl b) wN
def ym{j}:EF X K fs (.Constant .none j pos) (.ret .aB):=JQ (λ_=>.aB) mS
def jG{x j}:EF X K fs (.Constant (.str x) j pos) (.ret (.str x)):=JQ (λ_=>.str x) gc
def Je{x:Str}{i:Int}{t:Tok}(hm:X.mg x=al (.int i t))(hg:Gl X x)(hd:eJ x:=by decide):EF X K fs (.Name x pos) (.ret (.int i)):=JQ (λ_=>.int i) (gJ hg hm ⟨_,rfl⟩ hd)
def Jd{x:Str}{i:Str}{t:Tok}(hm:X.mg x=al (.str i t))(hg:Gl X x)(hd:eJ x:=by decide):EF X K fs (.Name x pos) (.ret (.str i)):=JQ (λ_=>.str i) (gJ hg hm ⟨_,rfl⟩ hd)
def of2(m:M2)(x y:PV):W PV:=⟨λQ=>m.f x y [] λz h=>h=[]/\Q z,λf q=>m.mono (λ_ _ q=>⟨q.1,f _ q.2⟩) q⟩
def Q5(H:Hp):HR K [] H []:=⟨List.nodup_nil,rfl,λn a o e _=>by simp at e⟩
def QS{Q:VK}{z:PV}{h:PH}(sr:aM K H σ fs)(q:h=[]/\∀u H',cI σ fs H H'->aM K H' σ fs->VR K [] H' u z->Q u H'):pQ K [] H Q z h:=λι' v H' g r x=>by
 obtain⟨e,q⟩:=q;subst e;have:ι'=[]:=Bk r.len;subst this;have sm:dh H H':=λa o z=>g.keep a o (by simp) z;exact q v H' (cI.same sm) (sr.same sm) x
def qQ{r:R2}{m:M2}(hm:M2.Ok K r m){Q:VK}{v:V}{x y:PV}(sr:aM K H σ fs)(hu:VR K [] H u x)(hv:VR K [] H v y)(q:(of2 m x y).run λz=>∀u H',cI σ fs H H'->aM K H' σ fs->VR K [] H' u z->Q u H'):r u v H Q:=
 hm (Q5 H) hu hv (m.mono (λz h q=>QS sr q) q)
def tP{r:R2}{m:M2}(hm:M2.Ok K r m):∀σ H Q,fE K fs (.bind wa λx=>.bind wb λy=>of2 m x y) σ H Q->F8 r (fE K fs wa) (fE K fs wb) σ H Q:=λσ H Q ⟨sr,q⟩=>
 ⟨sr,wa.mono (λx q1 u1 H1 g1 s1 v1=>⟨s1,wb.mono (λy q2 u2 H2 g2 s2 v2=>qQ hm s2 (g2.vr s1 v1) v2 ((of2 m x y).mono (λz q u3 H3 g3 s3 v3=>q u3 H3 ((g1.trans g2).trans g3) s3 v3) q2)) q1⟩) q⟩
def yk{op:Operator}{r:R2}{m:M2}(ho:dB X (sn op) r)(hm:M2.Ok K r m)(ha:EF X K fs a wa)(hb:EF X K fs b wb):EF X K fs (.BinOp a op b pos) (.bind wa λx=>.bind wb λy=>of2 m x y):=⟨PE.imp (km ho ha.p hb.p) (tP hm)⟩
def tT(ha:EF X K fs a wa)(hb:EF X K fs b wb):EF X K fs (.BinOp a .Sub b pos) (.bind wa λx=>.bind wb λy=>of2 uF x y):=yk wR (p9 λ_ _ _ _=>.int _) ha hb
def i5(ha:EF X K fs a wa)(hb:EF X K fs b wb):EF X K fs (.BinOp a .Mult b pos) (.bind wa λx=>.bind wb λy=>of2 gm x y):=yk zN (n8 λ_ _ _ _=>.int _) ha hb
def yr(ha:EF X K fs a wa)(hb:EF X K fs b wb):EF X K fs (.BinOp a .FloorDiv b pos) (.bind wa λx=>.bind wb λy=>of2 oDiv x y):=yk zO (n8 λ_ _ _ _=>.int _) ha hb
def g8(ha:EF X K fs a wa)(hb:EF X K fs b wb):EF X K fs (.BinOp a .Mod b pos) (.bind wa λx=>.bind wb λy=>of2 oMod x y):=yk HD (n8 λ_ _ _ _=>.int _) ha hb
def tU(ha:EF X K fs a wa)(hb:EF X K fs b wb):EF X K fs (.BinOp a .Pow b pos) (.bind wa λx=>.bind wb λy=>of2 lE x y):=yk HB (n8 λ_ _ _ _=>.int _) ha hb
def xj:PV->W PV
 | .int i=>.ret (.int (-i))
 | _=>.fail
def yn(ha:EF X K fs a wa):EF X K fs (.UnaryOp .USub a pos) (.bind wa xj):=⟨PE.imp (wG qz ha.p) λσ H Q ⟨sr,q⟩=>⟨sr,wa.mono (λx q1 u1 H1 g1 s1 v1=>by
 cases v1 with
 | int i=>exact⟨_,rfl,q1 _ H1 g1 s1 (.int _)⟩
 | _=>exact q1.elim) q⟩⟩
def JT:PV->W Bool
 | .bl b=>.ret b
 | _=>.fail
def fK{m:M2}(hc:JC X K op b m)(ha:EF X K fs a wa)(hb:EF X K fs b wb):EF X K fs (.Compare a [op] [b] pos) (.bind wa λx=>.bind wb λy=>of2 m x y):=let ⟨_,h1,h2⟩:=hc.p;⟨PE.imp (iL h1 ha.p hb.p hc.k) (tP h2)⟩
def IQ{w:W PV}:∀σ H Q,fT K fs (.bind w JT) σ H Q->(fE K fs w) σ H λx H'=>∃k,x=.bl k/\Q k H':=λσ H Q ⟨sr,q⟩=>⟨sr,w.mono (λx q1 u1 H1 g1 s1 v1=>by
 cases v1 with
 | bl b=>exact⟨b,rfl,q1 H1 g1 s1⟩
 | _=>exact q1.elim) q⟩
def dU{m:M2}(hc:JC X K op b m)(ha:EF X K fs a wa)(hb:EF X K fs b wb):TF X K fs (.Compare a [op] [b] pos) (.bind wa λx=>.bind wb λy=>.bind (of2 m x y) JT):=let ⟨_,h1,h2⟩:=hc.p
 ⟨PT.imp (fe h1 ha.p hb.p hc.k) λσ H Q q=>tP h2 σ H _ (IQ σ H Q q)⟩
def kY(z:PV)(w:W PV):W PV:=match z with
 | .bl true=>w
 | .bl false=>.ret (.bl false)
 | _=>.fail
def xW{r:R2}{m m':M2}(hm:M2.Ok K r m)(Tu:M2.Ok K r' m'):∀σ H Q,fE K fs (.bind wa λx=>.bind wb λy=>.bind (of2 m x y) λz=>kY z (.bind wc λw=>of2 m' y w)) σ H Q->vM r r' (fE K fs wa) (fE K fs wb) (fE K fs wc) σ H Q:=λσ H Q ⟨sr,q⟩=>
 ⟨sr,wa.mono (λx q1 u1 H1 g1 s1 v1=>⟨s1,wb.mono (λy q2 u2 H2 g2 s2 v2=>qQ hm s2 (g2.vr s1 v1) v2 ((of2 m x y).mono (λz q3 u3 H3 g3 s3 v3=>by
  have gg:=(g1.trans g2).trans g3;cases v3 with
  | bl k=>
   cases k with
   | true=>exact⟨true,rfl,by rw[if_pos rfl];exact⟨s3,wc.mono (λw q4 u4 H4 g4 s4 v4=>qQ Tu s4 ((g3.trans g4).vr s2 v2) v4 ((of2 m' y w).mono (λz q u5 H5 g5 s5 v5=>q u5 H5 ((gg.trans g4).trans g5) s5 v5) q4)) q3⟩⟩
   | false=>exact⟨false,rfl,by rw[if_neg AD];exact q3 _ H3 gg s3 (.bl _)⟩
  | _=>exact q3.elim) q2)) q1⟩) q⟩
def zd{m m':M2}(hc:JC X K op b m)(qk:JC X K Jy c m')(ha:EF X K fs a wa)(hb:EF X K fs b wb)(hd:EF X K fs c wc)(hk:lastMarks [op,Jy] [b,c]=false:=by with_unfolding_all rfl):TF X K fs (.Compare a [op,Jy] [b,c] pos) (.bind wa λx=>.bind wb λy=>.bind (of2 m x y) λz=>.bind (kY z (.bind wc λw=>of2 m' y w)) JT):=
 let ⟨_,h1,h2⟩:=hc.p;let ⟨_,h3,h4⟩:=qk.p;⟨PT.imp (wy h1 h3 ha.p hb.p hd.p hk) λσ H Q q=>xW h2 h4 σ H _ (IQ σ H Q q)⟩
def FV(x:PV)(w:W PV):W PV:=match x with
 | .bl true=>w
 | .bl false=>.ret (.bl false)
 | _=>.fail
def mi(ha:EF X K fs a wa)(hb:EF X K fs (.BoolOp .And (b::rest) pos) wb):EF X K fs (.BoolOp .And (a::b::rest) pos) (.bind wa λx=>FV x wb):=⟨PE.imp (wO ha.p hb.p) λσ H Q ⟨sr,q⟩=>⟨sr,wa.mono (λx q1 u1 H1 g1 s1 v1=>by
 cases v1 with
 | bl k=>
  cases k with
  | true=>exact⟨true,rfl,by rw[if_pos rfl];exact⟨s1,wb.mono (λ_ q u H' g s v=>q u H' (g1.trans g) s v) q1⟩⟩
  | false=>exact⟨false,rfl,by rw[if_neg AD];exact q1 _ H1 g1 s1 (.bl _)⟩
 | _=>exact q1.elim) q⟩⟩
def pM{op}(h:EF X K fs a wa):EF X K fs (.BoolOp op [a] pos) wa:=⟨wI h.p⟩
variable{ta tb tc:W Bool}
def sF(h:TF X K fs a ta):qf X K fs (.BoolOp .And [a] pos) ta:=⟨mK h.p⟩
def ia(h:TF X K fs a ta):qf X K fs (.BoolOp .Or [a] pos) ta:=⟨Hl h.p⟩
def vK(ha:TF X K fs a ta)(hb:qf X K fs (.BoolOp .And (b::rest) pos) tb):qf X K fs (.BoolOp .And (a::b::rest) pos) (.bind ta λk=>if k=true then tb else .ret false):=⟨PW.imp (qJ ha.p hb.p) λσ H Q ⟨sr,q⟩=>⟨sr,ta.mono (λk q1 H1 g1 s1=>by
 cases k with
 | true=>exact gX ⟨s1,tb.mono (λ_ q H' g s=>q H' (g1.trans g) s) q1⟩
 | false=>exact eU (q1 H1 g1 s1)) q⟩⟩
def jw(ha:TF X K fs a ta)(hb:qf X K fs (.BoolOp .Or (b::rest) pos) tb):qf X K fs (.BoolOp .Or (a::b::rest) pos) (.bind ta λk=>if k=true then .ret true else tb):=⟨PW.imp (KP ha.p hb.p) λσ H Q ⟨sr,q⟩=>⟨sr,ta.mono (λk q1 H1 g1 s1=>by
 cases k with
 | true=>exact gX (q1 H1 g1 s1)
 | false=>exact eU ⟨s1,tb.mono (λ_ q H' g s=>q H' (g1.trans g) s) q1⟩) q⟩⟩
def qf.t(h:qf X K fs a ta):TF X K fs a ta:=⟨PW.pt h.p⟩
def gZ(ha:TF X K fs a ta):TF X K fs (.UnaryOp .Not a pos) (.bind ta λk=>.ret (!k)):=⟨PT.imp (mO ha.p) λσ H Q ⟨sr,q⟩=>⟨sr,q⟩⟩
def Jc(hc:TF X K fs c tc)(ha:EF X K fs a wa)(hb:EF X K fs b wb):EF X K fs (.IfExp c a b pos) (.bind tc λk=>if k=true then wa else wb):=⟨PE.imp (wJ hc.p ha.p hb.p) λσ H Q ⟨sr,q⟩=>⟨sr,tc.mono (λk q1 H1 g1 s1=>by
 cases k with
 | true=>exact gX ⟨s1,wa.mono (λ_ q u H' g s v=>q u H' (g1.trans g) s v) q1⟩
 | false=>exact eU ⟨s1,wb.mono (λ_ q u H' g s v=>q u H' (g1.trans g) s v) q1⟩) q⟩⟩
def cH:PV->W Bool
 | .aB=>.ret false
 | .bl b=>.ret b
 | .int i=>.ret (i != 0)
 | .str y=>.e7 (y.length<=sizeLine) (.ret ((y.length:Int) != 0))
 | .tup l=>.ret (!l.isEmpty)
 | .cl l=>.ret (!l.isEmpty)
 | _=>.fail
def cJ(hK:X.K=K)(ha:EF X K fs a wa)(he:∀Á,isTrue a X.env Á=(do let v <- Á;CD a.pos;r9 [v] (truthy v))):TF X K fs a (.bind wa cH):=⟨PT.imp (eL K hK ha.p he) λσ H Q ⟨sr,q⟩=>⟨sr,wa.mono (λx q1 u1 H1 g1 s1 v1=>by
 cases v1 with
 | aB=>exact⟨false,rfl,q1 H1 g1 s1⟩
 | bl b=>exact⟨b,rfl,q1 H1 g1 s1⟩
 | int i=>exact⟨_,rfl,q1 H1 g1 s1⟩
 | str y=>exact⟨_,⟨q1.1,rfl⟩,q1.2 H1 g1 s1⟩
 | ty _=>exact q1.elim
 | dk _ _ _=>exact q1.elim
 | dt _ _ _=>exact q1.elim
 | ob _ _ _ _ _=>exact q1.elim
 | hand _=>exact q1.elim
 | ref _=>exact q1.elim
 | @tup p vs l e rs=>
  refine⟨!vs.isEmpty,.inr (.inl ⟨_,cf.of e,rfl⟩),?_⟩;rw[<- gs rs];exact q1 H1 g1 s1
 | @cl p vs l e rs=>
  refine⟨!vs.isEmpty,.inl ⟨_,e.sq,rfl⟩,?_⟩;rw[<- gs rs];exact q1 H1 g1 s1) q⟩⟩
def F6(hK:X.K=K)(ha:QF X K fs a wl)(he:∀Á,isTrue a X.env Á=(do let v <- Á;CD a.pos;r9 [v] (truthy v))):TF X K fs a (.bind wl λl=>.ret (!l.isEmpty)):=⟨PT.imp (eL K hK ha.p he) λσ H Q ⟨sr,q⟩=>⟨sr,wl.mono (λl q1 u1 H1 g1 s1 v1=>by
 obtain⟨b,vs,rfl,h,rs⟩:=v1.sq s1;refine⟨!vs.isEmpty,?_,?_⟩
 ·exact h.elim (λh=>.inl ⟨_,h,rfl⟩) λh=>.inr (.inl ⟨_,h,rfl⟩)
 ·rw[<- gs rs];exact q1 H1 g1 s1) q⟩⟩
variable{R:Type}{ks:O AK}{B:(O PV->W R)->W R}
def aj:AF X K fs [] [] (R:=R) (λk=>k []):=⟨.ret [],PA.imp aD λσ H Q ⟨sr,q⟩=>q [] H .refl sr .nil,λk=>rfl⟩
def ao(ha:EF X K fs e w)(hr:AF X K fs es ks B)(hs:dA X e es:=by rfl):AF X K fs (e::es) (.v::ks) (λk=>.bind w λx=>B λl=>k (x::l)):=by
 obtain⟨wr,hp,hB⟩:=hr.p;refine⟨.bind w λx=>.bind wr λl=>.ret (x::l),PA.imp (ak ha.p hp hs) λσ H Q ⟨sr,q⟩=>?_,λk=>?_⟩
 ·exact⟨sr,w.mono (λx q1 u1 H1 g1 s1 v1=>⟨s1,wr.mono (λl q2 vs H2 g2 s2 v2=>q2 _ H2 (g1.trans g2) s2 (.v (g2.vr s1 v1) v2)) q1⟩) q⟩
 ·have:(λx=>B λl=>k (x::l))=λx=>am wr λl=>k (x::l):=funext λx=>hB _;rw[this];rfl
def cR(i:Nat){x:Str}(hr:AF X K fs es ks B)(hs:fs[i]?=al (al (.jg φ)):=by rfl)(hN:X.N[i]?=al x:=by rfl)(hv:qa X.env.scope x:=by first | exact Bm rfl | exact BG (Bm rfl) | exact BG (BG rfl))(hd:eJ x:=by decide)(eW:qo x:=by decide)
  (jO:ii (.Name x pos::es) X.env=(false,lc (.Name x pos) X.env)::ii es X.env:=by rfl):AF X K fs (.Name x pos::es) (.p φ::ks) B:=by
 obtain⟨wr,hp,hB⟩:=hr.p;refine⟨wr,PA.imp (ak (cL hN hv hd eW) hp jO) λσ H Q ⟨sr,q⟩=>?_,hB⟩;obtain⟨u,e1,r⟩:=sr.at' i _ hs;rcases r with⟨v,e,_⟩ | ⟨a,e,r⟩
 ·cases e
 ·subst e;exact⟨_,e1,sr,wr.mono (λl q2 vs H2 g2 s2 v2=>q2 _ H2 g2 s2 (.p ⟨i,hs,e1⟩ v2)) q⟩
theorem cM.uk:∀{vs:O V}{n:Nat}{l:O PV},cM K σ fs H vs (Aq n .v) l->aA K [] H vs l/\l.length=n
 | _,0,_,.nil=>⟨.nil,rfl⟩
 | _,n+1,_,.v r t=>⟨.cons r (cM.uk t).1,by rw[Av,(cM.uk t).2]⟩
def Mf{x1}{B:(O PV->W PV)->W PV}(h:AF X K fs es (Aq n .v) B)(hn:n<=1000:=by decide):EF X K fs (.Tuple es x1 pos) (B λl=>.ret (.tup l)):=by
 obtain⟨w,hp,hB⟩:=h.p;rw[hB];refine⟨PE.imp (iK hp) λσ H Q ⟨sr,q⟩=>⟨sr,w.mono (λl q1 vs H1 g1 s1 v1=>?_) q⟩⟩;obtain⟨v2,hl⟩:=v1.uk;exact⟨by rw[v2.length,hl];exact cT hn,λp H2 s2 e2 n2=>q1 _ H2 (g1.trans (cI.same s2)) (s1.same s2) (.tup e2 (aA.tk s2.dj v2))⟩
def Gp{B:(O PV->W (O PV))->W (O PV)}(h:AF X K fs es (Aq n .v) B)(hn:n<=1000:=by decide):LF X K fs (.List es pos) (B λl=>.ret l):=by
 obtain⟨w,hp,hB⟩:=h.p;rw[hB];refine⟨PE.imp (mT hp) λσ H Q ⟨sr,q⟩=>⟨sr,w.mono (λl q1 vs H1 g1 s1 v1=>?_) q⟩⟩;obtain⟨v2,hl⟩:=v1.uk;exact⟨by rw[v2.length,hl];exact cT hn,λp H2 s2 e2 n2=>q1 _ _ H2 (g1.trans (cI.same s2)) (s1.same s2) (g1.there p n2) e2 (aA.tk s2.dj v2)⟩
end
end
end FL
namespace L2
def Inv.tM{σ:St}{s:eM}(I:Inv X U σ H s)(e:H a=al (.lst vs)):∃o,Inv X U σ (upd H a (.dc o (.lst vs))) s:=by
 obtain⟨z,ay,n,r,h1⟩:=(I.aV a _ e);exact⟨_,I.write (by rw[e];exact Bz) (.inl rfl) (λb u _ z=>z) ⟨_,h1⟩ ⟨h1,z,ay,n,r,h1⟩⟩
def Inv.Fv{σ:St}{s:eM}{aw:O (Key×V)}(I:Inv X U σ H s)(e:H a=al (.dK aw)):∃o,Inv X U σ (upd H a (.dc o (.dK aw))) s:=by
 obtain⟨z,hs,vs,r,o,es,ep,h1,h2⟩:=(I.aV a _ e);exact⟨o,I.write (by rw[e];exact Bz) (.inl rfl) (λb u _ z=>z) ⟨o,h1⟩ ⟨h1,z,hs,vs,r,o,es,ep,h1,h2⟩⟩
end L2
variable{t:FL.SL}{ks:O FL.AK}{B:(O PL.PV->FL.W PL.PV)->FL.W PL.PV}{wm:FL.W (O PL.PV)}{q0:Option AL}
namespace FL
section
variable[bD]
variable{K:Aa}
section
def jS(o':HO)(e:H a=al (.lst vs)):aN K H (upd H a o'):=⟨λb ws q=>by rw[ax (o6 q e (by intro z;cases z))];exact q,λb o u q=>by rw[ax (o6 q e (by intro z;cases z))];exact q,xk λb φ q=>by rw[ax (o6 q e (by intro z;cases z))];exact q⟩
def UD(aw:O (Key×PV)):PV:=.dv (aw.map λkv=>kP kv.1) (aw.map (·.2))
def UC(aw:O (O Key×PV)):PV:=.dv (aw.map λkv=>.tup (kv.1.map kP)) (aw.map (·.2))
def KY(h:o.ow=true):∀φ,o≠.ext φ:=λφ e=>by subst e;cases h
def iC{oh:HO}(o':HO)(e:H a=al oh)(n1:∀vs,oh≠.tup vs)(n2:∀o u,oh≠.dc o u)(n3:∀φ,oh≠.ext φ:=by first | (intro φ z;cases z;done) | exact KY (by assumption)):aN K H (upd H a o'):=⟨λb ws q=>by rw[ax (λz=>by subst z;rw[e]at q;cases q;exact n1 _ rfl)];exact q,λb o u q=>by rw[ax (λz=>by subst z;rw[e]at q;cases q;exact n2 _ _ rfl)];exact q,xk λb φ q=>by rw[ax (λz=>by subst z;rw[e]at q;cases q;exact n3 _ rfl)];exact q⟩
def Ln{vs:O (O Key×V)}{aw:O (O Key×PV)}(h:vs.map (·.1)=aw.map (·.1)):(aw.map λkv=>PV.tup (kv.1.map kP))=vs.map λkv=>PV.tup (kv.1.map kP):=by
 have:=congrArg (List.map λk:O Key=>PV.tup (k.map kP)) h;rw[C1,C1]at this;exact this.symm
def Lo{vs:O (Key×V)}{aw:O (Key×PV)}(h:vs.map (·.1)=aw.map (·.1)):(aw.map λkv=>kP kv.1)=vs.map λkv=>kP kv.1:=by
 have:=congrArg (List.map kP) h;rw[C1,C1]at this;exact this.symm
def SL.bw:SL->Bool
 | .ol _ _=>true
 | .od _=>true
 | .ot _=>true
 | _=>false
def SL.bv:SL->PV
 | .ol _ l=>.cl l
 | .od aw=>UD aw
 | .ot aw=>UC aw
 | _=>.aB
def SL.Jk(h:t.bw=true):t.own=true:=by cases t <;> first | rfl | cases h
def P5{s:eM}(I:Inv X U σ' H s)(oa:eZ K H a t)(hb:t.bw=true):∃ob o,H a=al o/\(∀vs,o≠.tup vs)/\(∀ob u,o≠.dc ob u)/\Inv X U σ' (upd H a (.dc ob o)) s/\VR K [] (upd H a (.dc ob o)) (.ref a) t.bv:=by
 cases t with
 | ol q l=>
  obtain⟨_,vs,e,r⟩:=oa;obtain⟨ob,I2⟩:=I.tM e;exact⟨ob,_,e,by simp,by simp,I2,.cl (.inl ⟨ob,aF⟩) (aA.tk (iC _ e (by simp) (by simp)) r)⟩
 | od l=>
  obtain⟨vs,e,k,r⟩:=oa;obtain⟨ob,I2⟩:=I.Fv e;exact⟨ob,_,e,by simp,by simp,I2,.dk aF (Lo k) (aA.tk (iC _ e (by simp) (by simp)) r)⟩
 | ot l=>
  obtain⟨vs,e,k,r⟩:=oa;obtain⟨ob,I2⟩:=I.freeze e;exact⟨ob,_,e,by simp,by simp,I2,.dt aF (Ln k) (aA.tk (iC _ e (by simp) (by simp)) r)⟩
 | _=>cases hb
def aM.P4{u:HO}(sr:aM K H σ fs)(hs:fs[i]?=al (al t))(ho:t.own=true)(e1:σ[i]?=al (al (.ref a)))(h1:H a=al o)(n1:∀vs,o≠.tup vs)(n2:∀ob u,o≠.dc ob u)(vr:VR K [] (upd H a u) (.ref a) v):aM K (upd H a u) σ (fs.set i (al (.val v))):=by
 have ow:o.ow=true:=by
  obtain⟨o',z1,_,_,z2⟩:=(sr.ownAt hs ho e1).ex ho (.inl rfl);rw[h1]at z1;cases z1;exact z2
 have nt:o.nt=true:=Gh ow;refine⟨by simp[sr.len],λj t' z=>?_,λj k t' u b1 b2 b z1 z2 o1 o2=>?_,sr.tb.vU (λb o n z=>by rw[ax n];exact z) h1 nt n2⟩
 ·rcases bX z with⟨rfl,rfl⟩ | ⟨n,z⟩
  ·exact⟨_,e1,.inl ⟨_,rfl,vr⟩⟩
  ·obtain⟨u,k1,k2⟩:=sr.at' j t' z;exact⟨u,k1,k2.mono (iC _ h1 n1 n2) (λx b o eb ow hb zz _=>by
    subst eb;rw[ax (λy=>by subst y;exact n (sr.nd j i t' _ x b b z hs ow ho k1 e1 hb (.inl rfl)))];exact zz)⟩
 ·rcases bX z1 with⟨rfl,rfl⟩ | ⟨n1,z1⟩
  ·cases o1
  ·rcases bX z2 with⟨rfl,rfl⟩ | ⟨n2,z2⟩
   ·cases o2
   ·exact sr.nd j k t' u b1 b2 b z1 z2 o1 o2
def aM.side(s:aM K H σ fs)(n:¬bW σ fs a)(e:H a=al (.lst vs))(o':HO):aM K (upd H a o') σ fs:=⟨s.len,λi t q=>by
 obtain⟨u,h1,h2⟩:=s.at' i t q;exact⟨u,h1,h2.mono (jS o' e) (λx b o eb ow hb z _=>by subst eb;rw[ax (λy:b=a=>n ⟨i,t,x,q,ow,h1,y▸hb⟩)];exact z)⟩,s.nd,s.tb.vU (λb o n z=>by rw[ax n];exact z) e rfl (by simp)⟩
def cI.side(g:cI σ fs H H1)(h0:H a=bn)(o':HO):cI σ fs H (upd H1 a o'):=⟨λb o e n t=>by rw[ax (aW e h0)];exact g.keep b o e n t,λb e=>by
 by_cases c:b=a
 ·subst c;exact h0
 ·rw[ax c]at e;exact g.there b e⟩
end
section
variable{a:jp}{p:Pos}{w:W PV}
def mh(h:LF X K fs e wl):EF X K fs e (.bind wl λl=>.ret (.cl l)):=⟨λU s σ H Q I ⟨sr,q⟩=>by
 refine aY (h.p U s σ H (λu H1=>∃a vs l,u=.ref a/\cI σ fs H H1/\aM K H1 σ fs/\H a=bn/\H1 a=al (.lst vs)/\aA K [] H1 vs l/\∀u H',cI σ fs H H'->aM K H' σ fs->VR K [] H' u (.cl l)->Q u H') I ⟨sr,wl.mono (λl q1 a vs H1 g1 s1 n e v=>⟨a,vs,l,rfl,g1,s1,n,e,v,q1⟩) q⟩) λu s1 ⟨v,H1,I1,r1,a,vs,l,e,g1,Ky,n,ea,vr,q1⟩=>?_;subst e;obtain⟨ob,I2⟩:=I1.tM ea;exact⟨.ref a,_,I2,r1,q1 _ _ (g1.side n _) (Ky.side (λz=>sr.noOwn n z) ea _) (.cl (.inl ⟨ob,aF⟩) (aA.tk (jS _ ea) vr))⟩⟩
def bo:PV->W (O PV)
 | .tup l=>.ret l
 | .cl l=>.ret l
 | _=>.fail
def gv(h:EF X K fs e w):IF X K fs e (.bind w bo):=⟨PE.imp h.p λσ H Q ⟨sr,q⟩=>⟨sr,w.mono (λx q1 u1 H1 g1 s1 v1=>by
 cases v1 with
 | tup e r=>exact q1 _ H1 g1 s1 ⟨_,_,rfl,.inr e,r⟩
 | cl e r=>exact q1 _ H1 g1 s1 ⟨_,_,rfl,.inl e,r⟩
 | _=>exact q1.elim) q⟩⟩
def Gv(h:LF X K fs e wl):IF X K fs e wl:=gv (mh h)
theorem IF.q(h:IF X K fs e wl):QF X K fs e wl:=⟨PE.imp h.p λσ H Q ⟨sr,q⟩=>⟨sr,wl.mono (λl q1 u1 H1 g1 s1 v1=>q1 u1 H1 g1 s1 (.inl v1)) q⟩⟩
def bb(h:EF X K fs e w):QF X K fs e (.bind w bo):=(gv h).q
def iG(h:LF X K fs e wl):QF X K fs e wl:=⟨PE.imp h.p λσ H Q ⟨sr,q⟩=>⟨sr,wl.mono (λl q1 a vs H1 g1 s1 n e v=>q1 _ H1 g1 s1 (.inr ⟨a,rfl,.inl ⟨sr.noOwn n,vs,e,v⟩⟩)) q⟩⟩
def cC(i:Nat){x:Str}(hs:fs[i]?=al (al (.ol q0 l)):=by rfl)(hN:X.N[i]?=al x:=by rfl)(hv:qa X.env.scope x:=by first | exact Bm rfl | exact BG (Bm rfl) | exact BG (BG rfl))(hd:eJ x:=by decide)(eW:qo x:=by decide):QF X K fs (.Name x pos) (.ret l):=
 ⟨PE.imp (cL hN hv hd eW) λσ H Q ⟨sr,q⟩=>by
  obtain⟨u,e1,r⟩:=sr.at' i _ hs;rcases r with⟨w,e,r⟩ | ⟨a,e,r⟩
  ·cases e
  ·subst e;exact⟨_,e1,q _ H .refl sr (.inr ⟨a,rfl,.inr ⟨i,q0,hs,e1⟩⟩)⟩⟩
def Pa(l:O PV):PV->W PV
 | .int i=>.Jz (cF l i)
 | _=>.fail
def bp(hK:X.K=K)(ha:QF X K fs a wl)(hb:EF X K fs b wb)(hs:om b:=by exact λ_ _=>rfl):EF X K fs (.Subscript a b pos) (.bind wl λl=>.bind wb λy=>Pa l y):=⟨PE.imp (gh (c0 K hK) ha.p hb.p hs) λσ H Q ⟨sr,q⟩=>⟨sr,wl.mono (λl q1 u1 H1 g1 s1 v1=>⟨s1,wb.mono (λy q2 u2 H2 g2 s2 v2=>by
 cases v2 with
 | int i=>
  have q2:(W.Jz (cF l i)).run _:=q2;cases z:cF l i with
  | none=>rw[z]at q2;exact q2.elim
  | some x=>
   rw[z]at q2;obtain⟨ad,vs,rfl,h,rs⟩:=(v1.go s1 g2).sq s2;obtain⟨v,e1,e2⟩:=aA.cF rs z;have q3:=q2 v H2 (g1.trans g2) s2 e2;exact h.elim (λh=>.inl ⟨ad,vs,i,v,rfl,rfl,h,e1,q3⟩) λh=>.inr (.inl ⟨ad,vs,i,v,rfl,rfl,h,e1,q3⟩)
 | _=>exact q2.elim) q1⟩) q⟩⟩
def Mh(ha:EF X K fs a wa)(hb:EF X K fs b wb)(hs:om b):EF X K fs (.Subscript a b pos) (.bind wa λx=>.bind wb λy=>of2 w9 x y):=⟨PE.imp (gh xC ha.p hb.p hs) (tP zV)⟩
def qR(m:qp)(l:O PV):W PV:=⟨λQ=>m.f l [] λz h=>h=[]/\Q z,λf q=>m.mono (λ_ _ q=>⟨q.1,f _ q.2⟩) q⟩
section
variable{x:Str}{id:String}{r:O V->Hp->VK->Prop}
def wX{m:qp}(hm:qp.Ok K r m){Q:VK}{us:O V}(sr:aM K H σ fs)(hu:aA K [] H us l)(q:(qR m l).run λz=>∀u H',cI σ fs H H'->aM K H' σ fs->VR K [] H' u z->Q u H'):r us H Q:=hm (Q5 H) hu (m.mono (λz h q=>QS sr q) q)
def tV{m:qp}(hc:bG X (.builtin id) r)(hB:qp.Ok K r m)(hg:Gl X x)(hm:X.mg x=bn)(hv:nn x=al (.builtin id))(ha:AF X K fs (e::es) (Aq n .v) B)(hn:x≠"__name__":=by decide)(fU:eJ x:=by decide)
  (he:dA X e es:=by rfl) (bZ:fF X pos es:=by rfl):EF X K fs (.Call (.Name x p) (e::es) [] pos) (B (qR m)):=by
 obtain⟨w,hp,PY⟩:=ha.p;rw[PY];exact⟨PE.imp (bT hc hg hm hv hp hn fU he bZ) λσ H Q ⟨sr,q⟩=>⟨sr,w.mono (λl q1 vs H1 g1 s1 v1=>wX hB s1 v1.uk.1 ((qR m l).mono (λz q u H' g s v=>q u H' (g1.trans g) s v) q1)) q⟩⟩
def yt{m:qp}(hc:bG X (.type id) r)(hB:qp.Ok K r m)(hg:Gl X x)(hm:X.mg x=bn)(hv:nn x=al (.type id))(ha:AF X K fs (e::es) (Aq n .v) B)(hn:x≠"__name__":=by decide)(fU:eJ x:=by decide)
  (he:dA X e es:=by rfl) (bZ:fF X pos es:=by rfl):EF X K fs (.Call (.Name x p) (e::es) [] pos) (B (qR m)):=by
 obtain⟨w,hp,PY⟩:=ha.p;rw[PY];exact⟨PE.imp (jl hc hg hm hv hp hn fU he bZ) λσ H Q ⟨sr,q⟩=>⟨sr,w.mono (λl q1 vs H1 g1 s1 v1=>wX hB s1 v1.uk.1 ((qR m l).mono (λz q u H' g s v=>q u H' (g1.trans g) s v) q1)) q⟩⟩
def CQ(K:Aa)(r:O V->Hp->VK->Prop)(m:O PV->W PV):Prop:=∀{fs:bj}{σ:L2.St}{H:Hp}{Q:VK}{u:V}{l:O PV},aM K H σ fs->F0 K σ fs H u l->((m l).run λz=>∀u H',cI σ fs H H'->aM K H' σ fs->VR K [] H' u z->Q u H')->r [u] H Q
def CL(K:Aa)(r:O V->Hp->VK->Prop)(m:O PV->W (O PV)):Prop:=∀{fs:bj}{σ:L2.St}{H:Hp}{Q:VK}{u:V}{l:O PV},aM K H σ fs->F0 K σ fs H u l->((m l).run λz=>∀a vs H',cI σ fs H H'->aM K H' σ fs->H a=bn->H' a=al (.lst vs)->aA K [] H' vs z->Q (.ref a) H')->r [u] H Q
def yu{m:O PV->W PV}(hc:bG X (.builtin id) r)(hB:CQ K r m)(hg:Gl X x)(hm:X.mg x=bn)(hv:nn x=al (.builtin id))(ha:QF X K fs e wl)(hn:x≠"__name__":=by decide)(fU:eJ x:=by decide)
  (he:dA X e []:=by rfl) (bZ:fF X pos []:=by rfl):EF X K fs (.Call (.Name x p) [e] [] pos) (.bind wl m):=⟨PE.imp (bT hc hg hm hv (ak ha.p aD he) hn fU he bZ) λσ H Q ⟨sr,q⟩=>⟨sr,wl.mono (λl q1 u H1 g1 s1 v1=>hB s1 v1 ((m l).mono (λz q u H' g s v=>q u H' (g1.trans g) s v) q1)) q⟩⟩
def vd{m:O PV->W PV}(hc:bG X (.type id) r)(hB:CQ K r m)(hg:Gl X x)(hm:X.mg x=bn)(hv:nn x=al (.type id))(ha:QF X K fs e wl)(hn:x≠"__name__":=by decide)(fU:eJ x:=by decide)
  (he:dA X e []:=by rfl) (bZ:fF X pos []:=by rfl):EF X K fs (.Call (.Name x p) [e] [] pos) (.bind wl m):=⟨PE.imp (jl hc hg hm hv (ak ha.p aD he) hn fU he bZ) λσ H Q ⟨sr,q⟩=>⟨sr,wl.mono (λl q1 u H1 g1 s1 v1=>hB s1 v1 ((m l).mono (λz q u H' g s v=>q u H' (g1.trans g) s v) q1)) q⟩⟩
def Nd{m:O PV->W (O PV)}(hc:bG X (.builtin id) r)(hB:CL K r m)(hg:Gl X x)(hm:X.mg x=bn)(hv:nn x=al (.builtin id))(ha:QF X K fs e wl)(hn:x≠"__name__":=by decide)(fU:eJ x:=by decide)
  (he:dA X e []:=by rfl) (bZ:fF X pos []:=by rfl):LF X K fs (.Call (.Name x p) [e] [] pos) (.bind wl m):=⟨PE.imp (bT hc hg hm hv (ak ha.p aD he) hn fU he bZ) λσ H Q ⟨sr,q⟩=>⟨sr,wl.mono (λl q1 u H1 g1 s1 v1=>hB s1 v1 ((m l).mono (λz q a vs H' g s n e v=>q a vs H' (g1.trans g) s (g1.there a n) e v) q1)) q⟩⟩
def xw{m:O PV->W (O PV)}(hc:bG X (.type id) r)(hB:CL K r m)(hg:Gl X x)(hm:X.mg x=bn)(hv:nn x=al (.type id))(ha:QF X K fs e wl)(hn:x≠"__name__":=by decide)(fU:eJ x:=by decide)
  (he:dA X e []:=by rfl) (bZ:fF X pos []:=by rfl):LF X K fs (.Call (.Name x p) [e] [] pos) (.bind wl m):=⟨PE.imp (jl hc hg hm hv (ak ha.p aD he) hn fU he bZ) λσ H Q ⟨sr,q⟩=>⟨sr,wl.mono (λl q1 u H1 g1 s1 v1=>hB s1 v1 ((m l).mono (λz q a vs H' g s n e v=>q a vs H' (g1.trans g) s (g1.there a n) e v) q1)) q⟩⟩
end
def uK(l:O PV):W PV:=.ret (.int l.length)
def E3(K:Aa):CQ K (Hh K) uK:=λ{fs σ H Q u l} s v q=>by
 obtain⟨a,vs,rfl,h,rs⟩:=v.sq s;refine⟨_,vs.length,rfl,?_,?_⟩
 ·exact h.elim (λh=>.inl ⟨_,h,rfl⟩) λh=>.inr ⟨_,h,rfl⟩
 ·rw[rs.length];exact q _ H .refl s (.int _)
def qE(l:O PV):W PV:=.ret (.tup l)
def zc(K:Aa):CQ K (wd K) qE:=λ{fs σ H Q u l} s v q=>by
 have fresh:∀{a:db}{vs:O V},cp K H a vs->aA K [] H vs l->wd K [.ref a] H Q:=λ{a vs} h rs=>⟨a,vs,rfl,.inl ⟨h,λp H2 s2 e2 n2=>q _ H2 (cI.same s2) (s.same s2) (.tup e2 (aA.tk s2.dj rs))⟩⟩;rcases v with⟨a,vs,rfl,h | h,rs⟩ | ⟨a,rfl,⟨n,vs,h,rs⟩ | ⟨i,_,q1,q2⟩⟩
 ·exact fresh h.sq rs
 ·exact⟨a,vs,rfl,.inr ⟨cf.of h,q _ H .refl s (.tup h rs)⟩⟩
 ·exact fresh (cp.of h) rs
 ·obtain⟨_,vs,h,rs⟩:=s.ownAt q1 rfl q2;exact fresh (cp.of h) rs
end
end
end FL
variable{R:Type}
namespace FL
section
variable[bD]
variable{K:Aa}
def k8(vs:O V)(ks:O AK)(φ:O V->Prop)(a:db):Prop:=∃i:Nat,ks[i]?=al (.p φ)/\vs[i]?=al (.ref a)
structure JX(vs:List V)(ks:List AK)(H H':Hp):Prop where
 keep:∀a o,H a=al o->(∀φ,¬k8 vs ks φ a)->(nt:o.nt=true:=by rfl)->H' a=al o
 tb:TB H'
 there:∀a,H' a=bn->H a=bn
 Hn:∀a φ,k8 vs ks φ a->∃ws,H' a=al (.lst ws)/\φ ws
inductive dR(K:Aa)(H:Hp):List V->List AK->List PV->Prop
 | nil:dR K H [] [] []
 | v {u:V}{x:PV}{vs:List V}{ks:List AK}{l:List PV} (r:VR K [] H u x) (t:dR K H vs ks l):dR K H (u::vs) (.v::ks) (x::l)
 | p {a:db}{φ:List V->Prop}{ws vs:List V}{ks:List AK}{l:List PV} (e:H a=al (.lst ws)) (r:φ ws) (t:dR K H vs ks l):dR K H (.ref a::vs) (.p φ::ks) l
 | f {a:db}{us vs:List V}{ps:List PV}{fz:List (db×Obj)}{ks:List AK}{l:List PV} (r:aA K [] H us ps) (z:mz H fz) (t:dR K H vs ks l):dR K H (.ref a::vs) (.f a us ps fz::ks) l
def ja(K:Aa)(ks:O AK)(m:O PV->W PV):Sp:=λvs H Q _=>TB H/\∃l,dR K H vs ks l/\(m l).run λv=>∀u H',JX vs ks H H'->VR K [] H' u v->Q u H'
def oK(K:Aa)(ks:O AK)(m:O PV->W (O PV)):Sp:=λvs H Q _=>TB H/\∃l,dR K H vs ks l/\(m l).run λz=>∀a ws H',JX vs ks H H'->H a=bn->H' a=al (.lst ws)->aA K [] H' ws z->Q (.ref a) H'
def lj(R:Type):Nat->Type
 | 0=>W R
 | n+1=>PV->lj R n
def eK:(n:Nat)->lj R n->O PV->W R
 | 0,m,[]=>m
 | n+1,m,x::l=>eK n (m x) l
 | 0,_,_::_=>.fail
 | _+1,_,[]=>.fail
section
def cM.jg(h:cM K σ fs H vs ks l)(p:k8 vs ks φ a):fM σ fs φ a:=by
 obtain⟨i,e1,e2⟩:=p
 induction h generalizing i with
 | nil=>simp at e1
 | v r t ih=>cases i with | zero=>simp at e1 | succ i=>exact ih i (by simpa using e1) (by simpa using e2)
 | p r t ih=>
  cases i with
  | zero=>simp at e1 e2;subst e1;subst e2;exact r
  | succ i=>exact ih i (by simpa using e1) (by simpa using e2)
 | f r z t ih=>cases i with | zero=>simp at e1 | succ i=>exact ih i (by simpa using e1) (by simpa using e2)
def cM.c(h:cM K σ fs H vs ks l)(s:aM K H σ fs):dR K H vs ks l:=by
 induction h with
 | nil=>exact .nil
 | v r t ih=>exact .v r ih
 | p r t ih=>
  obtain⟨i,e1,e2⟩:=r;obtain⟨ws,q,x⟩:=s.ownAt e1 rfl e2;exact .p q x ih
 | f r z t ih=>exact .f r z ih
def JX.caller(g:JX vs ks H H')(h:cM K σ fs H vs ks l)(s:aM K H σ fs):aM K H' σ fs/\cI σ fs H H':=by
 have gf:cI σ fs H H':=⟨λa o e n t=>g.keep a o e (λφ p=>n φ (h.jg p)) t,g.there⟩;have tk:=gf.cu s;refine⟨⟨s.len,λi t e=>?_,s.nd,g.tb⟩,gf⟩;obtain⟨u,h1,h2⟩:=s.at' i t e;refine⟨u,h1,?_⟩;rcases h2 with⟨v,q,r⟩ | ⟨a,q,r⟩
 ·exact .inl ⟨v,q,VR.tk tk r⟩
 ·subst q;refine .inr ⟨a,rfl,?_⟩;by_cases c:(∃φ,k8 vs ks φ a)/\t.own=true
  ·obtain⟨⟨φ,p⟩,ow⟩:=c;obtain⟨j,e1,e2⟩:=h.jg p;have ij:=s.nd i j t _ a a a e e1 ow rfl h1 e2 (.inl rfl) (.inl rfl);subst ij;rw[e]at e1;cases e1;exact g.Hn a φ p
  ·refine r.mono tk (λb o ow hb z nt=>g.keep b o z (λφ p=>?_) nt);obtain⟨j,e1,e2⟩:=h.jg p;have ij:=s.nd i j t _ a b b e e1 ow rfl h1 e2 hb (.inl rfl);subst ij;rw[h1]at e2;cases e2;exact c ⟨⟨φ,p⟩,ow⟩
end
section
variable{p:Pos}{x:Str}
def Jf{m:O PV->W PV}(G:qi X.prog X.w X.K X.mg X.base x k ps (ja K ks m))(hr:bt k' X.A)(hk:k<=k')(hg:Gl X x)(ha:AF X K fs (e::es) ks B)(fU:eJ x:=by decide)
  (he:dA X e es:=by rfl) (bZ:fF X pos es:=by rfl):EF X K fs (.Call (.Name x p) (e::es) [] pos) (B m):=by
 obtain⟨w,hp,hB⟩:=ha.p;rw[hB];exact⟨PE.imp (kn G hr hk hg hp fU he bZ) λσ H Q ⟨sr,q⟩=>⟨sr,w.mono (λl q1 vs H1 g1 s1 v1=>⟨s1.tb,l,v1.c s1,(m l).mono (λz q2 u H2 g2 r2=>let ⟨s2,g3⟩:=g2.caller v1 s1;q2 u H2 (g1.trans g3) s2 r2) q1⟩) q⟩⟩
def HZ{m:O PV->W (O PV)}{B:(O PV->W (O PV))->W (O PV)}(G:qi X.prog X.w X.K X.mg X.base x k ps (oK K ks m))(hr:bt k' X.A)(hk:k<=k')(hg:Gl X x)(ha:AF X K fs (e::es) ks B)(fU:eJ x:=by decide)
  (he:dA X e es:=by rfl) (bZ:fF X pos es:=by rfl):LF X K fs (.Call (.Name x p) (e::es) [] pos) (B m):=by
 obtain⟨w,hp,hB⟩:=ha.p;rw[hB];exact⟨PE.imp (kn G hr hk hg hp fU he bZ) λσ H Q ⟨sr,q⟩=>⟨sr,w.mono (λl q1 vs H1 g1 s1 v1=>⟨s1.tb,l,v1.c s1,(m l).mono (λz q2 a ws H2 g2 n2 e2 r2=>let ⟨s2,g3⟩:=g2.caller v1 s1;q2 a ws H2 (g1.trans g3) s2 (g1.there a n2) e2 r2) q1⟩) q⟩⟩
end
end
end FL
variable{T:Type}{p':Ci}
namespace FL
section
variable[bD]
variable{K:Aa}
inductive End where
 | nx (fs:bj) | nc (fs:bj) | ct (fs:bj) | rt (v:PV) | rl (l:List PV) | bk (fs:bj) | ro (v:PV) (a:db) (l:List PV)
def oo(σ:L2.St)(fs:bj)(H:Hp)(a:db):Prop:=H a=bn\/∃(i:Nat) (s:SL) (x:db),fs[i]?=al (al s)/\s.own=true/\(∀φ,s≠.jg φ)/\σ[i]?=al (al (.ref x))/\s.has x a
def a8(K:Aa)(x:Bool)(σ:L2.St)(fs:bj)(H:Hp)(D:Ends):End->Prop
 | .nx aZ=>x=false->∀σ' H',bP σ fs H σ' aZ H'->aM K H' σ' aZ->D.nx σ' H'
 | .nc aZ=>∀σ' H',bP σ fs H σ' aZ H'->aM K H' σ' aZ->(x=false->D.nx σ' H')/\D.ct σ' H'
 | .ct aZ=>∀σ' H',bP σ fs H σ' aZ H'->aM K H' σ' aZ->D.ct σ' H'
 | .bk aZ=>∀σ' H',bP σ fs H σ' aZ H'->aM K H' σ' aZ->D.bk σ' H'
 | .rt v=>∀u σ' aZ H',bP σ fs H σ' aZ H'->aM K H' σ' aZ->VR K [] H' u v->D.rt u H'
 | .ro v a l=>∀u σ' aZ H',bP σ fs H σ' aZ H'->aM K H' σ' aZ->(∃i:Nat,aZ[i]?=al (al (.ol (al a) l)))->VR K [] H' u v->D.rt u H'
 | .rl l=>∀a ws σ' aZ H',bP σ fs H σ' aZ H'->aM K H' σ' aZ->oo σ fs H a->H' a=al (.lst ws)->aA K [] H' ws l->D.rt (.ref a) H'
def fS(K:Aa)(x:Bool)(fs:bj)(w:W T)(out:T->End):TS:=λD σ H=>aM K H σ fs/\w.run λt=>a8 K x σ fs H D (out t)
structure SF(X:Cx)(K:Aa)(x:Bool)(fs:bj)(G6:List r6){T:Type}(w:W T)(out:T->End):Prop where p:PSs X G6 (fS K x fs w out)
section
variable{σ1:L2.St}{xP:bj}{x:Bool}
def oo.go(g:bP σ fs H σ1 xP H1)(s:aM K H σ fs)(s1:aM K H1 σ1 xP)(h:oo σ1 xP H1 a):oo σ fs H a:=by
 rcases h with h | ⟨i,t,x,e1,e2,np,e3,e4⟩
 ·exact .inl (g.there a h)
 ·cases z:H a with
  | none=>exact .inl z
  | some o=>
   by_cases c:bW σ fs a
   ·obtain⟨j,t',y,c1,c2,c3,c4⟩:=c;by_cases d:∃φ,t'=.jg φ
    ·obtain⟨φ,rfl⟩:=d;rcases c4 with rfl | c4
     ·rcases g.pk a φ ⟨j,c1,c3⟩ with⟨k,k1,k2⟩ | ⟨n,_⟩
      ·have:=s1.nd i k t _ x a a e1 k1 e2 rfl e3 k2 e4 (.inl rfl);subst this;rw[e1]at k1;cases k1;exact absurd rfl (np φ)
      ·exact absurd ⟨i,t,x,e1,e2,e3,e4⟩ n
     ·cases c4
    ·exact .inr ⟨j,t',y,c1,c2,λφ e=>d ⟨φ,e⟩,c3,c4⟩
   ·exact absurd ⟨i,t,x,e1,e2,e3,e4⟩ (g.keep a o z c).2
def a8.go(g:bP σ fs H σ1 xP H1)(s:aM K H σ fs)(s1:aM K H1 σ1 xP){E:End}(h:a8 K x σ fs H D E):a8 K x σ1 xP H1 D E:=by
 cases E with
 | nx aZ=>exact λhx σ' H' g' s'=>h hx σ' H' (g.trans g') s'
 | nc aZ=>exact λσ' H' g' s'=>h σ' H' (g.trans g') s'
 | bk aZ=>exact λσ' H' g' s'=>h σ' H' (g.trans g') s'
 | ct aZ=>exact λσ' H' g' s'=>h σ' H' (g.trans g') s'
 | rt v=>exact λu σ' aZ H' g' s' r=>h u σ' aZ H' (g.trans g') s' r
 | ro v a l=>exact λu σ' aZ H' g' s' o r=>h u σ' aZ H' (g.trans g') s' o r
 | rl l=>exact λa ws σ' aZ H' g' s' f e r=>h a ws σ' aZ H' (g.trans g') s' (f.go g s s1) e r
def a8.exit{D':Ends}(h1:D'.rt=D.rt)(h2:D'.ct=D.ct)(h3:D'.bk=D.bk){E:End}(h:a8 K x σ fs H D E):a8 K true σ fs H D' E:=by
 cases E with
 | nx aZ=>exact λhx=>nomatch hx
 | nc aZ=>exact λσ' H' g' s'=>⟨λhx=>(nomatch hx),h2▸(h σ' H' g' s').2⟩
 | bk aZ=>exact λσ' H' g' s'=>h3▸h σ' H' g' s'
 | ct aZ=>exact λσ' H' g' s'=>h2▸h σ' H' g' s'
 | rt v=>exact λu σ' aZ H' g' s' r=>h1▸h u σ' aZ H' g' s' r
 | ro v a l=>exact λu σ' aZ H' g' s' o r=>h1▸h u σ' aZ H' g' s' o r
 | rl l=>exact λa ws σ' aZ H' g' s' f e r=>h1▸h a ws σ' aZ H' g' s' f e r
end
section
variable{X:Cx}{a b c e o:jp}{pos p:Pos}{fs aZ:bj}{st:r6}{G6 rest sa sb:O r6}{T T1:Type}{w wk:W T}{out:T->End}{we:W PV}{wl:W (O PV)}{x:Bool}
def End.tK:End->Prop
 | .rt _=>True
 | .rl _=>True
 | .ro _ _ _=>True
 | _=>False
def a8.KZ{D':Ends}{y:Bool}{E:End}(ho:E.tK)(e:D'.rt=D.rt)(h:a8 K x σ fs H D E):a8 K y σ fs H D' E:=by
 cases E with
 | rt v=>exact λu σ' aZ H' g s r=>e▸h u σ' aZ H' g s r
 | rl v=>exact λa ws σ' aZ H' g s f ea r=>e▸h a ws σ' aZ H' g s f ea r
 | ro v a l=>exact λu σ' aZ H' g s o r=>e▸h u σ' aZ H' g s o r
 | _=>exact ho.elim
def oG(X:Cx)(K:Aa)(x:Bool)(rest:O r6){T:Type}(out:T->End):TS:=λD σ H=>∃aZ w',SF X K x aZ rest w' out/\fS K x aZ w' out D σ H
def zt:PSs X rest (oG X K x rest out):=λU s σ H D I ⟨aZ,w',h,q⟩=>h.p U s σ H D I q
def xi:PSs X rest vL:=λ_ _ _ _ _ _ h=>h.elim
def SF.step{t:TS}(h:PS X st t)(hq:∀D σ H,fS K x fs w out D σ H->t {D with nx:=oG X K x rest out D} σ H):SF X K x fs (st::rest) w out:=⟨PSs.imp (aJ h zt) λD σ H q=>hq D σ H q⟩
def SF.last{t:TS}(h:PS X st t)(hq:∀D σ H,fS K x fs w out D σ H->t {D with nx:=λ_ _=>False} σ H):SF X K x fs (st::rest) w out:=⟨PSs.imp (aJ h xi) λD σ H q=>hq D σ H q⟩
def SF.nil{t:T}(h:out t=.nx aZ)(hl:fV fs aZ):SF X K false fs [] (.ret t) out:=⟨PSs.imp dW λD σ H ⟨sr,q⟩=>by
 have q:a8 K false σ fs H D (out t):=q;rw[h]at q;exact q rfl σ H (bP.le sr hl) (sr.le hl)⟩
def SF.gr{t:T}(h:out t=.nc aZ)(hl:fV fs aZ):SF X K false fs [] (.ret t) out:=⟨PSs.imp dW λD σ H ⟨sr,q⟩=>by
 have q:a8 K false σ fs H D (out t):=q;rw[h]at q;exact(q σ H (bP.le sr hl) (sr.le hl)).1 rfl⟩
def SF.cont{t:T}(h:out t=.nc aZ\/out t=.ct aZ)(hl:fV fs aZ):SF X K x fs (.Continue pos::rest) (.ret t) out:=SF.last oQ λD σ H ⟨sr,q⟩=>by
 have q:a8 K x σ fs H D (out t):=q;rcases h with h | h
 ·rw[h]at q;exact(q σ H (bP.le sr hl) (sr.le hl)).2
 ·rw[h]at q;exact q σ H (bP.le sr hl) (sr.le hl)
def SF.ret{k:PV->T}(he:EF X K fs e we)(h:∀v,out (k v)=.rt v):SF X K x fs (.Return (al e) pos::rest) (.bind we λv=>.ret (k v)) out:=SF.last (cU he.p) λD σ H ⟨sr,q⟩=>⟨sr,we.mono (λv q1 u H1 g1 s1 v1=>by
 have q1:a8 K x σ fs H D (out (k v)):=q1;rw[h]at q1;exact q1 u σ fs H1 g1.f s1 v1) q⟩
def SF.cj{out:PV->End}(he:EF X K fs e we)(h:∀v,out v=.rt v):SF X K x fs (.Return (al e) pos::rest) we out:=SF.ret (k:=λv=>v) he h
def SF.OJ{k:O PV->T}(he:LF X K fs e wl)(h:∀l,out (k l)=.rl l):SF X K x fs (.Return (al e) pos::rest) (.bind wl λl=>.ret (k l)) out:=SF.last (cU he.p) λD σ H ⟨sr,q⟩=>⟨sr,wl.mono (λl q1 a ws H1 g1 s1 n e v1=>by
 have q1:a8 K x σ fs H D (out (k l)):=q1;rw[h]at q1;exact q1 a ws σ fs H1 g1.f s1 (.inl n) e v1) q⟩
def SF.sX{out:O PV->End}(he:LF X K fs e wl)(h:∀v,out v=.rl v):SF X K x fs (.Return (al e) pos::rest) wl out:=SF.OJ he h
def SF.OI(i:Nat){t:T}(hs:fs[i]?=al (al (.ol q0 l)))(h:out t=.rl l)(hN:X.N[i]?=al y:=by rfl)(hv:qa X.env.scope y:=by first | exact Bm rfl | exact BG (Bm rfl) | exact BG (BG rfl))(hd:eJ y:=by decide)(eW:qo y:=by decide):SF X K x fs (.Return (al (.Name y p)) pos::rest) (.ret t) out:=SF.last (cU (cL hN hv hd eW)) λD σ H ⟨sr,q⟩=>by
 have q:a8 K x σ fs H D (out t):=q;rw[h]at q;obtain⟨u,e1,r⟩:=sr.at' i _ hs;rcases r with⟨v,e,_⟩ | ⟨a,e,r⟩
 ·cases e
 ·subst e;obtain⟨_,ws,q1,q2⟩:=r;exact⟨_,e1,q a ws σ fs H .refl sr (.inr ⟨i,_,_,hs,rfl,by simp,e1,.inl rfl⟩) q1 q2⟩
def SF.KA(i:Nat){ad:db}{k:PV->T}(hs:fs[i]?=al (al (.ol (al ad) l)))(he:EF X K fs e we)(h:∀v,out (k v)=.ro v ad l):SF X K x fs (.Return (al e) pos::rest) (.bind we λv=>.ret (k v)) out:=SF.last (cU he.p) λD σ H ⟨sr,q⟩=>⟨sr,we.mono (λv q1 u H1 g1 s1 v1=>by
 have q1:a8 K x σ fs H D (out (k v)):=q1;rw[h]at q1;exact q1 u σ fs H1 g1.f s1 ⟨i,hs⟩ v1) q⟩
def SF.expr{k:PV->W T}(he:EF X K fs e we)(hr:∀v,SF X K x fs rest (k v) out)(hs:pr e bn pos.line X.env=pure false:=by rfl):SF X K x fs (.Expr e pos::rest) (.bind we k) out:=SF.step (dX he.p hs) λD σ H ⟨sr,q⟩=>
 ⟨sr,we.mono (λv q1 u H1 g1 s1 v1=>⟨fs,k v,hr v,s1,(k v).mono (λt q2=>q2.go g1.f sr s1) q1⟩) q⟩
def SF.set{k:PV->W T}(hN:X.N.Nodup)(hi:X.N[i]?=al y)(hx:Loc X.env.scope y)(he:EF X K fs e we)(hr:∀v,SF X K x (fs.set i (al (.val v))) rest (k v) out)(hs:pr e (al (.Name y p')) pos.line X.env=pure false:=by rfl)
  (hf:yR X y:=by first | exact .inl rfl | exact .inr rfl | assumption):SF X K x fs (.Assign [.Name y p'] e pos::rest) (.bind we k) out:=SF.step (cK hN hi hx he.p hs hf) λD σ H ⟨sr,q⟩=>
 ⟨sr,we.mono (λv q1 u H1 g1 s1 v1=>⟨_,k v,hr v,s1.fN v1 i,(k v).mono (λt q2=>q2.go (g1.f.trans (bP.fN s1 u v i)) sr (s1.fN v1 i)) q1⟩) q⟩
def SF.OB{k:O PV->W T}(hN:X.N.Nodup)(hi:X.N[i]?=al y)(hx:Loc X.env.scope y)(he:LF X K fs e wl)(hr:∀l,SF X K x (fs.set i (al (.ol bn l))) rest (k l) out)(hs:pr e (al (.Name y p')) pos.line X.env=pure false:=by rfl)
  (hf:yR X y:=by first | exact .inl rfl | exact .inr rfl | assumption):SF X K x fs (.Assign [.Name y p'] e pos::rest) (.bind wl k) out:=SF.step (cK hN hi hx he.p hs hf) λD σ H ⟨sr,q⟩=>by
 refine⟨sr,wl.mono (λl q1 a ws H1 g1 s1 n e v1=>?_) q⟩;have no:=sr.noOwn n;have s2:=s1.mM (t:=.ol bn l) ⟨by simp,ws,e,v1⟩ no i;exact⟨_,k l,hr l,s2,(k l).mono (λt q2=>q2.go (bP.mM s1 g1.f no n i) sr s2) q1⟩
def SF.dc(i:Nat){t:SL}(hs:fs[i]?=al (al t))(hr:SF X K x (fs.set i (al (.val t.bv))) G6 w out)(hb:t.bw=true:=by rfl):SF X K x fs G6 w out:=⟨λU s σ H D I ⟨sr,q⟩=>by
 obtain⟨u,e1,r⟩:=sr.at' i _ hs;have ho:=SL.Jk hb;rcases r with⟨v,e,_⟩ | ⟨a,e,oa⟩
 ·subst e;cases hb
 ·subst e;obtain⟨ob,o,h1,n1,n2,I2,vr⟩:=P5 I oa hb;have ow:∀b,bW σ (fs.set i (al (.val t.bv))) b->bW σ fs b:=λb z=>by
   obtain⟨j,t,x,z1,z2,z3,z4⟩:=z;rcases bX z1 with⟨rfl,rfl⟩ | ⟨n,z1⟩
   ·cases z2
   ·exact⟨j,t,x,z1,z2,z3,z4⟩
  have s2:=sr.P4 hs ho e1 h1 n1 n2 vr;have g2:bP σ fs H σ (fs.set i (al (.val t.bv))) (upd H a (.dc ob o)):=by
   refine⟨λb o z n=>⟨?_,λy=>n (ow b y)⟩,λb z=>?_,λb φ z=>?_⟩
   ·intro _;rw[ax (λy=>by subst y;exact n ⟨i,_,_,hs,ho,e1,.inl rfl⟩)];exact z
   ·by_cases c:b=a
    ·subst c;rw[aF]at z;cases z
    ·rw[ax c]at z;exact z
   ·obtain⟨j,z1,z2⟩:=z;have:j≠i:=λy=>by subst y;rw[hs]at z1;cases z1;cases hb
    exact .inl ⟨j,by rw[aL this];exact z1,z2⟩
  exact hr.p U s σ _ D I2 ⟨s2,w.mono (λt q3=>q3.go g2 sr s2) q⟩⟩
variable{tc:W Bool}
def SF.Gu(hc:TF X K fs c tc)(ha:SF X K x fs sa w out)(hb:SF X K x fs sb wk out):SF X K x fs [.If c sa sb pos] (.bind tc λb=>if b=true then w else wk) out:=⟨PSs.imp (a9 (iI hc.p ha.p hb.p)) λD σ H ⟨sr,q⟩=>⟨sr,tc.mono (λk q1 H1 g1 s1=>by
 cases k with
 | true=>exact gX ⟨s1,w.mono (λt q2=>q2.go g1.f sr s1) q1⟩
 | false=>exact eU ⟨s1,wk.mono (λt q2=>q2.go g1.f sr s1) q1⟩) q⟩⟩
def SF.vA(hc:TF X K fs c tc)(ha:SF X K true fs sa w out)(hb:SF X K x fs rest wk out):SF X K x fs (.If c sa [] pos::rest) (.bind tc λb=>if b=true then w else wk) out:=SF.step (iI hc.p ha.p dW) λD σ H ⟨sr,q⟩=>⟨sr,tc.mono (λk q1 H1 g1 s1=>by
 cases k with
 | true=>exact gX ⟨s1,w.mono (λt q2=>a8.exit (D:=D) (D':={D with nx:=oG X K x rest out D}) rfl rfl rfl (q2.go g1.f sr s1)) q1⟩
 | false=>exact eU ⟨fs,wk,hb,s1,wk.mono (λt q2=>q2.go g1.f sr s1) q1⟩) q⟩
def Jt(X:Cx)(K:Aa)(x:Bool)(rest:O r6){T:Type}(w:W T)(out:T->End):End->Prop
 | .nx aZ=>SF X K x aZ rest w out
 | .nc aZ=>False
 | .bk aZ=>∃t,w=.ret t/\out t=.bk aZ
 | .ct aZ=>∃t,w=.ret t/\(out t=.ct aZ\/out t=.nc aZ)
 | .rt v=>∃t,w=.ret t/\out t=.rt v
 | .rl l=>∃t,w=.ret t/\out t=.rl l
 | .ro v a l=>∃t,w=.ret t/\out t=.ro v a l
def Jt.r{E:End}(sr:aM K H σ fs)(h:Jt X K x rest w out E)(q:w.run λt=>a8 K x σ fs H D (out t)):a8 K false σ fs H {D with nx:=oG X K x rest out D} E:=by
 cases E with
 | nx aZ=>exact λ_ σ' H' g' s'=>⟨aZ,w,h,s',w.mono (λt q2=>q2.go g' sr s') q⟩
 | nc aZ=>exact h.elim
 | bk aZ=>
  obtain⟨t,rfl,h⟩:=h;have q:a8 K x σ fs H D (out t):=q;rw[h]at q;exact q
 | ct aZ=>
  obtain⟨t,rfl,h⟩:=h;have q:a8 K x σ fs H D (out t):=q;rcases h with h | h
  ·rw[h]at q;exact q
  ·rw[h]at q;exact λσ' H' g s=>(q σ' H' g s).2
 | rt v=>
  obtain⟨t,rfl,h⟩:=h;have q:a8 K x σ fs H D (out t):=q;rw[h]at q;exact q
 | rl v=>
  obtain⟨t,rfl,h⟩:=h;have q:a8 K x σ fs H D (out t):=q;rw[h]at q;exact q
 | ro v a l=>
  obtain⟨t,rfl,h⟩:=h;have q:a8 K x σ fs H D (out t):=q;rw[h]at q;exact q
variable{w1 w2:W T1}{out1:T1->End}{k:T1->W T}
def SF.S5(hc:TF X K fs c tc)(ha:SF X K false fs sa w1 out1)(hb:SF X K false fs sb w2 out1)(hr:∀t,Jt X K x rest (k t) out (out1 t)):SF X K x fs (.If c sa sb pos::rest) (.bind tc λb=>.bind (if b=true then w1 else w2) k) out:=SF.step (iI hc.p ha.p hb.p) λD σ H ⟨sr,q⟩=>⟨sr,tc.mono (λb q1 H1 g1 s1=>by
 have fin:∀t,(k t).run (λt=>a8 K x σ fs H D (out t))->a8 K false σ fs H {D with nx:=oG X K x rest out D} (out1 t):=λt q=>(hr t).r sr q;cases b with
 | true=>exact gX ⟨s1,w1.mono (λt q2=>(fin t q2).go g1.f sr s1) q1⟩
 | false=>exact eU ⟨s1,w2.mono (λt q2=>(fin t q2).go g1.f sr s1) q1⟩) q⟩
end
end
end FL
variable{is:O Nat}
namespace FL
section
variable[bD]
variable{K:Aa}
def JF(K:Aa)(H:Hp)(J:It)(l:O PV):Prop:=l.length<=sizeLine/\∀H',aN K H H'->(∀(i:Nat) (p:PV),l[i]?=al p->J.go i H'/\∀x H2,J.GP i H' x H2->dh H' H2/\VR K [] H2 x p)/\J.stop l.length H'
def JF.tk{J:It}(t:aN K H H')(h:JF K H J l):JF K H' J l:=⟨h.1,λH2 t2=>h.2 H2 (aN.trans t t2)⟩
def RA(K:Aa)(fs:bj)(w:W (O PV)):TI:=λσ H R=>aM K H σ fs/\w.run λl=>∀J H',cI σ fs H H'->aM K H' σ fs->JF K H' J l->R J H'
structure qr(X:Cx)(K:Aa)(fs:bj)(tg e:jp)(w:W (List PV)):Prop where p:PI X tg e (RA K fs w)
section
variable{a c:jp}{p:Pos}{w:W PV}
def F1{ad:db}(h:yS K H ad vs)(r:aA K [] H vs l)(hz:l.length<=sizeLine):JF K H (RL K ad) l:=⟨hz,λH' t=>by
 have e1:=(t.f _ _ h).sq;have e2:=aA.tk t r;refine⟨λi p hp=>?_,vs,e1,by rw[e2.length];exact Aj _⟩;obtain⟨v,h3,h4⟩:=e2.get hp;refine⟨⟨vs,v,e1,h3⟩,λx H3 y=>?_⟩;obtain⟨rfl,y⟩:=y;have:=y vs e1;rw[h3]at this;cases this;exact⟨dh.refl _,h4⟩⟩
def Jr{ad:db}(h:H ad=al (.tup vs))(r:aA K [] H vs l)(hz:l.length<=sizeLine):JF K H (RJ K ad) l:=⟨hz,λH' t=>by
 have e1:=cf.of (K:=K) (t.t _ _ h);have e2:=aA.tk t r;refine⟨λi p hp=>?_,vs,e1,by rw[e2.length];exact Aj _⟩;obtain⟨v,h3,h4⟩:=e2.get hp;refine⟨⟨vs,v,e1,h3⟩,λx H3 y=>?_⟩;obtain⟨rfl,y⟩:=y;have:=y vs e1;rw[h3]at this;cases this;exact⟨dh.refl _,h4⟩⟩
def eD(hK:X.K=K)(h:IF X K fs e wl):qr X K fs tg e wl:=⟨by
 subst hK;intro U s σ H R I ⟨sr,q⟩;refine aY (h.p U s σ H (λu H1=>∃l,JU X.K H1 u l/\∀J,JF X.K H1 J l->R J H1) I ⟨sr,wl.mono (λl q1 u H1 g1 s1 v1=>⟨l,v1,λJ j=>q1 J H1 g1 s1 j⟩) q⟩) λv s1 ⟨x,H1,I1,r1,l,⟨ad,vs,e,hh,rs⟩,q1⟩=>?_;subst e;cases r1;rcases hh with hh | hh
 ·obtain⟨ay,rv,pl,hz⟩:=I1.list hh.sq;refine wpAny_pyIter_list pl.isList ?_;refine⟨s1.heap.objs.size,[s1.heap.objs.size],_,_,H1,rfl,I1.kept λb o e=>Ae _ e,um ad _,⟨_,Ap _ rfl,rfl,rfl⟩,λb hb=>?_,q1 _ (F1 hh rs (by rw[<- rs.length];exact hz))⟩;have e:b=s1.heap.objs.size:=by simpa using hb
  subst e;exact I1.uV (Aj _) (I1.aV.fresh (Aj _))
 ·obtain⟨ay,rv,pl,hz⟩:=I1.tuple (cf.of hh);refine DD (pl) ?_;refine⟨s1.heap.objs.size,[s1.heap.objs.size],_,_,H1,rfl,I1.kept (t':=s1.toks) λb o e=>Ae _ e,qA ad _,⟨_,Ap _ rfl,rfl,rfl⟩,λb hb=>?_,q1 _ (Jr hh rs (by rw[<- rs.length];exact hz))⟩;have e:b=s1.heap.objs.size:=by simpa using hb
  subst e;exact I1.uV (Aj _) (I1.aV.fresh (Aj _))⟩
def okN(i j:Int):Prop:=-(2 ^ 62)<=i/\i < 2 ^ 62/\-(2 ^ 62)<=j/\j < 2 ^ 62/\(j-i).toNat<=sizeLine
def jx:PV->W (O PV)
 | .int j=>.e7 (okN 0 j) (.ret (iV 0 j.toNat))
 | _=>.fail
def Js(lo:Int)(n:Nat)(hz:n<=sizeLine):JF K H (N3 lo n) (iV lo n):=⟨by rw[eV];exact hz,λH' t=>⟨λi p hp=>by
  obtain⟨h1,rfl⟩:=jr hp;refine⟨h1,λx H2 y=>?_⟩;obtain⟨rfl,rfl⟩:=y;exact⟨dh.refl _,.int _⟩,by rw[eV];exact Aj _⟩⟩
theorem gM(hg:Gl X "range")(hm:X.mg "range"=bn)(ha:EF X K fs a wa)(hs:ii [a] X.env=[(false,lc a X.env)]:=by rfl):qr X K fs tg (.Call (.Name "range" p) [a] [] pos) (.bind wa jx):=
 ⟨PI.imp (uB hg hm (ak ha.p aD hs) hs) λσ H R ⟨sr,q⟩=>⟨sr,wa.mono (λx q1 u1 H1 g1 s1 v1=>by
  cases v1 with
  | int j=>exact⟨_,rfl,q1.1.2.2.1,q1.1.2.2.2.1,q1.2 _ H1 g1 s1 (Js _ _ (by have:=q1.1.2.2.2.2;omega))⟩
  | _=>exact q1.elim) q⟩⟩
def qF:PV->W (O PV)
 | .str z=>.e7 (z.cps.size<=sizeLine) (.ret (z.cps.toList.map λc=>.str ⟨#[c]⟩))
 | _=>.fail
def Il(h:EF X K fs e w):qr X K fs tg e (.bind w qF):=⟨PI.imp (Ht h.p) λσ H R ⟨sr,q⟩=>⟨sr,w.mono (λx q1 u1 H1 g1 s1 v1=>by
 cases v1 with
 | str z=>
  refine⟨z,rfl,q1.2 _ H1 g1 s1 ⟨by simpa using q1.1,λH' t=>⟨λi p hp=>?_,?_⟩⟩⟩
  ·rw[Ak]at hp;cases e:z.cps.toList[i]? with
   | none=>rw[e]at hp;cases hp
   | some c=>
    rw[e]at hp;have ep:=(Option.some.inj hp).symm;subst ep;have hi:=(Ai.mp e).1;have xH:i < z.cps.size:=by simpa using hi
    refine⟨xH,λx H2 y=>?_⟩;obtain⟨rfl,d,hd,rfl⟩:=y;have:z.cps[i]?=al c:=by simpa using e
    rw[this]at hd;cases hd;exact⟨dh.refl _,.str _⟩
  ·show z.cps.size<=_;simp
 | _=>exact q1.elim) q⟩⟩
def Ff(hK:X.K=K)(hg:Gl X "enumerate")(hm:X.mg "enumerate"=bn)(h:IF X K fs e wl)(Fj:dA X e []:=by rfl):qr X K fs (.Tuple Õ kk tp) (.Call (.Name "enumerate" p1) [e] [] p2) (.bind wl λl=>.e7 (l.length<=sizeLine) (.ret (iZ 0 l))):=
 ⟨PI.imp (wD K hK hg hm h.p Fj) λσ H R ⟨sr,q⟩=>⟨sr,wl.mono (λl q1 u1 H1 g1 s1 v1=>by
  obtain⟨ad,vs,rfl,hh,rs⟩:=v1;have yl:∀{H':Hp}{i:Nat}{x v:V}{y:PV}{pp:db},H' pp=bn->VR K [] H' v y->dh H' (upd H' pp (.tup [.int i,v]))/\VR K [] (upd H' pp (.tup [.int (i:Int),v])) (.ref pp) (.tup [.int ((0+i:Nat)),y]):=λ{H' i x v y pp} hn h4=>
   have sm:=iE hn (.tup [.int (i:Int),v])
   ⟨sm,.tup aF (.cons (by rw[BS];exact .int _) (.cons (VR.tk sm.dj h4) .nil))⟩
  refine⟨ad,rfl,?_⟩;rcases hh with hh | hh
  ·refine .inl ⟨⟨vs,hh.sq⟩,q1.2 _ H1 g1 s1 ⟨by rw[cX];exact q1.1,λH' t=>⟨λi p hp=>?_,vs,(t.f _ _ hh).sq,by rw[rs.length,cX];exact Aj _⟩⟩⟩;obtain⟨y,hy,rfl⟩:=gU hp;obtain⟨v,h3,h4⟩:=(aA.tk t rs).get hy;refine⟨⟨vs,v,(t.f _ _ hh).sq,h3⟩,λx H3 z=>?_⟩;obtain⟨pp,x0,rfl,hn,rfl,hz⟩:=z;have:=hz vs (t.f _ _ hh).sq;rw[h3]at this;cases this;exact yl (x:=.aB) hn h4
  ·refine .inr ⟨⟨vs,cf.of hh⟩,q1.2 _ H1 g1 s1 ⟨by rw[cX];exact q1.1,λH' t=>⟨λi p hp=>?_,vs,cf.of (t.t _ _ hh),by rw[rs.length,cX];exact Aj _⟩⟩⟩;obtain⟨y,hy,rfl⟩:=gU hp;obtain⟨v,h3,h4⟩:=(aA.tk t rs).get hy;refine⟨⟨vs,v,cf.of (t.t _ _ hh),h3⟩,λx H3 z=>?_⟩;obtain⟨pp,x0,rfl,hn,rfl,hz⟩:=z;have:=hz vs (cf.of (t.t _ _ hh));rw[h3]at this;cases this;exact yl (x:=.aB) hn h4) q⟩⟩
end
def kg:O Nat->O V->L2.St->L2.St
 | i::is,u::us,σ=>kg is us (σ.set i (al u))
 | _,_,σ=>σ
def fG(K:Aa)(fs:bj)(is:O Nat)(wt:PV->W T)(da:T->bj):TG:=λv σ H Q=>∃p,aM K H σ fs/\VR K [] H v p/\(wt p).run λt=>∀us,bP σ fs H (kg is us σ) (da t) H->aM K H (kg is us σ) (da t)->Q (kg is us σ) H
structure GF(X:Cx)(K:Aa)(fs:bj)(tg:jp)(is:List Nat){T:Type}(wt:PV->W T)(da:T->bj):Prop where p:PG X tg (fG K fs is wt da)
def MW:PV->W (PV×PV)
 | .tup [a,b]=>.ret (a,b)
 | _=>.fail
section
def LY(h:PG X tg (eY i)):GF X K fs tg [i] .ret (λp=>fs.set i (al (.val p))):=⟨PG.imp h λv σ H Q ⟨p,sr,r,q⟩=>q [v] (bP.fN sr v p i) (sr.fN r i)⟩
def Ug(hK:X.K=K)(h:PG X tg (LZ X.K 2 (xO (eY i) (xO (eY j) L0)))):GF X K fs tg [i,j] MW (λt=>(fs.set i (al (.val t.1))).set j (al (.val t.2))):=⟨PG.imp h λv σ H Q ⟨p,sr,r,q⟩=>by
 unfold MW at q
 split at q
 ·cases r with
  | tup e rs=>
   cases rs with
   | cons ra t=>
   cases t with
   | cons rb t=>
   cases t;have s1:=sr.fN ra i;exact⟨_,_,rfl,cf.of e,rfl,_,_,rfl,_,_,rfl,rfl,q [_,_] ((bP.fN sr _ _ i).trans (bP.fN s1 _ _ j)) (s1.fN rb j)⟩
 ·exact q.elim⟩
end
section
variable{S T:Type}
def dG:O PV->S->(PV->S->W S)->W S
 | [],s,_=>.ret s
 | x::r,s,f=>.bind (f x s) λs'=>dG r s' f
inductive Lp(S T:Type) where
 | go (s:S) | out (t:T)
def iq:O PV->S->(PV->S->W (Lp S T))->W (Lp S T)
 | [],s,_=>.ret (.go s)
 | x::r,s,f=>.bind (f x s) λo=>match o with
  | .go s'=>iq r s' f
  | .out t=>.ret (.out t)
def pC(k:S->W T)(inj:R->T):Lp S R->W T
 | .go s=>k s
 | .out r=>.ret (inj r)
@[simp] theorem ny(k:S->W T)(inj:R->T)(s:S):pC k inj (.go s)=k s:=(rfl)
@[simp] theorem Nw(k:S->W T)(inj:R->T)(r:R):pC k inj (.out r)=.ret (inj r):=(rfl)
def Ld(hd:S->bj)(out:R->End):Lp S R->End
 | .go s=>.nc (hd s)
 | .out r=>out r
def hU(c:S->W Bool)(b:S->W S):Nat->S->W S
 | 0,_=>.fail
 | n+1,s=>.bind (c s) λk=>if k=true then .bind (b s) (hU c b n) else .ret s
def qw(c:S->W Bool)(b:S->W S)(s:S):W S:=⟨λQ=>∃n,(hU c b n s).run Q,λh ⟨n,q⟩=>⟨n,(hU c b n s).mono h q⟩⟩
def fb(c:S->W Bool)(b:S->W (Lp S T)):Nat->S->W (Lp S T)
 | 0,_=>.fail
 | n+1,s=>.bind (c s) λk=>if k=true then .bind (b s) (λo=>match o with
  | .go s'=>fb c b n s'
  | .out t=>.ret (.out t)) else .ret (.go s)
def hZ(c:S->W Bool)(b:S->W (Lp S T))(s:S):W (Lp S T):=⟨λQ=>∃n,(fb c b n s).run Q,λh ⟨n,q⟩=>⟨n,(fb c b n s).mono h q⟩⟩
end
section
variable{c:jp}{rest:O r6}{S T T2:Type}{hd:S->bj}{s0:S}{wt:PV->W T2}{da:S->T2->bj}{k:S->W T}{out:T->End}{x:Bool}{R:Type}{inj:R->T}
theorem SF.for{f:PV->S->W S}{wb:T2->S->W S}(hp:xz (gl X.prog X.w) X.A X.env X.xe)(hc:X.calm=true)(hi:qr X K fs tg iter wl)(hl:fV fs (hd s0))(hg:∀s,GF X K (hd s) tg is wt (da s))(hf:∀p s,f p s=.bind (wt p) λt=>wb t s)
  (hb:∀s t,SF X K false (da s t) body (wb t s) λs'=>.nc (hd s')) (hr:∀s,SF X K x (hd s) rest (k s) out) (hs:sD X iter:=by intro _;rfl) :
  SF X K x fs (.For tg iter body [] pos::rest) (.bind wl λl=>.bind (dG l s0 f) k) out:=by
 refine SF.step (wB (g:=λv σ H Q=>∃s,fG K (hd s) is wt (da s) v σ H Q) (tb:=λD σ H=>∃s t,fS K false (da s t) (wb t s) (λs'=>.nc (hd s')) D σ H) hp hc hi.p (λU s σ H v u Q I r ⟨s1,q⟩=>(hg s1).p U s σ H v u Q I r q) (λU s σ H D I ⟨s1,t1,q⟩=>(hb s1 t1).p U s σ H D I q) hs) λD σ H ⟨sr,q⟩=>?_;refine⟨sr,wl.mono (λl q1 J H1 g1 s1 jf=>?_) q⟩;refine⟨λi m σ' H'=>∃s,aM K H' σ' (hd s)/\bP σ fs H σ' (hd s) H'/\JF K H' J l/\m=l.length-i/\i<=l.length/\(dG (l.drop i) s f).run λs'=>(k s').run λt=>a8 K x σ fs H D (out t),⟨l.length,s0,s1.le hl,g1.f.trans (bP.le s1 hl),jf,by simp,Bj _,by simpa using q1⟩,?_⟩;rintro i m σ2 H2 ⟨s,s2,g2,Fb,rfl,hi,q2⟩;obtain⟨j1,j2⟩:=Fb.2 H2 (aN.refl H2);by_cases jC:i < l.length
 ·obtain⟨go,yl⟩:=j1 i _ (Ag jC);rw[(A8 jC)]at q2;refine .inr ⟨go,λσ3 H3=>∃s',aM K H3 σ3 (hd s')/\bP σ fs H σ3 (hd s') H3/\JF K H3 J l/\(dG (l.drop (i+1)) s' f).run λs'=>(k s').run λt=>a8 K x σ fs H D (out t),λσ3 H3 ⟨s',a1,a2,a3,a4⟩=>⟨l.length-(i+1),by omega,s',a1,a2,a3,rfl,jC,a4⟩,λv H3 y=>?_⟩;obtain⟨sm,vx⟩:=yl v H3 y;have q2:(f l[i] s).run λs'=>(dG (l.drop (i+1)) s' f).run λs'=>(k s').run λt=>a8 K x σ fs H D (out t):=q2;rw[hf]at q2;have s3:=s2.same sm;refine⟨s,_,s3,vx,(wt l[i]).mono (λt q4 us g4 s4=>?_) q2⟩;refine⟨s,t,s4,(wb t s).mono (λs' q5 σ5 H5 g5 s5=>?_) q4⟩;have fin:∃s',aM K H5 σ5 (hd s')/\bP σ fs H σ5 (hd s') H5/\JF K H5 J l/\(dG (l.drop (i+1)) s' f).run λs'=>(k s').run λt=>a8 K x σ fs H D (out t):=⟨s',s5,((g2.trans (bP.same sm s2)).trans g4).trans g5,Fb.tk (aN.trans sm.dj (aN.trans (g4.cu s3) (g5.cu s4))),q5⟩;exact⟨λ_=>fin,fin⟩
 ·have e:i=l.length:=by omega
  subst e;rw[D1]at q2;exact .inl ⟨j2,hd s,k s,hr s,s2,(k s).mono (λt q3=>q3.go g2 sr s2) q2⟩
theorem SF.iq{f:PV->S->W (Lp S R)}{wb:T2->S->W (Lp S R)}(hp:xz (gl X.prog X.w) X.A X.env X.xe)(hc:X.calm=true)(hi:qr X K fs tg iter wl)(hl:fV fs (hd s0))(hg:∀s,GF X K (hd s) tg is wt (da s))(hf:∀p s,f p s=.bind (wt p) λt=>wb t s)
  (ho:∀t,(out (inj t)).tK)
  (hb:∀s t,SF X K false (da s t) body (wb t s) (Ld hd λr=>out (inj r))) (hr:∀s,SF X K x (hd s) rest (k s) out) (hs:sD X iter:=by intro _;rfl) :
  SF X K x fs (.For tg iter body [] pos::rest) (.bind wl λl=>.bind (FL.iq l s0 f) (pC k inj)) out:=by
 refine SF.step (wB (g:=λv σ H Q=>∃s,fG K (hd s) is wt (da s) v σ H Q) (tb:=λD σ H=>∃s t,fS K false (da s t) (wb t s) (Ld hd λr=>out (inj r)) D σ H) hp hc hi.p (λU s σ H v u Q I r ⟨s1,q⟩=>(hg s1).p U s σ H v u Q I r q) (λU s σ H D I ⟨s1,t1,q⟩=>(hb s1 t1).p U s σ H D I q) hs) λD σ H ⟨sr,q⟩=>?_;refine⟨sr,wl.mono (λl q1 J H1 g1 s1 jf=>?_) q⟩;have lo:∀D' y t,D'.rt=D.rt->a8 K x σ fs H D (out (inj t))->a8 K y σ fs H D' (out (inj t)):=λD' y t e h=>a8.KZ (ho t) e h;refine⟨λi m σ' H'=>∃s,aM K H' σ' (hd s)/\bP σ fs H σ' (hd s) H'/\JF K H' J l/\m=l.length-i/\i<=l.length/\(FL.iq (l.drop i) s f).run λo=>(pC k inj o).run λt=>a8 K x σ fs H D (out t),⟨l.length,s0,s1.le hl,g1.f.trans (bP.le s1 hl),jf,by simp,Bj _,by simpa using q1⟩,?_⟩;rintro i m σ2 H2 ⟨s,s2,g2,Fb,rfl,hi,q2⟩;obtain⟨j1,j2⟩:=Fb.2 H2 (aN.refl H2);by_cases jC:i < l.length
 ·obtain⟨go,yl⟩:=j1 i _ (Ag jC);rw[(A8 jC)]at q2;refine .inr ⟨go,λσ3 H3=>∃s',aM K H3 σ3 (hd s')/\bP σ fs H σ3 (hd s') H3/\JF K H3 J l/\(FL.iq (l.drop (i+1)) s' f).run λo=>(pC k inj o).run λt=>a8 K x σ fs H D (out t),λσ3 H3 ⟨s',a1,a2,a3,a4⟩=>⟨l.length-(i+1),by omega,s',a1,a2,a3,rfl,jC,a4⟩,λv H3 y=>?_⟩;obtain⟨sm,vx⟩:=yl v H3 y;have q2:(f l[i] s).run λo=>(match o with | .go s'=>FL.iq (l.drop (i+1)) s' f | .out t=>ap (.out t)).run λo=>(pC k inj o).run λt=>a8 K x σ fs H D (out t):=q2;rw[hf]at q2;have s3:=s2.same sm;have g3:=g2.trans (bP.same sm s2);refine⟨s,_,s3,vx,(wt l[i]).mono (λt q4 us g4 s4=>?_) q2⟩;refine⟨s,t,s4,(wb t s).mono (λo q5=>?_) q4⟩;cases o with
  | out t5=>
   refine a8.go (g3.trans g4) sr s4 (lo _ false t5 ?_ q5);rfl
  | go s'=>
   intro σ5 H5 g5 s5;have fin:∃s',aM K H5 σ5 (hd s')/\bP σ fs H σ5 (hd s') H5/\JF K H5 J l/\(FL.iq (l.drop (i+1)) s' f).run λo=>(pC k inj o).run λt=>a8 K x σ fs H D (out t):=⟨s',s5,(g3.trans g4).trans g5,Fb.tk (aN.trans sm.dj (aN.trans (g4.cu s3) (g5.cu s4))),q5⟩;exact⟨λ_=>fin,fin⟩
 ·have e:i=l.length:=by omega
  subst e;rw[D1]at q2;exact .inl ⟨j2,hd s,k s,hr s,s2,(k s).mono (λt q3=>q3.go g2 sr s2) q2⟩
def SF.J9{cw:S->W Bool}{b:S->W S}(hp:xz (gl X.prog X.w) X.A X.env X.xe)(hl:fV fs (hd s0))(hc:∀s,TF X K (hd s) c (cw s))(hb:∀s,SF X K false (hd s) body (b s) λs'=>.nc (hd s'))(hr:∀s,SF X K x (hd s) rest (k s) out) :
  SF X K x fs (.While c body [] pos::rest) (.bind (qw cw b s0) k) out:=by
 refine SF.step (f7 (tc:=λσ H Q=>∃s,fT K (hd s) (cw s) σ H Q) (tb:=λD σ H=>∃s,fS K false (hd s) (b s) (λs'=>.nc (hd s')) D σ H) hp (λU s σ H Q I ⟨s1,q⟩=>(hc s1).p U s σ H Q I q) (λU s σ H D I ⟨s1,q⟩=>(hb s1).p U s σ H D I q)) λD σ H ⟨sr,n,q⟩=>?_;refine⟨λm σ' H'=>∃s,aM K H' σ' (hd s)/\bP σ fs H σ' (hd s) H'/\(hU cw b m s).run λs'=>(k s').run λt=>a8 K x σ fs H D (out t),⟨n,s0,sr.le hl,bP.le sr hl,q⟩,?_⟩;rintro m σ1 H1 ⟨s,s1,g1,q1⟩;cases m with
 | zero=>exact q1.elim
 | succ m=>
  refine⟨s,s1,(cw s).mono (λkk q2 H2 g2 s2=>?_) q1⟩;cases kk with
  | false=>
   exact eU ⟨hd s,k s,hr s,s2,(k s).mono (λt q3=>q3.go (g1.trans g2.f) sr s2) q2⟩
  | true=>
   refine gX ?_;refine⟨λσ3 H3=>∃s,aM K H3 σ3 (hd s)/\bP σ fs H σ3 (hd s) H3/\(hU cw b m s).run λs'=>(k s').run λt=>a8 K x σ fs H D (out t),λσ3 H3 a=>⟨m,Bq m,a⟩,s,s2,(b s).mono (λs' q5 σ5 H5 g5 s5=>?_) q2⟩;have fin:∃s,aM K H5 σ5 (hd s)/\bP σ fs H σ5 (hd s) H5/\(hU cw b m s).run λs'=>(k s').run λt=>a8 K x σ fs H D (out t):=⟨s',s5,(g1.trans g2.f).trans g5,q5⟩;exact⟨λ_=>fin,fin⟩
def SF.hZ{cw:S->W Bool}{b:S->W (Lp S R)}(hp:xz (gl X.prog X.w) X.A X.env X.xe)(hl:fV fs (hd s0))(hc:∀s,TF X K (hd s) c (cw s))(ho:∀t,(out (inj t)).tK)
  (hb:∀s,SF X K false (hd s) body (b s) (Ld hd λr=>out (inj r))) (hr:∀s,SF X K x (hd s) rest (k s) out) :
  SF X K x fs (.While c body [] pos::rest) (.bind (FL.hZ cw b s0) (pC k inj)) out:=by
 refine SF.step (f7 (tc:=λσ H Q=>∃s,fT K (hd s) (cw s) σ H Q) (tb:=λD σ H=>∃s,fS K false (hd s) (b s) (Ld hd λr=>out (inj r)) D σ H) hp (λU s σ H Q I ⟨s1,q⟩=>(hc s1).p U s σ H Q I q) (λU s σ H D I ⟨s1,q⟩=>(hb s1).p U s σ H D I q)) λD σ H ⟨sr,n,q⟩=>?_;have lo:∀D' y t,D'.rt=D.rt->a8 K x σ fs H D (out (inj t))->a8 K y σ fs H D' (out (inj t)):=λD' y t e h=>a8.KZ (ho t) e h;refine⟨λm σ' H'=>∃s,aM K H' σ' (hd s)/\bP σ fs H σ' (hd s) H'/\(fb cw b m s).run λo=>(pC k inj o).run λt=>a8 K x σ fs H D (out t),⟨n,s0,sr.le hl,bP.le sr hl,q⟩,?_⟩;rintro m σ1 H1 ⟨s,s1,g1,q1⟩;cases m with
 | zero=>exact q1.elim
 | succ m=>
  refine⟨s,s1,(cw s).mono (λkk q2 H2 g2 s2=>?_) q1⟩;cases kk with
  | false=>
   exact eU ⟨hd s,k s,hr s,s2,(k s).mono (λt q3=>q3.go (g1.trans g2.f) sr s2) q2⟩
  | true=>
   refine gX ?_;refine⟨λσ3 H3=>∃s,aM K H3 σ3 (hd s)/\bP σ fs H σ3 (hd s) H3/\(fb cw b m s).run λo=>(pC k inj o).run λt=>a8 K x σ fs H D (out t),λσ3 H3 a=>⟨m,Bq m,a⟩,s,s2,(b s).mono (λo q5=>?_) q2⟩;cases o with
   | out t5=>
    refine a8.go (g1.trans g2.f) sr s2 (lo _ false t5 ?_ q5);rfl
   | go s'=>
    intro σ5 H5 g5 s5;have fin:∃s,aM K H5 σ5 (hd s)/\bP σ fs H σ5 (hd s) H5/\(fb cw b m s).run λo=>(pC k inj o).run λt=>a8 K x σ fs H D (out t):=⟨s',s5,(g1.trans g2.f).trans g5,q5⟩;exact⟨λ_=>fin,fin⟩
end
end
end FL
variable{f:PL.PV->FL.W (Option PL.PV)}{kO:FL.bj}
namespace FL
section
variable[bD]
variable{K:Aa}
def oy:O PV->(PV->W (Option PV))->W (O PV)
 | [],_=>.ret []
 | x::r,f=>.bind (f x) λo=>.bind (oy r f) λl=>.ret (o.toList++l)
def dN:O PV->(PV->W PV)->W (O PV)
 | [],_=>.ret []
 | x::r,f=>.bind (f x) λy=>.bind (dN r f) λl=>.ret (y::l)
theorem m6(f:PV->W PV):∀l,dN l f=oy l λp=>.bind (f p) λv=>.ret (al v)
 | []=>rfl
 | x::r=>by
  show am (f x) (λy=>am (dN r f) λl=>ap (y::l))=am (f x) λy=>am (oy r _) λl=>ap (y::l);rw[m6 f r]
def cB(ix:O (Option Nat))(fs:bj):bj:=ix.map λo=>match o with | some j=>(fs[j]?).getD bn | none=>bn
section
def i7{s:SL}(h:(cB ix fs)[i]?=al (al s)):∃j,ix[i]?=al (al j)/\fs[j]?=al (al s):=by
 unfold cB at h;rw[Ak]at h;cases q:ix[i]? with
 | none=>rw[q]at h;cases h
 | some o=>
  rw[q]at h;cases o with
  | none=>cases h
  | some j=>
   refine⟨j,rfl,?_⟩;have h:(fs[j]?).getD bn=al s:=Option.some.inj h;cases z:fs[j]? with
   | none=>rw[z]at h;cases h
   | some y=>rw[z]at h;exact congrArg al h
def gV(h:ix[i]?=al (al j))(e:σ[j]?=al (al u)):(i6 ix σ)[i]?=al (al u):=by
 unfold i6;rw[Ak,h];show al ((σ[j]?).getD bn)=_;rw[e];rfl
def aM.fW(s:aM K H σ fs)(inj:∀i i' j:Nat,ix[i]?=al (al j)->ix[i']?=al (al j)->i=i'):aM K H (i6 ix σ) (cB ix fs):=by
 refine⟨by unfold i6 cB;simp,λi t e=>?_,λi i' t u x y a e1 e2 o1 o2 q1 q2 z1 z2=>?_,s.tb⟩
 ·obtain⟨j,h1,h2⟩:=i7 e;obtain⟨u,h3,h4⟩:=s.at' j t h2;exact⟨u,gV h1 h3,h4⟩
 ·obtain⟨j,h1,h2⟩:=i7 e1;obtain⟨j',eX,nv⟩:=i7 e2;obtain⟨u1,h3,_⟩:=s.at' j t h2;obtain⟨u2,LX,_⟩:=s.at' j' u nv;rw[gV h1 h3]at q1;rw[gV eX LX]at q2;cases q1;cases q2;have:=s.nd j j' t u x y a h2 nv o1 o2 h3 LX z1 z2;subst this;exact inj i i' j h1 eX
structure F2(ix:List (Option Nat))(σ:L2.St)(fs:bj)(σ':L2.St)(aZ:bj):Prop where
 own:∀(i:Nat) (t:SL),aZ[i]?=al (al t)->t.own=true->∃j,ix[i]?=al (al j)/\fs[j]?=al (al t)/\σ'[i]?=σ[j]?
def F2.lD(h:F2 ix σ fs σ' aZ)(o:bW σ' aZ a):bW σ fs a:=by
 obtain⟨i,t,x,e1,e2,e3,e4⟩:=o;obtain⟨j,h1,h2,h3⟩:=h.own i t e1 e2;exact⟨j,t,x,h2,e2,h3▸e3,e4⟩
def F2.jg(h:F2 ix σ fs σ' aZ)(o:fM σ' aZ φ a):fM σ fs φ a:=by
 obtain⟨i,e1,e3⟩:=o;obtain⟨j,h1,h2,h3⟩:=h.own i _ e1 rfl;exact⟨j,h2,h3▸e3⟩
def F2.out(h:F2 ix σ fs σ' aZ)(s:aM K H1 σ fs)(g:cI σ' aZ H1 H2)(s2:aM K H2 σ' aZ):aM K H2 σ fs/\cI σ fs H1 H2:=by
 have gf:cI σ fs H1 H2:=⟨λa o e n t=>g.keep a o e (λφ z=>n φ (h.jg z)) t,g.there⟩;refine⟨⟨s.len,λj t e=>?_,s.nd,s2.tb⟩,gf⟩;obtain⟨u,h1,h2⟩:=s.at' j t e;refine⟨u,h1,?_⟩;have tk:=gf.cu s;rcases h2 with⟨v,q,r⟩ | ⟨a,q,r⟩
 ·exact .inl ⟨v,q,VR.tk tk r⟩
 ·subst q;refine .inr ⟨a,rfl,?_⟩;by_cases c:∃b,t.own=true/\t.has a b/\bW σ' aZ b
  ·obtain⟨b,ow,hb,i,t',x,c1,c2,c3,c4⟩:=c;obtain⟨j',k1,k2,k3⟩:=h.own i t' c1 c2;have jj:=s.nd j j' t t' a x b e k2 ow c2 h1 (k3▸c3) hb c4;subst jj;rw[e]at k2;cases k2;exact s2.ownAt c1 c2 (k3.trans h1)
  ·exact r.mono tk (λb o ow hb z nt=>g.kE z (λy=>c ⟨b,ow,hb,y⟩) nt)
theorem ke:∀{is:O Nat}{us:O V}{σ:L2.St}{i:Nat},i∉is->(kg is us σ)[i]?=σ[i]?
 | [],us,σ,i,_=>by cases us <;> rfl
 | j::is,[],σ,i,_=>rfl
 | j::is,u::us,σ,i,h=>by
  rw[kg,ke (λz=>h (AE _ z))];exact aL (λz=>h (by rw[z];exact AZ))
end
section
variable{T2:Type}{wt:PV->W T2}{da:T2->bj}{tf:T2->W Bool}{te:T2->W PV}
structure FF(X:Cx)(K:Aa)(fs:bj)(Ë:List jp)(w:W Bool):Prop where p:JV X Ë (fT K fs w)
def xT:FF X K fs [] (.ret true):=⟨λU s σ H Q I ⟨sr,q⟩=>zH U s σ H Q I (q H .refl sr)⟩
def IL{c:jp}{w:W Bool}(h:TF X K fs c w):FF X K fs [c] w:=⟨zG h.p⟩
def vw(is:O Nat)(kO:bj)(da:T2->bj):Prop:=∀t,(da t).length=kO.length/\∀(i:Nat) (s:SL),(da t)[i]?=al (al s)->(i∈is/\s.own=false)\/(i∉is/\kO[i]?=al (al s))
theorem GG(S:bM X.env.scope X.N sc N' ix)(hb:kO=cB ix fs)(hf:∀p,f p=.bind (wt p) λt=>.bind (tf t) λk=>if k=true then .bind (te t) λv=>.ret (al v) else .ret bn)(hl:vw is kO da)(hr:∀t,fV (da t) kO)(uR:∀j∈is,ix[j]?=al bn) :
  ∀σ H Q,fL K fs (.bind wl λl=>oy l f) σ H Q->Oo ix (RA K fs wl) (λv σ H Q=>fG K kO is wt da v σ H Q) (λσ H Q=>∃t,fT K (da t) (tf t) σ H Q) (λσ H Q=>∃t,fE K (da t) (te t) σ H Q) σ H Q:=by
 subst hb;rintro σ H Q ⟨sr,q⟩;refine⟨sr,wl.mono (λl q1 J H1 g1 s1 jf D hD=>?_) q⟩;have inj:∀i i' j:Nat,ix[i]?=al (al j)->ix[i']?=al (al j)->i=i':=λi i' j h1 h2=>by
  have hi:i < N'.length:=by rw[<- S.len];exact(Ai.mp h1).1
  have xH:i' < N'.length:=by rw[<- S.len];exact(Ai.mp h2).1
  have e2:=(S.at h2 (Ag xH)).1;rw[((S.at h1 (Ag hi)).1)]at e2;exact(List.getElem_inj S.nd).mp (Option.some.inj e2)
 have nD:=s1.noOwn hD;refine⟨λi m σ' ys H'=>∃Æ,aM K H' σ fs/\cI σ fs H H'/\aM K H' σ' (cB ix fs)/\F2 ix σ fs σ' (cB ix fs)/\JF K H' J l/\H' D=al (.lst ys)/\aA K [] H' ys Æ/\Æ.length<=i/\m=l.length-i/\i<=l.length/\
  (oy (l.drop i) f).run λr=>∀a vs H',cI σ fs H H'->aM K H' σ fs->H a=bn->H' a=al (.lst vs)->aA K [] H' vs (Æ++r)->Q (.ref a) H',⟨l.length,[],?_⟩,?_⟩
 ·have sm:=iE hD (.lst []);refine⟨s1.same sm,g1.trans (cI.same sm),(s1.same sm).fW inj,⟨λi t e o=>?_⟩,jf.tk sm.dj,aF,.nil,Bj _,by simp,Bj _,by simpa using q1⟩;obtain⟨j,h1,h2⟩:=i7 e;obtain⟨u,h3,_⟩:=s1.at' j t h2;exact⟨j,h1,h2,by rw[gV h1 h3,h3]⟩
 rintro i m σ2 ys H2 ⟨Æ,sO,gO,s2,Gs,Fb,hy,vy,LQ,rfl,hi,q2⟩;refine⟨hy,?_⟩;obtain⟨j1,j2⟩:=Fb.2 H2 (aN.refl H2);by_cases jC:i < l.length
 ·obtain⟨go,yl⟩:=j1 i _ (Ag jC);rw[(A8 jC)]at q2;refine .inr ⟨go,λv H3 y=>?_⟩;obtain⟨sm,vx⟩:=yl v H3 y;have q2:(f l[i]).run λo=>(oy (l.drop (i+1)) f).run λr=>∀a vs H',cI σ fs H H'->aM K H' σ fs->H a=bn->H' a=al (.lst vs)->aA K [] H' vs (Æ++(o.toList++r))->Q (.ref a) H':=q2;rw[hf]at q2;refine⟨_,(s2.same sm),vx,(wt l[i]).mono (λt q4 us g4 s4=>?_) q2⟩;have Fg:F2 ix σ fs (kg is us σ2) (da t):=⟨λj u e o=>by
   rcases (hl t).2 j u e with⟨_,z⟩ | ⟨n,z⟩
   ·rw[z]at o;cases o
   ·obtain⟨j',k1,k2,k3⟩:=Gs.own j u z o;exact⟨j',k1,k2,by rw[ke n];exact k3⟩⟩
  refine⟨t,s4,(tf t).mono (λkk q5 H5 g5 s5=>?_) q4⟩;obtain⟨QP,P1⟩:=Fg.out (sO.same sm) g5 s5;have Ru:=(gO.trans (cI.same sm)).trans P1;have QY:¬bW (kg is us σ2) (da t) D:=λz=>nD (Fg.lD z);have Q3:=g5.kE (sm _ _ hy) QY;have QI:=aA.tk (g5.cu s4) (aA.tk sm.dj vy);have Q2:=(Fb.tk sm.dj).tk (g5.cu s4);have Ô:∀{H6:Hp},aM K H6 (kg is us σ2) (da t)->aM K H6 (kg is us σ2) (cB ix fs)/\F2 ix σ fs (kg is us σ2) (cB ix fs):=λ{H6} z=>⟨z.le (hr t),⟨λj u e o=>Fg.own j u ((hr t).at j u e) o⟩⟩;cases kk with
  | false=>
   exact eU ⟨l.length-(i+1),by omega,Æ,QP,Ru,(Ô s5).1,(Ô s5).2,Q2,Q3,QI,by omega,rfl,jC,q5⟩
  | true=>
   refine gX ⟨t,s5,(te t).mono (λv6 q6 u6 H6 g6 s6 RX=>?_) q5⟩;obtain⟨Se,P0⟩:=Fg.out QP g6 s6;have Lx:=g6.kE Q3 QY;have QH:=aA.tk (g6.cu s5) QI;refine⟨Lx,by rw[QH.length];have:=Fb.1;omega,l.length-(i+1),by omega,Æ++[v6],Se.side nD Lx _,(Ru.trans P0).side (g1.there D hD) _,((Ô s6).1).side (λz=>nD ((Ô s6).2.lD z)) Lx _,(Ô s6).2,(Q2.tk (g6.cu s5)).tk (jS _ Lx),aF,aA.tk (jS (.lst (ys++[u6])) Lx) (QH.append (.cons RX .nil)),by rw[Ab];simp;omega,rfl,jC,?_⟩;refine(oy (l.drop (i+1)) f).mono (λr q7 a vs H7 g7 s7 n e v7=>q7 a vs H7 g7 s7 n e ?_) q6;simpa using v7
 ·have e:i=l.length:=by omega
  subst e;rw[D1]at q2;exact .inl ⟨j2,q2 D ys H2 gO sO (g1.there D hD) hy (by simpa using vy)⟩
end
end
end FL
namespace L2
def jM(l:db)(items:Array ce)(n:Nat)(b:db)(fq:Array ce)(n2:Nat)(sl:Array (Option ce))(Va:¬(!items.isEmpty&&Builtin.List.listTooLong (items.size+fq.size))=true)(U9:items.size<=sizeLine)(vC:items.size+fq.size<=sizeLine+1) :
  Meets (FM.«list.extend» ⟨[.ref l,.ref b],[]⟩) (λ_ R s=>s.heap.get? l=al {cls:=.type "list",dict:=bn,data:=.seq items n,slots:=#[]}/\s.heap.get? b=al {cls:=.type "list",dict:=bn,data:=.seq fq n2,slots:=sl}/\R (.ok (.ret C4)) {s with heap:=s.heap.update l (BK λx=>x++fq),toks:=s.toks}):=
 .of_wp λprog w A R s h=>by
  obtain⟨hp,g,d,tk,os⟩:=s;obtain⟨hl,hb,h⟩:=h;have f5:=Dc;
  wp_walk using (Dh hl rfl),BC hl,BC hb;exact⟨_,rfl,h⟩
def KJ(K:Aa):V->O V->Hp->VK->Prop:=λx vs H Q=>∃l b xs zs,x=.ref l/\vs=[.ref b]/\H l=al (.lst xs)/\(cp K H b zs\/cf K H b zs)/\xs.length+zs.length<=sizeLine/\qx H l (.lst (xs++zs)) (Q .aB)
theorem z0(K:Aa)(hK:X.K=K):vv X "list.extend" (KJ K):=by
 subst hK;intro U s σ H x vs v us Q I rx rv h;obtain⟨l,b,xs,zs,rfl,rfl,hH,hB | hB,hz,q⟩:=h
 ·cases rx;obtain⟨u,rfl,ru⟩:=rv.one;cases ru;obtain⟨z,ay,n,r,hl,e⟩:=I.kC hH;obtain⟨bS,r2,⟨⟨cls,dd,data,sl⟩,n2,e2,hc,hd,xJ⟩,z2⟩:=I.list hB;subst hc hd xJ;have Gx:=r2.length;have hsz:ay.toArray.size+bS.toArray.size<=sizeLine:=by rw[Af,Af];omega
  have pz:¬(!ay.toArray.isEmpty&&Builtin.List.listTooLong (ay.toArray.size+bS.toArray.size))=true:=by
   rw[gn hsz,DJ];exact AD
  refine Fa Dz ⟨_,e,rfl⟩ Dp (C9 _ _)
   (jM l ay.toArray n b bS.toArray n2 sl pz (by rw[Af];omega) ∅) ⟨e,e2,?_⟩
  refine⟨.aB,_,I.uH hH e (by simp) (r.append r2) ?_,rfl,q.at⟩;rw[Ab];omega
 ·exact o7 U s σ H _ _ v us Q I rx rv ⟨l,b,xs,zs,rfl,rfl,hH,hB,hz,q⟩
end L2
variable{wi we:FL.W PL.PV}{z:Bv}
namespace FL
section
variable[bD]
variable{K:Aa}
section
variable{T2:Type}{wt:PV->W T2}{da:T2->bj}{tf:T2->W Bool}{te:T2->W PV}
def Lk(hc:X.calm=true)(S:bM X.env.scope X.N sc N' ix)(hi:qr X K fs tg iter wl)(hg:∀cl C s2 H2 fp,GF (fW X sc N' cl C s2 H2 fp) K (cB ix fs) tg is wt da)(Py:∀cl C s2 H2 fp t,FF (fW X sc N' cl C s2 H2 fp) K (da t) Ë (tf t))(he:∀cl C s2 H2 fp t,EF (fW X sc N' cl C s2 H2 fp) K (da t) Ç (te t))
  (hf:∀p,f p=.bind (wt p) λt=>.bind (tf t) λk=>if k=true then .bind (te t) λv=>.ret (al v) else .ret bn) (hl:vw is (cB ix fs) da/\∀t,fV (da t) (cB ix fs)) (uR:∀j∈is,ix[j]?=al bn) (hs:sD X iter:=by intro _;rfl) :
  LF X K fs (.ListComp Ç [⟨tg,iter,Ë,0⟩] sc pos) (.bind wl λl=>oy l f):=
 ⟨PE.imp (KS hc S hi.p (λcl C s2 H2 fp=>(hg cl C s2 H2 fp).p) (λcl C s2 H2 fp U s σ H Q I ⟨t,q⟩=>(Py cl C s2 H2 fp t).p U s σ H Q I q) (λcl C s2 H2 fp U s σ H Q I ⟨t,q⟩=>(he cl C s2 H2 fp t).p U s σ H Q I q) hs) (GG S rfl hf hl.1 hl.2 uR)⟩
def Lj{f:PV->W PV}(hc:X.calm=true)(S:bM X.env.scope X.N sc N' ix)(hi:qr X K fs tg iter wl)(hg:∀cl C s2 H2 fp,GF (fW X sc N' cl C s2 H2 fp) K (cB ix fs) tg is wt da)(he:∀cl C s2 H2 fp t,EF (fW X sc N' cl C s2 H2 fp) K (da t) Ç (te t))
  (hf:∀p,f p=.bind (wt p) te) (hl:vw is (cB ix fs) da/\∀t,fV (da t) (cB ix fs)) (uR:∀j∈is,ix[j]?=al bn) (hs:sD X iter:=by intro _;rfl) :
  LF X K fs (.ListComp Ç [⟨tg,iter,[],0⟩] sc pos) (.bind wl λl=>dN l f):=by
 have:(λl=>dN l f)=λl=>oy l λp=>.bind (wt p) λt=>.bind (.ret true) λk=>if k=true then .bind (te t) λv=>.ret (al v) else .ret bn:=funext λl=>by
  rw[m6];congr 1;funext p;rw[hf];rfl
 rw[this];exact Lk hc S hi hg (λ_ _ _ _ _ _=>xT) he (λp=>rfl) hl uR hs
def SF.Kv{rest:O r6}{out:T->End}{x:Bool}{k:O PV->W T}(hc:X.calm=true)(hN:X.N.Nodup)(xH:X.N[i]?=al y)(hx:X.env.scope.names.lookup y=al .local)(S:bM X.env.scope X.N sc N' ix)(hi:qr X K fs tg iter wl)(hg:∀cl C s2 H2 fp,GF (fW X sc N' cl C s2 H2 fp) K (cB ix fs) tg is wt da)(Py:∀cl C s2 H2 fp t,FF (fW X sc N' cl C s2 H2 fp) K (da t) Ë (tf t))(he:∀cl C s2 H2 fp t,EF (fW X sc N' cl C s2 H2 fp) K (da t) Ç (te t))
  (hf:∀p,f p=.bind (wt p) λt=>.bind (tf t) λk=>if k=true then .bind (te t) λv=>.ret (al v) else .ret bn) (hl:vw is (cB ix fs) da/\∀t,fV (da t) (cB ix fs)) (uR:∀j∈is,ix[j]?=al bn) (hr:∀l,SF X K x (fs.set i (al (.ol bn l))) rest (k l) out)
  (rh:pr (.ListComp Ç [⟨tg,iter,Ë,0⟩] sc pos) (al (.Name y px)) oJ.line X.env=pure true:=by rfl) (hs:sD X iter:=by intro _;rfl) :
  SF X K x fs (.Assign [.Name y px] (.ListComp Ç [⟨tg,iter,Ë,0⟩] sc pos) oJ::rest) (.bind (.bind wl λl=>oy l f) k) out:=
 SF.step (wz hc hN xH hx S hi.p (λcl C s2 H2 fp=>(hg cl C s2 H2 fp).p) (λcl C s2 H2 fp U s σ H Q I ⟨t,q⟩=>(Py cl C s2 H2 fp t).p U s σ H Q I q) (λcl C s2 H2 fp U s σ H Q I ⟨t,q⟩=>(he cl C s2 H2 fp t).p U s σ H Q I q) rh hs) λD σ H ⟨sr,q⟩=>
  GG (K:=K) S rfl hf hl.1 hl.2 uR σ H _ ⟨sr,(am wl λl=>oy l f).mono (λl q1 a ws H1 g1 s1 n e v1=>by
   have no:=sr.noOwn n;have s2:=s1.mM (t:=.ol bn l) ⟨by simp,ws,e,v1⟩ no i;exact⟨_,k l,hr l,s2,(k l).mono (λt q2=>q2.go (bP.mM s1 g1.f no n i) sr s2) q1⟩) q⟩
theorem xt:∀{l:bj}{i:Nat} (s:Option SL),l[i]?=al bn->fV (l.set i s) l
 | [],_,_,h=>by simp at h
 | x::l,0,s,h=>by
  simp at h;subst h;exact .drop (fV.refl l)
 | x::l,i+1,s,h=>by
  exact .keep (xt s (by simpa using h))
def xv{l:bj}{is:O Nat}(hl:l.length=kO.length/\∀(j:Nat) (s:SL),l[j]?=al (al s)->(j∈is/\s.own=false)\/(j∉is/\kO[j]?=al (al s)))(hi:kO[i]?=al bn) :
  (l.set i (al (.val v))).length=kO.length/\∀(j:Nat) (s:SL),(l.set i (al (.val v)))[j]?=al (al s)->(j∈is++[i]/\s.own=false)\/(j∉is++[i]/\kO[j]?=al (al s)):=by
 refine⟨by rw[Cg];exact hl.1,λj s e=>?_⟩;rcases bX e with⟨rfl,rfl⟩ | ⟨n,e⟩
 ·exact .inl ⟨by simp,rfl⟩
 ·rcases hl.2 j s e with⟨h1,h2⟩ | ⟨h1,h2⟩
  ·exact .inl ⟨by simp[h1],h2⟩
  ·exact .inr ⟨by simp[h1,n],h2⟩
def Lg(kO:bj):kO.length=kO.length/\∀(j:Nat) (s:SL),kO[j]?=al (al s)->(j∈([]:O Nat)/\s.own=false)\/(j∉([]:O Nat)/\kO[j]?=al (al s)):=⟨rfl,λj s e=>.inr ⟨by simp,e⟩⟩
def HX(hi:kO[i]?=al bn):vw [i] kO (λp=>kO.set i (al (.val p)))/\∀t,fV (kO.set i (al (.val t))) kO:=⟨λt=>xv (Lg kO) hi,λt=>xt _ hi⟩
end
section
variable{rest:O r6}{p:Pos}{T:Type}{out:T->End}{x:Bool}
def df(sr:aM K H σ fs)(hs:fs[i]?=al (al (.ol q0 l))):∃a ws,σ[i]?=al (al (.ref a))/\H a=al (.lst ws)/\aA K [] H ws l:=by
 obtain⟨u,e1,r⟩:=sr.at' i _ hs;rcases r with⟨v,e,_⟩ | ⟨a,e,z,ws,q1,q2⟩
 ·cases e
 ·subst e;exact⟨a,ws,e1,q1,q2⟩
def iO{oC:O V}{l':O PV}(sr:aM K H σ fs)(hs:fs[i]?=al (al (.ol q0 l)))(e1:σ[i]?=al (al (.ref a)))(sx:hO a H H')(h':H' a=al (.lst oC))(r:aA K [] H oC l'):aM K H' σ (fs.set i (al (.ol q0 l')))/\bP σ fs H σ (fs.set i (al (.ol q0 l'))) H':=
 ib sr hs rfl (by simp) e1 sx λtk=>⟨(sr.ownAt hs rfl e1).1,oC,h',aA.tk tk r⟩
def jt(l:O PV)(v:PV):W (O PV):=.e7 (l.length < sizeLine) (.ret (l++[v]))
theorem SF.append(i:Nat){k:O PV->W T}(hs:fs[i]?=al (al (.ol q0 l)))(hK:X.K=K)(hN:X.N[i]?=al y)(hv:qa X.env.scope y)(he:EF X K fs e we)(hr:∀l',SF X K x (fs.set i (al (.ol q0 l'))) rest (k l') out)
  (hd:eJ y:=by decide) (eW:qo y:=by decide) (c8:pi (.Name y p) "append" X.env (lc (.Name y p) X.env)=lc (.Name y p) X.env:=by rfl)
  (kJ:JW X bC [e]:=by rfl)
  (c7:F4 À bC:=by rfl) (jO:dA X e []:=by rfl) (dF:fF X bC []:=by rfl)
  (rh:pr (.Call (.Attribute (.Name y p) "append" À) [e] [] bC) bn pos.line X.env=pure false:=by rfl) :
  SF X K x fs (.Expr (.Call (.Attribute (.Name y p) "append" À) [e] [] bC) pos::rest) (.bind we λv=>.bind (jt l v) k) out:=
 SF.step (dX (mU K hK Bp CH CG il (cL hN hv hd eW) (ak he.p aD jO) c8 kJ c7 jO dF) rh) λD σ H ⟨sr,q⟩=>by
  obtain⟨a,ws,e1,h1,r1⟩:=df sr hs;refine⟨_,e1,.inl ⟨rfl,_,cp.of h1⟩,sr,we.mono (λv q1 u H1 g1 s1 v1=>?_) q⟩;obtain⟨a',oC,ql,eX,oP⟩:=df s1 hs;rw[e1]at ql;cases ql;refine⟨a,oC,u,rfl,rfl,eX,by rw[oP.length];exact q1.1,λH2 sx h2=>?_⟩;obtain⟨s2,g2⟩:=iO s1 hs e1 sx h2 (oP.append (.one v1));exact⟨_,k _,hr _,s2,(k _).mono (λt q2=>q2.go (g1.f.trans g2) sr s2) q1.2⟩
def uX(l m:O PV):W (O PV):=.e7 (l.length+m.length<=sizeLine) (.ret (l++m))
theorem SF.extend(i:Nat){k:O PV->W T}(hs:fs[i]?=al (al (.ol q0 l)))(hK:X.K=K)(hN:X.N[i]?=al y)(hv:qa X.env.scope y)(he:QF X K fs e wl)(hr:∀l',SF X K x (fs.set i (al (.ol q0 l'))) rest (k l') out)
  (hd:eJ y:=by decide) (eW:qo y:=by decide) (c8:pi (.Name y p) "extend" X.env (lc (.Name y p) X.env)=lc (.Name y p) X.env:=by rfl)
  (kJ:JW X bC [e]:=by rfl)
  (c7:F4 À bC:=by rfl) (jO:dA X e []:=by rfl) (dF:fF X bC []:=by rfl)
  (rh:pr (.Call (.Attribute (.Name y p) "extend" À) [e] [] bC) bn pos.line X.env=pure false:=by rfl) :
  SF X K x fs (.Expr (.Call (.Attribute (.Name y p) "extend" À) [e] [] bC) pos::rest) (.bind wl λm=>.bind (uX l m) k) out:=
 SF.step (dX (mU K hK Bp PySem.F.slot_list_extend PySem.F.type_list_extend (z0 K hK) (cL hN hv hd eW) (ak he.p aD jO) c8 kJ c7 jO dF) rh) λD σ H ⟨sr,q⟩=>by
  obtain⟨a,ws,e1,h1,r1⟩:=df sr hs;refine⟨_,e1,.inl ⟨rfl,_,cp.of h1⟩,sr,wl.mono (λm q1 u H1 g1 s1 v1=>?_) q⟩;obtain⟨a',oC,ql,eX,oP⟩:=df s1 hs;rw[e1]at ql;cases ql;obtain⟨b,zs,rfl,hb,rb⟩:=v1.sq s1;refine⟨a,b,oC,zs,rfl,rfl,eX,hb,by rw[oP.length,rb.length];exact q1.1,λH2 sx h2=>?_⟩;obtain⟨s2,g2⟩:=iO s1 hs e1 sx h2 (oP.append rb);exact⟨_,k _,hr _,s2,(k _).mono (λt q2=>q2.go (g1.f.trans g2) sr s2) q1.2⟩
def mP(l:O PV):W (O PV×PV):=match l.getLast? with
 | some v=>.ret (l.dropLast,v)
 | none=>.fail
def vQ{l:O PV}(h:l.getLast?=al v):l=l.dropLast++[v]:=by
 rw[List.getLast?_eq_some_iff]at h;obtain⟨ys,rfl⟩:=h;simp
theorem aA.snoc:∀{ws:O V}{l:O PV}{v:PV},aA K [] H ws (l++[v])->∃Ju u,ws=Ju++[u]/\aA K [] H Ju l/\VR K [] H u v
 | _,[],_,.cons r .nil=>⟨[],_,rfl,.nil,r⟩
 | _,x::l,v,.cons r t=>by
  obtain⟨Ju,u,rfl,h1,h2⟩:=aA.snoc t;exact⟨_::Ju,u,rfl,.cons r h1,h2⟩
def SF.mQ(i j:Nat){k:O PV×PV->W T}(hs:fs[i]?=al (al (.ol q0 l)))(JI:j≠i)(hK:X.K=K)(hN:X.N[i]?=al y)(hv:qa X.env.scope y)(T9:X.N.Nodup)(hj:X.N[j]?=al z)(hx:Loc X.env.scope z)(hr:∀t:O PV×PV,SF X K x ((fs.set i (al (.ol q0 t.1))).set j (al (.val t.2))) rest (k t) out)
  (hd:eJ y:=by decide) (eW:qo y:=by decide) (c8:pi (.Name y p) "pop" X.env (lc (.Name y p) X.env)=lc (.Name y p) X.env:=by rfl) (c7:F4 À bC:=by rfl)
  (rh:pr (.Call (.Attribute (.Name y p) "pop" À) [] [] bC) (al (.Name z p')) pos.line X.env=pure false:=by rfl) (hf:yR X z:=by first | exact .inl rfl | exact .inr rfl | assumption) :
  SF X K x fs (.Assign [.Name z p'] (.Call (.Attribute (.Name y p) "pop" À) [] [] bC) pos::rest) (.bind (mP l) k) out:=
 SF.step (cK T9 hj hx (s9 K hK Bp Ek Ej tH (cL hN hv hd eW) c8 c7) rh hf) λD σ H ⟨sr,q⟩=>by
  obtain⟨a,ws,e1,h1,r1⟩:=df sr hs;have q:(mP l).run λt=>(k t).run λt=>a8 K x σ fs H D (out t):=q;unfold mP at q;cases hl:l.getLast? with
  | none=>rw[hl]at q;exact q.elim
  | some v=>
   rw[hl]at q;have el:=vQ hl;rw[el]at r1;obtain⟨Ju,u,rfl,r0,ru⟩:=aA.snoc r1;refine⟨_,e1,.inl ⟨rfl,_,cp.of h1⟩,a,Ju,u,rfl,rfl,h1,λH2 sx h2=>?_⟩;obtain⟨s2,g2⟩:=iO sr hs e1 sx h2 r0;have Sf:VR K [] H2 u v:=g2.vr sr ru;have s3:=s2.fN Sf j;exact⟨_,k _,hr (l.dropLast,v),s3,(k _).mono (λt q2=>q2.go (g2.trans (bP.fN s2 _ _ j)) sr s3) q⟩
def setW(l:O PV)(i v:PV):W (O PV):=match i with
 | .int k=>match nh l.length k with
  | some j=>.ret (l.set j v)
  | none=>.fail
 | _=>.fail
def SF.G9(i:Nat){ei:jp}{k:O PV->W T}(hs:fs[i]?=al (al (.ol q0 l)))(hN:X.N[i]?=al y)(hv:qa X.env.scope y)(he:EF X K fs e we)(hi:EF X K fs ei wi)(hr:∀l',SF X K x (fs.set i (al (.ol q0 l'))) rest (k l') out)
  (ha:∀v,Ch (.Subscript (.Name y p) ei gW) X.env v=(do
   let ov <- r9 [v] (lc (.Name y p) X.env)
   let iv <- r9 [v,ov] (lc ei X.env)
   CD gW
   r9 [v,ov,iv] (EQ ov iv v)
   release [v,ov,iv] []):=by intro _;rfl)
  (hd:eJ y:=by decide) (eW:qo y:=by decide) (Pk:xL [.Subscript (.Name y p) ei gW] e pos.line X.env=pure false:=by rfl) (hw:zn [.Subscript (.Name y p) ei gW] e X.env=pure bn:=by rfl)
  (h1:(wT [.Subscript (.Name y p) ei gW] X.env).map (·.2)=[Ch (.Subscript (.Name y p) ei gW) X.env]:=by rfl) :
  SF X K x fs (.Assign [.Subscript (.Name y p) ei gW] e pos::rest) (.bind we λv=>.bind wi λn=>.bind (setW l n v) k) out:=
 SF.step (wC he.p (Hv (cL hN hv hd eW) hi.p uu ha) Pk hw h1) λD σ H ⟨sr,q⟩=>by
  refine⟨sr,we.mono (λv q1 u H1 g1 s1 v1=>?_) q⟩;obtain⟨a,ws,e1,h1,r1⟩:=df s1 hs;refine⟨_,e1,s1,wi.mono (λn q2 u2 H2 g2 s2 v2=>?_) q1⟩;obtain⟨a',oC,ql,eX,oP⟩:=df s2 hs;rw[e1]at ql;cases ql;cases v2 with
  | int kk=>
   have q2:(match nh l.length kk with | some j=>ap (l.set j v) | none=>W.fail).run _:=q2;cases hj:nh l.length kk with
   | none=>rw[hj]at q2;exact q2.elim
   | some j=>
    rw[hj]at q2;refine⟨a,oC,kk,j,rfl,rfl,eX,by rw[oP.length];exact hj,λH3 sx h3=>?_⟩;obtain⟨s3,g3⟩:=iO s2 hs e1 sx h3 (oP.set (g2.vr s1 v1) j);exact⟨_,k _,hr _,s3,(k _).mono (λt q3=>q3.go ((g1.trans g2).f.trans g3) sr s3) q2⟩
  | _=>exact q2.elim
end
end
section
variable[bD]
variable{K:Aa}
def dQ:O AK->O PV->bj
 | [],_=>[]
 | .v::ks,x::l=>al (.val x)::dQ ks l
 | .v::_,[]=>[]
 | .p φ::ks,l=>al (.jg φ)::dQ ks l
 | .f a us ps fz::ks,l=>al (.adr a us ps fz)::dQ ks l
def k4(ks:O AK)(l:O PV)(n:Nat):bj:=dQ ks l++Aq (n-ks.length) bn
def su(ks:O AK):Prop:=∀i j:Nat,(∃φ,ks[i]?=al (.p φ))->(∃φ,ks[j]?=al (.p φ))->i=j
theorem dS:∀{n:Nat}{m:lj R n}{l:O PV}{Q:R->Prop},(eK n m l).run Q->l.length=n
 | 0,_,[],_,_=>rfl
 | 0,_,_::_,_,h=>h.elim
 | n+1,_,[],_,h=>h.elim
 | n+1,m,x::l,Q,h=>by rw[Av,dS (n:=n) h]
section
theorem dR.len(h:dR K H vs ks l):vs.length=ks.length:=by induction h <;> simp_all
def dR.slot(h:dR K H vs ks l):(dQ ks l).length=vs.length/\∀(i:Nat) (s:SL),(dQ ks l)[i]?=al (al s)->∃u,vs[i]?=al u/\my K H u s/\(s.own=true->∃φ,s=.jg φ/\ks[i]?=al (.p φ)):=by
 induction h with
 | nil=>exact⟨rfl,λi s e=>by simp[dQ]at e⟩
 | @v u x vs ks l r t ih=>
  refine⟨by simp[dQ,ih.1],λi s e=>?_⟩;cases i with
  | zero=>simp[dQ]at e;subst e;exact⟨u,rfl,.inl ⟨x,rfl,r⟩,λz=>by cases z⟩
  | succ i=>simp[dQ]at e;obtain⟨w,h1,h2,h3⟩:=ih.2 i s e;exact⟨w,by simpa using h1,h2,by simpa using h3⟩
 | @p a φ ws vs ks l e0 r t ih=>
  refine⟨by simp[dQ,ih.1],λi s e=>?_⟩;cases i with
  | zero=>simp[dQ]at e;subst e;exact⟨_,rfl,.inr ⟨a,rfl,ws,e0,r⟩,λ_=>⟨φ,rfl,rfl⟩⟩
  | succ i=>simp[dQ]at e;obtain⟨w,h1,h2,h3⟩:=ih.2 i s e;exact⟨w,by simpa using h1,h2,by simpa using h3⟩
 | @f a us vs ps fz ks l r z t ih=>
  refine⟨by simp[dQ,ih.1],λi s e=>?_⟩;cases i with
  | zero=>simp[dQ]at e;subst e;exact⟨_,rfl,.inr ⟨a,rfl,rfl,r,z⟩,λz=>by cases z⟩
  | succ i=>simp[dQ]at e;obtain⟨w,h1,h2,h3⟩:=ih.2 i s e;exact⟨w,by simpa using h1,h2,by simpa using h3⟩
def dR.Hn(h:dR K H vs ks l)(e:ks[i]?=al (.p φ)):(dQ ks l)[i]?=al (al (.jg φ)):=by
 induction h generalizing i with
 | nil=>simp at e
 | v r t ih=>cases i with | zero=>simp at e | succ i=>simp[dQ];exact ih (by simpa using e)
 | p e0 r t ih=>cases i with | zero=>simp at e;subst e;rfl | succ i=>simp[dQ];exact ih (by simpa using e)
 | f r z t ih=>cases i with | zero=>simp at e | succ i=>simp[dQ];exact ih (by simpa using e)
theorem i8{s:SL}(h:(k4 ks l n)[i]?=al (al s)):(dQ ks l)[i]?=al (al s):=by
 unfold k4 at h;by_cases c:i < (dQ ks l).length
 ·rw[An c]at h;exact h
 ·rw[Ah ∅,Br]at h
  split at h <;> cases h
def gH{N:O Str}(h:vs[i]?=al u):(L2.start N vs)[i]?=al (al u):=by
 unfold L2.start;rw[An (by rw[Al];exact(Ai.mp h).1),Ak,h];rfl
def lV{N:O Str}(h:(L2.start N vs)[i]?=al (al u)):vs[i]?=al u:=by
 unfold L2.start at h;by_cases c:i < vs.length
 ·rw[An (by simpa using c),Ak]at h;cases z:vs[i]? with
  | none=>rw[z]at h;cases h
  | some q=>rw[z]at h;cases h;rfl
 ·rw[Ah (by simpa using c),Br]at h
  split at h <;> cases h
def dR.Qv(h:dR K H vs ks l)(tb:TB H)(one:su ks)(N:O Str):aM K H (L2.start N vs) (k4 ks l N.length):=by
 obtain⟨hl,hs⟩:=h.slot;refine⟨?_,λi s e=>?_,λi j s t x y a e1 e2 o1 o2 q1 q2 z1 z2=>?_,tb⟩
 ·unfold L2.start k4;rw[Ab,Ab,Al,hl,Bl,Bl,h.len]
 ·obtain⟨u,h1,h2,_⟩:=hs i s (i8 e);exact⟨u,gH h1,h2⟩
 ·obtain⟨_,_,_,h3⟩:=hs i s (i8 e1);obtain⟨_,_,_,h4⟩:=hs j t (i8 e2);obtain⟨φ,_,k1⟩:=h3 o1;obtain⟨ψ,_,k2⟩:=h4 o2;exact one i j ⟨φ,k1⟩ ⟨ψ,k2⟩
def dR.go(h:dR K H vs ks l){N:O Str}(g:bP (L2.start N vs) (k4 ks l N.length) H σ' aZ H')(s':aM K H' σ' aZ):JX vs ks H H':=by
 obtain⟨hl,hs⟩:=h.slot;refine⟨λa o e n=>(g.keep a o e λz=>?_).1,s'.tb,g.there,λa φ p=>?_⟩
 ·obtain⟨i,s,x,e1,e2,e3,e4⟩:=z;obtain⟨u,h1,h2,h3⟩:=hs i s (i8 e1);obtain⟨φ,rfl,k⟩:=h3 e2;rcases e4 with rfl | e4
  ·exact n φ ⟨i,k,lV e3⟩
  ·cases e4
 ·obtain⟨i,e1,e2⟩:=p;have e3:=h.Hn e1;have e4:(k4 ks l N.length)[i]?=al (al (.jg φ)):=by unfold k4;rw[An ((Ai.mp e3).1)];exact e3
  rcases g.pk a φ ⟨i,e4,gH e2⟩ with⟨j,k1,k2⟩ | ⟨_,k⟩
  ·exact s'.ownAt k1 rfl k2
  ·exact k
end
section
variable{x:Str}{st:r6}{f:db}{N:O Str}
def Qc{m:lj PV n}(Fn:Fun K x qual st f fd)(S:bN N ps (au st))(Fo:ks.length=ps.length)(one:su ks)
  (Ä:∀l:O PV,l.length=n->∀(bO:ce) (A:tz) (outer:O Env) (s:eM) (H:Hp) (E:XK),bt k (A.deeper (wS qual (au st) s.heap.objs.size f bO))->SF (jQ fD P w K mg base N qual (au st) f bO A outer s H E).xc K false (k4 ks l N.length) (aU st) (eK n m l) .rt) :
  bx P w K mg base fD (k+1) f fd ps (ja K ks (eK n m)):=by
 refine Fn.ok S (λvs H Q E h=>?_) (λbO A outer s H vs Q E hr h=>?_)
 ·obtain⟨_,l,h,_⟩:=h;rw[h.len];exact Fo
 obtain⟨tb,l,h,q⟩:=h;refine⟨_,(Ä l (dS q) bO A outer s H E hr).p,h.Qv tb one N,(eK n m l).mono (λv q1 u σ' aZ H' g s' r=>q1 u H' (h.go g s') r) q⟩
def Rv{m:lj (O PV) n}(Fn:Fun K x qual st f fd)(S:bN N ps (au st))(Fo:ks.length=ps.length)(one:su ks)
  (Ä:∀l:O PV,l.length=n->∀(bO:ce) (A:tz) (outer:O Env) (s:eM) (H:Hp) (E:XK),bt k (A.deeper (wS qual (au st) s.heap.objs.size f bO))->SF (jQ fD P w K mg base N qual (au st) f bO A outer s H E).xc K false (k4 ks l N.length) (aU st) (eK n m l) .rl) :
  bx P w K mg base fD (k+1) f fd ps (oK K ks (eK n m)):=by
 refine Fn.ok S (λvs H Q E h=>?_) (λbO A outer s H vs Q E hr h=>?_)
 ·obtain⟨_,l,h,_⟩:=h;rw[h.len];exact Fo
 obtain⟨tb,l,h,q⟩:=h;refine⟨_,(Ä l (dS q) bO A outer s H E hr).p,(h.Qv tb one N),(eK n m l).mono (λz q1 a ws σ' aZ H' g s' fr e r=>q1 a ws H' (h.go g s') ?_ e r) q⟩;rcases fr with fr | ⟨i,t,x,e1,e2,np,e3,e4⟩
 ·exact fr
 ·obtain⟨_,_,_,h3⟩:=h.slot.2 i t (i8 e1);obtain⟨φ,e,_⟩:=h3 e2;exact absurd e (np φ)
end
def mW:su []:=λi j ⟨_,h⟩=>by simp at h
def oY(h:su ks):su (.v::ks):=λi j ⟨φ,a⟩ ⟨ψ,b⟩=>by
 cases i with
 | zero=>simp at a
 | succ i=>
  cases j with
  | zero=>simp at b
  | succ j=>rw[h i j ⟨φ,by simpa using a⟩ ⟨ψ,by simpa using b⟩]
end
end FL
namespace L2
def KN(K:Aa):R2:=λx y H Q=>∃a b xs zs,x=.ref a/\y=.ref b/\cp K H a xs/\cp K H b zs/\xs.length+zs.length<=sizeLine/\ik H (.lst (xs++zs)) Q
theorem zP(K:Aa)(hK:X.K=K):dB X (sn .Add) (KN K):=by
 subst hK;intro U s σ H x y v u Q I rx ry h;obtain⟨l,b,xs,zs,rfl,rfl,hH,hB,hz,q⟩:=h;cases rx;cases ry;obtain⟨ay,r,⟨⟨cls,dd,data,sl⟩,n,ho,hc,hd,xJ⟩,_⟩:=I.list hH;obtain⟨bS,r2,⟨⟨Mr,Mn,data2,Jx⟩,n2,yX,JK,Ü,LN⟩,_⟩:=I.list hB;subst hc hd xJ JK Ü LN;have e:ay.toArray++bS.toArray=(ay++bS).toArray:=by simp
 have hl:=r.length;have Gx:=r2.length;refine concat_meets ⟨_,ho,rfl⟩ ⟨_,yX,rfl⟩ noFill_list_add seq_list_add PySem.F.slot_list_add PySem.F.entry_list_add (PySem.F.args_list_add_2 _ _) (list_addW l b ay.toArray bS.toArray n n2 bn bn sl Jx (by simp;omega)) ⟨ho,yX,?_⟩;rw[e];exact⟨.ref _,_,I.Lf (r.append r2) (by rw[Ab];omega),rfl,q.at _ I.fresh⟩
end L2
variable{a o:BL}{neg:Bool}
namespace FL
section
variable[bD]
variable{K:Aa}
section
variable{c:jp}{p:Pos}{w:W PV}
def MB(l m:O PV):W (O PV):=.e7 (l.length+m.length<=sizeLine) (.ret (l++m))
def Rz(K:Aa)(fs:bj)(w:W (O PV)):TE:=λσ H Q=>aM K H σ fs/\w.run λl=>∀u H',cI σ fs H H'->aM K H' σ fs->F0 K σ fs H' u l->(∀N4,cI σ fs H' N4->aM K N4 σ fs->∃a vs,u=.ref a/\cp K N4 a vs/\aA K [] N4 vs l)->Q u H'
structure yQ(X:Cx)(K:Aa)(fs:bj)(e:jp)(w:W (List PV)):Prop where p:PE X e (Rz K fs w)
def kj(h:LF X K fs e wl):yQ X K fs e wl:=⟨PE.imp h.p λσ H Q ⟨sr,q⟩=>⟨sr,wl.mono (λl q1 a vs H1 g1 s1 n e v=>q1 _ H1 g1 s1 (.inr ⟨a,rfl,.inl ⟨sr.noOwn n,vs,e,v⟩⟩) λH2 g2 s2=>⟨a,vs,rfl,cp.of (g2.kE e (sr.noOwn n)),g2.uk s1 v⟩) q⟩⟩
def Hk(i:Nat){x:Str}(hs:fs[i]?=al (al (.ol q0 l)):=by rfl)(hN:X.N[i]?=al x:=by rfl)(hv:qa X.env.scope x:=by first | exact Bm rfl | exact BG (Bm rfl) | exact BG (BG rfl))(hd:eJ x:=by decide)(eW:qo x:=by decide):yQ X K fs (.Name x pos) (.ret l):=
 ⟨PE.imp (cL hN hv hd eW) λσ H Q ⟨sr,q⟩=>by
  obtain⟨a,ws,e1,h1,r1⟩:=df sr hs;refine⟨_,e1,q _ H .refl sr (.inr ⟨a,rfl,.inr ⟨i,q0,hs,e1⟩⟩) λH2 g2 s2=>?_⟩;obtain⟨a',oC,ql,eX,oP⟩:=df s2 hs;rw[e1]at ql;cases ql;exact⟨a,oC,rfl,cp.of eX,oP⟩⟩
def xq:PV->W (O PV)
 | .cl l=>.ret l
 | _=>.fail
def qI(h:EF X K fs e w):yQ X K fs e (.bind w xq):=⟨PE.imp h.p λσ H Q ⟨sr,q⟩=>⟨sr,w.mono (λx q1 u1 H1 g1 s1 v1=>by
 cases v1 with
 | cl e r=>exact q1 _ H1 g1 s1 (.inl ⟨_,_,rfl,.inl e,r⟩) λH2 g2 s2=>⟨_,_,rfl,((g2.cu s1).f _ _ e).sq,g2.uk s1 r⟩
 | _=>exact q1.elim) q⟩⟩
def Ll(hK:X.K=K)(ha:yQ X K fs a wl)(hb:yQ X K fs b wm):LF X K fs (.BinOp a .Add b pos) (.bind wl λl=>.bind wm λm=>MB l m):=⟨PE.imp (km (zP K hK) ha.p hb.p) λσ H Q ⟨sr,q⟩=>⟨sr,wl.mono (λl q1 u1 H1 g1 s1 _ v1=>⟨s1,wm.mono (λm q2 u2 H2 g2 s2 _ v2=>by
 obtain⟨a,vs,rfl,h1,r1⟩:=v1 H2 g2 s2;obtain⟨b,ws,rfl,h2,r2⟩:=v2 H2 .refl s2;refine⟨a,b,vs,ws,rfl,rfl,h1,h2,by rw[r1.length,r2.length];exact q2.1,λp H3 s3 h3 n3=>?_⟩;have gg:=g1.trans g2;exact q2.2 p _ H3 (gg.trans (cI.same s3)) (s2.same s3) (gg.there p n3) h3 (aA.tk s3.dj (r1.append r2))) q1⟩) q⟩⟩
def tF{Q:VK}(g1:cI σ fs H H1)(s1:aM K H1 σ fs)(r:aA K [] H1 vs l)(q:∀a vs H',cI σ fs H H'->aM K H' σ fs->H a=bn->H' a=al (.lst vs)->aA K [] H' vs l->Q (.ref a) H'):ik H1 (.lst vs) Q:=λp H2 s2 h2 n2=>q p vs H2 (g1.trans (cI.same s2)) (s1.same s2) (g1.there p n2) h2 (aA.tk s2.dj r)
def xr(K:Aa):CL K (wg K) .ret:=λ{fs σ H Q u l} s v q=>by
 obtain⟨a,vs,rfl,h,rs⟩:=v.sq s;exact⟨a,vs,rfl,h,tF .refl s rs q⟩
def HY(hK:X.K=K)(hg:Gl X "list")(hm:X.mg "list"=bn)(ha:QF X K fs e wl)(he:dA X e []:=by rfl)(bZ:fF X pos []:=by rfl):LF X K fs (.Call (.Name "list" p) [e] [] pos) wl:=xw (rV K hK) (xr K) hg hm boot_list ha ⋯ ⋯ he bZ
def j7(hK:X.K=K)(hg:Gl X "tuple")(hm:X.mg "tuple"=bn)(ha:QF X K fs e wl)(he:dA X e []:=by rfl)(bZ:fF X pos []:=by rfl):EF X K fs (.Call (.Name "tuple" p) [e] [] pos) (.bind wl qE):=vd (vg K hK) (zc K) hg hm boot_tuple ha ⋯ ⋯ he bZ
def rP(hK:X.K=K)(hg:Gl X "len")(hm:X.mg "len"=bn)(ha:QF X K fs e wl)(he:dA X e []:=by rfl)(bZ:fF X pos []:=by rfl):EF X K fs (.Call (.Name "len" p) [e] [] pos) (.bind wl uK):=yu (dz K hK) (E3 K) hg hm boot_len ha ⋯ ⋯ he bZ
def yM(ha:EF X K fs e w)(he:ii [e] X.env=(false,lc e X.env)::ii [] X.env):AF X K fs [e] (Aq 1 .v) (R:=R) (λk=>.bind w λx=>k [x]):=ao ha aj he
def dJ(hK:X.K=K)(hg:Gl X "len")(hm:X.mg "len"=bn)(ha:EF X K fs e w)(he:dA X e []:=by rfl)(bZ:fF X pos []:=by rfl):EF X K fs (.Call (.Name "len" p) [e] [] pos) (.bind w λx=>qR eG [x]):=tV (dz K hK) (FQ K) hg hm boot_len (yM ha he) ⋯ ⋯ he bZ
def GI(hg:Gl X "abs")(hm:X.mg "abs"=bn)(ha:EF X K fs e w)(he:dA X e []:=by rfl)(bZ:fF X pos []:=by rfl):EF X K fs (.Call (.Name "abs" p) [e] [] pos) (.bind w λx=>qR pX [x]):=tV yC FT hg hm boot_abs (yM ha he) ⋯ ⋯ he bZ
def nK(hg:Gl X "int")(hm:X.mg "int"=bn)(ha:EF X K fs e w)(he:dA X e []:=by rfl)(bZ:fF X pos []:=by rfl):EF X K fs (.Call (.Name "int" p) [e] [] pos) (.bind w λx=>qR nU [x]):=yt vk FR hg hm boot_int (yM ha he) ⋯ ⋯ he bZ
def Li(hK:X.K=K)(hc:X.calm=true)(IB:Gl X "list")(Iy:X.mg "list"=bn)(IA:Gl X "reversed")(Iw:X.mg "reversed"=bn)(he:yQ X K fs e wl)
  (Fj:ii [.Call (.Name "reversed" p3) [e] [] p4] X.env=(false,lc (.Call (.Name "reversed" p3) [e] [] p4) X.env)::ii [] X.env:=by rfl) (vC:dA X e []:=by rfl) :
  LF X K fs (.Call (.Name "list" p1) [.Call (.Name "reversed" p3) [e] [] p4] [] p2) (.bind wl λl=>.ret l.reverse):=⟨PE.imp (qL K hK hc IB Iy IA Iw he.p Fj vC) λσ H Q ⟨sr,q⟩=>⟨sr,wl.mono (λl q1 u1 H1 g1 s1 _ v1=>by
 obtain⟨a,vs,rfl,h1,r1⟩:=v1 H1 .refl s1;exact⟨a,vs,rfl,h1,tF g1 s1 r1.reverse q1⟩) q⟩⟩
def MD:O PV->W (O Bool)
 | []=>.ret []
 | .bl b::r=>.bind (MD r) λl=>.ret (b::l)
 | _=>.fail
theorem tZ:∀{l:O PV}{Q:O Bool->Prop},(MD l).run Q->∃bs:O Bool,l=bs.map PV.bl/\Q bs
 | [],Q,h=>⟨[],rfl,h⟩
 | .bl b::r,Q,h=>by
  obtain⟨bs,e,q⟩:=tZ (l:=r) h;exact⟨b::bs,by rw[e];rfl,q⟩
 | .aB::r,Q,h=>h.elim
 | .int _::r,Q,h=>h.elim
 | .str _::r,Q,h=>h.elim
 | .tup _::r,Q,h=>h.elim
 | .ref _::r,Q,h=>h.elim
 | .ty _::r,Q,h=>h.elim
 | .cl _::r,Q,h=>h.elim
@[simp] theorem ua:∀bs:O Bool,MD (bs.map PV.bl)=.ret bs
 | []=>rfl
 | b::bs=>by
  show am (MD (bs.map PV.bl)) _=_;rw[ua bs];rfl
def pZ(l:O PV):W PV:=.bind (MD l) λbs=>.ret (.bl (bs.all id))
def yw(hK:X.K=K)(hc:X.calm=true)(hg:Gl X "all")(hm:X.mg "all"=bn)(ha:yQ X K fs e wl)(he:dA X e []:=by rfl)(bZ:fF X pos []:=by rfl):EF X K fs (.Call (.Name "all" p) [e] [] pos) (.bind wl pZ):=⟨PE.imp (bT (vm K hK hc) hg hm boot_all (ak ha.p aD he) ⋯ ⋯ he bZ) λσ H Q ⟨sr,q⟩=>⟨sr,wl.mono (λl q1 u1 H1 g1 s1 _ v1=>by
 obtain⟨bs,e,q2⟩:=tZ q1;obtain⟨a,vs,rfl,h1,r1⟩:=v1 H1 .refl s1;rw[e]at r1;have:=ml r1;subst this;exact⟨a,bs,rfl,h1,q2 _ H1 g1 s1 (.bl _)⟩) q⟩⟩
def dn(k:Kd)(x:PV):W PV:=match x with
 | .ref _=>.fail
 | .ty _=>.fail
 | .ob _ _=>.fail
 | .hand=>.fail
 | x=>.ret (.bl (k.is x))
def Gf(K:Aa):O V->Hp->VK->Prop:=λxs H Q=>∃x c t b,xs=[x,.ty c]/\(gG K H x t\/(t=.type "tuple"/\∃a vs,x=.ref a/\cf K H a vs)\/(t=.type "list"/\∃a vs,x=.ref a/\cp K H a vs)\/(t=.type "dict"/\∃a,x=.ref a/\UR H a))/\A6 K t (.type c)=al b/\Q (.bl b) H
def vj(hK:X.K=K):bG X (.builtin "isinstance") (Gf K):=by
 subst hK;intro U s σ H xs us Q I r h;obtain⟨x,c,t,b,rfl,ty | ty | ⟨rfl,a,vs,rfl,hL⟩ | ⟨rfl,a,rfl,hD⟩,e,q⟩:=h
 ·exact gE U s σ H _ us Q I r ⟨x,c,t,b,rfl,ty,e,q⟩
 ·exact vi X.K rfl U s σ H _ us Q I r ⟨x,c,t,b,rfl,.inr ty,e,q⟩
 ·obtain⟨u,w,rfl,r1,r2⟩:=vals2 r;cases r1;cases r2;obtain⟨ay,_,⟨o,n,h1,h2,_⟩,_⟩:=I.list hL;exact AV DN I.gL ⟨o,h1,h2⟩ e (λz=>nomatch z) λtk=>⟨.bl b,H,I.tok _,rfl,q⟩
 ·obtain⟨u,w,rfl,r1,r2⟩:=vals2 r;cases r1;cases r2;have:∃o,s.heap.get? a=al o/\o.cls=.type "dict":=by
   rcases hD with⟨aw,e⟩ | ⟨aw,e⟩
   ·obtain⟨_,_,vs,_,o,_,_,h1,h2,_⟩:=pT I.aV e;exact⟨o,h1,h2.1⟩
   ·obtain⟨_,_,xs,_,o,_,_,h1,h2,_⟩:=pS I.aV e;exact⟨o,h1,h2.1⟩
  obtain⟨o,h1,h2⟩:=this;exact AV DP I.gL ⟨o,h1,h2⟩ e (λz=>nomatch z) λtk=>⟨.bl b,H,I.tok _,rfl,q⟩
def fJ(hK:X.K=K)(k:Kd){x:Str}(hg:Gl X "isinstance")(hm:X.mg "isinstance"=bn)(ha:EF X K fs a wa)(TC:Gl X x)(Ts:X.mg x=bn)(hv:nn x=al (.type k.name))(hn:x≠"__name__":=by decide)(hd:eJ x:=by decide)
  (he:ii [a,.Name x p2] X.env=(false,lc a X.env)::ii [.Name x p2] X.env:=by rfl) (IC:ii [Expr.Name x p2] X.env=(false,lc (.Name x p2) X.env)::ii [] X.env:=by rfl)
  (bZ:(Fk pos (ii [Expr.Name x p2] X.env)).any (·.1)=false:=by rfl):EF X K fs (.Call (.Name "isinstance" p) [a,.Name x p2] [] pos) (.bind wa (dn k)):=
 ⟨PE.imp (bT (vj hK) hg hm boot_isinstance (ak ha.p (ak (tj (v:=.ty k.name) TC Ts hv rfl hn hd) aD IC) he) ⋯ ⋯ he bZ) λσ H Q ⟨sr,q⟩=>⟨sr,wa.mono (λx q1 u1 H1 g1 s1 v1=>by
  have fin:∀{t:ce}{y:PV},gG K H1 u1 t->A6 K t (.type k.name)=al (k.is y)->Q (.bl (k.is y)) H1->Gf K [u1,.ty k.name] H1 Q:=λty e q=>⟨_,_,_,_,rfl,.inl ty,e,q⟩;cases v1 with
  | aB=>exact fin .aB (by rw[(jV K).1 k];cases k <;> rfl) (q1 _ H1 g1 s1 (.bl _))
  | bl b=>exact fin (.bl b) (Ia K b k) (q1 _ H1 g1 s1 (.bl _))
  | int b=>exact fin (.int b) (E8 K b k) (q1 _ H1 g1 s1 (.bl _))
  | str b=>exact fin (.str b) (E7 K b k) (q1 _ H1 g1 s1 (.bl _))
  | ty n=>exact q1.elim
  | ref n=>exact q1.elim
  | ob _ _ _ _ _=>exact q1.elim
  | hand _=>exact q1.elim
  | @dk a o aw ks l e k1 r=>exact⟨_,_,_,_,rfl,.inr (.inr (.inr ⟨rfl,_,rfl,.inl ⟨_,.inr ⟨_,e⟩⟩⟩)),(show _=al (k.is (.dv ks l)) by rw[(jV K).2.2 k];cases k <;> rfl),q1 _ H1 g1 s1 (.bl _)⟩
  | @dt a o aw ks l e k1 r=>exact⟨_,_,_,_,rfl,.inr (.inr (.inr ⟨rfl,_,rfl,.inr ⟨_,.inr ⟨_,e⟩⟩⟩)),(show _=al (k.is (.dv ks l)) by rw[(jV K).2.2 k];cases k <;> rfl),q1 _ H1 g1 s1 (.bl _)⟩
  | @cl p vs l e r=>exact⟨_,_,_,_,rfl,.inr (.inr (.inl ⟨rfl,_,_,rfl,e.sq⟩)),(show _=al (k.is (.cl l)) by rw[(jV K).2.1 k];cases k <;> rfl),q1 _ H1 g1 s1 (.bl _)⟩
  | @tup p vs l e r=>exact⟨_,_,_,_,rfl,.inr (.inl ⟨rfl,_,_,rfl,cf.of e⟩),E6 K _ k,q1 _ H1 g1 s1 (.bl _)⟩) q⟩⟩
def OK(l:O PV):PV->W (O PV)
 | .int k=>.e7 (-(2 ^ 63)<=k/\k < 2 ^ 63/\l.length*k.toNat<=sizeLine) (.ret (Aq k.toNat l).flatten)
 | _=>.fail
def part:PV->W (Option Int)
 | .int i=>.ret (al i)
 | _=>.fail
def wZ:OF X K fs bn (.ret bn):=⟨PO.imp zD λσ H Q ⟨sr,q⟩=>q H .refl sr⟩
def wY(h:EF X K fs e w):OF X K fs (al e) (.bind w part):=⟨PO.imp (zC h.p) λσ H Q ⟨sr,q⟩=>⟨sr,w.mono (λx q1 u1 H1 g1 s1 v1=>by
 cases v1 with
 | int i=>exact⟨_,rfl,q1 H1 g1 s1⟩
 | _=>exact q1.elim) q⟩⟩
variable{el eh:Option jp}{lo hi:W (Option Int)}
def Lh(hK:X.K=K)(he:yQ X K fs e wl)(hl:OF X K fs el lo)(hh:OF X K fs eh hi):LF X K fs (.Subscript e (.Slice el eh bn p2) pos) (.bind wl λl=>.bind lo λi=>.bind hi λj=>.ret (lN l i j)):=⟨PE.imp (wH (vR K hK) he.p hl.p hh.p) λσ H Q ⟨sr,q⟩=>⟨sr,wl.mono (λl q1 u1 H1 g1 s1 _ v1=>⟨s1,lo.mono (λi q2 H2 g2 s2=>⟨s2,hi.mono (λj q3 H3 g3 s3=>by
 obtain⟨a,vs,rfl,h1,r1⟩:=v1 H3 (g2.trans g3) s3;exact⟨a,vs,rfl,h1,tF ((g1.trans g2).trans g3) s3 (r1.cut i j) q3⟩) q2⟩) q1⟩) q⟩⟩
def jF(h:yQ X K fs e wl):∀σ H Q,fE K fs (.bind wl λl=>.ret (.bl (if neg then !l.isEmpty else l.isEmpty))) σ H Q->F8 (λx y H Q=>∃p q xs,x=.ref p/\y=.ref q/\cp K H p xs/\cp K H q []/\Q (.bl (if neg then !xs.isEmpty else xs.isEmpty)) H) (Rz K fs wl) (fL K fs (.ret [])) σ H Q:=λσ H Q ⟨sr,q⟩=>
 ⟨sr,wl.mono (λl q1 u1 H1 g1 s1 _ v1=>⟨s1,λa2 UU H2 g2 s2 n2 e2 r2=>by
  cases r2;obtain⟨a,vs,rfl,h1,r1⟩:=v1 H2 g2 s2;refine⟨a,a2,vs,rfl,rfl,h1,cp.of e2,?_⟩;rw[yi r1];exact q1 _ H2 (g1.trans g2) s2 (.bl _)⟩) q⟩
def Gn:LF X K fs (.List [] pos) (.ret []):=Gp (n:=0) aj
theorem RE(hK:X.K=K)(hu:X.A.units+200 < sB)(h:yQ X K fs e wl)(hk:pc .Eq (.List [] p2)=false:=by rfl):EF X K fs (.Compare e [.Eq] [.List [] p2] pos) (.bind wl λl=>.ret (.bl l.isEmpty)):=⟨PE.imp (iL (qN K hK ∅) h.p Gn.p hk) (jF (neg:=false) h)⟩
theorem Kc(hK:X.K=K)(hu:X.A.units+200 < sB)(h:yQ X K fs e wl)(hk:pc .NotEq (.List [] p2)=false:=by rfl):TF X K fs (.Compare e [.NotEq] [.List [] p2] pos) (.bind wl λl=>.ret (!l.isEmpty)):=⟨PT.imp (fe (qM K hK ∅) h.p Gn.p hk) λσ H Q q=>jF (neg:=true) h σ H _ (IQ σ H Q q)⟩
end
end
end FL
variable{k2 kt:Nat}{yW:Ci}
namespace FL
section
variable[bD]
variable{K:Aa}
abbrev b2(m:M2)(wa wb:W PV):W PV:=.bind wa λx=>.bind wb λy=>of2 m x y
abbrev t2(m:M2)(wa wb:W PV):W Bool:=.bind wa λx=>.bind wb λy=>.bind (of2 m x y) JT
abbrev c1(m:qp)(w:W PV):W PV:=.bind w λx=>qR m [x]
abbrev dw(wl:W (O PV))(wb:W PV):W PV:=.bind wl λl=>.bind wb λy=>Pa l y
abbrev Kb(a b:W Bool):W Bool:=.bind a λk=>if k=true then b else .ret false
abbrev F5(a b:W Bool):W Bool:=.bind a λk=>if k=true then .ret true else b
abbrev ly(a:W Bool):W Bool:=.bind a λk=>.ret (!k)
abbrev cO{α:Type}(t:W Bool)(a b:W α):W α:=.bind t λk=>if k=true then a else b
section
variable{rest:O r6}{p:Pos}{S T T2:Type}{hd:S->bj}{s0:S}{w:W PV}{wt:PV->W T2}{da:S->T2->bj}{k:S->W T}{out:T->End}{x:Bool}
def SF.uW{f:PV->S->W S}(hp:xz (gl X.prog X.w) X.A X.env X.xe)(hc:X.calm=true)(hi:qr X K fs tg iter wl)(hl:fV fs (hd s0))(hg:PG X tg (eY i))(hb:∀s p,SF X K false ((hd s).set i (al (.val p))) body (f p s) λs'=>.nc (hd s'))(hr:∀s,SF X K x (hd s) rest (k s) out)(hs:sD X iter:=by intro _;rfl) :
  SF X K x fs (.For tg iter body [] pos::rest) (.bind wl λl=>.bind (dG l s0 f) k) out:=SF.for hp hc hi hl (λs=>LY hg) (λ_ _=>rfl) hb hr hs
def SF.P9{wb:T2->S->W S}(hp:xz (gl X.prog X.w) X.A X.env X.xe)(hc:X.calm=true)(hi:qr X K fs tg iter wl)(hl:fV fs (hd s0))(hg:∀s,GF X K (hd s) tg is wt (da s))(hb:∀s t,SF X K false (da s t) body (wb t s) λs'=>.nc (hd s'))(hr:∀s,SF X K x (hd s) rest (k s) out)(hs:sD X iter:=by intro _;rfl) :
  SF X K x fs (.For tg iter body [] pos::rest) (.bind wl λl=>.bind (dG l s0 λp s=>.bind (wt p) λt=>wb t s) k) out:=SF.for hp hc hi hl hg (λ_ _=>rfl) hb hr hs
def SF.xR{inj:R->T}{f:PV->S->W (Lp S R)}(hp:xz (gl X.prog X.w) X.A X.env X.xe)(hc:X.calm=true)(hi:qr X K fs tg iter wl)(hl:fV fs (hd s0))(hg:PG X tg (eY i))(ho:∀t,(out (inj t)).tK)(hb:∀s p,SF X K false ((hd s).set i (al (.val p))) body (f p s) (Ld hd λr=>out (inj r)))(hr:∀s,SF X K x (hd s) rest (k s) out)(hs:sD X iter:=by intro _;rfl) :
  SF X K x fs (.For tg iter body [] pos::rest) (.bind wl λl=>.bind (FL.iq l s0 f) (pC k inj)) out:=SF.iq hp hc hi hl (λs=>LY hg) (λ_ _=>rfl) ho hb hr hs
def SF.par{k:PV->PV->W T}(hc:X.calm=true)(hN:X.N.Nodup)(hi:X.N[i]?=al y)(hj:X.N[j]?=al z)(JI:i≠j)(hx:X.env.scope.names.lookup y=al .local)(hy:X.env.scope.names.lookup z=al .local)
  (ha:EF X K fs a wa) (hb:EF X K fs b wb) (hr:∀u v,SF X K x ((fs.set i (al (.val u))).set j (al (.val v))) rest (k u v) out)
  (hw:zn [.Tuple [.Name y px,.Name z py] kt pt] (.Tuple [a,b] k2 yW) X.env=pure (al [y,z]):=by rfl) (hs:xL [.Tuple [.Name y px,.Name z py] kt pt] (.Tuple [a,b] k2 yW) pos.line X.env=pure false:=by rfl)
  (he:ii [a,b] X.env=(false,lc a X.env)::ii [b] X.env:=by rfl) (IC:dA X b []:=by rfl) :
  SF X K x fs (.Assign [.Tuple [.Name y px,.Name z py] kt pt] (.Tuple [a,b] k2 yW) pos::rest) (.bind wa λu=>.bind wb λv=>k u v) out:=
 SF.step (wA hc hN hi hj JI hx hy (ak ha.p (ak hb.p aD IC) he) hw hs) λD σ H ⟨sr,q⟩=>⟨sr,wa.mono (λu q1 u1 H1 g1 s1 v1=>⟨s1,wb.mono (λv q2 u2 H2 g2 s2 v2=>by
  have s3:=s2.fN (g2.vr s1 v1) i;have s4:=s3.fN v2 j;exact⟨_,_,rfl,_,k u v,hr u v,s4,(k u v).mono (λt q3=>q3.go (((g1.trans g2).f.trans (bP.fN s2 _ _ i)).trans (bP.fN s3 _ _ j)) sr s4) q2⟩) q1⟩) q⟩
end
end
end FL
variable{G:O Int->Prop}
namespace FL
section
variable[bD]
variable{K:Aa}
def Ks(K:Aa)(m:O PV->O PV->W (PV×O PV)):Sp:=λvs H Q _=>TB H/\∃a vI ws lo l,vs=.ref a::vI/\H a=al (.lst ws)/\aA K [] H ws lo/\aA K [] H vI l/\(m lo l).run λt=>∀u oC H',(∀c o,c≠a->H c=al o->o.nt=true->H' c=al o)->TB H'->(∀b,H' b=bn->H b=bn)->H' a=al (.lst oC)->aA K [] H' oC t.2->VR K [] H' u t.1->Q u H'
section
variable{x:Str}{st:r6}{f:db}{N:O Str}
def yF(a:db)(lo l:O PV)(n:Nat):bj:=al (.ol (al a) lo)::(l.map λv=>al (SL.val v))++Aq (n-1-l.length) bn
def aA.slot(r:aA K [] H vs l){s:SL}(h:(l.map λv=>al (SL.val v))[i]?=al (al s)):∃u v,vs[i]?=al u/\s=.val v/\VR K [] H u v:=by
 rw[Ak]at h;cases e:l[i]? with
 | none=>rw[e]at h;cases h
 | some v=>
  rw[e]at h;obtain⟨u,h1,h2⟩:=r.get e;cases h;exact⟨u,v,h1,rfl,h2⟩
theorem Uj{m:O PV->lj (PV×O PV) n}(Fn:Fun K x qual st f fd)(S:bN N ps (au st))(hn:n+1=ps.length)
  (Ä:∀(a:db) (lo l:O PV),l.length=n->∀(bO:ce) (A:tz) (outer:O Env) (s:eM) (H:Hp) (E:XK),bt k (A.deeper (wS qual (au st) s.heap.objs.size f bO))->SF (jQ fD P w K mg base N qual (au st) f bO A outer s H E).xc K false (yF a lo l N.length) (aU st) (eK n (m lo) l) λt=>.ro t.1 a t.2) :
  bx P w K mg base fD (k+1) f fd ps (Ks K λlo l=>eK n (m lo) l):=by
 refine Fn.ok S (λvs H Q E h=>?_) (λbO A outer s H vs Q E hr h=>?_)
 ·obtain⟨_,a,vI,ws,lo,l,rfl,_,_,r,q⟩:=h;rw[Av,r.length,dS q];exact hn
 obtain⟨tb,a,vI,ws,lo,l,rfl,ha,vV,r,q⟩:=h;have U4:=r.length;have Fq:∀{i:Nat}{s:SL},(yF a lo l N.length)[i]?=al (al s)->(i=0/\s=.ol (al a) lo)\/∃j u v,i=j+1/\vI[j]?=al u/\s=.val v/\VR K [] H u v:=λ{i s} e=>by
  unfold yF at e;cases i with
  | zero=>simp at e;exact .inl ⟨rfl,e.symm⟩
  | succ j=>
   by_cases c:j < l.length
   ·rw[An (by simpa using c)]at e;obtain⟨u,v,h1,h2,h3⟩:=aA.slot r e;exact .inr ⟨j,u,v,rfl,h1,h2,h3⟩
   ·rw[Ah (by simpa using c),Br]at e
    split at e <;> cases e
 have sr:aM K H (L2.start N (.ref a::vI)) (yF a lo l N.length):=by
  refine⟨?_,λi s e=>?_,λi j s t x y b e1 e2 o1 o2 q1 q2 _ _=>?_,tb⟩
  ·unfold L2.start yF;rw[Ab,Al,Bl,Ab,Av,Av,Al,Bl];omega
  ·rcases Fq e with⟨rfl,rfl⟩ | ⟨j,u,v,rfl,h1,rfl,h3⟩
   ·exact⟨.ref a,gH rfl,.inr ⟨a,rfl,λb z=>Option.some.inj z,ws,ha,vV⟩⟩
   ·exact⟨u,gH (by simpa using h1),.inl ⟨v,rfl,h3⟩⟩
  ·rcases Fq e1 with⟨rfl,rfl⟩ | ⟨j1,u,v,rfl,h1,rfl,h3⟩
   ·rcases Fq e2 with⟨rfl,rfl⟩ | ⟨j1,u,v,rfl,h1,rfl,h3⟩
    ·rfl
    ·cases o2
   ·cases o1
 refine⟨_,(Ä a lo l (dS q) bO A outer s H E hr).p,sr,(eK n (m lo) l).mono (λt q1 u σ' aZ H' g s' ho rv=>?_) q⟩;obtain⟨i,e⟩:=ho;obtain⟨u',e',r'⟩:=s'.at' i _ e;rcases r' with⟨v,z,_⟩ | ⟨b,rfl,hb,oC,h1,h2⟩
 ·cases z
 have TX:=hb a rfl;subst TX;refine q1 u oC H' (λc o nc e=>(g.keep c o e λz=>?_).1) s'.tb g.there h1 h2 rv;obtain⟨j,t',x,z1,z2,z3,z4⟩:=z;rcases Fq z1 with⟨rfl,rfl⟩ | ⟨j1,u,v,rfl,_,rfl,_⟩
 ·have:=lV z3;simp at this;rcases z4 with rfl | z4
  ·exact nc this.symm
  ·cases z4
 ·cases z2
def k7(G:O Int->Prop):O V->Prop:=λws=>∃ns:O Int,ws=ns.map V.int/\G ns
def Ho{m:O PV->O PV->W (PV×O PV)}{mp:O PV->W PV}(F:bx P w K mg base fD k f fd ps (Ks K m))(hm:∀ns l Q,G ns->(mp l).run Q->(m (ns.map PV.int) l).run λt=>Q t.1/\∃HJ:O Int,t.2=HJ.map PV.int/\G HJ) :
  bx P w K mg base fD k f fd ps (ja K (.p (k7 G)::Aq n .v) mp):=F.imp λvs H Q E h=>by
 obtain⟨tb,l,ha,q⟩:=h;cases ha with
 | @p a φ ws vs ks l e r t=>
  obtain⟨ns,rfl,hG⟩:=r;have tv:∀{n:Nat}{vs:O V}{l:O PV},dR K H vs (Aq n .v) l->aA K [] H vs l:=by
   intro n
   induction n with
   | zero=>intro vs l h;cases h;exact .nil
   | succ n ih=>intro vs l h;cases h with | v r t=>exact .cons r (ih t)
  refine⟨tb,a,vs,ns.map V.int,ns.map PV.int,l,rfl,e,nj _ _ ns,tv t,(m _ _).mono (λt q1 u oC H' sx R4 Tb e' r' rv=>?_) (hm ns l _ hG q)⟩;obtain⟨q1,HJ,et,Uc⟩:=q1;rw[et]at r';have:=ni r';subst this;refine q1 u H' ⟨λb o eb nb nt=>sx b o (λz=>?_) eb nt,R4,Tb,λb φ p=>?_⟩ rv
  ·subst z;exact nb _ ⟨0,rfl,rfl⟩
  ·obtain⟨i,e1,e2⟩:=p;cases i with
   | zero=>simp at e1 e2;subst e1;subst e2;exact⟨_,e',HJ,rfl,Uc⟩
   | succ i=>
    simp at e1;rw[Br]at e1
    split at e1 <;> simp at e1
end
section
variable{G6:O r6}{T:Type}{w:W T}{out:T->End}{x:Bool}
def KQ(G:O Int->Prop)(l:O PV)(w:W T):W T:=.e7 (∃ns:O Int,l=ns.map PV.int/\G ns) w
def SF.jg(i:Nat)(hs:fs[i]?=al (al (.ol bn l)))(hr:SF X K x (fs.set i (al (.jg (k7 G)))) G6 w out):SF X K x fs G6 (KQ G l w) out:=⟨λU s σ H D I ⟨sr,q⟩=>by
 obtain⟨⟨ns,el,hG⟩,q⟩:=q;obtain⟨a,ws,e1,h1,r1⟩:=df sr hs;subst el;have:=ni r1;subst this;obtain⟨s2,g2⟩:=ib (t':=.jg (k7 G)) sr hs rfl (by simp) e1 (λ_ _ _ z=>z:hO a H H) λtk=>⟨_,h1,ns,rfl,hG⟩;exact hr.p U s σ H D I ⟨s2,w.mono (λt q2=>q2.go g2 sr s2) q⟩⟩
end
end
end FL
variable{f:PL.PV->FL.W PL.PV}{W':FL.W PL.PV}
namespace FL
section
variable[bD]
variable{K:Aa}
abbrev UJ(m m':M2)(wa wb wc:W PV):W Bool:=.bind wa λx=>.bind wb λy=>.bind (of2 m x y) λz=>.bind (kY z (.bind wc λw=>of2 m' y w)) JT
abbrev vn(wa wb:W PV):W PV:=.bind wa λx=>FV x wb
abbrev xQ(wl:W (O PV)):W PV:=.bind wl λl=>.ret (.cl l)
abbrev O5(t:W Bool)(w:W PV):W (Option PV):=.bind t λk=>if k=true then .bind w λv=>.ret (al v) else .ret bn
section
variable{c:jp}{p:Pos}{x:Str}{WL:W (O PV)}
def FG{m:O PV->W PV}(G:qi X.prog X.w X.K X.mg X.base x k ps (ja K ks m))(hr:bt k' X.A)(hk:k<=k')(hg:Gl X x)(ha:AF X K fs (e::es) ks B)(hW:W'=B m)(fU:eJ x:=by decide)
  (he:dA X e es:=by rfl) (bZ:fF X pos es:=by rfl):EF X K fs (.Call (.Name x p) (e::es) [] pos) W':=hW▸Jf G hr hk hg ha fU he bZ
def E5{m:O PV->W (O PV)}{B:(O PV->W (O PV))->W (O PV)}(G:qi X.prog X.w X.K X.mg X.base x k ps (oK K ks m))(hr:bt k' X.A)(hk:k<=k')(hg:Gl X x)(ha:AF X K fs (e::es) ks B)(hW:WL=B m)(fU:eJ x:=by decide)
  (he:dA X e es:=by rfl) (bZ:fF X pos es:=by rfl):LF X K fs (.Call (.Name x p) (e::es) [] pos) WL:=hW▸HZ G hr hk hg ha fU he bZ
def fy{x1}(h:AF X K fs es (Aq n .v) B)(hW:W'=B λl=>.ret (.tup l))(hn:n<=1000:=by decide):EF X K fs (.Tuple es x1 pos) W':=hW▸Mf h hn
def bV{B:(O PV->W (O PV))->W (O PV)}(h:AF X K fs es (Aq n .v) B)(hW:WL=B λl=>.ret l)(hn:n<=1000:=by decide):LF X K fs (.List es pos) WL:=hW▸Gp h hn
variable{T2:Type}{wt:PV->W T2}{da:T2->bj}{tf:T2->W Bool}{te:T2->W PV}
def ng(hc:X.calm=true)(S:bM X.env.scope X.N sc N' ix)(hi:qr X K fs tg iter wl)(hg:∀cl C s2 H2 fp,PG (fW X sc N' cl C s2 H2 fp) tg (eY i))(he:∀cl C s2 H2 fp t,EF (fW X sc N' cl C s2 H2 fp) K ((cB ix fs).set i (al (.val t))) Ç (f t))(h0:ix[i]?=al bn)(hs:sD X iter:=by intro _;rfl) :
  LF X K fs (.ListComp Ç [⟨tg,iter,[],0⟩] sc pos) (.bind wl λl=>dN l f):=
 have h1:(cB ix fs)[i]?=al bn:=by unfold cB;rw[Ak,h0];rfl
 Lj hc S hi (λcl C s2 H2 fp=>LY (hg cl C s2 H2 fp)) he (λ_=>rfl) (HX h1) (λj hj=>by rw[AG]at hj;subst hj;exact h0) hs
def Gq{tf:PV->W Bool}{te:PV->W PV}(hc:X.calm=true)(S:bM X.env.scope X.N sc N' ix)(hi:qr X K fs tg iter wl)(hg:∀cl C s2 H2 fp,PG (fW X sc N' cl C s2 H2 fp) tg (eY i))(hf:∀cl C s2 H2 fp t,TF (fW X sc N' cl C s2 H2 fp) K ((cB ix fs).set i (al (.val t))) c (tf t))(he:∀cl C s2 H2 fp t,EF (fW X sc N' cl C s2 H2 fp) K ((cB ix fs).set i (al (.val t))) Ç (te t))(h0:ix[i]?=al bn)(hs:sD X iter:=by intro _;rfl) :
  LF X K fs (.ListComp Ç [⟨tg,iter,[c],0⟩] sc pos) (.bind wl λl=>oy l λp=>O5 (tf p) (te p)):=
 have h1:(cB ix fs)[i]?=al bn:=by unfold cB;rw[Ak,h0];rfl
 Lk hc S hi (λcl C s2 H2 fp=>LY (hg cl C s2 H2 fp)) (λcl C s2 H2 fp t=>IL (hf cl C s2 H2 fp t)) he (λ_=>rfl) (HX h1) (λj hj=>by rw[AG]at hj;subst hj;exact h0) hs
variable{rest:O r6}{T:Type}{out:T->End}{x0:Bool}{kk:O PV->W T}
def z8{wt:PV->W T2}{te:T2->W PV}:(λl=>dN l λp=>.bind (wt p) te)=λl=>oy l λp=>.bind (wt p) λt=>.bind (.ret true) λk=>if k=true then .bind (te t) λv=>.ret (al v) else .ret bn:=funext λl=>by
 rw[m6];rfl
def SF.zm(hc:X.calm=true)(hN:X.N.Nodup)(xH:X.N[i]?=al y)(hx:X.env.scope.names.lookup y=al .local)(S:bM X.env.scope X.N sc N' ix)(hi:qr X K fs tg iter wl)(hg:∀cl C s2 H2 fp,GF (fW X sc N' cl C s2 H2 fp) K (cB ix fs) tg is wt da)(he:∀cl C s2 H2 fp t,EF (fW X sc N' cl C s2 H2 fp) K (da t) Ç (te t))
  (hl:vw is (cB ix fs) da/\∀t,fV (da t) (cB ix fs)) (uR:∀j∈is,ix[j]?=al bn) (hr:∀l,SF X K x0 (fs.set i (al (.ol bn l))) rest (kk l) out)
  (rh:pr (.ListComp Ç [⟨tg,iter,[],0⟩] sc pos) (al (.Name y px)) oJ.line X.env=pure true:=by rfl) (hs:sD X iter:=by intro _;rfl) :
  SF X K x0 fs (.Assign [.Name y px] (.ListComp Ç [⟨tg,iter,[],0⟩] sc pos) oJ::rest) (.bind (.bind wl λl=>dN l λp=>.bind (wt p) te) kk) out:=by
 rw[z8];exact SF.Kv hc hN xH hx S hi hg (λ_ _ _ _ _ _=>xT) he (λp=>rfl) hl uR hr rh hs
def SF.sS(hc:X.calm=true)(hN:X.N.Nodup)(xH:X.N[i]?=al y)(hx:X.env.scope.names.lookup y=al .local)(S:bM X.env.scope X.N sc N' ix)(hi:qr X K fs tg iter wl)(hg:∀cl C s2 H2 fp,PG (fW X sc N' cl C s2 H2 fp) tg (eY j))(he:∀cl C s2 H2 fp t,EF (fW X sc N' cl C s2 H2 fp) K ((cB ix fs).set j (al (.val t))) Ç (f t))(h0:ix[j]?=al bn)(hr:∀l,SF X K x0 (fs.set i (al (.ol bn l))) rest (kk l) out)
  (rh:pr (.ListComp Ç [⟨tg,iter,[],0⟩] sc pos) (al (.Name y px)) oJ.line X.env=pure true:=by rfl) (hs:sD X iter:=by intro _;rfl) :
  SF X K x0 fs (.Assign [.Name y px] (.ListComp Ç [⟨tg,iter,[],0⟩] sc pos) oJ::rest) (.bind (.bind wl λl=>dN l f) kk) out:=
 have h1:(cB ix fs)[j]?=al bn:=by unfold cB;rw[Ak,h0];rfl
 SF.zm hc hN xH hx S hi (λcl C s2 H2 fp=>LY (hg cl C s2 H2 fp)) he (HX h1) (λm hj=>by rw[AG]at hj;subst hj;exact h0) hr rh hs
end
def xS{f:db}(h:∀vs H Q E,¬sp vs H Q E):bx P w K mg base fD k f fd ps sp:=⟨λvs H Q E q=>(h _ _ _ _ q).elim,λA outer s H args us vs Q E _ _ _ _ q=>(h _ _ _ _ q).elim⟩
def vP{m:lj PV n}(h:∀l Q,l.length=n->¬(eK n m l).run Q):∀vs H Q E,¬ja K ks (eK n m) vs H Q E:=λvs H Q E ⟨_,l,_,q⟩=>h l _ (dS q) q
def zk{m:lj (O PV) n}(h:∀l Q,l.length=n->¬(eK n m l).run Q):∀vs H Q E,¬oK K ks (eK n m) vs H Q E:=λvs H Q E ⟨_,l,_,q⟩=>h l _ (dS q) q
theorem bB(hr:bt k A):A.units+200 < sB:=by have:=hr.un;omega
end
section
variable[bD]
variable{K:Aa}
mutual
def PV.eA:PV->Bool
 | .tup l=>cV l
 | .cl l=>cV l
 | .ref _=>false
 | .ty _=>false
 | .dv _ _=>false
 | .ob _ _=>false
 | .hand=>false
 | _=>true
def cV:O PV->Bool
 | []=>true
 | x::l=>PV.eA x&&cV l
end
mutual
def PV.dI:PV->Nat
 | .tup l=>cm l+1
 | .cl l=>cm l+1
 | _=>0
def cm:O PV->Nat
 | []=>0
 | x::l=>max (PV.dI x) (cm l)
end
mutual
def fH:PV->PV->Bool
 | .aB,.aB=>true
 | .bl a,.bl b=>a==b
 | .bl a,.int b=>(if a then 1 else 0)==b
 | .int a,.bl b=>a==(if b then 1 else 0)
 | .int a,.int b=>a==b
 | .str a,.str b=>a==b
 | .tup l,.tup m=>dH l m
 | .cl l,.cl m=>dH l m
 | _,_=>false
def dH:O PV->O PV->Bool
 | [],[]=>true
 | x::l,y::m=>fH x y&&dH l m
 | _,_=>false
end
theorem kS:∀{l:O PV}{j:Nat}{x:PV},cV l=true->l[j]?=al x->PV.eA x=true
 | [],_,_,_,e=>by simp at e
 | y::l,0,x,h,e=>by
  simp at e;subst e;rw[cV,Bs]at h;exact h.1
 | y::l,j+1,x,h,e=>by
  rw[cV,Bs]at h;exact kS h.2 (by simpa using e)
theorem me:∀{l:O PV}{j:Nat}{x:PV},l[j]?=al x->PV.dI x<=cm l
 | [],_,_,e=>by simp at e
 | y::l,0,x,e=>by
  simp at e;subst e;rw[cm];omega
 | y::l,j+1,x,e=>by
  have:=me (by simpa using e);rw[cm];omega
mutual
theorem kU:∀(x:PV),PV.eA x=true->fH x x=true
 | .aB,_=>by rw[fH]
 | .bl b,_=>by rw[fH];simp
 | .int i,_=>by rw[fH];simp
 | .str i,_=>by rw[fH];simp
 | .tup l,h=>by rw[fH];exact gP l (by rw[PV.eA]at h;exact h)
 | .cl l,h=>by rw[fH];exact gP l (by rw[PV.eA]at h;exact h)
 | .ref _,h=>by rw[PV.eA]at h;cases h
 | .ty _,h=>by rw[PV.eA]at h;cases h
 | .dv _ _,h=>by rw[PV.eA]at h;cases h
 | .ob _ _,h=>by rw[PV.eA]at h;cases h
 | .hand,h=>by rw[PV.eA]at h;cases h
theorem gP:∀(l:O PV),cV l=true->dH l l=true
 | [],_=>by rw[dH]
 | x::l,h=>by
  rw[cV,Bs]at h;rw[dH,kU x h.1,gP l h.2];rfl
end
def yf(l m:O PV)(j:Nat):Bool:=match l[j]?,m[j]? with | some x,al y=>fH x y | _,_=>true
theorem iX:∀(l m:O PV),((BN (min l.length m.length)).all (yf l m)&&l.length==m.length)=dH l m
 | [],[]=>by rw[dH];rfl
 | [],_::_=>by
  rw[dH]
  ·simp
  ·intros;simp_all
  ·intros;simp_all
 | _::_,[]=>by
  rw[dH]
  ·simp
  ·intros;simp_all
  ·intros;simp_all
 | x::l,y::m=>by
  rw[dH,<- iX l m];have e:min (x::l).length (y::m).length=min l.length m.length+1:=by simp only[Av];omega
  rw[e,List.range_succ_eq_map,List.all_cons,List.all_map];have e2:((x::l).length==(y::m).length)=(l.length==m.length):=by simp
  rw[e2,Bool.and_assoc];rfl
def xV{m:O PV}(h:l.length≠m.length):dH l m=false:=by
 rw[<- iX];have:(l.length==m.length)=false:=by simpa using h
 rw[this,DJ]
section
variable{s:eM}
def pF(I:Inv X U σ H s){a:db}{φ:lm->Prop}(h:yS X.K H a xs):H a≠al (.ext φ):=λe=>by
 rcases h with⟨o,h⟩ | ⟨o,_,_,h,_⟩
 ·rw[e]at h;cases h
 ·have:=(I.bs a o (I.mod.E9 a o h)).2;rw[e]at this;cases this
mutual
theorem VR.fnI(I:Inv X U σ H s):∀{v:V}{x y:PV},VR X.K [] H v x->VR X.K [] H v y->x=y
 | _,_,_,.aB,h=>by cases h;rfl
 | _,_,_,.bl b,h=>by cases h;rfl
 | _,_,_,.int b,h=>by cases h;rfl
 | _,_,_,.str b,h=>by cases h;rfl
 | _,_,_,.ty b,h=>by cases h;rfl
 | _,_,_,.ref e,h=>by simp at e
 | _,_,_,.tup e r,h=>by
  cases h with
  | tup e' r'=>
   have ee:=I.jc (cf.of e) (cf.of e');subst ee;rw[aA.fnI I r r']
  | ref e=>simp at e
  | cl e' r'=>
   obtain⟨ay,_,⟨o,n,h1,h2,_⟩,_⟩:=I.list e'.sq;obtain⟨its',_,⟨o',eX,nv,_⟩,_⟩:=I.tuple (cf.of e);rw[h1]at eX;cases eX;rw[h2]at nv;simp at nv
  | dk e' _ _=>rw[e]at e';cases e'
  | dt e' _ _=>rw[e]at e';cases e'
  | ob e' _ _ _ _=>rw[e]at e';cases e'
  | hand e'=>obtain⟨_,_,_,e',_⟩:=e';rw[e]at e';cases e'
 | _,_,_,.ob e c na k r,h=>by
  cases h with
  | ob e' _ _ k' r'=>rw[e]at e';cases e';rw[k,k',aA.fnI I r r']
  | hand e'=>obtain⟨_,_,_,e',_⟩:=e';rw[e]at e';cases e'
  | dk e' _ _=>rw[e]at e';cases e'
  | dt e' _ _=>rw[e]at e';cases e'
  | ref e=>simp at e
  | tup e' _=>rw[e]at e';cases e'
  | cl e' r'=>
   obtain⟨ay,_,⟨o,n,h1,h2,_⟩,_⟩:=I.list e'.sq;obtain⟨_,_,_,_,eX,_⟩:=I.aV _ _ e;rw[h1]at eX;cases eX;simp at h2
 | _,_,_,.dk e k r,h=>by
  cases h with
  | dk e' k' r'=>rw[e]at e';cases e';rw[k,k',aA.fnI I r r']
  | dt e' _ _=>rw[e]at e';cases e'
  | ob e' _ _ _ _=>rw[e]at e';cases e'
  | hand e'=>obtain⟨_,_,_,e',_⟩:=e';rw[e]at e';cases e'
  | ref e=>simp at e
  | tup e' _=>rw[e]at e';cases e'
  | cl e' r'=>
   obtain⟨ay,_,⟨o,n,h1,h2,_⟩,_⟩:=I.list e'.sq;obtain⟨_,_,vs,_,o',_,_,eX,nv,_⟩:=pT I.aV (.inr ⟨_,e⟩);rw[h1]at eX;cases eX;have h3:=nv.1;rw[h2]at h3;simp at h3
 | _,_,_,.dt e k r,h=>by
  cases h with
  | dt e' k' r'=>rw[e]at e';cases e';rw[k,k',aA.fnI I r r']
  | ob e' _ _ _ _=>rw[e]at e';cases e'
  | hand e'=>obtain⟨_,_,_,e',_⟩:=e';rw[e]at e';cases e'
  | dk e' _ _=>rw[e]at e';cases e'
  | ref e=>simp at e
  | tup e' _=>rw[e]at e';cases e'
  | cl e' r'=>
   obtain⟨ay,_,⟨o,n,h1,h2,_⟩,_⟩:=I.list e'.sq;obtain⟨_,_,vs,_,o',_,_,eX,nv,_⟩:=pS I.aV (.inr ⟨_,e⟩);rw[h1]at eX;cases eX;have h3:=nv.1;rw[h2]at h3;simp at h3
 | _,_,_,.hand e,h=>by
  obtain⟨_,_,_,e,_⟩:=id e;cases h with
  | hand _=>rfl
  | ob e' _ _ _ _=>rw[e]at e';cases e'
  | dk e' _ _=>rw[e]at e';cases e'
  | dt e' _ _=>rw[e]at e';cases e'
  | ref e=>simp at e
  | tup e' _=>rw[e]at e';cases e'
  | cl e' r'=>exact absurd e (pF I e')
 | _,_,_,.cl e r,h=>by
  cases h with
  | hand e'=>obtain⟨_,_,_,e',_⟩:=e';exact absurd e' (pF I e)
  | ob e' _ _ _ _=>
   obtain⟨ay,_,⟨o,n,h1,h2,_⟩,_⟩:=I.list e.sq;obtain⟨_,_,_,_,eX,_⟩:=I.aV _ _ e';rw[h1]at eX;cases eX;simp at h2
  | dk e' _ _=>
   obtain⟨ay,_,⟨o,n,h1,h2,_⟩,_⟩:=I.list e.sq;obtain⟨_,_,vs,_,o',_,_,eX,nv,_⟩:=pT I.aV (.inr ⟨_,e'⟩);rw[h1]at eX;cases eX;have h3:=nv.1;rw[h2]at h3;simp at h3
  | dt e' _ _=>
   obtain⟨ay,_,⟨o,n,h1,h2,_⟩,_⟩:=I.list e.sq;obtain⟨_,_,vs,_,o',_,_,eX,nv,_⟩:=pS I.aV (.inr ⟨_,e'⟩);rw[h1]at eX;cases eX;have h3:=nv.1;rw[h2]at h3;simp at h3
  | cl e' r'=>
   obtain⟨ay,k,⟨o,n,h1,h2,h3,h4⟩,_⟩:=I.list e.sq;obtain⟨its',k',⟨o',n',eX,nv,LX,Rt⟩,_⟩:=I.list e'.sq;rw[h1]at eX;cases eX;rw[h4]at Rt;have:ay=its':=by injection Rt with a b;simpa using a
   subst this;have ee:=Vals.inj k k';subst ee;rw[aA.fnI I r r']
  | ref e=>simp at e
  | tup e' r'=>
   obtain⟨ay,_,⟨o,n,h1,h2,_⟩,_⟩:=I.list e.sq;obtain⟨its',_,⟨o',eX,nv,_⟩,_⟩:=I.tuple (cf.of e');rw[h1]at eX;cases eX;rw[h2]at nv;simp at nv
theorem aA.fnI(I:Inv X U σ H s):∀{v:O V}{x y:O PV},aA X.K [] H v x->aA X.K [] H v y->x=y
 | _,_,_,.nil,h=>by cases h;rfl
 | _,_,_,.cons r t,h=>by
  cases h with
  | cons r' t'=>rw[VR.fnI I r r',aA.fnI I t t']
end
structure UT(A:tz)(s:eM)(w w':ce)(b:Bool):Prop where
 rc:SeqAt.RcAt A s w w' b
 ne:SeqAt.RcNeAt A s w w' (!b)
 eq:Dy A s w w' b
def Md(I:Inv X U σ H s){ws:O V}{m:O PV}(r:Vals vs ay)(r':Vals ws its')(r1:aA X.K [] H vs l)(r2:aA X.K [] H ws m)
  (ih:∀(j:Nat) (x y:PV) (v v':V) (w w':ce),l[j]?=al x->m[j]?=al y->VR X.K [] H v x->VR X.K [] H v' y->RelV v w->RelV v' w'->Dy A s w w' (fH x y)) :
  ∀j (g1:j < ay.toArray.size) (g2:j < its'.toArray.size),Dy A s ay.toArray[j] its'.toArray[j] (yf l m j):=λj g1 g2=>by
 have h1:j < ay.length:=by simpa using g1
 have h2:j < its'.length:=by simpa using g2
 have hl:j < l.length:=by rw[<- r1.length,r.length];exact h1
 have hm:j < m.length:=by rw[<- r2.length,r'.length];exact h2
 obtain⟨v,v1,v2⟩:=r1.get (Ag hl);obtain⟨v',Oc,Jv⟩:=r2.get (Ag hm);obtain⟨u,u1,u2⟩:=r.get v1;obtain⟨u',QJ,R0⟩:=r'.get Oc;rw[Ag h1]at u1;rw[Ag h2]at QJ;cases u1;cases QJ;unfold yf;rw[Ag hl,Ag hm];have:=ih j _ _ v v' _ _ (Ag hl) (Ag hm) v2 Jv u2 R0;simpa using this
inductive Sh(X:Cx)(H:Hp)(s:eM):PV->ce->Prop
 | aB:Sh X H s .aB .none
 | bl (b:Bool):Sh X H s (.bl b) (.bool b)
 | int (i:Int) (t:Tok):Sh X H s (.int i) (.int i t)
 | str (x:Str) (t:Tok):Sh X H s (.str x) (.str x t)
 | tup {p:db}{vs:List V}{ay:List ce}{l:List PV} (e:VR X.K [] H (.ref p) (.tup l)) (k:Vals vs ay) (r:aA X.K [] H vs l) (h:s.heap.IsTuple p ay.toArray):Sh X H s (.tup l) (.ref p)
 | cl {p:db}{vs:List V}{ay:List ce}{l:List PV} (e:VR X.K [] H (.ref p) (.cl l)) (k:Vals vs ay) (r:aA X.K [] H vs l) (h:s.heap.IsList p ay.toArray):Sh X H s (.cl l) (.ref p)
def Sh.of(I:Inv X U σ H s){v:V}{x:PV}{w:ce}(h:VR X.K [] H v x)(r:RelV v w)(d:PV.eA x=true):Sh X H s x w:=by
 cases h with
 | ref e=>simp at e
 | aB=>cases r;exact .aB
 | bl a=>cases r;exact .bl a
 | int a=>obtain⟨t,rfl⟩:=r;exact .int a t
 | str a=>obtain⟨t,rfl⟩:=r;exact .str a t
 | tup e q=>
  cases r;obtain⟨ay,k,ht,_⟩:=I.tuple (cf.of e);exact .tup (.tup e q) k q ht
 | cl e q=>
  cases r;obtain⟨ay,k,pl,_⟩:=I.list e.sq;exact .cl (.cl e q) k q pl.isList
 | _=>rw[PV.eA]at d;cases d
set_option maxHeartbeats 8000000 in
theorem Jj(hK:X.K=K)(I:Inv X U σ H s):∀(n:Nat) (x y:PV) (A:tz) (v v':V) (w w':ce),PV.dI x<=n->PV.eA x=true->PV.eA y=true->VR K [] H v x->VR K [] H v' y->RelV v w->RelV v' w'->A.units+n+1 < sB->UT A s w w' (fH x y):=by
 subst hK;intro n
 induction n using Nat.strongRecOn with
 | ind n ih=>
 intro x y A v v' w w' hd dx dy hv Nh r1 r2 hu;have a:=Sh.of I hv r1 dx;have b:=Sh.of I Nh r2 dy;clear hv Nh r1 r2;have el:∀{l m:O PV}{vs ws:O V}{ay bS:O ce},cV l=true->cV m=true->cm l < n->Vals vs ay->Vals ws bS->aA X.K [] H vs l->aA X.K [] H ws m->ay.toArray.size=l.length/\bS.toArray.size=m.length/\∀j g1 (g2:j < bS.toArray.size),Dy A.in1 s ay.toArray[j] bS.toArray[j] (yf l m j):=λd1 d2 hd k1 k2 r r'=>⟨by rw[Af,<- k1.length,r.length],by rw[Af,<- k2.length,r'.length],Md I k1 k2 r r' λj x y v v' w w' hx hy vx vy rx ry=>(ih _ hd x y A.in1 v v' w w' (me hx) (kS d1 hx) (kS d2 hy) vx vy rx ry (by show A.units+1+_+1 < _;omega)).eq⟩;have fin:∀{pa pb:db}{l m:O PV},(pa=pb->l=m)->cV l=true->SeqAt.RcAt A s (.ref pa) (.ref pb) (dH l m)->Dy A s (.ref pa) (.ref pb) (dH l m):=λ{pa pb l m} h d q=>by
  by_cases LR:pa=pb
  ·rw[h LR,gP _ (h LR▸d),LR];exact Dy.same _
  ·exact Dy.of_refs LR q
 cases a <;> cases b
 case tup.tup pa vs ay l e k r ht pb ws bS m e2 k2 r2 Ir=>
  rw[PV.dI]at hd;obtain⟨z1,z2,ie⟩:=el dx dy ∅ k k2 r r2;have q1:=SeqAt.RcAt.tuples ht Ir ∅ ie;have q2:=SeqAt.RcNeAt.tuples ht Ir (A:=A) ∅ ie;rw[z1,z2,iX]at q1 q2;exact⟨q1,q2,fin (λz=>by subst z;have:=VR.fnI I e e2;injection this) dx q1⟩
 case cl.cl pa vs ay l e k r ht pb ws bS m e2 k2 r2 Ir=>
  rw[PV.dI]at hd;obtain⟨z1,z2,ie⟩:=el dx dy ∅ k k2 r r2;by_cases hz:l.length=m.length
  ·have q1:=EU ht Ir (by rw[z1,z2];exact hz) (A:=A) ∅ ie;have q2:=EE ht Ir (by rw[z1,z2];exact hz) (A:=A) ∅ ie;have ef:(BN l.length).all (yf l m)=dH l m:=by rw[<- iX,hz,Nat.min_self,beq_self_eq_true,Bool.and_true]
   rw[z1,ef]at q1 q2;exact⟨q1,q2,fin (λz=>by subst z;have:=VR.fnI I e e2;injection this) dx q1⟩
  ·have q1:=DT (A:=A) ht Ir (by rw[z1,z2];simpa using hz) ∅;have q2:=Dx (A:=A) ht Ir (by rw[z1,z2];simpa using hz) ∅;have ef:=xV hz;rw[<- ef]at q1;have q2:SeqAt.RcNeAt A s (.ref pa) (.ref pb) (!dH l m):=by rw[ef];exact q2
   exact⟨q1,q2,fin (λz=>by subst z;have:=VR.fnI I e e2;injection this) dx q1⟩
 all_goals
  clear ih el fin;rw[fH] <;> try (intros;simp_all;done)
  refine⟨?_,?_,?_⟩ <;> (try simp) <;> first | with_reducible exact .none_none | with_reducible exact .none_bool _ | with_reducible exact .none_int _ _ | with_reducible exact .none_str _ _ | with_reducible exact .none_tuple ‹_› ∅ | with_reducible exact .none_list ‹_› ∅ | with_reducible exact .bool_none _ | with_reducible exact .bool_str _ _ _ | with_reducible exact .bool_tuple _ ‹_› ∅ | with_reducible exact .bool_list _ ‹_› ∅ | with_reducible exact .int_none _ _ | with_reducible exact .int_str _ _ _ _ | with_reducible exact .int_tuple _ _ ‹_› ∅ | with_reducible exact .int_list _ _ ‹_› ∅ | with_reducible exact .str_none _ _ | with_reducible exact .str_bool _ _ _ | with_reducible exact .str_int _ _ _ _ | with_reducible exact .str_tuple _ _ ‹_› ∅ | with_reducible exact .str_list _ _ ‹_› ∅ | with_reducible exact .tuple_none ‹_› ∅ | with_reducible exact .tuple_bool _ ‹_› ∅ | with_reducible exact .tuple_int _ _ ‹_› ∅ | with_reducible exact .tuple_str _ _ ‹_› ∅ | with_reducible exact .tuple_list ‹_› ‹_› ∅ | with_reducible exact .list_none ‹_› ∅ | with_reducible exact .list_bool _ ‹_› ∅ | with_reducible exact .list_int _ _ ‹_› ∅ | with_reducible exact .list_str _ _ ‹_› ∅ | with_reducible exact .list_tuple ‹_› ‹_› ∅ | exact .same _ | exact .bool_bool _ _ | exact .bool_int _ _ _ | exact .int_bool _ _ _ | exact .int_int _ _ _ _ | exact .str_str _ _ _ _
end
end
section
variable[bD]
variable{K:Aa}
mutual
theorem VR.iT{ι:O db}{H:Hp}:∀{v:V}{q:PV},VR K ι H v q->PV.eA q=true->VR K [] H v q
 | _,_,.aB,_=>.aB
 | _,_,.bl b,_=>.bl b
 | _,_,.int i,_=>.int i
 | _,_,.str x,_=>.str x
 | _,_,.ty n,h=>by rw[PV.eA]at h;cases h
 | _,_,.dk _ _ _,h=>by rw[PV.eA]at h;cases h
 | _,_,.dt _ _ _,h=>by rw[PV.eA]at h;cases h
 | _,_,.ob _ _ _ _ _,h=>by rw[PV.eA]at h;cases h
 | _,_,.hand _,h=>by rw[PV.eA]at h;cases h
 | _,_,.tup e r,h=>.tup e (aA.iT r (by rw[PV.eA]at h;exact h))
 | _,_,.cl e r,h=>.cl e (aA.iT r (by rw[PV.eA]at h;exact h))
 | _,_,.ref e,h=>by rw[PV.eA]at h;cases h
theorem aA.iT{ι:O db}{H:Hp}:∀{v:O V}{q:O PV},aA K ι H v q->cV q=true->aA K [] H v q
 | _,_,.nil,_=>.nil
 | _,_,.cons r s,h=>by
  rw[cV,Bs]at h;exact .cons (VR.iT r h.1) (aA.iT s h.2)
end
def uZ(x y:PV):Prop:=PV.eA x=true/\PV.eA y=true/\PV.dI x<=150
def ig:M2:=⟨λx y h Q=>uZ x y/\Q (.bl (fH x y)) h,λf q=>⟨q.1,f _ _ q.2⟩⟩
def fR:M2:=⟨λx y h Q=>uZ x y/\Q (.bl (!fH x y)) h,λf q=>⟨q.1,f _ _ q.2⟩⟩
def zx(K:Aa)(neg:Bool):R2:=λu v H Q=>∃x y,VR K [] H u x/\VR K [] H v y/\uZ x y/\Q (.bl (if neg then !fH x y else fH x y)) H
section
theorem HH(hK:X.K=K)(hu:X.A.units+200 < sB):dB X (im .Eq) (zx K false):=λU s σ H u v w w' Q I r1 r2 ⟨x,y,h1,h2,⟨o1,o2,o3⟩,q⟩=>by
 exact Ef (Jj hK I 150 x y X.A u v w w' o3 o1 o2 h1 h2 r1 r2 ∅).rc ⟨.bl _,H,I,rfl,q⟩
theorem HC(hK:X.K=K)(hu:X.A.units+200 < sB):dB X (im .NotEq) (zx K true):=λU s σ H u v w w' Q I r1 r2 ⟨x,y,h1,h2,⟨o1,o2,o3⟩,q⟩=>by
 exact DQ (Jj hK I 150 x y X.A u v w w' o3 o1 o2 h1 h2 r1 r2 ∅).ne ⟨.bl _,H,I,rfl,q⟩
def zY:M2.Ok K (zx K false) ig:=λ{ι H h u v x y Q} hr hu hv q=>⟨x,y,VR.iT hu q.1.1,VR.iT hv q.1.2.1,q.1,q.2 ι _ H (Go.refl _ _) hr (.bl _)⟩
def zT:M2.Ok K (zx K true) fR:=λ{ι H h u v x y Q} hr hu hv q=>⟨x,y,VR.iT hu q.1.1,VR.iT hv q.1.2.1,q.1,q.2 ι _ H (Go.refl _ _) hr (.bl _)⟩
def jB(hK:X.K=K)(hu:X.A.units+200 < sB):JC X K .Eq b ig:=⟨⟨_,HH hK hu,zY⟩,cy _⟩
def kF(hK:X.K=K)(hu:X.A.units+200 < sB):JC X K .NotEq b fR:=⟨⟨_,HC hK hu,zT⟩,cy _⟩
end
end
end FL
namespace L2
def KL(K:Aa):R2:=λx y H Q=>∃a b xs ys,x=.ref a/\y=.ref b/\cf K H a xs/\cf K H b ys/\xs.length+ys.length<=sizeLine/\
 (xs=[]->Q (.ref b) H)/\(xs≠[]->ys=[]->Q (.ref a) H)/\(xs≠[]->ys≠[]->ik H (.tup (xs++ys)) Q)
def tu(K:Aa)(hK:X.K=K):dB X (sn .Add) (KL K):=by
 subst hK;intro U s σ H x y v u Q I rx ry h;obtain⟨a,b,xs,ys,rfl,rfl,ha,hb,hz,q0,q1,q2⟩:=h;by_cases c:xs=[]
 ·cases rx;cases ry;obtain⟨ay,r1,p1,_⟩:=I.tuple ha;obtain⟨bS,r2,p2,_⟩:=I.tuple hb;obtain⟨⟨cls,dd,data,sl⟩,ho,hc,n,hd⟩:=id p1;obtain⟨⟨Mr,Mn,data2,Jx⟩,yX,JK,n2,Ü⟩:=id p2;subst hc hd JK Ü;exact concat_meets ⟨_,ho,rfl⟩ ⟨_,yX,rfl⟩ noFill_tuple_add seq_tuple_add CW CP (CJ _ _)
   (tuple_addW0 a b ay.toArray bS.toArray n n2 dd Mn sl Jx (by rw[r1.fh.mpr c];rfl)) ⟨ho,yX,.ref b,H,I,rfl,q0 c⟩
 ·exact tq U s σ H _ _ v u Q I rx ry ⟨a,b,xs,ys,rfl,rfl,ha,hb,c,hz,q1 c,λn p hp=>(q2 c n).at p hp⟩
end L2
namespace FL
section
variable[bD]
variable{K:Aa}
section
variable{p:Pos}
def addW:PV->PV->W PV
 | .int i,.int j=>.ret (.int (i+j))
 | .str a,.str b=>.e7 (a.length+b.length<=sizeLine) (.ret (.str (a++b)))
 | .tup a,.tup b=>.e7 (a.length+b.length<=sizeLine) (.ret (.tup (a++b)))
 | _,_=>.fail
def b9(hK:X.K=K)(ha:EF X K fs a wa)(hb:EF X K fs b wb):EF X K fs (.BinOp a .Add b pos) (.bind wa λx=>.bind wb λy=>addW x y):=
 ⟨PE.imp (km ((tD K hK).or (tu K hK)) ha.p hb.p) λσ H Q ⟨sr,q⟩=>⟨sr,wa.mono (λx q1 u1 H1 g1 s1 v1=>⟨s1,wb.mono (λy q2 u2 H2 g2 s2 v2=>by
  have Oc:=g2.vr s1 v1;cases Oc with
  | int i=>
   cases v2 with
   | int j=>exact .inl ⟨_,rfl,q2 _ H2 (g1.trans g2) s2 (.int _)⟩
   | _=>exact q2.elim
  | str i=>
   cases v2 with
   | str j=>exact .inl ⟨_,rfl,q2.1,q2.2 _ H2 (g1.trans g2) s2 (.str _)⟩
   | _=>exact q2.elim
  | @tup p vs l e r=>
   cases v2 with
   | @tup p' vI l' e' r'=>
    refine .inr ⟨p,p',vs,vI,rfl,rfl,cf.of e,cf.of e',by rw[r.length,r'.length];exact q2.1,λz=>?_,λ_ z=>?_,λ_ _ q H3 s3 h3 n3=>?_⟩
    ·have z':=(PL.aA.fh r).mp z;subst z';exact q2.2 _ H2 (g1.trans g2) s2 (.tup e' r')
    ·have z':=(PL.aA.fh r').mp z;subst z';have q2:=q2.2;rw[Bg]at q2;exact q2 _ H2 (g1.trans g2) s2 (.tup e r)
    ·exact q2.2 _ H3 ((g1.trans g2).trans (cI.same s3)) (s2.same s3) (.tup h3 (aA.tk s3.dj (r.append r')))
   | _=>exact q2.elim
  | _=>exact q2.elim) q1⟩) q⟩⟩
end
end
section
variable[bD]
variable{K:Aa}
section
variable{s:eM}
open Classical in
noncomputable def tS(K:Aa)(H:Hp)(x:PV)(w:ce):Bool:=decide (∃p v,RelV v w/\VR K [] H v p/\fH p x=true)
open Classical in
def yg(hK:X.K=K)(I:Inv X U σ H s){x p:PV}{v:V}{w:ce}(r:RelV v w)(h:VR K [] H v p):tS K H x w=fH p x:=by
 subst hK;cases e:fH p x with
 | true=>exact decide_eq_true ⟨p,v,r,h,e⟩
 | false=>
  refine decide_eq_false ?_;rintro⟨p',v',r',h',e'⟩;have:=v8 r r';subst this;rw[VR.fnI I h h',e']at e;cases e
theorem j6(hK:X.K=K)(I:Inv X U σ H s){x:PV}:∀{vs:O V}{ay:O ce}{l:O PV},Vals vs ay->aA K [] H vs l->ay.map (tS K H x)=l.map λy=>fH y x
 | _,_,_,.nil,.nil=>rfl
 | _,_,_,.cons r t,.cons q z=>by rw[A1,A1,yg hK I r q,j6 hK I t z]
def uQ(x:PV)(l:O PV):Prop:=PV.eA x=true/\cV l=true/\cm l<=150
theorem js(hK:X.K=K)(I:Inv X U σ H s){x:PV}{v:V}{w:ce}(hx:VR K [] H v x)(rx:RelV v w)(dx:PV.eA x=true)(hu:A.units+150+1 < sB) :
  ∀{vs:O V}{ay:O ce}{l:O PV},Vals vs ay->aA K [] H vs l->cV l=true->cm l<=150->∀u∈ay,Dy A s u w (tS K H x u)
 | _,_,_,.nil,.nil,_,_,u,hu=>by cases hu
 | _,_,_,.cons r t,.cons q z,d,dd,u,hm=>by
  rw[cV,Bs]at d;rw[cm]at dd;rcases AA.mp hm with rfl | hm
  ·rw[yg hK I r q];exact(Jj hK I 150 _ x A _ v _ w ∅ d.1 dx q hx r rx hu).eq
  ·exact js hK I hx rx dx hu t z d.2 ∅ u hm
end
def lI(x:PV)(l:O PV):Bool:=l.any λy=>fH y x
def zu(K:Aa)(neg:Bool):R2:=λx y H Q=>∃p vs l xp,y=.ref p/\(cp K H p vs\/cf K H p vs)/\aA K [] H vs l/\VR K [] H x xp/\uQ xp l/\Q (.bl (if neg then !lI xp l else lI xp l)) H
section
theorem any_map'(f:α->Bool):∀l:List α,l.any f=(l.map f).any id
 | []=>rfl
 | x::l=>by rw[BF,A1,BF,any_map' f l];rfl
theorem HG(K:Aa)(hK:X.K=K)(hu:X.A.units+200 < sB):dB X (im .In) (zu K false):=by
 intro U s σ H x y v u Q I rx ry h;obtain⟨p,vs,l,xp,rfl,hq,hl,hx,ok,q⟩:=h;cases ry;have Iq:X.A.in1.units+150+1 < sB:=by show X.A.units+1+150+1 < _;omega
 have fin:∀{ay:O ce},Vals vs ay->ay.toArray.any (tS K H xp)=lI xp l:=λ{ay} r=>by
  rw[show ay.toArray.any (tS K H xp)=ay.any (tS K H xp) by simp,any_map',j6 hK I r hl,<- any_map'];rfl
 rcases hq with hq | hq
 ·obtain⟨ay,r,pl,hz⟩:=I.list (show cp X.K H p vs by rw[hK];exact hq);refine SeqAt.in_listAt (tS K H xp) pl.isList (λw hw=>js hK I hx rx ok.1 Iq r hl ok.2.1 ok.2.2 w (by simpa using hw)) ⟨.bl _,H,I,rfl,?_⟩;rw[fin r];exact q
 ·obtain⟨ay,r,pl,hz⟩:=I.tuple (show cf X.K H p vs by rw[hK];exact hq);refine SeqAt.in_tupleAt (tS K H xp) pl (λw hw=>js hK I hx rx ok.1 Iq r hl ok.2.1 ok.2.2 w (by simpa using hw)) ⟨.bl _,H,I,rfl,?_⟩;rw[fin r];exact q
theorem zM(K:Aa)(hK:X.K=K)(hu:X.A.units+200 < sB):dB X (im .NotIn) (zu K true):=by
 intro U s σ H x y v u Q I rx ry h;obtain⟨p,vs,l,xp,rfl,hq,hl,hx,ok,q⟩:=h;cases ry;have Iq:X.A.in1.units+150+1 < sB:=by show X.A.units+1+150+1 < _;omega
 have fin:∀{ay:O ce},Vals vs ay->ay.toArray.any (tS K H xp)=lI xp l:=λ{ay} r=>by
  rw[show ay.toArray.any (tS K H xp)=ay.any (tS K H xp) by simp,any_map',j6 hK I r hl,<- any_map'];rfl
 rcases hq with hq | hq
 ·obtain⟨ay,r,pl,hz⟩:=I.list (show cp X.K H p vs by rw[hK];exact hq);refine SeqAt.notIn_listAt (tS K H xp) pl.isList (λw hw=>js hK I hx rx ok.1 Iq r hl ok.2.1 ok.2.2 w (by simpa using hw)) ⟨.bl _,H,I,rfl,?_⟩;rw[fin r];exact q
 ·obtain⟨ay,r,pl,hz⟩:=I.tuple (show cf X.K H p vs by rw[hK];exact hq);refine SeqAt.notIn_tupleAt (tS K H xp) pl (λw hw=>js hK I hx rx ok.1 Iq r hl ok.2.1 ok.2.2 w (by simpa using hw)) ⟨.bl _,H,I,rfl,?_⟩;rw[fin r];exact q
def Ji(x:PV)(l:O PV):Nat:=l.countP λy=>fH y x
theorem countP_map(f:α->Bool):∀l:List α,l.countP f=(l.map f).countP id
 | []=>rfl
 | x::l=>by rw[A1,D2,D2,countP_map f l];rfl
end
end
section
variable[bD]
variable{K:Aa}
section
variable{p:Pos}
def lH(neg:Bool)(x:PV)(l:O PV):W Bool:=.e7 (uQ x l) (.ret (if neg then !lI x l else lI x l))
def N0(b:Bool):W PV:=.ret (.bl b)
def IT:∀σ H Q,fE K fs (.bind wa λx=>.bind wl λl=>.bind (lH neg x l) N0) σ H Q->F8 (zu K neg) (fE K fs wa) (fQ K fs wl) σ H Q:=λσ H Q ⟨sr,q⟩=>
 ⟨sr,wa.mono (λx q1 u1 H1 g1 s1 v1=>⟨s1,wl.mono (λl q2 u2 H2 g2 s2 v2=>by
  obtain⟨ad,vs,rfl,h,rs⟩:=v2.sq s2;exact⟨ad,vs,l,x,rfl,h,rs,g2.vr s1 v1,q2.1,q2.2 _ H2 (g1.trans g2) s2 (.bl _)⟩) q1⟩) q⟩
def IP:∀σ H Q,fT K fs (.bind wa λx=>.bind wl λl=>lH neg x l) σ H Q->F8 (zu K neg) (fE K fs wa) (fQ K fs wl) σ H λx H'=>∃k,x=.bl k/\Q k H':=λσ H Q ⟨sr,q⟩=>
 ⟨sr,wa.mono (λx q1 u1 H1 g1 s1 v1=>⟨s1,wl.mono (λl q2 u2 H2 g2 s2 v2=>by
  obtain⟨ad,vs,rfl,h,rs⟩:=v2.sq s2;exact⟨ad,vs,l,x,rfl,h,rs,g2.vr s1 v1,q2.1,_,rfl,q2.2 H2 (g1.trans g2) s2⟩) q1⟩) q⟩
def Mi(hK:X.K=K)(hu:X.A.units+200 < sB)(ha:EF X K fs a wa)(hb:QF X K fs b wl)(hk:pc .In b=false:=by rfl):EF X K fs (.Compare a [.In] [b] pos) (.bind wa λx=>.bind wl λl=>.bind (lH false x l) N0):=⟨PE.imp (iL (HG K hK hu) ha.p hb.p hk) (IT)⟩
def GZ(hK:X.K=K)(hu:X.A.units+200 < sB)(ha:EF X K fs a wa)(hb:QF X K fs b wl)(hk:pc .NotIn b=false:=by rfl):TF X K fs (.Compare a [.NotIn] [b] pos) (.bind wa λx=>.bind wl λl=>lH true x l):=⟨PT.imp (fe (zM K hK hu) ha.p hb.p hk) (IP)⟩
abbrev Pd(neg:Bool)(wa:W PV)(wl:W (O PV)):W PV:=.bind wa λx=>.bind wl λl=>.bind (lH neg x l) N0
abbrev Pc(neg:Bool)(wa:W PV)(wl:W (O PV)):W Bool:=.bind wa λx=>.bind wl λl=>lH neg x l
def FO(l:O PV)(x:PV):W PV:=.e7 (uQ x l) (.ret (.int (Ji x l)))
end
end
section
variable[bD]
variable{K:Aa}
section
variable{rest:O r6}{p:Pos}{T:Type}{out:T->End}{x:Bool}
def Pb(l:O PV):PV->W PV
 | .int k=>.e7 (0<=k/\k < 1000) (.Jz l[k.toNat]?)
 | _=>.fail
def Ku(l:O PV)(i j:PV)(m:O PV):W (O PV):=match i,j with
 | .int a,.int c=>.e7 (0<=a/\a<=c/\c<=l.length/\l.length+m.length<=sizeLine) (.ret (l.take a.toNat++m++l.drop c.toNat))
 | _,_=>.fail
def SF.Kt(i:Nat){lo hi:jp}{k:O PV->W T}(hs:fs[i]?=al (al (.ol q0 l)))(hN:X.N[i]?=al y)(hv:qa X.env.scope y)(he:LF X K fs e wl)(hl:EF X K fs lo wa)(hh:EF X K fs hi wb)(hr:∀l',SF X K x (fs.set i (al (.ol q0 l'))) rest (k l') out)
  (ha:∀v,Ch (.Subscript (.Name y p) (.Slice (al lo) (al hi) bn p2) gW) X.env v=(do
   let ov <- r9 [v] (lc (.Name y p) X.env)
   let iv <- r9 [v,ov] (lc (.Slice (al lo) (al hi) bn p2) X.env)
   CD gW
   r9 [v,ov,iv] (EQ ov iv v)
   release [iv,v,ov] []):=by intro _;rfl)
  (hd:eJ y:=by decide) (eW:qo y:=by decide)
  (Pk:xL [.Subscript (.Name y p) (.Slice (al lo) (al hi) bn p2) gW] e pos.line X.env=pure false:=by rfl) (hw:zn [.Subscript (.Name y p) (.Slice (al lo) (al hi) bn p2) gW] e X.env=pure bn:=by rfl)
  (h1:(wT [.Subscript (.Name y p) (.Slice (al lo) (al hi) bn p2) gW] X.env).map (·.2)=[Ch (.Subscript (.Name y p) (.Slice (al lo) (al hi) bn p2) gW) X.env]:=by rfl) :
  SF X K x fs (.Assign [.Subscript (.Name y p) (.Slice (al lo) (al hi) bn p2) gW] e pos::rest) (.bind wl λm=>.bind wa λa=>.bind wb λb=>.bind (Ku l a b m) k) out:=
 SF.step (wC he.p (wF (cL hN hv hd eW) hl.p hh.p ha) Pk hw h1) λD σ H ⟨sr,q⟩=>by
  refine⟨sr,wl.mono (λm q1 b vb H1 g1 s1 nb eb rb=>?_) q⟩;obtain⟨a,ws,e1,h1,r1⟩:=df s1 hs;refine⟨_,e1,s1,wa.mono (λi1 q2 u2 H2 g2 s2 v2=>⟨s2,wb.mono (λj1 q3 u3 H3 g3 s3 v3=>?_) q2⟩) q1⟩;obtain⟨a',Ob,RF,LX,M5⟩:=df s3 hs;rw[e1]at RF;cases RF;have Jv:=g3.vr s2 v2;have no:¬bW σ fs b:=sr.noOwn nb;have Us:=(g2.trans g3).kE eb no;have QQ:=(g2.trans g3).uk s1 rb;have ne:a≠b:=λz=>no ⟨i,_,a,hs,rfl,e1,.inl z.symm⟩;cases Jv with
  | int aa=>
   cases v3 with
   | int cc=>
    have q3:(0<=aa/\aa<=cc/\cc<=l.length/\l.length+m.length<=sizeLine)/\(k (l.take aa.toNat++m++l.drop cc.toNat)).run _:=q3;obtain⟨⟨c1,c2,c3,c4⟩,q3⟩:=q3;refine⟨a,b,Ob,vb,aa,cc,rfl,rfl,rfl,rfl,LX,Us,ne,c1,c2,by rw[M5.length];exact c3,by rw[M5.length,QQ.length];exact c4,?_⟩;have sx:hO a H3 (upd H3 a (.lst (Ob.take aa.toNat++vb++Ob.drop cc.toNat))):=λz o n hz=>by rw[ax n];exact hz
    obtain⟨s4,g4⟩:=iO s3 hs e1 sx aF (((M5.take aa.toNat).append QQ).append (M5.drop cc.toNat));exact⟨_,k _,hr _,s4,(k _).mono (λt q4=>q4.go (((g1.trans g2).trans g3).f.trans g4) sr s4) q3⟩
   | _=>exact q3.elim
  | _=>exact q3.elim
end
end
end FL
variable{vs:O (L2.Key×L2.V)}{aw:O (L2.Key×PL.PV)}{q:L2.Key×PL.PV}{fa:AL}{qs:O PL.PV}
namespace FL
section
variable[bD]
variable{K:Aa}
abbrev w2(f:PV->PV->W PV)(wa wb:W PV):W PV:=.bind wa λx=>.bind wb λy=>f x y
def OA(K:Aa)(us:O V)(qs:O PV)(fz:O (db×Obj))(sp:Sp):Sp:=λvs H Q E=>aA K [] H us qs/\mz H fz/\sp vs H Q E
structure CalA(P:re)(w:sK)(K:Aa)(mg:Str->Option ce)(base:lm)(f:db)(us:List V)(qs:List PV)(fz:List (db×Obj))(k:Nat)(ps:List Str)(sp:Sp) where
 fd:wn
 ok:bx P w K mg base fD k f fd ps (OA K us qs fz sp)
 bi:Binds K fd ps []
 kp:∀h:lm,K.In h->(∀b o,base.get? b=al o->h.get? b=al o)->(∀p∈fz,h.get? p.1=al p.2)->EJ f h
section
variable{p:Pos}{x:Str}{R:Type}{B:(O PV->W R)->W R}{us:O V}
def MJ(hg:Gl X x)(hm:X.mg x=al (.ref fa))(hr:AF X K fs es ks B)(hd:eJ x:=by decide)(jO:ii (.Name x pos::es) X.env=(false,lc (.Name x pos) X.env)::ii es X.env:=by rfl):AF X K fs (.Name x pos::es) (.f fa [] [] []::ks) B:=by
 obtain⟨wr,hp,hB⟩:=hr.p;exact⟨wr,PA.imp (ak (gJ (v:=.ref fa) hg hm rfl hd) hp jO) λσ H Q ⟨sr,q⟩=>⟨sr,wr.mono (λl q2 vs H2 g2 s2 v2=>q2 _ H2 g2 s2 (.f .nil .nil v2)) q⟩,hB⟩
def FH{m:O PV->W PV}{B:(O PV->W PV)->W PV}(i:Nat)(G:CalA X.prog X.w X.K X.mg X.base fa us qs fz k ps (ja K ks m))(hK:X.K=K)(hr:bt k' X.A)(hk:k<=k')(hs:fs[i]?=al (al (.adr fa us qs fz)))(ha:AF X K fs (e::es) ks B)(hW:W'=B m)(hN:X.N[i]?=al x:=by rfl)(hv:qa X.env.scope x:=by first | exact Bm rfl | exact BG (Bm rfl) | exact BG (BG rfl))(hd:eJ x:=by decide)(eW:qo x:=by decide)
  (he:dA X e es:=by rfl) (bZ:fF X pos es:=by rfl):EF X K fs (.Call (.Name x p) (e::es) [] pos) W':=by
 subst hW hK;obtain⟨w,hp,hB⟩:=ha.p;rw[hB];refine⟨λU s σ H Q I ⟨sr,q⟩=>?_⟩;obtain⟨u,e1,r⟩:=sr.at' i _ hs;rcases r with⟨v,e,_⟩ | ⟨a,e,r⟩
 ·cases e
 obtain⟨rfl,rv,rz⟩:a=fa/\aA X.K [] H us qs/\mz H fz:=r;subst e;refine AQ (aY (cL hN hv hd eW U s σ H (λy H1=>y=.ref a/\H1=H) I ⟨_,e1,rfl,rfl⟩) λv s1 ⟨y,H1,I1,r1,ey,eH⟩=>?_);subst ey;subst eH;cases r1;have kz:∀{σ':L2.St}{H':Hp}{s':eM},Inv X U σ' H' s'->mz H' fz->EJ a s'.heap:=λJ z=>G.kp _ J.gL J.bk λp hp=>let ⟨u,e⟩:=z p hp;(J.aV _ _ e).1;refine ED (kz I1 rz) (aY (hp pos U s1 σ H1 (λvs H2=>mz H2 fz/\OA X.K us qs fz (ja X.K ks m) (vs++[]) H2 Q E0) I1 ⟨sr,w.mono (λl q1 vs RN g1 Ky v1=>?_) q⟩) λKa s2 ⟨vs,H2,I2,r,z2,q2⟩=>⟨kz I2 z2,ki G.ok (hr.mono hk) G.bi .nil dZ I2 r q2⟩) he bZ;have z1:=rz.tk (g1.cu sr);show mz RN fz/\OA X.K us qs fz (ja X.K ks m) (vs++[]) RN Q E0;rw[Bg];exact⟨z1,aA.tk (g1.cu sr) rv,z1,Ky.tb,l,v1.c Ky,(m l).mono (λz q2 u H2 g2 r2=>let ⟨s2,g3⟩:=g2.caller v1 Ky;q2 u H2 (g1.trans g3) s2 r2) q1⟩
end
def rf:PV->W Key
 | .int i=>.ret (.inl i)
 | .str s=>.ret (.inr s)
 | _=>.fail
def gw(aw:O (Key×PV))(k:Key):Bool:=aw.any λkv=>decide (kv.1=k)
def mL(aw:O (Key×PV))(k:Key)(v:PV):O (Key×PV):=if gw aw k=true then aw.map (λkv=>if kv.1=k then (kv.1,v) else kv) else aw++[(k,v)]
def cQ(K:Aa)(H:Hp)(vs:O (Key×V))(aw:O (Key×PV)):Prop:=vs.map (·.1)=aw.map (·.1)/\aA K [] H (vs.map (·.2)) (aw.map (·.2))
section
def cQ.cons_inv{p:Key×V}(h:cQ K H (p::vs) (q::aw)):p.1=q.1/\VR K [] H p.2 q.2/\cQ K H vs aw:=by
 obtain⟨h1,h2⟩:=h;injection h1 with a b;cases h2 with
 | cons r t=>exact⟨a,r,b,t⟩
def cQ.mk{p:Key×V}(e:p.1=q.1)(r:VR K [] H p.2 q.2)(h:cQ K H vs aw):cQ K H (p::vs) (q::aw):=⟨by rw[A1,A1,e,h.1],.cons r h.2⟩
theorem cQ.ind{C:O (Key×V)->O (Key×PV)->Prop}(h0:C [] [])(h1:∀p q vs aw,p.1=q.1->VR K [] H p.2 q.2->cQ K H vs aw->C vs aw->C (p::vs) (q::aw)):∀{vs aw},cQ K H vs aw->C vs aw
 | [],[],_=>h0
 | [],_::_,h=>by simp[cQ]at h
 | _::_,[],h=>by simp[cQ]at h
 | p::vs,q::aw,h=>let ⟨a,b,c⟩:=h.cons_inv;h1 p q vs aw a b c (cQ.ind h0 h1 c)
def cQ.has(h:cQ K H vs aw)(k:Key):(jI vs k).isSome=gw aw k:=by
 rw[<- iB];refine cQ.ind (C:=λvs aw=>(vs.any λkv=>decide (kv.1=k))=aw.any λkv=>decide (kv.1=k)) rfl (λp q vs aw e _ _ ih=>?_) h;rw[BF,BF,ih,e]
def cQ.put(h:cQ K H vs aw)(k:Key)(r:VR K [] H u v):cQ K H (putK vs k u) (mL aw k v):=by
 have hh:(vs.any λkv=>decide (kv.1=k))=gw aw k:=by rw[iB];exact h.has k
 unfold putK mL;rw[hh]
 split
 ·refine cQ.ind (C:=λvs aw=>cQ K H (vs.map λkv=>if kv.1=k then (kv.1,u) else kv) (aw.map λkv=>if kv.1=k then (kv.1,v) else kv)) ⟨rfl,.nil⟩ (λp q vs aw e rr _ ih=>?_) h;rw[A1,A1];by_cases c:p.1=k
  ·rw[if_pos c,if_pos (e▸c)];exact cQ.mk e r ih
  ·rw[if_neg c,if_neg (e▸c)];exact cQ.mk e rr ih
 ·refine cQ.ind (C:=λvs aw=>cQ K H (vs++[(k,u)]) (aw++[(k,v)])) ⟨rfl,.cons r .nil⟩ (λp q vs aw e rr _ ih=>cQ.mk e rr ih) h
def cQ.length(h:cQ K H vs aw):vs.length=aw.length:=by
 have:=congrArg CS h.1;simpa using this
end
section
variable{ei:jp}{rest:O r6}{p:Pos}{T:Type}{out:T->End}{x:Bool}
def mV(sr:aM K H σ fs)(hs:fs[i]?=al (al (.od aw))):∃a vs,σ[i]?=al (al (.ref a))/\H a=al (.dK vs)/\cQ K H vs aw:=by
 obtain⟨u,e1,r⟩:=sr.at' i _ hs;rcases r with⟨v,e,_⟩ | ⟨a,e,vs,q1,q2,q3⟩
 ·cases e
 ·subst e;exact⟨a,vs,e1,q1,q2,q3⟩
def SF.OC{k:W T}(hN:X.N.Nodup)(hi:X.N[i]?=al y)(hx:Loc X.env.scope y)(hr:SF X K x (fs.set i (al (.od []))) rest k out)(hs:pr (.Dict [] [] p2) (al (.Name y p')) pos.line X.env=pure false:=by rfl)
  (hf:yR X y:=by first | exact .inl rfl | exact .inr rfl | assumption):SF X K x fs (.Assign [.Name y p'] (.Dict [] [] p2) pos::rest) k out:=SF.step (cK hN hi hx wL hs hf) λD σ H ⟨sr,q⟩=>λa H1 s1 e1 n1=>by
 have no:=sr.noOwn n1;have s2:=(sr.same s1).mM (t:=.od []) ⟨[],e1,rfl,.nil⟩ no i;exact⟨_,k,hr,s2,k.mono (λt q2=>q2.go (bP.mM (sr.same s1) (bP.same s1 sr) no n1 i) sr s2) q⟩
def Gr{Q:Key->Prop}(r:VR K [] H u v)(q:(rf v).run Q):∃k,u=kV k/\Q k:=by
 cases r with
 | int i=>exact⟨.inl i,rfl,q⟩
 | str s=>exact⟨.inr s,rfl,q⟩
 | _=>exact q.elim
def Fh(i:Nat)(hs:fs[i]?=al (al (.od aw)))(hN:X.N[i]?=al y):∀σ H Q,fT K fs (.bind wa λx=>.bind (rf x) λk=>.ret (if neg then !gw aw k else gw aw k)) σ H Q->(fE K fs wa) σ H λu H1=>(G1 i) σ H1 λz H2=>∃a o,z=.ref a/\vz H2 a u o/\(∃b,(V.bl (if neg then !o.isSome else o.isSome))=.bl b/\Q b H2):=λσ H Q ⟨sr,q⟩=>
 ⟨sr,wa.mono (λv q1 u H1 g1 s1 v1=>by
  obtain⟨k,rfl,q2⟩:=Gr v1 q1;obtain⟨a,vs,e1,h1,r1⟩:=mV s1 hs;refine⟨_,e1,a,_,rfl,vz.k h1,_,rfl,?_⟩;rw[r1.has k];exact q2 H1 g1 s1) q⟩
theorem Ke(i:Nat)(hs:fs[i]?=al (al (.od aw)))(hu:X.A.units+200 < sB)(ha:EF X K fs a wa)(hN:X.N[i]?=al y:=by rfl)(hv:qa X.env.scope y:=by first | exact Bm rfl | exact BG (Bm rfl) | exact BG (BG rfl))(hd:eJ y:=by decide)(eW:qo y:=by decide)(hk:pc .In (.Name y p)=false:=by rfl) :
  TF X K fs (.Compare a [.In] [.Name y p] pos) (.bind wa λx=>.bind (rf x) λk=>.ret (gw aw k)):=⟨PT.imp (Hm (Hy ∅ ha.p (cL hN hv hd eW)) hk) (Fh (neg:=false) i hs hN)⟩
def zA(aw:O (Key×PV))(n v:PV):W (O (Key×PV)):=.bind (rf n) λkk=>.e7 (aw.length < sizeLine) (.ret (mL aw kk v))
theorem SF.putD(i:Nat){k:O (Key×PV)->W T}(hs:fs[i]?=al (al (.od aw)))(hu:X.A.units+200 < sB)(hN:X.N[i]?=al y)(hv:qa X.env.scope y)(he:EF X K fs e we)(hi:EF X K fs ei wi)(hr:∀l',SF X K x (fs.set i (al (.od l'))) rest (k l') out)
  (hd:eJ y:=by decide) (eW:qo y:=by decide) (rh:pr e (al (.Subscript (.Name y p) ei gW)) pos.line X.env=pure false:=by rfl) :
  SF X K x fs (.Assign [.Subscript (.Name y p) ei gW] e pos::rest) (.bind we λv=>.bind wi λn=>.bind (zA aw n v) k) out:=
 SF.step (zB ∅ (cL hN hv hd eW) hi.p he.p rh) λD σ H ⟨sr,q⟩=>by
  refine⟨sr,we.mono (λv q1 u H1 g1 s1 v1=>?_) q⟩;obtain⟨a,vs,e1,h1,r1⟩:=mV s1 hs;refine⟨_,e1,s1,wi.mono (λn q2 u2 H2 g2 s2 v2=>?_) q1⟩;obtain⟨kk,rfl,hz,q3⟩:=Gr v2 q2;obtain⟨a',vI,ql,eX,oP⟩:=mV s2 hs;rw[e1]at ql;cases ql;refine⟨a,_,rfl,yT.k eX (by rw[oP.length];exact hz),?_⟩;have sx:hO a H2 (upd H2 a (.dK (putK vI kk u))):=λz o n hz=>by rw[ax n];exact hz
  obtain⟨s3,g3⟩:=ib (t':=.od (mL aw kk v)) s2 hs rfl (by simp) e1 sx λtk=>⟨_,aF,(oP.put kk (g2.vr s1 v1)).1,aA.tk tk (oP.put kk (g2.vr s1 v1)).2⟩;exact⟨_,k _,hr _,s3,(k _).mono (λt q4=>q4.go ((g1.trans g2).f.trans g3) sr s3) q3⟩
end
end
section
variable[bD]
variable{K:Aa}
section
theorem sP(H:Hp):∀ts:O Str,aA K [] H (ts.map V.str) (ts.map PV.str)
 | []=>.nil
 | t::ts=>.cons (.str t) (sP H ts)
end
end
section
variable[bD]
def drawn(m:Int):W PV:=.any λv=>∃d:Int,v=.int d/\0<=d/\d < m
def bE:PV->W PV
 | .int m=>.e7 (0 < m/\m<=2000) (drawn m)
 | _=>.fail
end
section
variable[bD]
def kq{i j:Int}:of2 (aI g) (.int i) (.int j)=.ret (g i j):=ww λQ=>⟨Cj,λq=>⟨rfl,q⟩⟩
def jT{C:Int->Int->Prop}{i j:Int}:of2 (Jo C g) (.int i) (.int j)=.e7 (C i j) (.ret (g i j)):=ww λQ=>⟨λq=>⟨q.1,q.2.2⟩,λq=>⟨q.1,rfl,q.2⟩⟩
section
variable(i j:Int)(a b:Bool)(x y:PV)(l m:O PV)(s t:Str)
@[simp] theorem rH:of2 uF (.int i) (.int j)=.ret (.int (i-j)):=kq
@[simp] theorem yb:of2 gm (.int i) (.int j)=.e7 (wf i j) (.ret (.int (i*j))):=jT
@[simp] theorem Ql:of2 oDiv (.int i) (.int j)=.e7 (yV i j) (.ret (.int (i / j))):=jT
@[simp] theorem nH:of2 oMod (.int i) (.int j)=.e7 (0 < j) (.ret (.int (i % j))):=jT
@[simp] theorem IW:of2 lE (.int i) (.int j)=.e7 (yU i j) (.ret (.int (i ^ j.toNat))):=jT
@[simp] theorem Ma:of2 oLt (.int i) (.int j)=.ret (.bl (decide (i < j))):=kq
@[simp] theorem GH:of2 oLe (.int i) (.int j)=.ret (.bl (decide (i<=j))):=kq
@[simp] theorem RC:of2 OY (.int i) (.int j)=.ret (.bl (decide (j < i))):=kq
@[simp] theorem Mb:of2 M9 (.int i) (.int j)=.ret (.bl (decide (j<=i))):=kq
def ye:of2 ig x y=.e7 (uZ x y) (.ret (.bl (fH x y))):=ww λQ=>⟨λq=>⟨q.1,q.2.2⟩,λq=>⟨q.1,rfl,q.2⟩⟩
def ya:of2 fR x y=.e7 (uZ x y) (.ret (.bl (!fH x y))):=ww λQ=>⟨λq=>⟨q.1,q.2.2⟩,λq=>⟨q.1,rfl,q.2⟩⟩
@[simp] theorem yd:of2 xa (.bl a) (.bl b)=.ret (.bl (a==b)):=ww λQ=>⟨Cj,λq=>⟨rfl,q⟩⟩
@[simp] theorem mf:of2 iP (.bl a) (.bl b)=.ret (.bl (!(a==b))):=ww λQ=>⟨Cj,λq=>⟨rfl,q⟩⟩
@[simp] theorem tR:of2 tE x .aB=.ret (.bl (!x.ma)):=ww λQ=>⟨Cj,λq=>⟨rfl,q⟩⟩
@[simp] theorem IZ:of2 zX (.str s) (.str t)=.ret (.bl (!(Builtin.Str.occurrences t s 0 t.length 1).isEmpty)):=ww λQ=>⟨Cj,λq=>⟨rfl,q⟩⟩
def IX{c:Nat}(h:cF s.cps.toList i=al c):of2 w9 (.str s) (.int i)=.e7 (s.length<=sizeLine) (.ret (.str ⟨#[c]⟩)):=ww λQ=>by
 show(s.length<=sizeLine/\match cF s.cps.toList i with | some c=>_/\_ | none=>False)↔_;rw[h];exact⟨λq=>⟨q.1,q.2.2⟩,λq=>⟨q.1,rfl,q.2⟩⟩
@[simp] theorem dr:addW (.int i) (.int j)=.ret (.int (i+j)):=(rfl)
@[simp] theorem FA:addW (.str s) (.str t)=.e7 (s.length+t.length<=sizeLine) (.ret (.str (s++t))):=(rfl)
@[simp] theorem NX:addW (.tup l) (.tup m)=.e7 (l.length+m.length<=sizeLine) (.ret (.tup (l++m))):=(rfl)
@[simp] theorem rK:xj (.int i)=.ret (.int (-i)):=(rfl)
@[simp] theorem cW:JT (.bl a)=.ret a:=(rfl)
@[simp] theorem uY(w:W PV):kY (.bl true) w=w:=(rfl)
@[simp] theorem JR(w:W PV):kY (.bl false) w=.ret (.bl false):=(rfl)
@[simp] theorem gT(w:W PV):FV (.bl true) w=w:=(rfl)
@[simp] theorem Fz(w:W PV):FV (.bl false) w=.ret (.bl false):=(rfl)
@[simp] theorem aR:cH (.bl a)=.ret a:=(rfl)
@[simp] theorem NH:cH (.int i)=.ret (i != 0):=(rfl)
@[simp] theorem NG:cH .aB=.ret false:=(rfl)
@[simp] theorem NF:cH (.tup l)=.ret (!l.isEmpty):=(rfl)
@[simp] theorem NI:cH (.cl l)=.ret (!l.isEmpty):=(rfl)
@[simp] theorem bh:bo (.tup l)=.ret l:=(rfl)
@[simp] theorem jZ:bo (.cl l)=.ret l:=(rfl)
@[simp] theorem j4:xq (.cl l)=.ret l:=(rfl)
@[simp] theorem cE:Pa l (.int i)=.Jz (cF l i):=(rfl)
@[simp] theorem yc:uK l=.ret (.int l.length):=(rfl)
@[simp] theorem IV:qE l=.ret (.tup l):=(rfl)
@[simp] theorem Mc:N0 a=.ret (.bl a):=(rfl)
@[simp] theorem tQ:part (.int i)=.ret (al i):=(rfl)
@[simp] theorem IU:MW (.tup [x,y])=.ret (x,y):=(rfl)
@[simp] theorem NT(k:Kd):dn k (.int i)=.ret (.bl (k.is (.int i))):=(rfl)
@[simp] theorem gS(k:Kd):dn k (.str s)=.ret (.bl (k.is (.str s))):=(rfl)
@[simp] theorem fx(k:Kd):dn k (.tup l)=.ret (.bl (k.is (.tup l))):=(rfl)
@[simp] theorem NU(k:Kd):dn k (.cl l)=.ret (.bl (k.is (.cl l))):=(rfl)
@[simp] theorem NV(k:Kd):dn k (.bl a)=.ret (.bl (k.is (.bl a))):=(rfl)
@[simp] theorem NS(k:Kd):dn k .aB=.ret (.bl (k.is .aB)):=(rfl)
@[simp] theorem fw:qR eG [.tup l]=.ret (.int l.length):=ww λQ=>⟨Cj,λq=>⟨rfl,q⟩⟩
@[simp] theorem j5:qR eG [.cl l]=.ret (.int l.length):=ww λQ=>⟨Cj,λq=>⟨rfl,q⟩⟩
@[simp] theorem Fw:qR eG [.str s]=.e7 (s.length<=sizeLine) (.ret (.int s.length)):=ww λQ=>⟨λq=>⟨q.1,q.2.2⟩,λq=>⟨q.1,rfl,q.2⟩⟩
@[simp] theorem Ja:qR pX [.int i]=.ret (.int (if i < 0 then -i else i)):=ww λQ=>⟨Cj,λq=>⟨rfl,q⟩⟩
@[simp] theorem NW:qR nU [.int i]=.ret (.int i):=ww λQ=>⟨Cj,λq=>⟨rfl,q⟩⟩
@[simp] theorem nJ:qR nU [.bl a]=.ret (.int (if a then 1 else 0)):=ww λQ=>⟨Cj,λq=>⟨rfl,q⟩⟩
@[simp] theorem NJ:rf (.int i)=.ret (.inl i):=(rfl)
@[simp] theorem nI:rf (.str s)=.ret (.inr s):=(rfl)
@[simp] theorem gQ:jx (.int j)=.e7 (okN 0 j) (.ret (iV 0 j.toNat)):=(rfl)
@[simp] theorem xY:qF (.str s)=.e7 (s.cps.size<=sizeLine) (.ret (s.cps.toList.map λc=>.str ⟨#[c]⟩)):=(rfl)
@[simp] theorem rJ:mP (l++[x])=.ret (l,x):=by unfold mP;simp
@[simp] theorem Qi:OK l (.int i)=.e7 (-(2 ^ 63)<=i/\i < 2 ^ 63/\l.length*i.toNat<=sizeLine) (.ret (Aq i.toNat l).flatten):=(rfl)
@[simp] theorem NN:Kd.is .int (.int i)=true:=(rfl)
@[simp] theorem NP:Kd.is .int (.bl a)=true:=(rfl)
@[simp] theorem NR:Kd.is .bool (.bl a)=true:=(rfl)
@[simp] theorem NQ:Kd.is .bool (.int i)=false:=(rfl)
@[simp] theorem iY:Kd.is .str (.str s)=true:=(rfl)
@[simp] theorem gR:Kd.is .str (.tup l)=false:=(rfl)
@[simp] theorem NM:Kd.is .str (.int i)=false:=(rfl)
@[simp] theorem Fx:Kd.is .tup (.tup l)=true:=(rfl)
@[simp] theorem Fy:Kd.is .tup (.str s)=false:=(rfl)
@[simp] theorem NK:Kd.is .tup (.int i)=false:=(rfl)
@[simp] theorem NL:Kd.is .tup (.bl a)=false:=(rfl)
@[simp] theorem cq(h0:0 < i)(h1:i<=2000):bE (.int i)=drawn i:=sw ⟨h0,h1⟩
def ba{m:Int}{Q:PV->Prop}(h:∀d:Int,0<=d->d < m->Q (.int d)):(drawn m).run Q:=λv ⟨d,e,h0,h1⟩=>e▸h d h0 h1
end
namespace W
variable{α β:Type}
def le(a b:W α):Prop:=∀Q,b.run Q->a.run Q
def le.refl(a:W α):a.le a:=λ_ h=>h
def le.ret{a:W α}{v:α}{f:α->W β}{b:W β}(h:a.le (.ret v))(hf:(f v).le b):(a.bind f).le b:=λQ q=>h _ (hf Q q)
def le.use{a:W α}{v:α}{Q:α->Prop}(h:a.le (.ret v))(q:Q v):a.run Q:=h _ q
end W
section
variable{S R:Type}
@[simp] theorem L3(s:S)(f:PV->S->W S):dG [] s f=.ret s:=(rfl)
@[simp] theorem JM(x:PV)(r:O PV)(s:S)(f:PV->S->W S):dG (x::r) s f=.bind (f x s) λs'=>dG r s' f:=(rfl)
theorem kR{f:PV->S->W S}{Q:S->Prop}(I:O PV->S->Prop):∀{l:O PV}{s:S},I l s->(∀x r s,I (x::r) s->(f x s).run (I r))->(∀s,I [] s->Q s)->(dG l s f).run Q
 | [],s,h0,_,he=>he s h0
 | x::r,s,h0,hs,he=>(f x s).mono (λs' h=>kR I h hs he) (hs x r s h0)
theorem forF_run{f:PV->S->W (Lp S R)}{Q:Lp S R->Prop}(I:O PV->S->Prop):∀{l:O PV}{s:S},I l s->(∀x r s,I (x::r) s->(f x s).run λo=>match o with | .go s'=>I r s' | .out t=>Q (.out t))->(∀s,I [] s->Q (.go s))->(FL.iq l s f).run Q
 | [],s,h0,_,he=>he s h0
 | x::r,s,h0,hs,he=>(f x s).mono (λo h=>match o,h with
  | .go s',h=>forF_run I h hs he
  | .out t,h=>h) (hs x r s h0)
theorem jY{f:PV->S->W S}{Q:S->Prop}(I:Nat->S->Prop){s:S}(h0:I 0 s)(hs:∀(i:Nat) (x:PV) s,l[i]?=al x->I i s->(f x s).run (I (i+1)))(he:∀s,I l.length s->Q s):(dG l s f).run Q:=by
 refine kR (λr s=>∃i,i<=l.length/\r=l.drop i/\I i s) ⟨0,Bj _,rfl,h0⟩ (λx r s ⟨i,hi,e,h⟩=>?_) (λs ⟨i,hi,e,h⟩=>?_)
 ·have jC:i < l.length:=by
   rcases EO i l.length with h | h
   ·exact h
   ·rw[Eb h]at e;cases e
  rw[A8 jC]at e;injection e with e1 e2;subst e1;exact(f _ s).mono (λs' h'=>⟨i+1,jC,e2,h'⟩) (hs i _ s (Ag jC) h)
 ·have:i=l.length:=by
   have:=congrArg CS e;rw[CA]at this;simp at this;omega
  subst this;exact he s h
theorem tN{f:PV->S->W (Lp S R)}{Q:Lp S R->Prop}(I:Nat->S->Prop){s:S}(h0:I 0 s)(hs:∀(i:Nat) (x:PV) s,l[i]?=al x->I i s->(f x s).run λo=>match o with | .go s'=>I (i+1) s' | .out t=>Q (.out t))(he:∀s,I l.length s->Q (.go s)):(FL.iq l s f).run Q:=by
 refine forF_run (λr s=>∃i,i<=l.length/\r=l.drop i/\I i s) ⟨0,Bj _,rfl,h0⟩ (λx r s ⟨i,hi,e,h⟩=>?_) (λs ⟨i,hi,e,h⟩=>?_)
 ·have jC:i < l.length:=by
   rcases EO i l.length with h | h
   ·exact h
   ·rw[Eb h]at e;cases e
  rw[A8 jC]at e;injection e with e1 e2;subst e1;exact(f _ s).mono (λo h'=>match o,h' with
   | .go s',h'=>⟨i+1,jC,e2,h'⟩
   | .out t,h'=>h') (hs i _ s (Ag jC) h)
 ·have:i=l.length:=by
   have:=congrArg CS e;simp at this;omega
  subst this;exact he s h
def pH{f:PV->S->W S}{Q:S->Prop}(I:Nat->S->Prop){s:S}(h0:I 0 s)(hs:∀(i:Nat) s,i < n->I i s->(f (.int (i:Int)) s).run (I (i+1)))(he:∀s,I n s->Q s):(dG (iV 0 n) s f).run Q:=
 jY I h0 (λi x s hx h=>by obtain⟨hi,rfl⟩:=jr hx;rw[Ec];exact hs i s hi h) (λs h=>he s (by rw[eV]at h;exact h))
def pI{f:PV->S->W (Lp S R)}{Q:Lp S R->Prop}(I:Nat->S->Prop){s:S}(h0:I 0 s)(hs:∀(i:Nat) s,i < n->I i s->(f (.int (i:Int)) s).run λo=>match o with | .go s'=>I (i+1) s' | .out t=>Q (.out t))(he:∀s,I n s->Q (.go s)):(FL.iq (iV 0 n) s f).run Q:=
 tN I h0 (λi x s hx h=>by obtain⟨hi,rfl⟩:=jr hx;rw[Ec];exact hs i s hi h) (λs h=>he s (by rw[eV]at h;exact h))
theorem qu{c:S->W Bool}{b:S->W S}{Q:S->Prop}(I:Nat->S->Prop){s:S}(h0:I n s)(hs:∀n s,I n s->(c s).run λk=>if k=true then (b s).run (λs'=>∃m,m < n/\I m s') else Q s):(qw c b s).run Q:=by
 refine⟨n+1,?_⟩;have:∀k n s,n < k->I n s->(hU c b k s).run Q:=by
  intro k
  induction k with
  | zero=>intro n s h;omega
  | succ k ih=>
   intro n s hn h;refine(c s).mono (λz q=>?_) (hs n s h);cases z with
   | true=>exact(b s).mono (λs' ⟨m,hm,h'⟩=>ih m s' ∅ h') (q)
   | false=>exact q
 exact this (n+1) n s ∅ h0
theorem hV{c:S->W Bool}{b:S->W (Lp S R)}{Q:Lp S R->Prop}(I:Nat->S->Prop){s:S}(h0:I n s)(hs:∀n s,I n s->(c s).run λk=>if k=true then (b s).run (λo=>match o with | .go s'=>∃m,m < n/\I m s' | .out t=>Q (.out t)) else Q (.go s)):(FL.hZ c b s).run Q:=by
 refine⟨n+1,?_⟩;have:∀k n s,n < k->I n s->(fb c b k s).run Q:=by
  intro k
  induction k with
  | zero=>intro n s h;omega
  | succ k ih=>
   intro n s hn h;refine(c s).mono (λz q=>?_) (hs n s h);cases z with
   | true=>exact(b s).mono (λo q=>match o,q with
    | .go s',⟨m,hm,h'⟩=>ih m s' ∅ h'
    | .out t,q=>q) (q)
   | false=>exact q
 exact this (n+1) n s ∅ h0
theorem m7{g:PV->PV}:∀{l:O PV},(∀x∈l,f x=.ret (g x))->dN l f=.ret (l.map g)
 | [],_=>rfl
 | x::r,h=>by
  show am (f x) (λy=>am (dN r f) λl=>ap (y::l))=_;rw[h x (.head _),m7 λy hy=>h y (.tail _ hy)];rfl
theorem xu{f:PV->W (Option PV)}{g:PV->Option PV}:∀{l:O PV},(∀x∈l,f x=.ret (g x))->oy l f=.ret (l.filterMap g)
 | [],_=>rfl
 | x::r,h=>by
  show am (f x) (λo=>am (oy r f) λl=>ap (o.toList++l))=_;rw[h x (.head _),xu λy hy=>h y (.tail _ hy),B7];cases g x <;> rfl
@[simp] theorem ub(bs:O Bool):pZ (bs.map PV.bl)=.ret (.bl (bs.all id)):=by unfold pZ;rw[ua];rfl
theorem all_map(f:PV->Bool)(l:O PV):pZ (l.map λx=>.bl (f x))=.ret (.bl (l.all f)):=by
 have:(l.map λx=>PV.bl (f x))=(l.map f).map PV.bl:=by rw[C1];rfl
 rw[this,ub,List.all_map];rfl
end
section
variable(i j:Int)(a b:Bool)(x y:PV)(l m:O PV)(s t:Str)
@[simp] theorem GC:fH (.int i) (.int j)=(i==j):=by rw[fH]
@[simp] theorem GB:fH (.str s) (.str t)=(s==t):=by rw[fH]
@[simp] theorem GD:fH (.bl a) (.bl b)=(a==b):=by rw[fH]
@[simp] theorem Rx:fH (.tup l) (.tup m)=dH l m:=by rw[fH]
@[simp] theorem Ry:fH (.cl l) (.cl m)=dH l m:=by rw[fH]
@[simp] theorem Qe:dH [] []=true:=by rw[dH]
@[simp] theorem Qd:dH (x::l) (y::m)=(fH x y&&dH l m):=by rw[dH]
@[simp] theorem NA:PV.eA (.int i)=true:=by rw[PV.eA] <;> simp
@[simp] theorem Qb:PV.eA (.bl a)=true:=by rw[PV.eA] <;> simp
@[simp] theorem Ny:PV.eA (.str s)=true:=by rw[PV.eA] <;> simp
@[simp] theorem Nz:PV.eA .aB=true:=by rw[PV.eA] <;> simp
@[simp] theorem Nx:PV.eA (.tup l)=cV l:=by rw[PV.eA]
@[simp] theorem Qa:PV.eA (.cl l)=cV l:=by rw[PV.eA]
@[simp] theorem L4:cV []=true:=by rw[cV]
@[simp] theorem JN:cV (x::l)=(PV.eA x&&cV l):=by rw[cV]
@[simp] theorem L9:PV.dI (.int i)=0:=by rw[PV.dI] <;> simp
@[simp] theorem ND:PV.dI (.bl a)=0:=by rw[PV.dI] <;> simp
@[simp] theorem L7:PV.dI (.str s)=0:=by rw[PV.dI] <;> simp
@[simp] theorem L8:PV.dI .aB=0:=by rw[PV.dI] <;> simp
@[simp] theorem L6:PV.dI (.tup l)=cm l+1:=by rw[PV.dI]
@[simp] theorem NC:PV.dI (.cl l)=cm l+1:=by rw[PV.dI]
@[simp] theorem JO:cm []=0:=by rw[cm]
@[simp] theorem IM:cm (x::l)=max (PV.dI x) (cm l):=by rw[cm]
def pK:uZ (.int i) (.int j):=⟨by simp,by simp,by simp⟩
@[simp] theorem kW:of2 ig (.int i) (.int j)=.ret (.bl (i==j)):=by rw[ye,sw (pK i j),GC]
@[simp] theorem xZ:of2 fR (.int i) (.int j)=.ret (.bl (!(i==j))):=by rw[ya,sw (pK i j),GC]
@[simp] theorem Qk:of2 ig (.bl a) (.bl b)=.ret (.bl (a==b)):=by rw[ye,sw ⟨by simp,by simp,by simp⟩,GD]
@[simp] theorem Qj:of2 fR (.bl a) (.bl b)=.ret (.bl (!(a==b))):=by rw[ya,sw ⟨by simp,by simp,by simp⟩,GD]
end
theorem gC:∀{l:O PV},cV l=true↔∀x∈l,PV.eA x=true
 | []=>by simp
 | x::l=>by rw[cV,Bs,gC];simp
theorem gD:∀{l:O PV},(∀x∈l,PV.dI x<=n)->cm l<=n
 | [],_=>by simp
 | x::l,h=>by
  have h1:=h x (.head _);have h2:=gD λy hy=>h y (.tail _ hy);rw[cm];omega
instance (priority:=10) R5:bD:=⟨[]⟩
end
end FL
variable{f:AL}
namespace FL
section
variable[bD]
structure EV where
 P:re
 w:sK
 K:Aa
 mg:Str->Option ce
 base:lm
structure DF where
 x:Str
 s:r6
 ps:List Str
 k:Nat
 sp:Aa->Sp
abbrev DF.C(d:DF)(v:EV):=qi v.P v.w v.K v.mg v.base d.x d.k d.ps (d.sp v.K)
structure DI(v:EV)(d:DF) where
 f:db
 fd:wn
 fn:Fun v.K d.x d.x d.s f fd
 bi:Binds v.K fd d.ps []
 at':v.mg d.x=al (.ref f)
abbrev DI.O{v:EV}{d:DF}(D:DI v d):Prop:=bx v.P v.w v.K v.mg v.base fD d.k D.f D.fd d.ps (d.sp v.K)
def DI.c{v:EV}{d:DF}(D:DI v d)(h:D.O):d.C v:=⟨D.f,D.fd,h,D.bi,D.fn.kp,D.at'⟩
def DI.cN{v:EV}{d:DF}(D:DI v d)(h:bx v.P v.w v.K v.mg v.base fD k D.f D.fd d.ps sp):qi v.P v.w v.K v.mg v.base d.x k d.ps sp:=⟨D.f,D.fd,h,D.bi,D.fn.kp,D.at'⟩
def DI.cA{v:EV}{d:DF}(D:DI v d)(h:D.O):CalA v.P v.w v.K v.mg v.base D.f [] [] [] d.k d.ps (d.sp v.K):=⟨D.fd,h.imp λ_ _ _ _ z=>z.2.2,D.bi,λ_ hK _ _=>let ⟨_,_,_,_,_,_,_,_,_,_,l,_⟩:=D.fn.ex;⟨_,_,_,_,hK _ _ l⟩⟩
structure DX(K:Aa)(x:Str)(st:r6):Prop where
 ex:∃f fd,AH K gt x=al (al (.ref f))/\Fun K x x st f fd
abbrev RG(s:r6):Str:=match s with
 | .FunctionDef x _ _ _ _ _ _ _ _ _=>x
 | _=>""
def dx{K:Aa}{x:Str}{st:r6}{kV:ce}(a:AH K gt x=al (al (.ref f)))(l:K.lookup f=al ⟨oc,od,.func (A9 x x (bL st) (aU st) (au st) .none kV Å pm an bO ct),wQ⟩)
  (c:BW K bO x=true) (k:A7 K (.ref f)=true):DX K x st:=⟨f,_,a,kN l c k⟩
def rG{N P:O Str}(h1:sc.kind=.function:=by rfl)(h2:sc.isCoroutine=false:=by rfl)(h3:sc.isGenerator=false:=by rfl)(h4:N.Nodup:=by decide +kernel)(h5:N.take P.length=P:=by rfl)(h6:∀x∈P,sc.names.lookup x=al .local\/sc.names.lookup x=al .cell:=by decide +kernel)(h7:∀y∈sc.names,y.2≠.free:=by decide +kernel):bN N P sc:=⟨h1,h2,h3,h4,h5,h6,h7⟩
def lcs{N:O Str}(h1:sc.kind=.function:=by rfl)(h2:∀y∈sc.names,y.2≠.cell:=by decide +kernel)(h3:∀y∈sc.names,y.2=.local->sc.names.lookup y.1=al .local:=by decide +kernel)(h4:∀y∈sc.names,y.2=.free->(Xs.names.lookup y.1=al .cell\/Xs.names.lookup y.1=al .free):=by decide +kernel)(h5:N'.Nodup:=by decide +kernel)(h6:ix.length=N'.length:=by rfl)
  (h7:((ix.zip N').all λp=>match p.1 with | none=>true | some j=>decide (N[j]?=al p.2)&&decide (sc.names.lookup p.2=al .free))=true:=by decide +kernel):bM Xs N sc N' ix:=⟨h1,h2,h3,h4,h5,h6,h7⟩
abbrev Gk(l:O (Str×wE)):u8:={kind:=.function,names:=(D6 ".0",.local)::l,isGenerator:=false,isCoroutine:=false,more:=[]}
abbrev lo:wE:=.local
abbrev gi:wE:=.globalImplicit
abbrev fr:wE:=.free
def oZ:O AK->Nat
 | []=>0
 | .p _::ks=>oZ ks+1
 | _::ks=>oZ ks
theorem iR:∀{ks:O AK}{i:Nat},ks[i]?=al (.p φ)->oZ ks≠0
 | [],i,h=>by simp at h
 | .p _::_,_,_=>Nat.succ_ne_zero _
 | .v::ks,0,h=>by simp at h
 | .f _ _ _ _::ks,0,h=>by simp at h
 | .v::ks,i+1,h=>iR (ks:=ks) (by simpa using h)
 | .f _ _ _ _::ks,i+1,h=>iR (ks:=ks) (i:=i) (by simpa using h)
theorem ko:∀{ks:O AK},Nat.ble (oZ ks) 1=true->su ks
 | [],_=>λi j ⟨_,h⟩=>by simp at h
 | .v::ks,h=>λi j ⟨φ,a⟩ ⟨ψ,b⟩=>by
  cases i with | zero=>simp at a | succ i=>cases j with | zero=>simp at b | succ j=>rw[ko (ks:=ks) h i j ⟨φ,by simpa using a⟩ ⟨ψ,by simpa using b⟩]
 | .f _ _ _ _::ks,h=>λi j ⟨φ,a⟩ ⟨ψ,b⟩=>by
  cases i with | zero=>simp at a | succ i=>cases j with | zero=>simp at b | succ j=>rw[ko (ks:=ks) h i j ⟨φ,by simpa using a⟩ ⟨ψ,by simpa using b⟩]
 | .p _::ks,h=>λi j ⟨φ,a⟩ ⟨ψ,b⟩=>by
  have z:oZ ks+1<=1:=Bx h;cases i with | succ i=>exact absurd ∅ (iR (ks:=ks) (by simpa using a)) | zero=>cases j with | succ j=>exact absurd ∅ (iR (ks:=ks) (by simpa using b)) | zero=>rfl
abbrev ox(st:r6):O Str:=((au st).names.filter λy=>y.2==.local||y.2==.cell).map (·.1)
abbrev ou(st:r6):O Str:=(bL st).args.map (·.arg)
abbrev Sz(sc:u8):O Str:=((sc.names.tail.filter λy=>y.2==.local)++sc.names.filter λy=>y.2==.free).map (·.1)
abbrev S4(N:O Str)(sc:u8):O (Option Nat):=((sc.names.tail.filter λy=>y.2==.local).map λ_=>bn)++(sc.names.filter λy=>y.2==.free).map λy=>al (N.idxOf y.1)
abbrev LS(st:r6)(sc:u8):Prop:=bM (au st) (ox st) sc (Sz sc) (S4 (ox st) sc)
def O2:Nat->bj->bj
 | _,[]=>[]
 | n,s::l=>(match n % 2 with | 0=>s | _=>bn)::O2 (n / 2) l
theorem fV.m:∀(n:Nat) {fs:bj},fV fs (O2 n fs)
 | _,[]=>.refl _
 | n,s::l=>by
  unfold O2
  split
  ·exact .keep (fV.m _)
  ·exact .drop (fV.m _)
def sE:(n:Nat)->(O PV->W R->Prop)->lj R n->Prop
 | 0,B,m=>B [] m
 | n+1,B,m=>∀x:PV,sE n (λl w=>B (x::l) w) (m x)
theorem sE.all:∀{n:Nat}{B:O PV->W R->Prop}{m:lj R n},sE n B m->∀l,l.length=n->B l (eK n m l)
 | 0,_,_,h,[],_=>h
 | n+1,_,_,h,x::l,e=>sE.all (h x) l (Nat.succ.inj e)
section
variable{v:EV}{x:Str}{st:r6}
abbrev BB{T:Type}(v:EV)(x:Str)(st:r6)(k:Nat)(ks:O AK)(f:db)(n:Nat)(m:lj T n)(o:T->End):Prop:=∀{bO:ce}{A:tz}{outer:O Env}{s:eM}{H:Hp}{E:XK},bt k (A.deeper (wS x (au st) s.heap.objs.size f bO))->(ox st).Nodup->sE n (λl w=>SF (jQ fD v.P v.w v.K v.mg v.base (ox st) x (au st) f bO A outer s H E).xc v.K false (k4 ks l (ox st).length) (aU st) w o) m
def mY{m:lj PV n}(D:DI v ⟨x,st,ou st,k+1,λK=>ja K ks (eK n m)⟩)(Ä:BB v x st k ks D.f n m .rt)(Fo:ks.length=(ou st).length:=by rfl)(one:Nat.ble (oZ ks) 1=true:=by rfl)(S:bN (ox st) (ou st) (au st):=by exact rG):D.O:=Qc D.fn S Fo (ko one) λl e bO A outer s H E hr=>(Ä hr S.nd).all l e
def O3{m:lj (O PV) n}(D:DI v ⟨x,st,ou st,k+1,λK=>oK K ks (eK n m)⟩)(Ä:BB v x st k ks D.f n m .rl)(Fo:ks.length=(ou st).length:=by rfl)(one:Nat.ble (oZ ks) 1=true:=by rfl)(S:bN (ox st) (ou st) (au st):=by exact rG):D.O:=Rv D.fn S Fo (ko one) λl e bO A outer s H E hr=>(Ä hr S.nd).all l e
end
section
variable{K:Aa}{x:Str}{WL:W (O PV)}{p:Pos}
theorem eC{m:O PV->W PV}(G:qi X.prog X.w X.K X.mg X.base x k ps (ja K ks m))(hr:bt k' X.A)(ha:AF X K fs (e::es) ks B)(hk:k<=k':=by first | exact Bx rfl | exact Aj _ | omega)(hg:Gl X x:=by rfl)(hW:W'=B m:=by rfl)(fU:eJ x:=by decide)
  (he:dA X e es:=by rfl) (bZ:fF X pos es:=by rfl):EF X K fs (.Call (.Name x p) (e::es) [] pos) W':=FG G hr hk hg ha hW fU he bZ
theorem lC{m:O PV->W (O PV)}{B:(O PV->W (O PV))->W (O PV)}(G:qi X.prog X.w X.K X.mg X.base x k ps (oK K ks m))(hr:bt k' X.A)(ha:AF X K fs (e::es) ks B)(hk:k<=k':=by first | exact Bx rfl | exact Aj _ | omega)(hg:Gl X x:=by rfl)(hW:WL=B m:=by rfl)(fU:eJ x:=by decide)
  (he:dA X e es:=by rfl) (bZ:fF X pos es:=by rfl):LF X K fs (.Call (.Name x p) (e::es) [] pos) WL:=E5 G hr hk hg ha hW fU he bZ
def mR(i:Nat)(hN:X.N.Nodup)(hi:X.N[i]?=al x:=by rfl)(hx:Loc X.env.scope x:=by first | exact .inl rfl | exact .inr rfl)(hf:yR X x:=by first | exact .inl rfl | exact .inr rfl | assumption):PG X (.Name x pos) (eY i):=zF hN hi hx hf
variable{T:Type}{out:T->End}{b:Bool}{rest:O r6}
def sv(i:Nat){k:PV->W T}(hN:X.N.Nodup)(he:EF X K fs e we)(hr:∀v,SF X K b (fs.set i (al (.val v))) rest (k v) out)(hi:X.N[i]?=al y:=by rfl)(hx:Loc X.env.scope y:=by first | exact .inl rfl | exact .inr rfl)(hs:pr e (al (.Name y p')) pos.line X.env=pure false:=by rfl)
  (hf:yR X y:=by first | exact .inl rfl | exact .inr rfl | assumption):SF X K b fs (.Assign [.Name y p'] e pos::rest) (.bind we k) out:=SF.set hN hi hx he hr hs hf
def sl(i:Nat){k:O PV->W T}(hN:X.N.Nodup)(he:LF X K fs e wl)(hr:∀l,SF X K b (fs.set i (al (.ol bn l))) rest (k l) out)(hi:X.N[i]?=al y:=by rfl)(hx:Loc X.env.scope y:=by first | exact .inl rfl | exact .inr rfl)(hs:pr e (al (.Name y p')) pos.line X.env=pure false:=by rfl)
  (hf:yR X y:=by first | exact .inl rfl | exact .inr rfl | assumption):SF X K b fs (.Assign [.Name y p'] e pos::rest) (.bind wl k) out:=SF.OB hN hi hx he hr hs hf
end
end
end FL
variable{v:FL.EV}{m:PL.PV->FL.W PL.PV}{d:FL.DF}
namespace FL
section
variable[bD]
def MR:(n:Nat)->(O ce->Prop)->Prop
 | 0,P=>P []
 | n+1,P=>∀x,MR n λl=>P (x::l)
theorem usN:∀{n:Nat}{P:O ce->Prop},MR n P->∀us:O ce,us.length=n->P us
 | 0,_,h,[],_=>h
 | n+1,_,h,x::l,e=>usN (h x) l (Nat.succ.inj e)
def DX.mk2(D:DX v.K d.x d.s)(X:v.K.In h)(G:h.Ns gt v.mg)
  (hb:∀(kV Å pm:ce) (an:Option db) (bO ct:ce) (us:O ce),us.length=d.ps.length->Db (A9 d.x d.x (bL d.s) (aU d.s) (au d.s) .none kV Å pm an bO ct) ⟨us,[]⟩=pure (d.ps.zip us):=by exact λ_ _ _ _ _ _=>usN (by (repeat intro _);rfl)):Nonempty (DI v d):=by
 obtain⟨f,fd,a,F⟩:=D.ex;exact⟨⟨f,fd,F,F.binds hb,CC X G a⟩⟩
def DX.go(D:DX v.K d.x d.s)(X:v.K.In h)(G:h.Ns gt v.mg){P:Prop}(k:∀D:DI v d,D.O)(r:d.C v->P)
  (hb:∀(kV Å pm:ce) (an:Option db) (bO ct:ce) (us:O ce),us.length=d.ps.length->Db (A9 d.x d.x (bL d.s) (aU d.s) (au d.s) .none kV Å pm an bO ct) ⟨us,[]⟩=pure (d.ps.zip us):=by exact λ_ _ _ _ _ _=>usN (by (repeat intro _);rfl)):P:=by
 obtain⟨D⟩:=D.mk2 X G hb;exact r (D.c (k D))
def vO(K:Aa):Sp:=λvs H Q _=>TB H/\∃(a:db) (ns:O Int),vs=[.ref a]/\yS K H a (ns.map V.int)/\ns.length<=63/\∀H',Q (.bl true) H'
def E4{K:Aa}(ok:∀ns:O Int,ns.length<=63->(m (.cl (ns.map PV.int))).run (·=.bl true)):∀vs H Q E,vO K vs H Q E->ja K [.v] (eK 1 m) vs H Q E:=λvs H Q E ⟨tb,a,ns,e,fz,hl,q⟩=>by
 subst e;refine⟨tb,[.cl (ns.map PV.int)],.v (.cl fz (nj _ _ ns)) .nil,(m (.cl (ns.map PV.int))).mono (λv e u H' _ r=>?_) (ok ns hl)⟩;subst e;cases r;exact q H'
structure MU(K:Aa)(mg:Str->Option ce)(d:DF):Prop where
 f:∀v:EV,v.K=K->v.mg=mg->∀D:DI v d,D.O
def mkAll{l:PySem.W.OpenLaw}{K:Aa}{st:r6}(ok:∀ns:O Int,ns.length<=63->(m (.cl (ns.map PV.int))).run (·=.bl true))(X:K.In h)(G:h.Ns gt mg)(Rb:mg "law"=al (.ref fa))(Mg:DX K "law" st)
  (hb:∀(kV Å pm:ce) (an:Option db) (bO ct:ce) (us:O ce),us.length=1->Db (A9 "law" "law" (bL st) (aU st) (au st) .none kV Å pm an bO ct) ⟨us,[]⟩=pure (([("_law_script":Str)]:O Str).zip us))
  (F:MU K mg ⟨"law",st,["_law_script"],k,λK=>ja K [.v] (eK 1 m)⟩) :
  ∃fd:wn,(∀(s:eM) (v:ce),BindsTo s fd ⟨[v],[]⟩ [("_law_script",v)])/\∀base:lm,K.In base->base.Ns gt mg->bx l.prog w K mg base fD k fa fd ["_law_script"] (vO K):=by
 obtain⟨f,fd,a,F'⟩:=Mg.ex;have e:=Rb.symm.trans (CC X G a);cases e;obtain⟨oc,od,kV,Å,pm,an,bO,ct,wQ,rfl,_⟩:=id F'.ex;exact⟨A9 "law" "law" (bL st) (aU st) (au st) .none kV Å pm an bO ct,λs v=>.of_eq (hb kV Å pm an bO ct [v] rfl),λbase _ _=>(F.f ⟨l.prog,w,K,mg,base⟩ rfl rfl ⟨_,_,F',(F'.binds (ps:=["_law_script"]) hb),Rb⟩).imp (E4 ok)⟩
section
variable{K:Aa}{R:Type}{B:(O PV->W R)->W R}
def av(i:Nat){x:Str}{v:PV}(hr:AF X K fs es ks B)(hs:fs[i]?=al (al (.val v)):=by rfl)(hN:X.N[i]?=al x:=by rfl)(hv:qa X.env.scope x:=by first | exact Bm rfl | exact BG (Bm rfl) | exact BG (BG rfl))(hd:eJ x:=by decide)(eW:qo x:=by decide)
  (h:ii (.Name x pos::es) X.env=(false,lc (.Name x pos) X.env)::ii es X.env:=by rfl):AF X K fs (.Name x pos::es) (.v::ks) (λk=>.bind (.ret v) λx=>B λl=>k (x::l)):=ao (ag i hs hN hv hd eW) hr h
end
end
end FL
variable{a:AL}{ys:O Bv}{vs:O L2.V}
namespace FL
section
variable[bD]{K:Aa}
structure Lm where
 q:Str
 ar:Arguments
 bd:jp
 sc:u8
abbrev Lm.fn(L:Lm)(cl:O (Str×db))(pm:ce)(cv g9:ce):wn:=PySem.W.kla_fn "<lambda>" L.q L.ar L.bd L.sc cl pm cv g9
abbrev Lm.ob(L:Lm)(cl:O (Str×db))(pm:ce)(cv g9:ce):Obj:={cls:=.type "function",data:=.func (L.fn cl pm cv g9)}
def CodeO(o:Obj)(q:Str):Prop:=∃vs t,o.data=.fields vs/\vs[1]?=al (.str q t)
def LamIn(L:Lm)(ys:O Str)(base:lm)(a:db)(us:O V)(fz:O (db×Obj)):Prop:=∃cl pm c g9 co,fz=[(a,L.ob cl pm (.ref c) g9),(c,co)]/\CodeO co L.q/\
 (∀x c,cl.lookup x=al c->∃v,base.IsCell c v)/\(∀x y c,cl.lookup x=al c->cl.lookup y=al c->x=y)/\∀(i:Nat) (y:Str),ys[i]?=al y->∃c v u,cl.lookup y=al c/\us[i]?=al v/\RelV v u/\base.IsCell c (al u)
structure LamS(ps ys:List Str)(sc:u8):Prop where
 kind:sc.kind=.function
 co:sc.isCoroutine=false
 gen:sc.isGenerator=false
 nd:(ps++ys).Nodup
 par:∀x∈ps,sc.names.lookup x=al .local
 fre:∀y∈ys,sc.names.lookup y=al .free
 noc:∀y∈sc.names,y.2≠.cell
 fin:∀y∈sc.names,y.2=.free->y.1∈ys
def cxL(P:re)(w:sK)(K:Aa)(mg:Str->Option ce)(base:lm)(N:O Str)(L:Lm)(a:db)(cl:O (Str×db))(cv:ce)(A:tz)(outer:O Env)(s:eM)(H:Hp):Cx where
 prog:=P
 w:=w
 K:=K
 mg:=mg
 base:=base
 A:=A.deeper (CV L.q L.sc s.heap.objs.size a cv cl)
 N:=N
 s₀:=s
 H₀:=H
 env:=CV L.q L.sc s.heap.objs.size a cv cl
 outer:=outer
 stack:=CV L.q L.sc s.heap.objs.size a cv cl::outer
 ex:=[]
 calm:=true
 fn:=λ_=>false
 pn:=[]
 xe:=λ_ _=>False
theorem lookup_nd:∀{l:O (Str×β)}{x:Str}{u:β},(l.map (·.1)).Nodup->(x,u)∈l->l.lookup x=al u
 | (y,v)::l,x,u,nd,h=>by
  rw[A1,B3]at nd;rw[AW];by_cases c:x=y
  ·subst c;rcases AA.mp h with h | h
   ·cases h;simp
   ·exact absurd (Bn.mpr ⟨_,h,rfl⟩) nd.1
  ·rw[beq_eq_false_iff_ne.mpr c];rcases AA.mp h with h | h
   ·cases h;exact absurd rfl c
   ·exact lookup_nd nd.2 h
theorem zip_sub:∀(ps:O Str) (us:O ce),List.Sublist ((ps.zip us).map (·.1)) ps
 | [],_=>.slnil
 | _::_,[]=>List.nil_sublist _
 | p::ps,_::us=>(zip_sub ps us).cons₂ p
def zip_rev(nd:ps.Nodup){x:Str}{u:ce}(h1:ps[i]?=al x)(h2:us[i]?=al u):(ps.zip us).reverse.lookup x=al u:=by
 refine lookup_nd ?_ (List.mem_reverse.mpr (AB (by rw[DK];exact⟨h1,h2⟩)));rw[List.map_reverse];exact(List.reverse_perm _).nodup_iff.mpr (nd.sublist (zip_sub ps us))
section
variable{L:Lm}{us:O V}
abbrev lamF(l:O PV):bj:=l.map λv=>al (.val v)
def lam_get(h:(lamF l)[i]?=al (al t)):∃v,l[i]?=al v/\t=.val v:=by
 rw[Ak]at h;cases e:l[i]? with
 | none=>rw[e]at h;cases h
 | some v=>rw[e]at h;cases h;exact⟨v,rfl,rfl⟩
def lam_sr(r:aA K [] H vs l)(tb:TB H):aM K H (vs.map al) (lamF l):=⟨by rw[Al,Al,r.length],λi t e=>by
 obtain⟨v,e1,rfl⟩:=lam_get e;obtain⟨u,h1,h2⟩:=r.get e1;exact⟨u,by rw[Ak,h1];rfl,.inl ⟨v,rfl,h2⟩⟩,λi j s t x y b e1 e2 o1=>(by
 obtain⟨v,_,rfl⟩:=lam_get e1;cases o1),tb⟩
theorem vrs_app:∀{n:Nat}{vs:O V}{l:O PV},dR K H vs (Aq n .v) l->aA K [] H vs l/\l.length=n
 | 0,_,_,h=>by cases h;exact⟨.nil,rfl⟩
 | n+1,_,_,h=>by
  cases h with
  | v r t=>
   obtain⟨h1,h2⟩:=vrs_app t;exact⟨.cons r h1,by rw[Av,h2]⟩
theorem fn_lam{m:lj PV n}(I0:LamIn L ys base a us fz)(S:LamS ps ys L.sc)(hn:n=ps.length)(hq:us.length=qs.length)(hy:qs.length=ys.length)
  (hb:∀(cl:O (Str×db)) (pm cv g9:ce) (us:O ce),us.length=ps.length->Db (L.fn cl pm cv g9) ⟨us,[]⟩=pure (ps.zip us))
  (Ä:∀l:O PV,l.length=n->∀(cl:O (Str×db)) (cv:ce) (A:tz) (outer:O Env) (s:eM) (H:Hp),bt k (A.deeper (CV L.q L.sc s.heap.objs.size a cv cl))->EF (cxL P w K mg base (ps++ys) L a cl cv A outer s H) K (lamF (l++qs)) L.bd (eK n m l)) :
  Nonempty (CalA P w K mg base a us qs fz (k+1) ps (ja K (Aq n .v) (eK n m))):=by
 obtain⟨cl,pm,c,g9,co,rfl,ID,jD,Iz,IG⟩:=I0;refine⟨⟨L.fn cl pm (.ref c) g9,⟨λvs H Q E h=>?_,λA outer s H args Ka vs Q E hr e0 PK r rj=>?_⟩,.all (hb cl pm _ g9),λh _ _ hz=>⟨_,_,_,_,hz (a,_) (AZ ..)⟩⟩⟩
 ·obtain⟨_,_,_,l,h,_⟩:=h;obtain⟨h1,h2⟩:=vrs_app h;rw[h1.length,h2,hn]
 obtain⟨rv,z,tb,l,hC,q⟩:=rj;obtain⟨rl,hl⟩:=vrs_app (vs:=vs) (l:=l) hC;obtain⟨_,z1⟩:=z (a,L.ob cl pm (.ref c) g9) (AZ ..);obtain⟨_,z2⟩:=z (c,co) (by simp);have Nq:vs.length=ps.length:=by rw[rl.length,hl,hn]
 obtain⟨Qt,ct,d1,d2⟩:=ID;refine Ep hr.depth ((e0.aV _ _ z1).1) rfl S.co S.gen rfl ⟨c,co,Qt,ct,rfl,((e0.aV _ _ z2).1),d1,d2⟩ (PK _ _ _ _ ?_);refine Df S.noc (λy hy=>S.par _ (CM hy).1) (λh' JH vB=>?_) S.kind;have hk:∀b o,s.heap.get? b=al o->h'.get? b=al o:=λb o e=>by
  rw[vB.2 b (Az (Ao e))];exact Ae _ e
 refine⟨(e0.mod.nolimit.keeps λb o e=>(e0.bs b o e).1).keeps hk,Eo ?_⟩;have kc:∀{c:db}{v:Option ce},base.IsCell c v->h'.IsCell c v:=λ⟨o,h1,h2⟩=>⟨o,hk _ _ (e0.bs _ _ h1).1,h2⟩;have I:Inv (cxL P w K mg base (ps++ys) L a cl (.ref c) A outer s H) [] ((vs++us).map al) H {heap:=h',gens:=s.gens,drawn:=s.drawn,toks:=s.toks+(ps.zip Ka).length,os:=s.os}:=by
  refine⟨⟨e0.mod,S.kind,rfl,rfl,Aj _,Iz,λx hx=>?_,λ_ _ z=>(by cases z),λ_=>hr.hd,Dd e0.frames,.inr ⟨rfl,rfl⟩,λb z=>(nomatch z),e0.bs,e0.yD,λb _ _ z=>(nomatch z),λb z=>(nomatch z),e0.gA,e0.y6⟩,
   rfl,e0.bare,Un.kept hk,⟨_,JH,λi x v h1 h2 h3=>?_⟩,λx c' e=>?_,e0.aV.fresh (Aj _),λx c' e=>?_,λp hp=>(nomatch hp),e0.aV.kept hk,?_⟩
  ·have pq:=hx;rcases pq with hx | hx
   ·exact absurd rfl (S.noc _ (AU hx))
   ·obtain⟨i,hi⟩:=BH (S.fin _ (AU hx) rfl);obtain⟨c',_,_,e,_⟩:=IG i _ hi;exact⟨c',e⟩
  ·have h1:(ps++ys)[i]?=al x:=h1;rw[Ak]at h2;cases e:(vs++us)[i]? with
   | none=>rw[e]at h2;cases h2
   | some v'=>
    rw[e]at h2;cases h2;by_cases ci:i < vs.length
    ·rw[An ci]at e;rw[An ∅]at h1;obtain⟨u,hu,ru⟩:=r.get e;exact⟨u,ru,.inl ⟨S.par x (AB h1),zip_rev (Cp.mp S.nd).1 h1 hu⟩⟩
    ·rw[Ah ∅]at e h1;obtain⟨c',v',u,e1,e2,ru,qk⟩:=IG _ x h1;rw[<- Nq]at e2;rw[e]at e2;cases e2;exact⟨u,ru,.inr ⟨.inr (S.fre x (AB h1)),c',e1,kc qk⟩⟩
  ·obtain⟨v,hv⟩:=jD x c' e;exact⟨v,kc hv⟩
  ·obtain⟨v,o,ho,_⟩:=jD x c' e;exact(e0.bs _ _ ho).2
  ·show((vs++us).map al).length=(ps++ys).length;rw[Al,Ab,Ab,Nq,hq,hy]
 have np:∀φ b,¬fM ((vs++us).map al) (lamF (l++qs)) φ b:=λφ b ⟨i,p1,_⟩=>by
  obtain⟨v,_,z⟩:=lam_get p1;cases z
 have na:∀φ b,¬k8 vs (Aq n .v) φ b:=λφ b ⟨i,p1,_⟩=>by
  rw[Br]at p1
  split at p1 <;> cases p1
 refine BM ((Ä l hl cl (.ref c) A outer s H (hr.deeper _)).p [] _ _ H Q I ⟨(lam_sr (rl.append rv) tb),(eK n m l).mono (λv q1 u H' g s1 r1=>q1 u H' ⟨λb o e _ nt=>g.keep b o e (λφ=>np φ b) nt,s1.tb,g.there,λb φ p=>absurd p (na φ b)⟩ r1) q⟩) (λu s' h=>?_) λe s' h=>h.elim;obtain⟨v,H',J,ru,q'⟩:=h;exact⟨v,H',J.os,J.bare,J.base,J.aV,ru,q'⟩
end
end
end FL
variable{o:EY}{b:AL}{b0:D8}
namespace L2
section
variable{σ:St}{s:eM}{cs:O db}
def baseC(b0 h:lm)(cs:O db):lm:=PySem.W.hideAll h ((BN h.objs.size).filter λb=>!(b0.get? b).isSome&&!cs.contains b)
def baseC_get(e:h.get? b=al o)(c:(∃o,b0.get? b=al o)\/b∈cs):(baseC b0 h cs).get? b=al o:=Ey _ e λhm=>by
 have q:=(Dj.mp hm).2;rw[Bs,Cq,Cq]at q;rcases c with⟨o',c⟩ | c
 ·rw[c]at q;simp at q
 ·have:=q.2;rw[El.mpr c]at this;cases this
def of_baseC(e:(baseC b0 h cs).get? b=al o):h.get? b=al o/\((∃o,b0.get? b=al o)\/b∈cs):=by
 have e':=EB _ e;refine⟨e',Classical.byContradiction λn=>?_⟩;have z:(baseC b0 h cs).get? b=bn:=Es _ (Dj.mpr ⟨DG.mpr (Ao e'),by
  rw[Bs,Cq,Cq];refine⟨?_,?_⟩
  ·cases q:b0.get? b with
   | none=>rfl
   | some o=>exact absurd (.inl ⟨o,q⟩) n
  ·cases q:cs.contains b with
   | false=>rfl
   | true=>exact absurd (.inr (El.mp q)) n⟩)
 rw[z]at e;cases e
theorem ff_base{b1:lm}:∀{l:O Env},h.FunFrames b0 l->(∀L∈frs l,b1.get? L=bn)->h.FunFrames b1 l
 | [],_,_=>trivial
 | e::l,⟨h1,⟨L,o,h2,h3,h4⟩,h5⟩,n=>⟨h1,⟨L,o,h2,n L (by simp[frs,h2]),h4⟩,ff_base h5 λL hL=>n L (by
  unfold frs at hL ⊢;rw[B7,h2];exact AE _ hL)⟩
def Inv.envC(I:Inv X U σ H s)(hc:∀c∈cs,∃x,X.fn x=true/\X.env.cells.lookup x=al c):oq X.prog X.w X.K X.mg (baseC X.base s.heap cs) X.A X.stack s H:=by
 have kp:∀b o,X.base.get? b=al o->(baseC X.base s.heap cs).get? b=al o:=λb o e=>baseC_get (I.bk b o e) (.inl ⟨o,e⟩);have e0:=I.Jb;refine⟨e0.frames,⟨e0.mod.E9.keeps kp,e0.mod.glob.keeps kp,let ⟨mb,h1,h2⟩:=e0.mod.blt;⟨mb,h1.keeps kp,h2⟩,e0.mod.nolimit.keeps kp,let ⟨bm,ob,h1,h2,h3,h4⟩:=e0.mod.bm;⟨bm,ob,h1,h2,kp _ _ h3,h4⟩⟩,λb o e=>?_,ER (Er _ _),ff_base e0.gA λL hL=>?_,e0.y6,e0.aV,e0.bare⟩
 ·obtain⟨h1,⟨o',h2⟩ | h2⟩:=of_baseC e
  ·exact⟨h1,(I.bs b o' h2).2⟩
  ·obtain⟨x,_,hx⟩:=hc b h2;exact⟨h1,I.gB x b hx⟩
 ·cases z:(baseC X.base s.heap cs).get? L with
  | none=>rfl
  | some o=>
   obtain⟨h1,⟨o',h2⟩ | h2⟩:=of_baseC z
   ·rw[(e0.gA.mem hL).1]at h2;cases h2
   ·obtain⟨x,hf,hx⟩:=hc L h2;rcases AA.mp (I.mG L hL) with h | h
    ·exact absurd h (I.GK x L hx)
    ·obtain⟨_,o2,h3,_⟩:=I.ok.gA.mem h;exact absurd (Aw (Ao h3) (I.ok.JS x L hf hx)) (AY _)
def run_fnB{pW:lm}{CX:vE}{E:XK}{Q:VK}(F:bx X.prog X.w X.K X.mg pW CX k f fd ps sp)(e0:oq X.prog X.w X.K X.mg pW X.A X.stack s H)(hr:bt k X.A)(hb:Binds X.K fd ps [])(hx:Passes CX X E)
  (I:Inv X U σ H s) (r:Vals vs us) (h:sp vs H Q E):ge (gl X.prog X.w) X.A (call (.ref f) us) (EP X U σ Q) X.xe s:=by
 have hl:(us++[]).length=ps.length:=by rw[Bg,<- r.length];exact F.len _ _ _ _ h
 have PN:=hb s us I.gL hl;rw[Bg]at PN;refine EH (wp (F.run X.A X.stack s H ⟨us,[]⟩ us vs Q E hr e0 PN r h) λr s' hq=>?_);cases r with
 | error e=>exact hx U σ H s e s' I hq
 | ok fl=>
  cases fl with
  | ret u=>exact I.after hq
  | next=>exact AM hq
  | brk=>exact AM hq
  | cont=>exact AM hq
end
end L2
variable{pl:O Bv}
namespace FL
section
variable[bD]{K:Aa}
theorem triples_add{x y:Int}{c:ce}(n:Nat):∀l:O ce,l.length<=n->TriplesOk l->TriplesOk (l++[o0 x,o0 y,c])/\∀pos d,Ev pos (l++[o0 x,o0 y,c])=al d->Ev pos l=al d\/d=c:=by
 induction n with
 | zero=>
  intro l hl _;have:l=[]:=Bk ∅;subst this;refine⟨by simp[o0,TriplesOk],λpos d h=>?_⟩;rw[List.nil_append]at h;simp only[o0,Ev]at h
  split at h
  ·cases h;exact .inr rfl
  ·cases h
 | succ n ih=>
  intro l hl h;by_cases c1:l=[]
  ·subst c1;exact ih [] (Bj _) h
  by_cases c2:∃i t j u e r,l=.int i t::.int j u::e::r
  ·obtain⟨i,t,j,u,e,r,rfl⟩:=c2;obtain⟨h1,h2⟩:=ih r (by simp at hl;omega) h;refine⟨?_,λpos d hd=>?_⟩
   ·show TriplesOk (.int i t::.int j u::e::(r++_));exact h1
   ·have hd:Ev pos (.int i t::.int j u::e::(r++[o0 x,o0 y,c]))=al d:=hd;rw[codeAmong.eq_1]at hd ⊢;by_cases z:(i==↑pos.line&&j==↑pos.col)=true
    ·rw[if_pos z]at hd ⊢;exact .inl hd
    ·rw[if_neg z]at hd ⊢;exact h2 pos d hd
  ·rw[TriplesOk.eq_3 l c1 λi t j u e r z=>c2 ⟨i,t,j,u,e,r,z⟩]at h;exact h.elim
def TabIs(P:db)(q:Str):Prop:=(P,q)∈bD.ts/\∀p∈bD.ts,p.1=P->p.2=q
structure LamK(K:Aa)(mg:Str->Option ce)(bO:ce)(P:db):Prop where
 hd:∃c,bO=.ref c/\∀h:lm,K.In h->PySem.W.CodeHd h c P
def LamNow(X:Cx)(L:Lm)(a:db)(fz:O (db×Obj)):Prop:=∃cl pm c g9 co,fz=[(a,L.ob cl pm (.ref c) g9),(c,co)]/\CodeO co L.q/\(∀x c,cl.lookup x=al c->X.env.cells.lookup x=al c/\(x,.free)∈L.sc.names)/\∀x,(x,.free)∈L.sc.names->∃c,cl.lookup x=al c
section
variable{s:eM}{P:db}{L:Lm}
def lam_laid{pm g9:ce}{c tk:Nat}{co:Obj}{u0:HO}(I:Inv X U σ H {s with heap:=h',toks:=tk})(tb:TB H)(hc:H c=al (.dc co u0))(ID:CodeO co L.q)(h1:∀x c,cl.lookup x=al c->X.env.cells.lookup x=al c/\(x,.free)∈L.sc.names)(h2:∀x,(x,.free)∈L.sc.names->∃c,cl.lookup x=al c)
  (h:∀a fz H' s',Inv X U σ H' s'->LamNow X L a fz->mz H' fz->TB H'->dh H H'->Q (.ref a) s'):Q (.ref h'.objs.size) {s with heap:=h'.push (L.ob cl pm (.ref c) g9),toks:=tk}:=by
 have hn:H h'.objs.size=bn:=I.aV.fresh (Aj _);have I2:=I.laid (a:=h'.objs.size) (o:=.dc (L.ob cl pm (.ref c) g9) (.own 0)) (t':=tk) (h':=h'.push (L.ob cl pm (.ref c) g9)) (λb u z=>Ae _ z) (Aj _) ⟨Ap _ rfl,_,Ap _ rfl⟩;have sm:=iE hn (.dc (L.ob cl pm (.ref c) g9) (.own 0));refine h _ [(h'.objs.size,L.ob cl pm (.ref c) g9),(c,co)] _ _ I2 ⟨cl,pm,c,g9,co,rfl,ID,h1,h2⟩ (λp hp=>?_) (tb.same sm) sm;simp only[AA,Cz,or_false]at hp;rcases hp with rfl | rfl
 ·exact⟨_,aF⟩
 ·exact⟨u0,sm _ _ hc⟩
def lam_ok(I:Inv X U σ H s)(tb:TB H)(hK:LamK X.K X.mg X.env.code P)(hq:L.q=X.env.qual++"<lambda>")(hP:TabIs P L.q)(hd:defaultsOf L.ar X.env=([],[]))(hf:∀y∈L.sc.names,y.2=.free->X.env.kindOf y.1=al .cell\/X.env.kindOf y.1=al .free)
  (h:∀a fz H' s',Inv X U σ H' s'->LamNow X L a fz->mz H' fz->TB H'->(∀b o,H b=al o->o.nt=true->H' b=al o)->(∀b,H' b=bn->H b=bn)->Q (.ref a) s'):ge (gl X.prog X.w) X.A (lc (.Lambda L.ar L.bd L.sc pos) X.env) Q X.xe s:=by
 obtain⟨ps,eP,tr,ck⟩:=tb _ hP.1;obtain⟨c,Rh,RH⟩:=hK.hd;obtain⟨cl,md,iW,nr⟩:=eF λy hy hk=>I.ok.has y.1 (hf y hy hk);have hg:=I.mod.glob.keeps I.bk;have Nm:=I.aV P _ eP;have Ue:gt≠P:=λz=>by
  obtain⟨o,es,ep,g1,g2,_⟩:=hg;rw[z,Nm]at g1;cases g1;cases g2
 have bl:s.heap.BuiltinsAt X.mg P:=by
  obtain⟨bm,ob,b1,b2,b3,b4,b5,b6⟩:=I.mod.bm;have b7:=I.bk _ _ b3;refine⟨bm,ob,b1,b2,λz=>?_,λz=>?_,b7,b4,b5,b6⟩
  ·obtain⟨o,es,ep,g1,g2,_⟩:=hg;rw[z,g1]at b7;cases b7;rw[g2]at b6;cases b6
  ·rw[z,Nm]at b7;cases b7;cases b4
 refine PySem.W.kla_eval hd ?_;rw[<- hq];cases e:Ev pos ps.toList with
 | some cv=>
  obtain⟨ca,co,u,vs,t,rfl,e1,e2,e3⟩:=ck pos cv e;exact PySem.W.kla_makeFunctionHit md I.ok.glob hg Rh (RH _ I.gL) Nm tr e bl λg9 h' tk kp hsz=>lam_laid (I.kept kp) tb e1 ⟨vs,t,e2,e3⟩ iW nr λa fz H' s' I' n z t' sm=>h a fz H' s' I' n z t' (λb o z _=>sm b o z) λb z=>sm.free z
 | none=>
  refine PySem.W.kla_makeFunction md I.ok.glob hg Rh (RH _ I.gL) Nm tr e Ue bl λc' g9 h' tk ext h1 h2 cr Nn=>?_;obtain⟨_,co,vs,t,e0,e1,e2,e3⟩:=cr;cases e0;have hn:=I.aV.fresh h1;have cP:c'≠P:=λz=>by subst z;rw[hn]at eP;cases eP
  obtain⟨R1,UI⟩:=triples_add (x:=pos.line) (y:=pos.col) (c:=.ref c') _ _ (Aj _) tr;have Nt:upd (upd H P (.jJ (ps++#[o0 pos.line,o0 pos.col,.ref c']))) c' (.dc co (.own 0)) P=al (.jJ (ps++#[o0 pos.line,o0 pos.col,.ref c'])):=by rw[ax (BR cP)];exact aF
  have ot:∀b u,b≠P->H b=al u->upd (upd H P (.jJ (ps++#[o0 pos.line,o0 pos.col,.ref c']))) c' (.dc co (.own 0)) b=al u:=λb u n z=>by
   rw[ax (aW z hn),ax n];exact z
  have qk:upd (upd H P (.jJ (ps++#[o0 pos.line,o0 pos.col,.ref c']))) c' (.dc co (.own 0)) c'=al (.dc co (.own 0)):=aF;have on:∀b,b≠c'->H b=bn->upd (upd H P (.jJ (ps++#[o0 pos.line,o0 pos.col,.ref c']))) c' (.dc co (.own 0)) b=bn:=λb n z=>by
   rw[ax n,ax (λy=>by subst y;rw[z]at eP;cases eP)];exact z
  have inv:∀b u,upd (upd H P (.jJ (ps++#[o0 pos.line,o0 pos.col,.ref c']))) c' (.dc co (.own 0)) b=al u->(b=c'/\u=.dc co (.own 0))\/(b=P/\u=.jJ (ps++#[o0 pos.line,o0 pos.col,.ref c']))\/(b≠P/\H b=al u):=λb u z=>by
   by_cases y1:b=c'
   ·subst y1;rw[aF]at z;cases z;exact .inl ⟨rfl,rfl⟩
   ·rw[ax y1]at z;by_cases y2:b=P
    ·subst y2;rw[aF]at z;cases z;exact .inr (.inl ⟨rfl,rfl⟩)
    ·rw[ax y2]at z;exact .inr (.inr ⟨y2,z⟩)
  generalize upd (upd H P (.jJ (ps++#[o0 pos.line,o0 pos.col,.ref c']))) c' (.dc co (.own 0))=H1 at Nt ot qk on inv;have JA:∀b u,H b=al u->u.nt=true->b≠P:=λb u z nt y=>by subst y;rw[eP]at z;cases z;cases nt
  have ext':∀b o,H b=bn->s.heap.get? b=al o->h'.get? b=al o:=λb o n z=>ext b o (λy=>by subst y;rw[n]at eP;cases eP) z;have un:Un X.fs [] H H1 s.heap h':=by
   refine⟨λb o z n _ _=>ext' b o n z,λb o z n _ _=>⟨o.slots,ext' b o n z⟩,λb o z n _=>on b ((λb o z=>Az (Aw (Ao z) h1)) b o z) n,λb o z _=>?_,λb xs z=>ot b _ (JA b _ z rfl) z,λb o u z=>ot b _ (JA b _ z rfl) z,λb qs z=>?_⟩
   ·by_cases y:b=P
    ·subst y;exact⟨_,Nn⟩
    ·exact⟨o,ext b o y z⟩
   ·by_cases y:b=P
    ·subst y;rw[eP]at z;cases z;exact⟨_,Nt⟩
    ·exact⟨#[],by rw[ot b _ y z];simp⟩
  have aV:iA X.prog X.w H1 h':=λb u z=>by
   rcases inv b u z with⟨rfl,rfl⟩ | ⟨rfl,rfl⟩ | ⟨y,z⟩
   ·exact⟨e1,_,e1⟩
   ·exact Nn
   ·refine(I.aV b u z).oI (λd v hd q=>ext d v (λw=>?_) q) (λd q=>ot d _ (JA d _ q rfl) q) λd xs q=>ot d _ (JA d _ q rfl) q;rcases hd with hd | hd
    ·exact y (hd.symm.trans w)
    ·subst w;rw[eP]at hd;cases hd
  have Oe:TB H1:=λp hp=>by
   obtain⟨qs,k1,k2,k3⟩:=tb p hp;have QL:∀cv,QE H cv p.2->QE H1 cv p.2:=λcv ⟨a,o,u,vs,t,f1,f2,f3,f4⟩=>⟨a,o,u,vs,t,f1,ot a _ (JA a _ f2 rfl) f2,f3,f4⟩;by_cases y:p.1=P
   ·rw[y,eP]at k1;cases k1;refine⟨_,by rw[y];exact Nt,by simpa using R1,λÈ d hd=>?_⟩;rcases UI È d (by simpa using hd) with z | rfl
    ·exact QL _ (k3 È d z)
    ·rw[hP.2 p hp y];exact⟨c',co,_,vs,t,rfl,qk,e2,e3⟩
   ·exact⟨qs,ot _ _ y k1,k2,λÈ d z=>QL _ (k3 È d z)⟩
  exact lam_laid (L:=L) (s:=s) (I.un (t':=tk) un aV) Oe qk ⟨vs,t,e2,e3⟩ iW nr λa fz H' s' I' n z t' sm=>h a fz H' s' I' n z t' (λb o z nt=>sm b o (ot b o (JA b o z nt) z)) λb z=>by
   have z':=sm.free z;cases y:H b with
   | none=>rfl
   | some u=>
    by_cases w:b=P
    ·subst w;rw[Nt]at z';cases z'
    ·rw[ot b u w y]at z';cases z'
end
def capV(is:O Nat)(σ:L2.St):O V:=is.map λi=>((σ[i]?).join).getD .aB
def fAL(X:Cx)(K:Aa)(fs:bj)(L:Lm)(is:O Nat)(qs:O PV)(k1 k2:O AK)(w:W (O PV)):TA:=λσ H Q=>aM K H σ fs/\w.run λl=>∀vs H' a fz,cI σ fs H H'->aM K H' σ fs->LamNow X L a fz->mz H' fz->cM K σ fs H' vs (k1++.f a (capV is σ) qs fz::k2) l->Q vs H'
structure AFL(X:Cx)(K:Aa)(fs:bj)(es:List jp)(L:Lm)(is:List Nat)(qs:List PV)(k1 k2:List AK){R:Type}(B:(List PV->W R)->W R):Prop where
 p:∃w:W (List PV),PA X es (fAL X K fs L is qs k1 k2 w)/\∀k,B k=am w k
section
variable{p:Pos}{L:Lm}{k1 k2:O AK}{R:Type}{B:(O PV->W R)->W R}{P:db}
theorem cap_vrs(sr:aM K H σ fs):∀{is:O Nat}{qs:O PV},is.map (λi=>fs[i]?)=qs.map (λq=>al (al (SL.val q)))->aA K [] H (capV is σ) qs
 | [],[],_=>.nil
 | [],_::_,h=>by simp at h
 | _::_,[],h=>by simp at h
 | i::is,q::qs,h=>by
  injection h with h1 h2;obtain⟨u,e1,r⟩:=sr.at' i _ h1;rcases r with⟨v,e,r⟩ | ⟨a,_,r⟩
  ·cases e;refine .cons ?_ (cap_vrs sr h2);show VR K [] H (((σ[i]?).join).getD .aB) q;rw[e1];exact r
  ·exact r.elim
def CapN(N:O Str)(so sl:u8)(is:O Nat)(ys:O Str):Prop:=is.map (λi=>N[i]?)=ys.map al/\(∀y∈ys,so.names.lookup y=al .cell/\(y,AX)∈sl.names)/\∀y∈sl.names,y.2=.free->y.1∈ys
instance {N:O Str}{so sl:u8}{is:O Nat}{ys:O Str}:Decidable (CapN N so sl is ys):=inferInstanceAs (Decidable (_/\_/\_))
def al_lam{ar:Arguments}{bd:jp}(q:Str)(ys:O Str)(hK:LamK X.K X.mg X.env.code P)(hP:TabIs P q)(hN:CapN X.N X.env.scope sc is ys)(hr:AF X K fs es k2 B)(hc:is.map (λi=>fs[i]?)=qs.map λq=>al (al (SL.val q)):=by rfl)(hq:q=X.env.qual++"<lambda>":=by rfl)(hd:defaultsOf ar X.env=([],[]):=by rfl)
  (jO:ii (.Lambda ar bd sc pos::es) X.env=(false,lc (.Lambda ar bd sc pos) X.env)::ii es X.env:=by rfl):AFL X K fs (.Lambda ar bd sc pos::es) ⟨q,ar,bd,sc⟩ is qs [] k2 B:=by
 obtain⟨w,hp,hB⟩:=hr.p;refine⟨w,λÈ U s σ H Q I ⟨sr,q⟩=>?_,hB⟩;refine BZ (lam_ok (L:=⟨_,ar,bd,sc⟩) I sr.tb hK hq hP hd (λy hy hk=>.inl (hN.2.1 _ (hN.2.2 y hy hk)).1) λa fz H1 s1 I1 now z1 Oe kp th=>?_);have g1:cI σ fs H H1:=⟨λb o e _ nt=>kp b o e nt,th⟩;have tk:=g1.cu sr;have Jw:aM K H1 σ fs:=⟨sr.len,λi t e=>let ⟨u,h1,h2⟩:=sr.at' i t e;⟨u,h1,h2.mono tk λx b o _ _ _ z nt=>kp b o z nt⟩,sr.nd,Oe⟩;refine aY (hp È U s1 σ H1 (λvs H2=>Q (.ref a::vs) H2) I1 ⟨Jw,w.mono (λl q1 vs H2 g2 s2 r2=>?_) q⟩) λus s2 ⟨vs,H2,I2,r2,q2⟩=>⟨.ref a::vs,H2,I2,.cons rfl r2,q2⟩;have z2:=z1.tk (g2.cu Jw);exact q1 _ H2 a fz (g1.trans g2) s2 now z2 (.f (cap_vrs s2 hc) z2 r2)
def al_cons{w:W PV}(ha:EF X K fs e w)(hr:AFL X K fs es L is qs k1 k2 B)(jO:dA X e es:=by rfl):AFL X K fs (e::es) L is qs (.v::k1) k2 (λk=>.bind w λx=>B λl=>k (x::l)):=by
 obtain⟨wr,hp,hB⟩:=hr.p;exact⟨.bind w λx=>.bind wr λl=>.ret (x::l),PA.imp (ak ha.p hp jO) λσ H Q ⟨sr,q⟩=>⟨sr,w.mono (λx q1 u1 H1 g1 s1 v1=>⟨s1,wr.mono (λl q2 vs H2 a fz g2 s2 n z v2=>q2 _ H2 a fz (g1.trans g2) s2 n z (.v (g2.vr s1 v1) v2)) q1⟩) q⟩,λk=>by simp[hB]⟩
theorem e_callLam{x:Str}{m:O PV->W PV}{B:(O PV->W PV)->W PV}(bi:Binds X.K fd ps [])(kp:A7 X.K (.ref f)=true)(hm:X.mg x=al (.ref f))
  (G:∀pW a us fz,LamIn L ys pW a us fz->us.length=qs.length->bx X.prog X.w X.K X.mg pW fD k f fd ps (ja K (k1++.f a us qs fz::k2) m)) (Fp:∀y,X.fn y=true) (hN:CapN X.N X.env.scope L.sc is ys) (hc:is.map (λi=>fs[i]?)=qs.map λq=>al (al (SL.val q))) (hr:bt k' X.A) (ha:AFL X K fs (e::es) L is qs k1 k2 B) (hk:k<=k':=by first | exact Bx rfl | exact Aj _ | omega) (hW:W'=B m:=by rfl) (hg:Gl X x:=by rfl) (fU:eJ x:=by decide)
  (he:dA X e es:=by rfl) (bZ:fF X pos es:=by rfl):EF X K fs (.Call (.Name x p) (e::es) [] pos) W':=by
 subst hW;obtain⟨w,hp,hB⟩:=ha.p;rw[hB];refine⟨λU s σ H Q I ⟨sr,q⟩=>?_⟩;refine AQ (jU I hg hm ?_ fU);refine Cd I.ok.mod.E9 kp (aY (hp pos U s σ H (λvs H1=>∃a fz l,aM K H1 σ fs/\LamNow X L a fz/\cM K σ fs H1 vs (k1++.f a (capV is σ) qs fz::k2) l/\(m l).run λz=>∀u H2,JX vs (k1++.f a (capV is σ) qs fz::k2) H1 H2->VR K [] H2 u z->Q u H2) I ⟨sr,w.mono (λl q1 vs H1 a fz g1 s1 n z r=>⟨a,fz,l,s1,n,r,(m l).mono (λz q2 u H2 g2 r2=>let ⟨s2,g3⟩:=g2.caller r s1;q2 u H2 (g1.trans g3) s2 r2) q1⟩) q⟩)
  λus s1 ⟨vs,H1,I1,r,a,fz,l,Jw,⟨cl,pm,c,g9,co,Ur,ID,h1,h2⟩,ar,q1⟩=>⟨I1.gL,?_⟩) he bZ
 obtain⟨Ub,PU,Ua⟩:=hN;have cin:∀x c,cl.lookup x=al c->c∈ys.filterMap λy=>cl.lookup y:=λx c z=>CO.mpr ⟨x,(λx c z=>Ua _ (h1 x c z).2 rfl) x c z,z⟩;have e1:=I1.envC (cs:=ys.filterMap λy=>cl.lookup y) λc hc=>by
  obtain⟨y,hy,z⟩:=CO.mp hc;exact⟨y,Fp y,(h1 y c z).1⟩
 have bc:∀x c v,cl.lookup x=al c->s1.heap.IsCell c v->(baseC X.base s1.heap (ys.filterMap λy=>cl.lookup y)).IsCell c v:=λx c v z ⟨o,z1,z2⟩=>⟨o,baseC_get z1 (.inr (cin x c z)),z2⟩;have Â:is.length=qs.length:=by have:=congrArg CS hc;simpa using this
 have SI:LamIn L ys (baseC X.base s1.heap (ys.filterMap λy=>cl.lookup y)) a (capV is σ) fz:=by
  refine⟨cl,pm,c,g9,co,Ur,ID,λx c z=>?_,λx y c z1 z2=>I.ok.inj x y c (h1 x c z1).1 (h1 y c z2).1,λi y hy=>?_⟩
  ·obtain⟨v,hv⟩:=I1.cell x c (h1 x c z).1;exact⟨v,bc x c v z hv⟩
  ·obtain⟨c',qk⟩:=h2 y (PU y (AB hy)).2;have LM:(is.map λi=>X.N[i]?)[i]?=al (al y):=by rw[Ub,Ak,hy];rfl
   rw[Ak]at LM;cases z:is[i]? with
   | none=>rw[z]at LM;cases LM
   | some j=>
    rw[z]at LM;have LL:(is.map λi=>fs[i]?)[i]?=al (fs[j]?):=by rw[Ak,z];rfl
    rw[hc,Ak]at LL;cases zq:qs[i]? with
    | none=>rw[zq]at LL;cases LL
    | some qv=>
     rw[zq]at LL;obtain⟨v,e2,_⟩:=Jw.at' j _ ((Option.some.inj LL).symm);obtain⟨mm,_,hl⟩:=I1.loc;obtain⟨u,ru,lk⟩:=hl j y v (Option.some.inj LM) e2 (.inr (.inl (PU y (AB hy)).1));refine⟨c',v,u,qk,?_,ru,?_⟩
     ·unfold capV;rw[Ak,z];show al (((σ[j]?).join).getD .aB)=al v;rw[e2];rfl
     ·rcases lk with⟨k0,_⟩ | ⟨_,c2,k1,k2⟩
      ·have k0:X.env.scope.names.lookup y=al .local:=k0;rw[(PU y (AB hy)).1]at k0;cases k0
      ·rw[(h1 y c' qk).1]at k1;cases k1;exact bc y c' _ qk k2
 exact run_fnB (G _ a _ fz SI (by unfold capV;rw[Al];exact Â)) e1 (hr.mono hk) bi dZ I1 r ⟨Jw.tb,l,ar.c Jw,q1⟩
structure HF(P:re)(w:sK)(K:Aa)(mg:Str->Option ce)(n kf:Nat)(x:Str)(k:Nat)(ps:List Str)(sp:db->List V->List PV->List (db×Obj)->lj PV n->Sp) where
 f:db
 fd:wn
 bi:Binds K fd ps []
 kp:A7 K (.ref f)=true
 at':mg x=al (.ref f)
 ok:∀{pl:List Str}{qs:List PV}{g:lj PV n} (b:lm) (a:db) (us:List V) (fz:List (db×Obj)),Nonempty (CalA P w K mg b a us qs fz kf pl (ja K (Aq n .v) (eK n g)))->bx P w K mg b fD k f fd ps (sp a us qs fz g)
theorem e_callL{k0:Nat}{x:Str}{g:lj PV n}{m:lj PV n->O PV->W PV}{B:(O PV->W PV)->W PV}(ha:AFL X K fs (e::es) L is qs k1 k2 B)(hN:CapN X.N X.env.scope L.sc is ys)(E:HF X.prog X.w X.K X.mg n (k0+1) x k ps λa us qs fz g=>ja K (k1++.f a us qs fz::k2) (m g))(hr:bt k' X.A)
  (Ä:∀(b:lm) {a:db}{cl:O (Str×db)}{cv:ce}{A:tz}{outer:O Env}{s:eM}{H:Hp},bt k0 (A.deeper (CV L.q L.sc s.heap.objs.size a cv cl))->sE n (λl w=>EF (cxL X.prog X.w X.K X.mg b (pl++ys) L a cl cv A outer s H) X.K (lamF (l++qs)) L.bd w) g)
  (hX:X.K=K:=by rfl) (hb:∀(cl:O (Str×db)) (pm cv g9:ce) (us:O ce),us.length=pl.length->Db (L.fn cl pm cv g9) ⟨us,[]⟩=pure (pl.zip us):=by exact λ_ _ _ _=>usN (by (repeat intro _);rfl))
  (S:LamS pl ys L.sc:=by exact⟨rfl,rfl,rfl,by decide +kernel,by decide +kernel,by decide +kernel,by decide +kernel,by decide +kernel⟩) (hn:n=pl.length:=by rfl) (hy:qs.length=ys.length:=by rfl) (Fp:∀y,X.fn y=true:=by exact λ_=>rfl) (hc:is.map (λi=>fs[i]?)=qs.map λq=>al (al (SL.val q)):=by rfl) (hk:k<=k':=by first | exact Bx rfl | exact Aj _ | omega) (hW:W'=B (m g):=by rfl) (hg:Gl X x:=by rfl) (fU:eJ x:=by decide)
  (he:dA X e es:=by rfl) (bZ:fF X pos es:=by rfl):EF X K fs (.Call (.Name x p) (e::es) [] pos) W':=by
 exact e_callLam E.bi E.kp E.at' (λb a us fz LI hl=>E.ok b a us fz (fn_lam LI S hn hl hy hb λl e cl cv A outer s H hr=>(Ä b hr).all l e)) Fp hN hc hr ha hk hW hg fU he bZ
end
end
end FL
variable{o:Option L2.HO}{ns:O Int}{ts:O AL}
namespace L2
def Fun.okc{K:Aa}{x:Str}{st:r6}{N:O Str}(F:Fun K x qual st f fd)(S:bN N ps (au st))(len:∀vs H Q E,sp vs H Q E->vs.length=ps.length)
  (pA:∀(bO:ce) (A:tz) (outer:O Env) (s:eM) (H:Hp) (vs:O V) (Q:VK) (E:XK),fd.code=bO->bt k (A.deeper (wS qual (au st) s.heap.objs.size f bO))->sp vs H Q E->
   ∃t,PSs (jQ fD P w K mg base N qual (au st) f bO A outer s H E).xc (aU st) t/\t {nx:=λ_ H'=>Q .aB H',rt:=Q} (start N vs) H):bx P w K mg base fD (k+1) f fd ps sp:=by
 obtain⟨oc,od,kV,Å,pm,an,bO,ct,wQ,rfl,lk,eW⟩:=F.ex;refine GA lk eW S len λA outer s H vs Q E hr rj=>?_;obtain⟨t,h,q⟩:=pA bO A outer s H vs Q E rfl hr rj;exact⟨t,h.xc,q⟩
def tabH(ts:O db)(a:db)(o:Option HO):Hp:=λb=>if b∈ts then al (.jJ #[]) else if b=a then o else bn
def tabH_t(h:b∈ts):tabH ts a o b=al (.jJ #[]):=if_pos h
def tabH_a(h:a∉ts):tabH ts a o a=o:=by unfold tabH;rw[if_neg h,if_pos rfl]
def tabH_inv{u:HO}(h:tabH ts a o b=al u):(b∈ts/\u=.jJ #[])\/(b=a/\o=al u):=by
 unfold tabH at h;by_cases c:b∈ts
 ·rw[if_pos c]at h;cases h;exact .inl ⟨c,rfl⟩
 ·rw[if_neg c]at h;by_cases d:b=a
  ·rw[if_pos d]at h;exact .inr ⟨d,h⟩
  ·rw[if_neg d]at h;cases h
def law_callT{K:Aa}{mb:Str->Option ce}{x:Str}{s₁:eM}{vs:O ce}
  (KX:K.In s₁.heap) (JH:s₁.heap.Ns gt mg) (hb:s₁.heap.Ns Da mb) (TV:∀x:Str,x≠"__name__"->mb x=nn x) (Pt:s₁.heap.NoLimit) (TR:∃bm ob,mg "__builtins__"=al (.ref bm)/\bm≠Da/\s₁.heap.get? bm=al ob/\ob.cls=.type "module"/\ob.dict=al Da/\ob.data=.plain) (hg:s₁.gens=#[])
  (ha:s₁.heap.get? a=al {cls:=.type "list",data:=.seq vs.toArray}) (hi:IntsAre vs ns) (hl:ns.length<=sizeLine) (hr:bt k callerA) (ht:∀P∈ts,s₁.heap.get? P=al (En #[])) (Td:∀P∈ts,K.lookup P=bn) (Te:∀P∈ts,isCodeTable s₁.heap P)
  (F:∀base:lm,K.In base->base.Ns gt mg->bx P w K mg base fD k fa fd [x] sp) (LO:∀(s:eM) (u:ce),BindsTo s fd ⟨[u],[]⟩ [(x,u)])
  (rj:∀H:Hp,(∀P∈ts,H P=al (.jJ #[]))->PL.yS K H a (ns.map V.int)->sp [.ref a] H (λv _=>v=.bl true) λ_ _ _=>False) :
  CF (gl P w) callerA (.call (.ref fa) ⟨[.ref a],[]⟩) (λr s'=>r=.ok (.ret (.bool true))/\OldK s₁.heap s'.heap/\s'.os=s₁.os/\FS s'.gens) s₁:=by
 have rv:=lS hi;have O4:=hi.length;have Þ:∀H:Hp,(∀P∈ts,H P=al (.jJ #[]))->PL.yS K H a (ns.map V.int)->iA P w H s₁.heap->(∀b o,H b=al o->(b∈ts/\o=.jJ #[])\/(b=a/\K.lookup a=bn/\∃o' u,o=.dc o' u))->
   CF (gl P w) callerA (.call (.ref fa) ⟨[.ref a],[]⟩) (λr s'=>r=.ok (.ret (.bool true))/\OldK s₁.heap s'.heap/\s'.os=s₁.os/\FS s'.gens) s₁:=by
  intro H hT hS aV hA;have nT:∀{b:db}{o:Obj},s₁.heap.get? b=al o->H b=bn->(nq s₁.heap H).get? b=al o:=λe n=>xG e n;have K8:∀{b:db}{o:Obj}{es:Array DictEntry}{ep:Nat},s₁.heap.get? b=al o->o.data=.dict es ep->H b=bn:=λ{b o es ep} e d=>by
   cases q:H b with
   | none=>rfl
   | some u=>
    rcases hA b u q with⟨z,_⟩ | ⟨z,_⟩
    ·rw[ht b z]at e;cases e;cases d
    ·subst z;rw[ha]at e;cases e;cases d
  have Na:∀{b:db}{m:Str->Option ce},s₁.heap.Ns b m->(nq s₁.heap H).Ns b m:=λ{b m} ⟨o,es,ep,e,d,r⟩=>⟨o,es,ep,nT e (K8 e d),d,r⟩;have Ro:K.In (nq s₁.heap H):=λb o e=>nT (KX b o e) (by
   cases q:H b with
   | none=>rfl
   | some u=>
    rcases hA b u q with⟨z,_⟩ | ⟨z,z2,_⟩
    ·rw[Td b z]at e;cases e
    ·subst z;rw[z2]at e;cases e)
  have hM:Mod K mg (nq s₁.heap H):=⟨Ro,Na JH,⟨mb,Na hb,TV⟩,let ⟨mc,h1,h2⟩:=Pt;⟨mc,Na h1,h2⟩,let ⟨bm,ob,h1,h2,h3,h4,h5,h6⟩:=TR;⟨bm,ob,h1,h2,nT h3 (by
   cases q:H bm with
   | none=>rfl
   | some u=>
    rcases hA bm u q with⟨z,_⟩ | ⟨z,_⟩
    ·rw[ht bm z]at h3;cases h3;cases h6
    ·subst z;rw[ha]at h3;cases h3;cases h6),h4,h5,h6⟩⟩
  have e0:oq P w K mg (nq s₁.heap H) callerA [] s₁ H:=⟨rfl,hM,λb o e=>zS e,ER (uS _ _),trivial,λb hb=>absurd (show b∈([]:O db) from hb) (by simp),aV,.of_eq hg⟩;refine wp ((F _ Ro (Na JH)).run callerA [] s₁ H ⟨[.ref a],[]⟩ [.ref a] [.ref a] _ _ hr e0 (LO s₁ (.ref a)) (.cons rfl .nil) (rj H hT hS)) λr s' h=>?_;cases r with
  | error e=>exact h.elim
  | ok fl=>
   cases fl with
   | next=>exact AM h
   | brk=>exact AM h
   | cont=>exact AM h
   | ret u=>
    obtain⟨v,H',os,bare,un,LD,r',q⟩:=h;have q':v=.bl true:=q;subst q';obtain rfl:u=CN true:=r';refine⟨rfl,⟨λb o e=>?_,λb o e=>un.there b o e (by simp)⟩,os,bare⟩;cases q:H b with
    | none=>exact .inl (un.keep b o e q (by intro z;exact absurd (show b∈([]:O db) from z) (by simp)) (by simp))
    | some u=>
     rcases hA b u q with⟨z,rfl⟩ | ⟨z,_,o',u',rfl⟩
     ·obtain⟨more,h2⟩:=un.mE b _ q;have h3:s'.heap.get? b=al (En (#[]++more)):=LD b _ h2;rw[ht b z]at e;cases e;exact .inr (.inl ⟨Te b z,rfl,#[],more,rfl,h3⟩)
     ·have z2:=un.nG b _ _ q;obtain⟨e1,_⟩:=aV b _ q;obtain⟨e2,_⟩:=LD b _ z2;rw[e]at e1;cases e1;exact .inl e2
 have SE:a∉ts:=λz=>by rw[ht a z]at ha;cases ha
 cases hk:K.lookup a with
 | some o=>
  have e:=KX a o hk;rw[ha]at e;cases e;refine Þ (tabH ts a bn) (λb hb=>tabH_t hb) (.inr ⟨_,vs.toArray,_,hk,rfl,rfl,rfl,by rw[Af,O4];exact hl,by simpa using rv⟩) (λb u z=>?_) λb u z=>?_
  ·rcases tabH_inv z with⟨y,rfl⟩ | ⟨_,y⟩
   ·exact ht b y
   ·cases y
  ·rcases tabH_inv z with⟨y,rfl⟩ | ⟨_,y⟩
   ·exact .inl ⟨y,rfl⟩
   ·cases y
 | none=>
  refine Þ (tabH ts a (al (.dc {cls:=.type "list",data:=.seq vs.toArray} (.lst (ns.map V.int))))) (λb hb=>tabH_t hb) (.inl ⟨{cls:=.type "list",data:=.seq vs.toArray},tabH_a SE⟩) (λb u z=>?_) λb u z=>?_
  ·rcases tabH_inv z with⟨y,rfl⟩ | ⟨rfl,y⟩
   ·exact ht b y
   ·cases y;exact⟨ha,by rw[Al];exact hl,vs,_,rv,ha⟩
  ·rcases tabH_inv z with⟨y,rfl⟩ | ⟨rfl,y⟩
   ·exact .inl ⟨y,rfl⟩
   ·cases y;exact .inr ⟨rfl,hk,_,_,rfl⟩
end L2
variable{us:O L2.V}
namespace FL
section
variable[bD]
abbrev EV.at(v:EV)(b:lm):EV:=⟨v.P,v.w,v.K,v.mg,b⟩
def DI.at(D:DI v d)(b:lm):DI (v.at b) d:=⟨D.f,D.fd,D.fn,D.bi,D.at'⟩
def mkVc{x:Str}{st:r6}{P:db}{m:lj PV n}(D:DI v ⟨x,st,ou st,k+1,λK=>ja K ks (eK n m)⟩)(hc:LamK v.K v.mg D.fd.code P)
  (Ä:∀{bO:ce}{A:tz}{outer:O Env}{s:eM}{H:Hp}{E:XK},LamK v.K v.mg bO P->bt k (A.deeper (wS x (au st) s.heap.objs.size D.f bO))->(ox st).Nodup->sE n (λl w=>SF (jQ fD v.P v.w v.K v.mg v.base (ox st) x (au st) D.f bO A outer s H E).xc v.K false (k4 ks l (ox st).length) (aU st) w .rt) m)
  (Fo:ks.length=(ou st).length:=by rfl) (one:Nat.ble (oZ ks) 1=true:=by rfl) (S:bN (ox st) (ou st) (au st):=by exact rG):D.O:=by
 refine D.fn.okc S (λvs H Q E h=>?_) (λbO A outer s H vs Q E ec hr h=>?_)
 ·obtain⟨_,l,h,_⟩:=h;rw[h.len];exact Fo
 obtain⟨tb,l,h,q⟩:=h;subst ec;exact⟨_,((Ä hc hr S.nd).all l (dS q)).p,h.Qv tb (ko one) (ox st),(eK n m l).mono (λv q1 u σ' aZ H' g s' r=>q1 u H' (h.go g s') r) q⟩
def CodeV(vs:Array ce)(c P:db):Prop:=∃Û tf Ó tg Pe text tt,vs[11]?=al (.ref P)/\vs.getD 11 .none=.ref P/\vs.getD 18 .none=.str Û tf/\vs.getD 7 .none=.int Ó tg/\vs.getD 9 .none=.bool Pe/\vs.getD 10 .none=.int text tt/\c≠P
structure DXc(K:Aa)(x:Str)(st:r6)(P:db):Prop where
 ex:∃f fd,AH K gt x=al (al (.ref f))/\Fun K x x st f fd/\∃c,fd.code=.ref c/\(∀h:lm,K.In h->PySem.W.CodeHd h c P)/\∀h:lm,K.In h->isCodeTable h P
def dxc{K:Aa}{x:Str}{st:r6}{c P:db}{cd:Option db}{sl:Array (Option ce)}{kV:ce}{vs:Array ce}(a:AH K gt x=al (al (.ref f)))(l:K.lookup f=al ⟨oc,od,.func (A9 x x (bL st) (aU st) (au st) .none kV Å pm an (.ref c) ct),wQ⟩)
  (h:BW K (.ref c) x=true) (k:A7 K (.ref f)=true) (e:K.lookup c=al ⟨.type "code",cd,.fields vs,sl⟩) (z:CodeV vs c P):DXc K x st P:=
 ⟨f,_,a,kN l h k,c,rfl,λhp hK=>let ⟨Û,tf,Ó,tg,Pe,text,tt,z⟩:=z;⟨_,vs,Û,tf,Ó,tg,Pe,text,tt,hK _ _ e,rfl,rfl,z⟩,λhp hK=>let ⟨_,_,_,_,_,_,_,z,_⟩:=z;⟨c,_,vs,hK _ _ e,rfl,rfl,z⟩⟩
def DXc.mk3{P:db}(D:DXc v.K d.x d.s P)(X:v.K.In h)(G:h.Ns gt v.mg)
  (hb:∀(kV Å pm:ce) (an:Option db) (bO ct:ce) (us:O ce),us.length=d.ps.length->Db (A9 d.x d.x (bL d.s) (aU d.s) (au d.s) .none kV Å pm an bO ct) ⟨us,[]⟩=pure (d.ps.zip us):=by exact λ_ _ _ _ _ _=>usN (by (repeat intro _);rfl)):∃D:DI v d,LamK v.K v.mg D.fd.code P:=by
 obtain⟨f,fd,a,F,c,hc,hd,_⟩:=D.ex;exact⟨⟨f,fd,F,F.binds hb,CC X G a⟩,⟨⟨c,hc,hd⟩⟩⟩
def DXc.tab{K:Aa}{x:Str}{st:r6}{P:db}(D:DXc K x st P)(hK:K.In h):isCodeTable h P:=let ⟨_,_,_,_,_,_,_,z⟩:=D.ex;z h hK
def CalA.mono{K:Aa}(A:CalA P w K mg base f us qs fz k ps sp)(h:k<=k'):CalA P w K mg base f us qs fz k' ps sp:=⟨A.fd,A.ok.mono h,A.bi,A.kp⟩
def walkT{l:PySem.W.OpenLaw}{q:re}{d:DefRec}{K:Params->Aa}(hn:l.most=al 63)(PB:d.params.defaults=[])(hr:bt k callerA)
  (hY:∀(w:sK) (h:lm),YP w h->(K w.params).In h/\∀P∈bD.ts.map (·.1),h.get? P=al (En #[])) (hK:∀w:sK,∀P∈bD.ts.map (·.1),(K w.params).lookup P=bn) (hC:∀(w:sK) (h:lm),(K w.params).In h->∀P∈bD.ts.map (·.1),isCodeTable h P)
  (F:∀(w:sK) (mg:Str->Option ce) (fa:db) (h:lm),(K w.params).In h->h.Ns gt mg->mg d.name=al (.ref fa)->
   ∃fd:wn,(∀(s:eM) (u:ce),BindsTo s fd ⟨[u],[]⟩ [("_law_script",u)])/\∀base:lm,(K w.params).In base->base.Ns gt mg->bx l.prog w (K w.params) mg base fD k fa fd ["_law_script"] (vO (K w.params))) :
  PySem.W.WalkO q Ñ XP YP l.row.toRowW d [] (λf vs=>PySem.call f vs):=by
 refine Att.pY hn PB λw s₀ s₁ mg mb fa o pm cd Å a vs ns G Y ho hd eW hmg Iv Ò Â hg=>?_;obtain⟨KX,hT⟩:=hY w _ Y;obtain⟨fd,hb,hF⟩:=F w mg fa _ KX G.T.g hmg;exact law_callT KX G.T.g G.T.b G.T.builtins G.T.nolimit G.T.bmain hg Iv Ò (Ba Â ⋯) hr hT (hK w) (hC w _ KX) hF hb λH T3 hS=>⟨λp hp=>⟨#[],T3 _ (Bn.mpr ⟨p,hp,rfl⟩),trivial,λpos c z=>by simp[Ev]at z⟩,a,ns,rfl,hS,Â,λ_=>rfl⟩
def forK{K:Aa}(P:Aa->Prop)(_:K.In h)(p:P K):P K:=p
end
section
variable[bD]{K:Aa}
section
variable{a b:jp}{rest:O r6}{T:Type}{out:T->End}{x:Bool}
def SF.parL{k:O PV->PV->W T}(hc:X.calm=true)(hN:X.N.Nodup)(hi:X.N[i]?=al y)(hj:X.N[j]?=al z)(JI:i≠j)(hx:X.env.scope.names.lookup y=al .local)(hy:X.env.scope.names.lookup z=al .local)
  (ha:LF X K fs a wl) (hb:EF X K fs b wb) (hr:∀u v,SF X K x ((fs.set i (al (.ol bn u))).set j (al (.val v))) rest (k u v) out)
  (hw:zn [.Tuple [.Name y px,.Name z py] kt pt] (.Tuple [a,b] k2 yW) X.env=pure (al [y,z]):=by rfl) (hs:xL [.Tuple [.Name y px,.Name z py] kt pt] (.Tuple [a,b] k2 yW) pos.line X.env=pure false:=by rfl)
  (he:ii [a,b] X.env=(false,lc a X.env)::ii [b] X.env:=by rfl) (IC:dA X b []:=by rfl) :
  SF X K x fs (.Assign [.Tuple [.Name y px,.Name z py] kt pt] (.Tuple [a,b] k2 yW) pos::rest) (.bind wl λu=>.bind wb λv=>k u v) out:=
 SF.step (wA hc hN hi hj JI hx hy (ak ha.p (ak hb.p aD IC) he) hw hs) λD σ H ⟨sr,q⟩=>⟨sr,wl.mono (λu q1 ad vs H1 g1 s1 n1 e1 v1=>⟨s1,wb.mono (λv q2 u2 H2 g2 s2 v2=>by
  have no:=sr.noOwn n1;have oa:eZ K H2 ad (.ol bn u):=⟨λ_ z=>(nomatch z),vs,g2.kE e1 no,g2.uk s1 v1⟩;have s3:=s2.mM oa no i;have s4:=s3.fN v2 j;exact⟨_,_,rfl,_,k u v,hr u v,s4,(k u v).mono (λt q3=>q3.go ((bP.mM s2 (g1.trans g2).f no n1 i).trans (bP.fN s3 _ _ j)) sr s4) q2⟩) q1⟩) q⟩
end
end
end FL
namespace My
def potG05(ns:O Int):Prop:=∃g s:Int,ns=[g,s]/\0<=g/\0<=s/\s < 2305843009213693951
end My
namespace L2
section
variable{s:eM}
def collectT{R:O ce->eM->Prop}{o:Obj}(ho:s.heap.get? it=al o)(hc:o.cls=.type "tuple")(hd:o.data=.seq items n)(hn:items.size<=sizeLine)
  (h:∀h':lm,s.heap.objs.size<=h'.objs.size->(∀b o,s.heap.get? b=al o->h'.get? b=al o)->R items.toList {s with heap:=h'}) :
  ge (gl prog w) A (collect (.ref it)) R E s:=by
 refine Ad (wpAny_runValue (BT entry_proto_collect' ?_));refine Ad (Co ?_);refine Au ⟨plainId_quiet PySem.F.plain_list_iadd _,BT entry_list_iadd' ?_⟩;have g1:(s.heap.push {cls:=.type "list",data:=.seq ([]:O ce).toArray}).get? s.heap.objs.size=al {cls:=.type "list",data:=.seq #[] 0}:=Ap _ rfl;have g2:=Ck (BK (·++items)) g1 rfl;have step:=wpAny_extend_seq (prog:=prog) (w:=w) (A:=A) (s:={s with heap:=s.heap.push {cls:=.type "list",data:=.seq ([]:O ce).toArray}})
  (R:=λq s'=>q=.ok (.ret (.ref s.heap.objs.size))/\s'={s with heap:=(s.heap.push {cls:=.type "list",data:=.seq ([]:O ce).toArray}).update s.heap.objs.size (BK (·++items))})
  s.heap.objs.size it (.ref s.heap.objs.size) 0 (.inr rfl) g1 (Ae _ ho) hc hd ⟨rfl,rfl⟩ hn
 have e0:((#[])++items).toList=items.toList:=by simp
 have fin:ge (gl prog w) A (load s.heap.objs.size >>= λx=>match x.data with | .seq xs _=>pure xs.toList | _=>unsupported "internal:collect") R E {s with heap:=(s.heap.push {cls:=.type "list",data:=.seq ([]:O ce).toArray}).update s.heap.objs.size (BK (·++items))}:=by
  refine Ad (wpAny_load g2 (Au ?_));rw[e0];exact h _ (Dv (Ao g2)) (λb u e=>(Ce _ _ (EN (Ao e))).trans (Ae _ e))
 refine BM step (λfn s' x=>?_) λe s' x=>nomatch x.1;cases fn with
 | done f=>
  obtain⟨e,rfl⟩:=x;cases e;exact fin
 | again c1=>exact⟨x.1,wp x.2 λq s2 ⟨e1,e2⟩=>by
   subst e1 e2;exact fin⟩
end
end L2
variable{o:BL}
namespace FL
section
variable[bD]
section
variable{K:Aa}{e2:jp}
def stW:PV->W Str
 | .str u=>.e7 (u.length<=1000) (.ret u)
 | _=>.fail
def e_f2{a b c:Str}{l:Nat}{q1 q2 q3:Pos}(h1:EF X K fs e1 wa)(h2:EF X K fs e2 wb)(la:a.length+b.length+c.length<=100:=by decide +kernel):EF X K fs (.JoinedStr [.Constant (.str a) i q1,.FormattedValue e1 (-1) bn p1,.Constant (.str b) j q2,.FormattedValue e2 (-1) bn p2,.Constant (.str c) l q3] pos) (.bind wa λx=>.bind (stW x) λu=>.bind wb λy=>.bind (stW y) λv=>.ret (.str (A3++a++u++b++v++c))):=
 ⟨PE.imp (KU gc h1.p gc h2.p gc la) λσ H Q ⟨sr,q⟩=>⟨sr,wa.mono (λx q1 u1 H1 g1 s1 v1=>by
  cases v1 with
  | str u=>
   exact⟨u,rfl,q1.1,s1,wb.mono (λy q2 u2 H2 g2 s2 v2=>by
     cases v2 with
     | str v=>exact⟨v,rfl,q2.1,q2.2 _ H2 (g1.trans g2) s2 (.str _)⟩
     | _=>exact q2.elim) q1.2⟩
  | _=>exact q1.elim) q⟩⟩
end
end
end FL
variable{t:L2.TA}
namespace L2
section
variable{name:Str}{id:String}{r:V->O V->Hp->VK->Prop}
def tBMT(r:V->O V->Hp->VK->Prop)(to:TE)(t:TA):TE:=λσ H Q=>to σ H λx H1=>(∃p xs,x=.ref p/\H1 p=al (.tup xs))/\t σ H1 λys H2=>r x ys H2 Q
def pe_bmT(slot:Slot "tuple" name id)(qj:typeOf (.builtin id)=pure (.type "method_descriptor"))(hm:vv X id r)(ho:PE X o to)(ha:PA X (e::es) t)
  (c8:pi o name X.env (lc o X.env)=lc o X.env:=by rfl)
  (kJ:JW X bC (e::es):=by rfl)
  (c7:F4 À bC:=by rfl) (hs:dA X e es:=by rfl) (dF:fF X bC es:=by rfl) :
  PE X (.Call (.Attribute o name À) (e::es) [] bC) (tBMT r to t):=by
 intro U s σ H Q I h;refine wpAny_Call_method_late c8 kJ c7 rfl (aY (ho U s σ H _ I h) λv s1 ⟨x,H1,I1,r1,⟨p,xs,ex,hp⟩,q1⟩=>?_);subst ex;cases r1;obtain⟨_,_,_,⟨ob,e1,e2,_⟩,od,e3,e4⟩:=(show bu X.prog X.w H1 s1.heap p (.tup xs) from I1.aV p _ hp);rw[e1]at e3;cases e3;refine⟨"tuple",id,PySem.F.plainAttrs_tuple,slot,qj,⟨ob,e1,e2⟩,λa z=>?_,?_⟩
 ·cases z;exact⟨ob,e1,e4⟩
 have hA:=ha bC U s1 σ H1 _ I1 q1;rw[hs]at hA ⊢;exact CY (by show(false||(Fk bC (ii es X.env)).any (·.1))=false;rw[dF] <;> rfl) (Et (aY hA λus s2 ⟨vs,H2,I2,r2,q2⟩=>hm U s2 σ H2 (.ref p) vs (.ref p) us Q I2 rfl r2 q2))
end
end L2
namespace FL
section
variable[bD]
section
def rCntT(K:Aa):V->O V->Hp->VK->Prop:=λx us H Q=>∃p vs l y q,x=.ref p/\us=[y]/\cf K H p vs/\aA K [] H vs l/\VR K [] H y q/\uQ q l/\Q (.int (Ji q l)) H
theorem mt_cntT(K:Aa)(hK:X.K=K)(hu:X.A.units+200 < sB):vv X "tuple.count" (rCntT K):=by
 intro U s σ H x vs v us Q I rx rv h;obtain⟨p,ws,l,y,q,rfl,rfl,hq,hl,hy,ok,qq⟩:=h;cases rx;obtain⟨u,rfl,ru⟩:=rv.one;have Iq:X.A.in1.units+150+1 < sB:=by show X.A.units+1+150+1 < _;omega
 obtain⟨ay,r,⟨⟨cls,dd,data,sl⟩,ho,hc,n,xJ⟩,hz⟩:=I.tuple (show cf X.K H p ws by rw[hK];exact hq);subst hc xJ;refine Fa F.slot_tuple_count ⟨_,ho,rfl⟩ F.entry_tuple_count (F.args_tuple_count_2 _ _) (SeqAt.tuple_countAt p ay.toArray n dd sl u (tS K H q)) ⟨ho,?_,?_⟩
 ·intro w hw;exact js hK I hy ru ok.1 Iq r hl ok.2.1 ok.2.2 w (by simpa using hw)
 ·refine⟨.int _,H,I.tok _,⟨s.toks,?_⟩,qq⟩;rw[show ay.toArray.toList=ay from rfl,countP_map,j6 hK I r hl,<- countP_map];rfl
variable{K:Aa}{w:W PV}
def tupOf:PV->W (O PV)
 | .tup l=>.ret l
 | _=>.fail
def e_cntT(hK:X.K=K)(hu:X.A.units+200 < sB)(ho:EF X K fs o wa)(he:EF X K fs e w)(c8:pi o "count" X.env (lc o X.env)=lc o X.env:=by rfl)
  (kJ:JW X bC [e]:=by rfl)
  (c7:F4 À bC:=by rfl) (jO:dA X e []:=by rfl) (dF:fF X bC []:=by rfl) :
  EF X K fs (.Call (.Attribute o "count" À) [e] [] bC) (.bind (.bind wa tupOf) λl=>.bind w λx=>FO l x):=
 ⟨PE.imp (pe_bmT PySem.F.slot_tuple_count PySem.F.type_tuple_count (mt_cntT K hK hu) ho.p (ak he.p aD jO) c8 kJ c7 jO dF) λσ H Q ⟨sr,q⟩=>⟨sr,wa.mono (λx q1 u1 H1 g1 s1 v1=>by
  cases v1 <;> first | exact q1.elim | skip
  rename_i p vs l h r;refine⟨⟨p,vs,rfl,h⟩,s1,w.mono (λx q2 u2 H2 g2 s2 v2=>?_) q1⟩;exact⟨p,vs,l,u2,x,rfl,rfl,cf.of ((g2.cu s1).t _ _ h),g2.uk s1 r,v2,q2.1,q2.2 _ H2 (g1.trans g2) s2 (.int _)⟩) q⟩⟩
end
end
end FL
namespace L2
section
def rSortTS(K:Aa):O V->Hp->VK->Prop:=λxs H Q=>∃(p:db) (ns:O Str),xs=[.ref p]/\cf K H p (ns.map V.str)/\ns.length < 64/\∀ms:O Str,ms.Perm ns->sortedS ms=true->ik H (.lst (ms.map V.str)) Q
theorem strsAre_of:∀{ss:O Str}{vs:O ce},Vals (ss.map V.str) vs->StrsAre vs ss
 | [],_,.nil=>.nil
 | x::ss,_,.cons ⟨t,e⟩ r=>by subst e;exact .cons x t (strsAre_of r)
theorem vals_strs:∀{ss:O Str}{vs:O ce},StrsAre vs ss->Vals (ss.map V.str) vs
 | _,_,.nil=>.nil
 | _,_,.cons x t r=>.cons ⟨t,rfl⟩ (vals_strs r)
theorem call_sortTS(K:Aa)(hK:X.K=K):bG X (.builtin "sorted") (rSortTS K):=by
 subst hK;intro U s σ H xs us Q I r h;obtain⟨p,ns,rfl,hq,Vd,q⟩:=h;obtain⟨u,rfl,rx⟩:=vals1 r;cases rx;obtain⟨ay,r',⟨o,h1,h2,n,h3⟩,hz⟩:=I.tuple hq;have hl:=r'.length;rw[Al]at hl hz;have hS:=strsAre_of r';refine Calls.call_function_entry kind_sorted plain_sorted entry_sorted (args_sorted1 _) ?_;unfold FM.«sorted»;refine Ad (Au ?_);refine Ad (collectT h1 h2 h3 (by rw[Af];omega) λh' Ø kp=>?_);show ge _ _ (newList ay >>= _) _ _ _;refine Ad (wpAny_newList ?_ ∅);have LG:(h'.push (seqObj "list" ay.toArray 0)).get? h'.objs.size=al (seqObj "list" ay.toArray 0):=Ap _ rfl;refine Ad (Bt (B9 slot_list_sort ⟨_,LG,rfl⟩ entry_list_sort (list_sort_treeK strKind_oneLt LG hS.keysOf (λv₁ v₂ rest e=>keyKind_strs (by rw[<- e];exact hS)) ∅ λkb hp hs=>⟨_,rfl,?_⟩) (args_list_sort _)));obtain⟨ms,a1,a2,a3⟩:=sorted_out_str hS hp hs;refine Au ⟨_,rfl,?_⟩;obtain⟨e,he⟩:=sortedHeap_at LG;refine⟨.ref h'.objs.size,_,I.laid (λb o eb=>?_) Ø (show bu X.prog X.w _ _ _ (.lst (ms.map V.str)) from⟨?_,_,e,vals_strs a1,?_⟩),rfl,(q ms a2 a3).at _ (I.aV.fresh Ø)⟩
 ·have lt:=Ao (kp b o eb);rw[sortedHeap_old (Az lt) (by rw[size_push'];exact DR lt)];exact Ae _ (kp b o eb)
 ·rw[Al,a2.length_eq];exact hz
 ·exact he
end
def ddS(σ:O Str)(v:Str):O Str:=if σ.any (·==v)=true then σ else σ++[v]
def fmS(val:Nat->Str)(i:Nat):O Str:=((BN i).map val).foldl ddS []
def fmS_succ(val:Nat->Str)(i:Nat):fmS val (i+1)=ddS (fmS val i) (val i):=by
 unfold fmS;rw[List.range_succ,AN,List.foldl_append];rfl
def ddS_len(σ:O Str)(v:Str):(ddS σ v).length=if σ.any (·==v) then σ.length else σ.length+1:=by
 unfold ddS;split <;> simp
theorem fmS_le(val:Nat->Str):∀i,(fmS val i).length<=i
 | 0=>Aj _
 | i+1=>by
  have ih:=fmS_le val i;rw[fmS_succ,ddS_len]
  split <;> omega
def ddS_any(σ:O Str)(v k:Str):(ddS σ v).any (·==k)=(σ.any (·==k)||decide (k=v)):=by
 unfold ddS;by_cases h:σ.any (·==v)=true
 ·rw[if_pos h];by_cases e:k=v
  ·subst e;rw[h];simp
  ·simp[e]
 ·rw[if_neg h,Dl];by_cases e:k=v
  ·subst e;simp
  ·have hb:(v==k)=false:=beq_eq_false_iff_ne.mpr λh'=>e h'.symm;simp[hb,e]
section
variable{R:Result->eM->Prop}{I:db}{wr:O db}{G:Array GenState->Array GenState->Prop}{P:Nat->ce->Prop}{St:Nat->eM->Prop}
theorem set_loopS(W:WalksS prog w A.in1 I fp wr G n P St)(S:db)(Nv:S∉fp)(val:Nat->Str)(Ip:∀i v,P i v->∃t,v=.str (val i) t)(hb:n+1 < wP) :
  ∀(k i:Nat) (s:eM),n-i=k->i<=n->St i s->s.heap.SetOf (BU prog w) S (λk'=>(fmS val i).any (·==k')) (fmS val i).length->
   (∀s',Moved (S::wr) G s s'->s'.heap.SetOf (BU prog w) S (λk'=>(fmS val n).any (·==k')) (fmS val n).length->R (.ok (.ret .none)) s')->
   CF (gl prog w) A (.builtin "set.update.loop" ⟨[.ref S,.ref I],[]⟩) R s:=by
 have Rl:S∉wr:=λh=>Nv (W.sub _ h);have Iu:∀b∈wr,b∈S::wr:=λb hb=>AE _ hb;intro k
 induction k with
 | zero=>
  intro i s hk hi jO hS hR;have uR:i=n:=by omega
  subst uR;refine BT CB ?_;rw[Eu BP _];show ge _ A.in1 (pyNext (.ref I) >>= _) _ _ s;refine Ad (W.done s _ _ jO λs' hm=>?_);show ge _ A.in1 (ret C4) _ _ s';exact Au (hR s' (hm.mono Iu) (let ⟨o,es,ep,t,ho,rest⟩:=hS;⟨o,es,ep,t,hm.heap S _ Rl ho,rest⟩))
 | succ k ih=>
  intro i s hk hi jO hS hR;have jC:i < n:=by omega
  refine BT CB ?_;rw[Eu BP _];show ge _ A.in1 (pyNext (.ref I) >>= _) _ _ s;refine Ad (W.item i s _ _ jC jO λv s' hP Pj hm=>?_);obtain⟨t,rfl⟩:=Ip i v hP;have LV:s'.heap.SetOf (BU prog w) S (λk'=>(fmS val i).any (·==k')) (fmS val i).length:=let ⟨o,es,ep,tb,ho,rest⟩:=hS;⟨o,es,ep,tb,hm.heap S _ Rl ho,rest⟩;show ge _ A.in1 (r9 [ET (val i) t] (setAdd S (.str (val i) t)) >>= _) _ _ s';refine Ad (Bt ?_);unfold setAdd;refine Bt ?_;refine Ad ((BU prog w).pyHash (k:=val i) (strKind_is _ _ _ _) ?_);have LA:(fmS val i).length+1 < wP:=by have:=fmS_le val i;omega
  refine wpAny_setAddHashed_of (knd:=BU prog w) (s:={s' with toks:=s'.toks+1}) (strKind_is _ _ _ _) rfl LV LA λh' vB T5=>?_;have T4:h'.SetOf (BU prog w) S (λk'=>(fmS val (i+1)).any (·==k')) (fmS val (i+1)).length:=SetOf_congr T5 (λk'=>by rw[fmS_succ,ddS_any]) (by rw[fmS_succ,ddS_len]);refine Au ⟨plainId_quiet BP _,ih (i+1) _ ∅ jC (W.frame _ s' _ _ Pj (EZ _) λb hb o e=>?_) T4 λHd Pr PR=>?_⟩
  ·rw[vB.2 b (λh:b=S=>Nv (by rw[<- h];exact hb))];exact e
  ·refine hR Hd (Moved.trans W.gtrans ((hm.mono Iu).then_heap (EZ _) λb o hb e=>?_) Pr) PR;rw[vB.2 b (λh:b=S=>hb (by rw[h];exact AZ))];exact e
end
section
variable{s:eM}
theorem strs_at:∀{vs:O ce}{ns:O Str},StrsAre vs ns->∀(i:Nat) (v:ce),vs[i]?=al v->∃t,v=.str (ns.getD i A3) t
 | _,_,.nil,i,v,h=>by simp at h
 | _,_,.cons n t hr,0,v,h=>by simp at h;exact⟨t,by rw[<- h];rfl⟩
 | _,_,.cons n t hr,i+1,v,h=>by
  simp only[Cc]at h;obtain⟨t',e⟩:=strs_at hr i v h;exact⟨t',by rw[e];rfl⟩
set_option maxHeartbeats 3200000 in
theorem call_setTS{l:db}{items:Array ce}{ns:O Str}{Q:ce->eM->Prop}
  (hh:A.handled=bn) (hl:s.heap.IsTuple l items) (hi:StrsAre items.toList ns) (hb:items.size+1 < wP)
  (h:∀(h':lm) (tk:Nat),h'.SetOf (BU prog w) s.heap.objs.size (λk'=>(fmS (λi=>ns.getD i A3) items.size).any (·==k')) (fmS (λi=>ns.getD i A3) items.size).length->
   (∀b o,b < s.heap.objs.size->s.heap.get? b=al o->h'.get? b=al o)->Q (.ref s.heap.objs.size) {s with heap:=h',toks:=tk}) :
  ge (gl prog w) A (call (.type "set") [.ref l]) Q E s:=by
 obtain⟨c,tl,Tt⟩:=Bo.mro;have Q9:=Bo.made;have Iu:=Bo.sub;refine EH (codeAny_of_tree ?_);show ge _ _ (callAny (.type "set") _) _ _ _;refine Au ⟨Code.quiet_builtin _ (by decide +kernel),BT PySem.F.entry_type_call ?_⟩;rw[Around.under_plain (weight_type_call_type "set" [.ref l] []) rfl];have h1:=Bo.notType;have h2:=Bo.canCreate;have U8:=PySem.F.typeCall_set_1 (.ref l)
 repeat (any_goals (first | assumption | wp_step))
 refine wp (code_set_new_1 (.ref l) (E:=E) (Q₁:=λobj s₁=>∃Î:Bool,obj=.ref s.heap.objs.size/\s₁={s with heap:=s.heap.push {cls:=.type "set",dict:=bn,data:=.set #[] 0 (.fresh 0 0 Î)}}) λÎ=>⟨Î,rfl,rfl⟩) λr s₁ hr=>?_;cases r with
 | error e=>exact hr
 | ok fl=>
  cases fl with
  | ret obj=>
   obtain⟨Î,rfl,rfl⟩:=hr;have hS:(s.heap.push {cls:=.type "set",dict:=bn,data:=.set #[] 0 (.fresh 0 0 Î)}).get? s.heap.objs.size=al {cls:=.type "set",dict:=bn,data:=.set #[] 0 (.fresh 0 0 Î)}:=Ap _ rfl;have hT:Shared.TypeIs {s with heap:=s.heap.push {cls:=.type "set",dict:=bn,data:=.set #[] 0 (.fresh 0 0 Î)}} (.ref s.heap.objs.size) "set":=⟨_,hS,rfl⟩;have U6:=Bo.init.lookup;have Vb:=Bo.init.bind (.ref s.heap.objs.size)
   repeat (any_goals (first | assumption | wp_step))
   refine wp (codeAny_call_builtin (R:=wants (λr s₂=>r=.none/\∃h' tk,s₂={s with heap:=h',toks:=tk}/\
     h'.SetOf (BU prog w) s.heap.objs.size (λk'=>(fmS (λi=>ns.getD i A3) items.size).any (·==k')) (fmS (λi=>ns.getD i A3) items.size).length/\
     (∀b o,b < s.heap.objs.size->s.heap.get? b=al o->h'.get? b=al o)) E) Bo.init.plain PySem.F.entry_set_init (check_set_init_1 hT ?_)) λr₂ s₂ xE=>?_
   ·obtain⟨ol,Q6,Ri,nl,Rf⟩:=hl;obtain⟨Ss,K6,QT,HA⟩:=ol;simp only at Ri Rf;subst Ri;subst Rf;have LC:(s.heap.push {cls:=.type "set",dict:=bn,data:=.set #[] 0 (.fresh 0 0 Î)}).get? l=al {cls:=.type "tuple",dict:=K6,data:=.seq items nl,slots:=HA}:=Ae _ Q6;have Tg:=PySem.F.sub_tuple_set;have Th:=PySem.F.sub_tuple_frozenset;have yY:(Cr "tuple"==Cr "dict")=false:=by decide
    have Pu:(s.heap.push {cls:=.type "set",dict:=bn,data:=.set #[] 0 (.fresh 0 0 Î)}).IsTuple l items:=⟨_,LC,rfl,nl,rfl⟩;unfold FM.«set.__init__» noKeywords Builtin.Frozenset.updateFrom;generalize T8:pyIter=PI
    wp_walk
    subst T8;refine DD Pu ?_;refine Ad (wpAny_runValue ?_);have Ra:l < s.heap.objs.size:=Ao Q6;have Tz:A.in1.in1.in1.handled=bn:=by simp[hh]
    have Pp:l≠(s.heap.push {cls:=.type "set",dict:=bn,data:=.set #[] 0 (.fresh 0 0 Î)}).objs.size:=by
     rw[B8];exact Az (DR Ra)
    have Nv:s.heap.objs.size∉[(s.heap.push {cls:=.type "set",dict:=bn,data:=.set #[] 0 (.fresh 0 0 Î)}).objs.size,l]:=by
     rw[B8];simp only[AA,AG,Cz,or_false,not_or];exact⟨Az (Bq _),EN Ra⟩
    have Ip:∀(i:Nat) (v:ce),items[i]?=al v->∃t,v=.str ((λi=>ns.getD i A3) i) t:=λi v hv=>strs_at hi i v (by rw[Em];exact hv);refine set_loopS ((Walks.tuple Tz _ l Pp items).toS) s.heap.objs.size Nv (λi=>ns.getD i A3) Ip hb (items.size-0) 0 _ ∅ (Bj _) ⟨⟨_,Ap _ rfl,rfl,rfl⟩,?hI⟩ ?T6 ?hR
    case hI=>exact⟨_,Ae _ LC,rfl,nl,rfl⟩
    case T6=>
     have Px:((s.heap.push {cls:=.type "set",dict:=bn,data:=.set #[] 0 (.fresh 0 0 Î)}).push {cls:=.type "tuple_iterator",data:=.fields #[.ref l,.int 0 0]}).get? s.heap.objs.size
       = al {cls:=.type "set",dict:=bn,data:=.set #[] 0 (.fresh 0 0 Î)}:=Ae _ hS
     exact SetOf_congr ((setObjOf_fresh (knd:=BU prog w) Î).setOf Px (by unfold wP;omega)) (λ_=>rfl) rfl
    case hR=>
     intro s' hm LV;obtain⟨h',g',d',R3,OX⟩:=s';have eg:g'=s.gens:=hm.gens;have ed:d'=s.drawn:=hm.drawn;have eo:OX=s.os:=hm.os;subst eg;subst ed;subst eo;show ge _ _ _ _ _ _;refine Au ?_;show ge _ _ (ret C4) _ _ _;refine Au ⟨rfl,h',R3,rfl,LV,λb o hb e=>?_⟩;have LP:b≠s.heap.objs.size:=Az hb;have Nu:b≠(s.heap.push {cls:=.type "set",dict:=bn,data:=.set #[] 0 (.fresh 0 0 Î)}).objs.size:=by
      rw[B8];exact Az (DR hb)
     exact hm.heap b o (by simp only[AA,AG,Cz,or_false,not_or];exact⟨LP,Nu⟩) (Ae _ (Ae _ e))
   ·cases r₂ with
    | error e=>exact xE
    | ok L5=>
     cases L5 with
     | ret r=>
      obtain⟨rfl,h',tk,rfl,LV,Tx⟩:=xE
      repeat (any_goals (first | assumption | wp_step))
      exact h _ _ LV Tx
     | _=>exact xE
  | _=>exact hr
end
section
variable{ta:TA}{p:Pos}
def sLenS(ns:O Str):Int:=((fmS (λi=>ns.getD i A3) ns.length).length:Int)
def tLenSetS(K:Aa)(ta:TA):TE:=λσ H Q=>ta σ H λvs H1=>∃(q:db) (ns:O Str),vs=[.ref q]/\cf K H1 q (ns.map V.str)/\ns.length+1 < wP/\Q (.int (sLenS ns)) H1
theorem pe_lensetS(K:Aa)(hK:X.K=K)(hc:X.calm=true)(IB:Gl X "len")(Iy:X.mg "len"=bn)(IA:Gl X "set")(Iw:X.mg "set"=bn)(ha:PA X [e] ta)
  (Nk:ii [.Call (.Name "set" p1) [e] [] p2] X.env=(false,lc (.Call (.Name "set" p1) [e] [] p2) X.env)::ii [] X.env:=by rfl) (hs:dA X e []:=by rfl) (bZ:fF X p2 []:=by rfl) :
  PE X (.Call (.Name "len" p) [.Call (.Name "set" p1) [e] [] p2] [] pos) (tLenSetS K ta):=by
 subst hK;intro U s σ H Q I h;refine AQ (fo I IB Iy boot_len ?_ ⋯ ⋯);refine C6 ?_ Nk rfl;refine BZ ?_;refine Call_ (fo I IA Iw (show nn "set"=al (.type "set") by rfl) (Bd (aY (ha p2 U s σ H _ I h) λus s1 ⟨vs,H1,I1,r1,q1⟩=>?_) hs bZ));obtain⟨l,ns,rfl,hq,hb,q⟩:=q1;obtain⟨u,rfl,rx⟩:=vals1 r1;cases rx;obtain⟨ay,r',pl,hz⟩:=I1.tuple hq;have Â:ay.length=ns.length:=by rw[<- r'.length,Al]
 refine call_setTS (I1.ok.hd hc) (show s1.heap.IsTuple l ay.toArray from pl) (by simpa using strsAre_of r') (by rw[Af,Â];exact hb) λh' tk hS hk=>?_;have hsz:ay.toArray.size=ns.length:=by rw[Af,Â]
 rw[hsz]at hS;refine Cn ?_;obtain⟨o,es,ep,t,ho,hex,hd,_,_,vB,hf,hn⟩:=hS;have h4:=vB;refine call_len_set ho hex hd hf (by unfold wP at h4;omega) ?_;rw[hn];exact⟨.int _,H1,(I1.kept λb o e=>hk b o (Ao e) e).tok _,⟨_,rfl⟩,q⟩
end
end L2
namespace FL
section
variable[bD]
variable{K:Aa}
section
variable{p:Pos}{w:W PV}
def strsW:O PV->W (O Str)
 | []=>.ret []
 | .str i::r=>.bind (strsW r) λl=>.ret (i::l)
 | _=>.fail
theorem strsW_run:∀{l:O PV}{Q:O Str->Prop},(strsW l).run Q->∃ns:O Str,l=ns.map PV.str/\Q ns
 | [],Q,h=>⟨[],rfl,h⟩
 | .str b::r,Q,h=>by
  obtain⟨ns,e,q⟩:=strsW_run (l:=r) (show(strsW r).run λl=>Q (b::l) from h);exact⟨b::ns,by rw[e];rfl,q⟩
 | .int _::_,_,h | .bl _::_,_,h | .aB::_,_,h | .tup _::_,_,h | .ref _::_,_,h | .ty _::_,_,h | .cl _::_,_,h | .dv _ _::_,_,h | .ob _ _::_,_,h | .hand::_,_,h=>h.elim
theorem ev_strs:∀ns:O Str,strsW (ns.map PV.str)=.ret ns
 | []=>(rfl)
 | x::ns=>by rw[A1,strsW,ev_strs ns];rfl
theorem strs_vs:∀{ss:O Str}{vs:O V},aA K [] H vs (ss.map PV.str)->vs=ss.map V.str
 | [],_,.nil=>rfl
 | x::ss,_,.cons r t=>by cases r;rw[strs_vs t];rfl
def sortTSW:PV->W (O PV)
 | .tup l=>.bind (strsW l) λns=>.e7 (ns.length < 64) (.bind (.any λms=>ms.Perm ns/\sortedS ms=true) λms=>.ret (ms.map PV.str))
 | _=>.fail
def l_sortTS(hK:X.K=K)(hg:Gl X "sorted")(hm:X.mg "sorted"=bn)(ha:EF X K fs e w)(he:dA X e []:=by rfl)(bZ:fF X pos []:=by rfl):LF X K fs (.Call (.Name "sorted" p) [e] [] pos) (.bind w sortTSW):=⟨PE.imp (bT (call_sortTS K hK) hg hm boot_sorted (ak ha.p aD he) ⋯ ⋯ he bZ) λσ H Q ⟨sr,q⟩=>⟨sr,w.mono (λx q1 u1 H1 g1 s1 v1=>by
 cases v1 <;> first | exact q1.elim | skip
 rename_i h1 r1;obtain⟨ns,el,hC,q2⟩:=strsW_run q1;subst el;have:=strs_vs r1;subst this;exact⟨_,ns,rfl,cf.of h1,hC,λms a2 a3=>tF g1 s1 (sP _ _) (q2 ms ⟨a2,a3⟩)⟩) q⟩⟩
def setLenSW:PV->W PV
 | .tup l=>.bind (strsW l) λns=>.e7 (ns.length+1 < wP) (.ret (.int (sLenS ns)))
 | _=>.fail
def e_lensetS(hK:X.K=K)(hc:X.calm=true)(IB:Gl X "len")(Iy:X.mg "len"=bn)(IA:Gl X "set")(Iw:X.mg "set"=bn)(ha:EF X K fs e w)
  (Nk:ii [.Call (.Name "set" p1) [e] [] p2] X.env=(false,lc (.Call (.Name "set" p1) [e] [] p2) X.env)::ii [] X.env:=by rfl) (hs:dA X e []:=by rfl) (bZ:fF X p2 []:=by rfl) :
  EF X K fs (.Call (.Name "len" p) [.Call (.Name "set" p1) [e] [] p2] [] pos) (.bind w setLenSW):=⟨PE.imp (pe_lensetS K hK hc IB Iy IA Iw (ak ha.p aD hs) Nk hs bZ) λσ H Q ⟨sr,q⟩=>⟨sr,w.mono (λx q1 u1 H1 g1 s1 v1=>by
 cases v1 <;> first | exact q1.elim | skip
 rename_i h1 r1;obtain⟨ns,el,hC,q2⟩:=strsW_run q1;subst el;have:=strs_vs r1;subst this;exact⟨_,ns,rfl,cf.of h1,hC,q2 _ H1 g1 s1 (.int _)⟩) q⟩⟩
end
end
end FL
variable{C:AL}{T:Bv}{t1:PySem.Tok}
namespace My
def clsM(j:Nat):r6->r6
 | .ClassDef _ _ _ b _ _ _ _ _ _ _=>b.getD j (.Pass ⟨0,0,0,0⟩)
 | s=>s
def tpR(i:Nat):r6:=BA.main.body.getD (i+13) (.Pass ⟨0,0,0,0⟩)
abbrev sR:r6:=tpR 11
def RdA(C p:db)(T:Str)(n:Nat)(H:Hp):Prop:=∃dx,H p=al (.ins C dx [("text",.str T),("place",.int n)])
def occ(s:Str)(c:Nat):Bool:=!(Builtin.Str.occurrences s ⟨#[c]⟩ 0 s.length 1).isEmpty
def at1(T:Str)(n:Nat)(s:Str):Bool:=match T.cps.toList[n]? with
 | some c=>occ s c
 | none=>false
theorem atI_n{l:List α}{c:α}(h:l[n]?=al c):cF l (n:Int)=al c:=by
 have:=(Ai.mp h).1;unfold cF nh;rw[if_pos ∅,if_pos ∅];simpa using h
def at1_lt{s:Str}(h:at1 T n s=true):∃c,T.cps.toList[n]?=al c/\occ s c=true/\n < T.length:=by
 unfold at1 at h;cases e:T.cps.toList[n]? with
 | none=>rw[e]at h;cases h
 | some c=>
  rw[e]at h;exact⟨c,rfl,h,by have:=(Ai.mp e).1;simpa[C5]using this⟩
def spStands(C:db):Sp:=λvs H Q _=>∃(p:db) (T:Str) (n:Nat) (s:Str),vs=[.ref p,.str s]/\RdA C p T n H/\T.length<=sizeLine/\Q (.bl (at1 T n s)) H
structure RdK(K:Aa)(mg:Str->Option ce)(C:db):Prop where
 cl:uh K C
 t:di K C "text"
 p:di K C "place"
 len:mg "len"=bn
section
variable{K:Aa}
theorem ok_stands(R:RdK K mg C)(F:Fun K "stands_at" "Reader.stands_at" (clsM 1 sR) f fd):bx P w K mg base fD 1 f fd ["self","signs"] (spStands C):=by
 refine F.ok (N:=["self","signs"]) rG (λvs H Q E h=>?_) (λbO A outer s H vs Q E hr h=>?_)
 ·obtain⟨_,_,_,_,rfl,_⟩:=h;rfl
 obtain⟨p,T,n,sg,rfl,⟨dx,hp⟩,hT,q⟩:=h;refine⟨_,a9 (cU (wO (iL tm (gj (pv 0) rfl) (bT (dz K rfl) (by rfl) R.len DB (ak (gj (pv 0) rfl) aD)) (cy _)) (wI (iL lX (gh (c0 K rfl) (gj (pv 0) rfl) (gj (pv 0) rfl) (λ_ _=>rfl)) (pv 1) rfl)))),?_⟩;refine⟨.ref p,rfl,p,C,dx,_,.int n,rfl,hp,R.cl,R.p,rfl,.ref p,rfl,p,C,dx,_,.str T,rfl,hp,R.cl,R.t,rfl,.str T,T.length,rfl,⟨hT,rfl⟩,_,_,rfl,rfl,_,rfl,?_⟩;cases e:T.cps.toList[n]? with
 | none=>
  have:¬((n:Int) < (T.length:Int)):=λz=>by
   have:=List.getElem?_eq_none_iff.mp e;have e2:T.cps.toList.length=T.length:=by simp[C5]
   omega
  rw[if_neg (by simpa using this)];have:at1 T n sg=false:=by unfold at1;rw[e]
  rw[this]at q;exact q
 | some c=>
  have l1:n < T.length:=by have:=(Ai.mp e).1;simpa[C5]using this
  rw[if_pos (by simpa using l1)];have:at1 T n sg=occ sg c:=by unfold at1;rw[e]
  rw[this]at q;exact⟨.ref p,rfl,p,C,dx,_,.str T,rfl,hp,R.cl,R.t,rfl,.ref p,rfl,p,C,dx,_,.int n,rfl,hp,R.cl,R.p,rfl,.inr (.inr ⟨T,n,c,rfl,rfl,hT,atI_n e,.str sg,rfl,_,_,rfl,rfl,q⟩)⟩
structure Mt(P:re)(w:sK)(K:Aa)(mg:Str->Option ce)(base:lm)(C:db)(m:Str)(k:Nat)(ps:List Str)(sp:Sp) where
 f:db
 fd:wn
 m:Meth K C m f
 ok:bx P w K mg base fD k f fd ps sp
 bi:Binds K fd ps []
def OffP(p:db)(H H':Hp):Prop:=∀b,b≠p->H' b=H b
def OffP.trans{p:db}(a:OffP p H H1)(b:OffP p H1 H2):OffP p H H2:=λc n=>(b c n).trans (a c n)
def spTakeR(C:db):Sp:=λvs H Q _=>∃(p:db) (T:Str) (n:Nat) (s:Str) (c:Nat),vs=[.ref p,.str s]/\RdA C p T n H/\T.length<=sizeLine/\T.cps.toList[n]?=al c/\occ s c=true/\∀H',OffP p H H'->RdA C p T (n+1) H'->Q (.str ⟨#[c]⟩) H'
abbrev MtS(P:re)(w:sK)(K:Aa)(mg:Str->Option ce)(base:lm)(C:db):=Mt P w K mg base C "stands_at" 1 ["self","signs"] (spStands C)
abbrev MtT(P:re)(w:sK)(K:Aa)(mg:Str->Option ce)(base:lm)(C:db):=Mt P w K mg base C "take" 2 ["self","signs"] (spTakeR C)
def at1_of{s:Str}{c:Nat}(e:T.cps.toList[n]?=al c):at1 T n s=occ s c:=by unfold at1;rw[e]
theorem ok_take(R:RdK K mg C)(S:MtS P w K mg base C)(F:Fun K "take" "Reader.take" (clsM 2 sR) f fd):bx P w K mg base fD 2 f fd ["self","signs"] (spTakeR C):=by
 refine F.ok (N:=["self","signs"]) rG (λvs H Q E h=>?_) (λbO A outer s H vs Q E hr h=>?_)
 ·obtain⟨_,_,_,_,_,rfl,_⟩:=h;rfl
 obtain⟨p,T,n,sg,c,rfl,⟨dx,hp⟩,hT,hc,ho,q⟩:=h;refine⟨_,aJ (iI (mO (mN (dY (pv 0) R.cl S.m S.ok hr S.bi .nil dZ (ak (pv 1) aD)))) (a9 kl) dW) (aJ (qK (pv 0) (km wV (gj (pv 0) rfl) de) rfl) (a9 (cU (gh (c0 K rfl) (gj (pv 0) rfl) (km wR (gj (pv 0) rfl) de) (λ_ _=>rfl))))),?_⟩;refine⟨.ref p,rfl,p,dx,_,rfl,hp,rfl,.str sg,rfl,p,T,n,sg,rfl,⟨dx,hp⟩,hT,_,rfl,?_⟩;rw[at1_of hc,ho];refine⟨.ref p,rfl,p,C,dx,_,.int n,rfl,hp,R.cl,R.p,rfl,_,_,rfl,rfl,.ref p,rfl,p,C,dx,_,rfl,hp,R.cl,R.p,(by show 2 < 1000;decide),?_⟩;have e1:upd H p (.ins C dx (fP "place" (.int ((n:Int)+1)) [("text",.str T),("place",.int n)])) p=al (.ins C dx [("text",.str T),("place",.int ((n+1:Nat):Int))]):=aF;have e2:OffP p H (upd H p (.ins C dx (fP "place" (.int ((n:Int)+1)) [("text",.str T),("place",.int n)]))):=λb nb=>ax nb;generalize upd H p (.ins C dx (fP "place" (.int ((n:Int)+1)) [("text",.str T),("place",.int n)]))=H1 at e1 e2;refine⟨.ref p,rfl,p,C,dx,_,.str T,rfl,e1,R.cl,R.t,rfl,.ref p,rfl,p,C,dx,_,.int ((n+1:Nat):Int),rfl,e1,R.cl,R.p,rfl,_,_,rfl,rfl,.inr (.inr ⟨T,_,c,rfl,rfl,hT,?_,q H1 e2 ⟨dx,e1⟩⟩)⟩;have:((n+1:Nat):Int)-1=(n:Int):=by omega
 rw[this];exact atI_n hc
def Run(T s:Str)(n most:Nat)(u:O Nat):Prop:=u≠[]/\u.length<=most/\(∀i,i < u.length->T.cps.toList[n+i]?=u[i]?)/\(∀c∈u,occ s c=true)/\(u.length=most\/at1 T (n+u.length) s=false)
def spMany(C:db):Sp:=λvs H Q _=>∃(p:db) (T:Str) (n:Nat) (s:Str) (most:Nat) (u:O Nat),vs=[.ref p,.str s,.int most]/\RdA C p T n H/\T.length<=sizeLine/\most<=100/\Run T s n most u/\∀H',OffP p H H'->RdA C p T (n+u.length) H'->Q (.str ⟨u.toArray⟩) H'
theorem ok_many(R:RdK K mg C)(S:MtS P w K mg base C)(M:MtT P w K mg base C)(F:Fun K "take_many" "take_many" (tpR 12) f fd):bx P w K mg base fD 3 f fd ["reader","signs","most"] (spMany C):=by
 have nd:(["reader","signs","most","told"]:O Str).Nodup:=by decide
 refine F.ok (N:=["reader","signs","most","told"]) rG (λvs H Q E h=>?_) (λbO A outer s H vs Q E hr h=>?_)
 ·obtain⟨_,_,_,_,_,_,rfl,_⟩:=h;rfl
 obtain⟨p,T,n,sg,most,u,rfl,hR,hT,hm,⟨u0,u1,u2,u3,u4⟩,q⟩:=h;refine⟨_,aJ (cK (i:=3) nd rfl (Bm rfl) (dY (pv 0) R.cl M.m M.ok hr M.bi .nil dZ (ak (pv 1) aD))) (aJ (f7 AJ (PW.pt (qJ (fe tm (bT (dz K rfl) (by rfl) R.len DB (ak (pv 3) aD)) (pv 2) (cy _)) (mK (mN (dY (pv 0) R.cl S.m S.ok (hr.mono ⋯) S.bi .nil dZ (ak (pv 1) aD)))))) (a9 (cK (i:=3) nd rfl (Bm rfl) (km (tD K rfl) (pv 3) (dY (pv 0) R.cl M.m M.ok hr M.bi .nil dZ (ak (pv 1) aD)))))) (a9 (cU (pv 3)))),?_⟩;obtain⟨dx,hp⟩:=hR;have ul:0 < u.length:=Dq.mpr u0;have t0:T.cps.toList[n]?=al u[0]:=by
  have:=u2 0 ul;rw[Nat.add_zero]at this;rw[this,Ag ul]
 refine⟨.ref p,rfl,p,dx,_,rfl,hp,rfl,.str sg,rfl,p,T,n,sg,u[0],rfl,⟨dx,hp⟩,hT,t0,u3 _ (DZ ul),λH1 o1 r1=>?_⟩;refine⟨λm σ H2=>∃i,0 < i/\i<=u.length/\m=u.length-i/\σ=[al (.ref p),al (.str sg),al (.int most),al (.str ⟨(u.take i).toArray⟩)]/\OffP p H H2/\RdA C p T (n+i) H2,⟨_,1,by omega,ul,rfl,?_,o1,r1⟩,?_⟩
 ·cases u with
  | nil=>exact absurd rfl u0
  | cons a u=>rfl
 rintro m σ H2 ⟨i,i0,i1,rfl,rfl,o2,r2⟩;have len:(⟨(u.take i).toArray⟩:Str).length=i:=by simp[C5];omega
 refine⟨.str _,rfl,.str _,i,rfl,⟨by rw[len];exact Ba (by omega:i<=100) ⋯,len.symm⟩,.int most,rfl,_,_,rfl,rfl,_,rfl,?_⟩;obtain⟨GJ,h2⟩:=r2;by_cases c:i < most
 ·rw[if_pos (by simpa using c)];refine⟨.ref p,rfl,p,GJ,_,rfl,h2,rfl,.str sg,rfl,p,T,n+i,sg,rfl,⟨GJ,h2⟩,hT,_,rfl,?_⟩;by_cases d:i < u.length
  ·have ti:T.cps.toList[n+i]?=al u[i]:=by rw[u2 i d,Ag d]
   rw[at1_of ti,u3 _ (DZ d)];refine gX ?_;refine⟨λσ' H'=>σ'=[al (.ref p),al (.str sg),al (.int most),al (.str ⟨(u.take (i+1)).toArray⟩)]/\OffP p H H'/\RdA C p T (n+(i+1)) H',?_,?_⟩
   ·rintro σ' H' ⟨z1,z2,z3⟩;exact⟨u.length-(i+1),by omega,i+1,by omega,d,rfl,z1,z2,z3⟩
   ·refine⟨.str _,rfl,.ref p,rfl,p,GJ,_,rfl,h2,rfl,.str sg,rfl,p,T,n+i,sg,u[i],rfl,⟨GJ,h2⟩,hT,ti,u3 _ (DZ d),λH3 o3 r3=>⟨_,rfl,?_,?_⟩⟩
    ·rw[len];exact Ba (by show i+1<=101;omega:i+1<=101) ⋯
    ·refine⟨?_,o2.trans o3,by rw[<- BV];exact r3⟩;have:(⟨(u.take i).toArray⟩:Str)++(⟨#[u[i]]⟩:Str)=⟨(u.take (i+1)).toArray⟩:=by
      show(⟨(u.take i).toArray++#[u[i]]⟩:Str)=_;congr 1;rw[Cb,Ag d];simp
     rw[this];rfl
  ·have iu:i=u.length:=by omega
   have z:at1 T (n+i) sg=false:=by
    rcases u4 with z | z
    ·omega
    ·rw[iu];exact z
   rw[z];refine eU ?_;refine⟨_,rfl,?_⟩;rw[Bh ∅];exact q H2 o2 ⟨GJ,by rw[<- iu];exact h2⟩
 ·rw[if_neg (by simpa using c)];refine eU ?_;refine⟨_,rfl,?_⟩;have iu:i=u.length:=by omega
  rw[Bh ∅];exact q H2 o2 ⟨GJ,by rw[<- iu];exact h2⟩
structure KpP(p:db)(H H':Hp):Prop where
 k:∀c o,c≠p->H c=al o->H' c=al o
 t:∀c,H' c=bn->H c=bn
def KpP.trans{p:db}(a:KpP p H H1)(b:KpP p H1 H2):KpP p H H2:=⟨λc o n h=>b.k c o n (a.k c o n h),λc h=>a.t c (b.t c h)⟩
def KpP.same{p:db}(s:dh H H'):KpP p H H':=⟨λc o _ h=>s c o h,λc h=>by
 cases e:H c with
 | none=>rfl
 | some o=>rw[s c o e]at h;cases h⟩
def KpP.off{p:db}(o:OffP p H H')(r:RdA C p T n H'):KpP p H H':=⟨λc u nc h=>(o c nc).trans h,λc h=>by
 by_cases e:c=p
 ·subst e;obtain⟨dx,r⟩:=r;rw[r]at h;cases h
 ·rw[<- o c e];exact h⟩
def RdA.same{p:db}(s:dh H H')(r:RdA C p T n H):RdA C p T n H':=let ⟨dx,r⟩:=r;⟨dx,s _ _ r⟩
abbrev FrF:=Str->Nat->Option (PV×Bool×Nat)
def spFront(K:Aa)(C:db)(fr:FrF):Sp:=λvs H Q _=>∃(p:db) (T:Str) (n:Nat) (x:PV) (b:Bool) (n':Nat),vs=[.ref p]/\RdA C p T n H/\T.length<=sizeLine/\fr T n=al (x,b,n')/\∀u a H',KpP p H H'->RdA C p T n' H'->H' a=al (.tup [u,.bl b])->VR K [] H' u x->Q (.ref a) H'
abbrev LTR:Str:="abcdefghijklmnopqrstuvwxyz"
def wdAt(T:Str)(n:Nat):O Nat:=((T.cps.toList.drop n).take 8).takeWhile (occ LTR)
def frT:FrF:=λT n=>if at1 T n "("=true then al (.tup [],true,n+1) else if wdAt T n=[] then bn else al (.str ⟨(wdAt T n).toArray⟩,false,n+(wdAt T n).length)
theorem tw_get{f:α->Bool}:∀{l:List α}{i:Nat},i < (l.takeWhile f).length->l[i]?=(l.takeWhile f)[i]?
 | [],i,h=>by simp at h
 | a::l,i,h=>by
  by_cases c:f a=true
  ·rw[Ct c]at h ⊢;cases i with
   | zero=>rfl
   | succ i=>simpa using tw_get (l:=l) (by simpa using h)
  ·rw[B1 c]at h;simp at h
theorem tw_all{f:α->Bool}:∀{l:List α}{c:α},c∈l.takeWhile f->f c=true
 | [],c,h=>by simp at h
 | a::l,c,h=>by
  by_cases e:f a=true
  ·rw[Ct e]at h;rcases AA.mp h with rfl | h
   ·exact e
   ·exact tw_all h
  ·rw[B1 e]at h;simp at h
theorem tw_end{f:α->Bool}:∀{l:List α},(l.takeWhile f).length=l.length\/∃a,l[(l.takeWhile f).length]?=al a/\f a=false
 | []=>.inl rfl
 | a::l=>by
  by_cases c:f a=true
  ·rw[Ct c];rcases tw_end (f:=f) (l:=l) with h | ⟨x,h1,h2⟩
   ·exact .inl (by simp[h])
   ·exact .inr ⟨x,by simpa using h1,h2⟩
  ·rw[B1 c];exact .inr ⟨a,rfl,by simpa using c⟩
theorem run_wd(h:wdAt T n≠[]):Run T LTR n 8 (wdAt T n):=by
 have l8:(wdAt T n).length<=8:=Ba (List.takeWhile_sublist _).length_le (by rw[Bb];omega);refine⟨h,l8,λi hi=>?_,λc hc=>?_,?_⟩
 ·have:=tw_get (l:=(T.cps.toList.drop n).take 8) (f:=occ LTR) hi;rw[show(wdAt T n)[i]?=_ from this.symm,BD,if_pos ∅,List.getElem?_drop]
 ·exact tw_all hc
 ·rcases tw_end (f:=occ LTR) (l:=(T.cps.toList.drop n).take 8) with z | ⟨a,z1,z2⟩
  ·by_cases c:(wdAt T n).length=8
   ·exact .inl c
   ·refine .inr ?_;have z':(wdAt T n).length=((T.cps.toList.drop n).take 8).length:=z;rw[Bb,CA]at z';unfold at1;rw[C3 ∅]
  ·have z1:((T.cps.toList.drop n).take 8)[(wdAt T n).length]?=al a:=z1;rw[BD]at z1
   split at z1
   ·rw[List.getElem?_drop]at z1;exact .inr (by rw[at1_of z1];exact z2)
   ·cases z1
def ok_front{t2:Tok}(R:RdK K mg C)(S:MtS P w K mg base C)(M:MtT P w K mg base C)(G:qi P w K mg base "take_many" 3 ["reader","signs","most"] (spMany C))(hl:mg "LETTERS"=al (.str LTR t1))(hn:mg "LONGEST_WORD"=al (.int 8 t2))(F:Fun K "take_tree_front" "take_tree_front" (tpR 13) f fd):bx P w K mg base fD 4 f fd ["reader"] (spFront K C frT):=by
 refine F.ok (N:=["reader"]) rG (λvs H Q E h=>?_) (λbO A outer s H vs Q E hr h=>?_)
 ·obtain⟨_,_,_,_,_,_,rfl,_⟩:=h;rfl
 obtain⟨p,T,n,x,b,n',rfl,hR,hT,hf,q⟩:=h;refine⟨_,aJ (iI (mN (dY (pv 0) R.cl S.m S.ok (hr.mono ⋯) S.bi .nil dZ (ak gc aD))) (aJ (dX (dY (pv 0) R.cl M.m M.ok (hr.mono ⋯) M.bi .nil dZ (ak gc aD))) (a9 (cU (iK (ak (iK aD) (ak wN aD)))))) dW) (a9 (cU (iK (ak (kn G hr (Aj _) rfl (ak (pv 0) (ak (gJ (v:=.str LTR) rfl hl ⟨_,rfl⟩) (ak (gJ (v:=.int 8) rfl hn ⟨_,rfl⟩) aD)))) (ak wN aD))))),?_⟩;obtain⟨dx,hp⟩:=id hR;refine⟨.ref p,rfl,p,dx,_,rfl,hp,rfl,p,T,n,"(",rfl,hR,hT,_,rfl,?_⟩;unfold frT at hf;by_cases c:at1 T n "("=true
 ·rw[if_pos c]at hf;cases hf;rw[c];refine gX ?_;obtain⟨ch,h1,h2,_⟩:=at1_lt c;refine⟨.ref p,rfl,p,dx,_,rfl,hp,rfl,p,T,n,"(",ch,rfl,hR,hT,h1,h2,λH1 o1 r1=>?_⟩;refine⟨by decide,λa1 H2 s2 e2 n2=>⟨by show 2<=sizeLine;decide,λa2 H3 s3 e3 n3=>?_⟩⟩;exact q (.ref a1) a2 H3 ((KpP.off o1 r1).trans ((KpP.same s2).trans (KpP.same s3))) ((r1.same s2).same s3) e3 (.tup (s3 _ _ e2) .nil)
 ·have c':at1 T n "("=false:=by simpa using c
  rw[c']at hf ⊢;refine eU ?_;rw[if_neg ⋯]at hf
  split at hf
  ·cases hf
  next hw=>
  cases hf;refine⟨.ref p,rfl,p,T,n,LTR,8,wdAt T n,rfl,hR,hT,by decide,run_wd hw,λH1 o1 r1=>⟨by show 2<=sizeLine;decide,λa2 H3 s3 e3 n3=>?_⟩⟩;exact q _ a2 H3 ((KpP.off o1 r1).trans (KpP.same s3)) (r1.same s3) e3 (.str _)
end
end My
variable{o:L2.HO}{q:AL}{bs:O AL}{S:AL->Prop}
namespace My
abbrev Stk:=O (O PV×Option PV)
def ent:O PV×Option PV->O PV
 | (f,bn)=>[.tup f]
 | (f,al x)=>[.tup f,x]
def Ents(K:Aa)(H:Hp):O db->Stk->Prop
 | [],[]=>True
 | b::bs,e::st=>(∃ws,H b=al (.lst ws)/\aA K [] H ws (ent e)/\e.1.length<=100)/\Ents K H bs st
 | _,_=>False
structure WtA(K:Aa)(w:db)(bs:List db)(st:Stk)(H:Hp):Prop where
 h:H w=al (.lst (bs.reverse.map V.ref))
 nw:w∉bs
 nd:bs.Nodup
 e:Ents K H bs st
 z:st.length<=1000
section
variable{K:Aa}{H H':Hp}{p w:db}
def tk1(k:∀c o,c≠q->H c=al o->H' c=al o)(e:H q=al o)(h:o.ow=true):aN K H H':=
 ⟨λc vs z=>k c _ (λy=>by subst y;rw[e]at z;cases z;cases h) z,λc _ u z=>k c _ (λy=>by subst y;rw[e]at z;cases z;cases h) z,xk λc φ z=>k c _ (λy=>by subst y;rw[e]at z;cases z;cases h) z⟩
theorem Ents.mono(t:aN K H H'):∀{bs:O db}{st:Stk},(∀b∈bs,∀o,H b=al o->H' b=al o)->Ents K H bs st->Ents K H' bs st
 | [],[],_,h=>h
 | b::bs,e::st,k,⟨⟨ws,h1,h2,h3⟩,h4⟩=>⟨⟨ws,k b (.head _) _ h1,aA.tk t h2,h3⟩,Ents.mono t (λc hc=>k c (.tail _ hc)) h4⟩
 | [],_::_,_,h=>h
 | _::_,[],_,h=>h
theorem Ents.len:∀{bs:O db}{st:Stk},Ents K H bs st->bs.length=st.length
 | [],[],_=>rfl
 | _::_,_::_,h=>congrArg (·+1) (Ents.len h.2)
 | [],_::_,h=>h.elim
 | _::_,[],h=>h.elim
theorem Ents.lst:∀{bs:O db}{st:Stk},Ents K H bs st->∀b∈bs,∃ws,H b=al (.lst ws)
 | _::_,_::_,⟨⟨ws,h1,_⟩,h⟩,b,hb=>(AA.mp hb).elim (λz=>z▸⟨ws,h1⟩) λz=>Ents.lst h b z
 | [],_,_,b,hb=>by simp at hb
 | _::_,[],h,_,_=>h.elim
structure KpS(S:db->Prop)(H H':Hp):Prop where
 k:∀c o,¬S c->H c=al o->H' c=al o
 t:∀c,H' c=bn->H c=bn
def KpS.refl:KpS S H H:=⟨λ_ _ _ h=>h,λ_ h=>h⟩
def KpS.trans(a:KpS S H H1)(b:KpS S H1 H'):KpS S H H':=⟨λc o n h=>b.k c o n (a.k c o n h),λc h=>a.t c (b.t c h)⟩
def KpP.s(a:KpP q H H')(h:S q):KpS S H H':=⟨λc o n e=>a.k c o (λz=>n (z▸h)) e,a.t⟩
def KpS.same(s:dh H H'):KpS S H H':=⟨λc o _ h=>s c o h,(KpP.same (p:=0) s).t⟩
theorem KpS.x(x:hO q H H')(e:H' q=al o)(h:S q):KpS S H H':=⟨λc u n z=>x c u (λy=>n (y▸h)) z,λc z=>by
 cases y:H c with
 | none=>rfl
 | some u=>
  by_cases d:c=q
  ·subst d;rw[e]at z;cases z
  ·rw[x c u d y]at z;cases z⟩
def beh(T:Str):Nat->Stk->PV->Option (PV×Nat×Stk)
 | n,[],x=>al (x,n,[])
 | n,(f,bn)::st,x=>if at1 T n ","=true then al (.aB,n+1,(f,al x)::st) else bn
 | n,(f,al y)::st,x=>if at1 T n ")"=true then beh T (n+1) st (.tup (f++[y,x])) else bn
def OwnS(p w:db)(bs:O db):db->Prop:=λc=>c=p\/c=w\/c∈bs
def spBehind(K:Aa)(C:db):Sp:=λvs H Q _=>∃(p w:db) (u:V) (T:Str) (n:Nat) (bs:O db) (st:Stk) (x y:PV) (n':Nat) (kb:Stk),vs=[.ref p,.ref w,u]/\RdA C p T n H/\WtA K w bs st H/\VR K [] H u x/\T.length<=sizeLine/\beh T n st x=al (y,n',kb)/\
 ∀u' MF H',KpS (OwnS p w bs) H H'->RdA C p T n' H'->WtA K w MF kb H'->(∀b∈MF,b∈bs)->VR K [] H' u' y->Q u' H'
def WtA.pw{st:Stk}(h:WtA K w bs st H)(r:RdA C p T n H):p≠w/\p∉bs:=by
 obtain⟨dx,r⟩:=r;refine⟨λz=>?_,λz=>?_⟩
 ·subst z;rw[h.h]at r;cases r
 ·obtain⟨ws,e⟩:=h.e.lst p z;rw[e]at r;cases r
def WtA.mono{st:Stk}(h:WtA K w bs st H)(t:aN K H H')(k:∀b,b=w\/b∈bs->∀o,H b=al o->H' b=al o):WtA K w bs st H':=⟨k w (.inl rfl) _ h.h,h.nw,h.nd,h.e.mono t λb hb=>k b (.inr hb),h.z⟩
end
section
variable{K:Aa}
theorem ok_behind(R:RdK K mg C)(M:MtT P w K mg base C)(F:Fun K "take_behind" "take_behind" (tpR 14) f fd):bx P w K mg base fD 3 f fd ["reader","waiting","part"] (spBehind K C):=by
 have nd:(["reader","waiting","part","opened"]:O Str).Nodup:=by decide
 refine F.ok (N:=["reader","waiting","part","opened"]) rG (λvs H Q E h=>?_) (λbO A outer s H vs Q E hr h=>?_)
 ·obtain⟨_,_,_,_,_,_,_,_,_,_,_,rfl,_⟩:=h;rfl
 obtain⟨p,wt,u,T,n,bs,st,x,y,n',kb,rfl,hR,hW,hu,hT,hb,q⟩:=h;refine⟨_,aJ (f7 AJ (PW.pt (qJ (eL K rfl (pv 1) (λ_=>rfl)) (mK (fe K3 (bT (dz K rfl) (by rfl) R.len DB (ak (gh (c0 K rfl) (pv 1) (wG qz de) (λ_ _=>rfl)) aD)) de (cy _)))))
  (aJ (dX (dY (pv 0) R.cl M.m M.ok hr M.bi .nil dZ (ak gc aD))) (aJ (cK (i:=3) nd rfl (Bm rfl) (s9 K rfl Bp Ek Ej tH (pv 1)))
   (a9 (cK (i:=2) nd rfl (Bm rfl) (km (tu K rfl) (gh (c0 K rfl) (pv 3) de (λ_ _=>rfl)) (iK (ak (gh (c0 K rfl) (pv 3) de (λ_ _=>rfl)) (ak (pv 2) aD)))))))))
  (aJ (iI (mO (eL K rfl (pv 1) (λ_=>rfl))) (a9 (cU (pv 2))) dW) (aJ (dX (dY (pv 0) R.cl M.m M.ok hr M.bi .nil dZ (ak gc aD)))
   (aJ (dX (mU K rfl Bp CH CG il (gh (c0 K rfl) (pv 1) (wG qz de) (λ_ _=>rfl)) (ak (pv 2) aD))) (a9 (cU mS))))),?_⟩
 refine⟨λm σ H2=>∃n st b2 u x o3,m=st.length/\σ=[al (.ref p),al (.ref wt),al u,o3]/\RdA C p T n H2/\WtA K wt b2 st H2/\VR K [] H2 u x/\beh T n st x=al (y,n',kb)/\KpS (OwnS p wt bs) H H2/\∀b∈b2,b∈bs,⟨_,n,st,bs,u,x,bn,rfl,rfl,hR,hW,hu,hb,.refl,λ_ h=>h⟩,?_⟩;rintro m σ H2 ⟨n2,s2,b2,u2,x2,o3,rfl,rfl,r2,w2,v2,h2,k2,sub⟩;have hl:=w2.e.len;have hz:=w2.z;cases s2 with
 | nil=>
  have:b2=[]:=Bk hl;subst this;refine⟨.ref wt,rfl,false,.inl ⟨[],cp.of w2.h,rfl⟩,eU (eU ⟨.ref wt,rfl,false,.inl ⟨[],cp.of w2.h,rfl⟩,gX ⟨u2,rfl,?_⟩⟩)⟩;cases h2;exact q u2 [] H2 k2 r2 w2 (λ_ h=>(nomatch h)) v2
 | cons e s2=>
 cases b2 with
 | nil=>cases hl
 | cons b b2=>
 obtain⟨⟨ws,LP,Nu,PM⟩,he⟩:=id w2.e;have Ng:H2 wt=al (.lst (b2.reverse.map V.ref++[.ref b])):=by rw[w2.h];simp
 have nb:=B3.mp w2.nd;have nw:=w2.nw;obtain⟨pw,pb⟩:=w2.pw r2;have bw:b≠wt:=λz=>nw (by rw[<- z];exact .head _);have OQ:b≠p:=λz=>pb (by rw[<- z];exact .head _);have QK:FY K (.ref wt) H2 true:=.inl ⟨_,cp.of Ng,by simp⟩;refine⟨.ref wt,rfl,true,QK,gX ⟨.ref wt,rfl,1,rfl,.inl ⟨wt,_,-1,.ref b,rfl,rfl,cp.of Ng,gF _ _,.ref b,ws.length,rfl,.inl ⟨ws,cp.of LP,rfl⟩,rfl,_,rfl,?_⟩⟩⟩;obtain⟨fr,eo⟩:=e;cases eo with
 | none=>
  cases Nu with
  | cons r0 t0=>
  cases t0;refine eU ⟨.ref wt,rfl,true,QK,eU ?_⟩;have h2:(if at1 T n2 ","=true then al (PV.aB,n2+1,(fr,al x2)::s2) else bn)=al (y,n',kb):=h2;by_cases c:at1 T n2 ","=true
  ·rw[if_pos c]at h2;cases h2;obtain⟨ch,c1,c2,_⟩:=at1_lt c;obtain⟨dx,hp⟩:=id r2;refine⟨.ref p,rfl,p,dx,_,rfl,hp,rfl,p,T,n2,",",ch,rfl,r2,hT,c1,c2,λH3 xb r3=>?_⟩;have t3:aN K H2 H3:=tk1 (λc u nc z=>(xb c nc).trans z) hp rfl;have e3:H3 wt=al (.lst (b2.reverse.map V.ref++[.ref b])):=(xb wt pw.symm).trans Ng;have f3:=(xb b OQ).trans LP;refine⟨.ref wt,rfl,1,rfl,.inl ⟨wt,_,-1,.ref b,rfl,rfl,cp.of e3,gF _ _,qH f3,u2,rfl,b,_,u2,rfl,rfl,f3,by show 1 < sizeLine;decide,λH4 x4 h4=>?_⟩⟩;have t4:aN K H3 H4:=tk1 (λc u nc z=>x4 c u nc z) f3 rfl;refine q .aB (b::b2) H4 ((k2.trans ((KpP.off xb r3).s (.inl rfl))).trans (KpS.x x4 h4 (.inr (.inr (sub b (.head _)))))) ?_ ?_ sub .aB
   ·obtain⟨Mj,r3⟩:=r3;exact⟨Mj,x4 _ _ OQ.symm r3⟩
   ·refine⟨?_,nw,w2.nd,⟨⟨_,h4,.cons (VR.tk t4 (VR.tk t3 r0)) (.cons (VR.tk t4 (VR.tk t3 v2)) .nil),PM⟩,?_⟩,hz⟩
    ·have:=x4 _ _ bw.symm e3;rw[this];simp
    ·refine(he.mono t3 λc hc o z=>(xb c λy=>pb (y▸.tail _ hc)).trans z).mono t4 λc hc o z=>x4 c o (λy=>nb.1 (y▸hc)) z
  ·rw[if_neg c]at h2;cases h2
 | some y0=>
  cases Nu with
  | cons r0 t0=>
  cases t0 with
  | cons r1 t1=>
  cases t1;rename_i v0 v1;have h2:(if at1 T n2 ")"=true then beh T (n2+1) s2 (.tup (fr++[y0,x2])) else bn)=al (y,n',kb):=h2;by_cases c:at1 T n2 ")"=true
  ·rw[if_pos c]at h2;obtain⟨ch,c1,c2,_⟩:=at1_lt c;obtain⟨dx,hp⟩:=id r2;refine gX ⟨λσ' H'=>∃n st b2 u x o3,st.length=s2.length/\σ'=[al (.ref p),al (.ref wt),al u,o3]/\RdA C p T n H'/\WtA K wt b2 st H'/\VR K [] H' u x/\beh T n st x=al (y,n',kb)/\KpS (OwnS p wt bs) H H'/\∀b∈b2,b∈bs,?_,?_⟩
   ·rintro σ' H' ⟨n,st,b2,u,x,o3,z1,z2⟩;exact⟨_,by rw[Av,z1];exact Bq _,n,st,b2,u,x,o3,rfl,z2⟩
   refine⟨.ref p,rfl,p,dx,_,rfl,hp,rfl,p,T,n2,")",ch,rfl,r2,hT,c1,c2,λH3 xb r3=>?_⟩;have t3:aN K H2 H3:=tk1 (λc u nc z=>(xb c nc).trans z) hp rfl;have e3:H3 wt=al (.lst (b2.reverse.map V.ref++[.ref b])):=(xb wt pw.symm).trans Ng;have f3:=(xb b OQ).trans LP;refine⟨.ref wt,rfl,qH e3,wt,_,.ref b,rfl,rfl,e3,λH4 x4 h4=>?_⟩;have t4:aN K H3 H4:=tk1 (λc u nc z=>x4 c u nc z) e3 rfl;have f4:=x4 _ _ bw f3;refine⟨.ref b,rfl,.inl ⟨b,_,0,v0,rfl,rfl,cp.of f4,rfl,.ref b,rfl,.inl ⟨b,_,1,v1,rfl,rfl,cp.of f4,rfl,u2,rfl,by show 2<=sizeLine;decide,λa5 H5 s5 e5 n5=>?_⟩⟩⟩;have tt:=(t3.trans t4).trans s5.dj;have kk:KpS (OwnS p wt bs) H H5:=((k2.trans ((KpP.off xb r3).s (.inl rfl))).trans (KpS.x x4 h4 (.inr (.inl rfl)))).trans (KpS.same s5);have r5:RdA C p T (n2+1) H5:=let ⟨Mj,r3⟩:=r3;⟨Mj,s5 _ _ (x4 _ _ pw r3)⟩;have w5:WtA K wt b2 s2 H5:=⟨s5 _ _ h4,λz=>nw (.tail _ z),nb.2,he.mono tt λc hc o z=>s5 _ _ (x4 c o (λy=>nw (y▸.tail _ hc)) ((xb c λy=>pb (y▸.tail _ hc)).trans z)),by simp at hz;omega⟩;have Jv:=VR.tk tt v2;have Si:=VR.tk tt r0;have oP:=VR.tk tt r1;have SA:(fr:O PV).length<=100:=PM;cases Si with
   | @tup p0 MV _ S9 OG=>
   have l0:MV.length<=100:=by rw[OG.length];exact PM
   refine⟨p0,a5,MV,[v1,u2],rfl,rfl,cf.of S9,cf.of e5,Ba (by show MV.length+2<=102;omega:MV.length+2<=102) ⋯,λz=>?_,λ_ z=>(by cases z),λ_ _ a6 H6 s6 e6 n6=>?_⟩
   ·subst z;have z2:=OG.length;have:fr=[]:=Bk z2.symm;subst this;exact⟨_,s2,b2,.ref a5,_,al (.ref b),rfl,rfl,r5,w5,.tup e5 (.cons oP (.cons Jv .nil)),h2,kk,λc hc=>sub c (.tail _ hc)⟩
   ·have t6:=s6.dj (K:=K);exact⟨_,s2,b2,.ref a6,_,al (.ref b),rfl,rfl,r5.same s6,w5.mono t6 λc _ o z=>s6 c o z,.tup e6 ((aA.tk t6 OG).append (.cons (VR.tk t6 oP) (.cons (VR.tk t6 Jv) .nil))),h2,kk.trans (KpS.same s6),λc hc=>sub c (.tail _ hc)⟩
  ·rw[if_neg c]at h2;cases h2
end
def rdN(T:Str)(fr:FrF):Nat->Nat->Stk->Option (PV×Nat)
 | 0,_,_=>bn
 | k+1,n,st=>match fr T n with
  | some (.tup f,true,n1)=>if f.length<=100/\st.length < 1000 then rdN T fr k n1 ((f,bn)::st) else bn
  | some (x,false,n1)=>match beh T n1 st x with
   | some (.aB,n2,lz)=>rdN T fr k n2 lz
   | some (y,n2,_)=>al (y,n2)
   | none=>bn
  | _=>bn
def rdN_some{fr:FrF}:∀{k n:Nat}{st:Stk}{y:PV}{n':Nat},rdN T fr (k+1) n st=al (y,n')->(∃f n1,fr T n=al (.tup f,true,n1)/\f.length<=100/\st.length < 1000/\rdN T fr k n1 ((f,bn)::st)=al (y,n'))\/
  ∃x n1,fr T n=al (x,false,n1)/\((∃n2 lz,beh T n1 st x=al (.aB,n2,lz)/\rdN T fr k n2 lz=al (y,n'))\/∃lz,beh T n1 st x=al (y,n',lz)/\y≠.aB):=by
 intro k n st y n' h;unfold rdN at h
 split at h
 ·next f n1 e=>
  split at h
  ·next c=>exact .inl ⟨f,n1,e,c.1,c.2,h⟩
  ·cases h
 ·next x n1 e=>
  refine .inr ⟨x,n1,e,?_⟩
  split at h
  ·next n2 lz e2=>exact .inl ⟨n2,lz,e2,h⟩
  ·next y2 n2 lz ne e2=>
   cases h;exact .inr ⟨_,e2,λz=>ne z⟩
  ·cases h
 ·cases h
def vr_non{K:Aa}{y:PV}(h:VR K [] H .aB y):y=.aB:=by cases h;rfl
def spNest(K:Aa)(C ff:db)(fr:FrF):Sp:=λvs H Q _=>∃(p:db) (T:Str) (n k:Nat) (y:PV) (n':Nat),vs=[.ref p,.ref ff]/\RdA C p T n H/\T.length<=sizeLine/\rdN T fr k n []=al (y,n')/\∀u H',KpP p H H'->RdA C p T n' H'->VR K [] H' u y->Q u H'
section
variable{P:re}{w:sK}{K:Aa}{mg:Str->Option ce}{base:lm}{f C:db}{fd:wn}
theorem KpS.p{S:db->Prop}{p:db}{H H1 H2:Hp}(k:KpP p H H1)(a:KpS S H1 H2)(h:∀c,S c->c=p\/H c=bn):KpP p H H2:=⟨λc o n e=>a.k c o (λz=>by
 rcases h c z with z | z
 ·exact n z
 ·rw[z]at e;cases e) (k.k c o n e),λc e=>k.t c (a.t c e)⟩
theorem ok_nest{fr:FrF}{xf:Str}(G:qi P w K mg base xf 4 ["reader"] (spFront K C fr))(B:qi P w K mg base "take_behind" 3 ["reader","waiting","part"] (spBehind K C))(F:Fun K "take_nested" "take_nested" (tpR 15) f fd):bx P w K mg base fD 5 f fd ["reader","take_front"] (spNest K C G.f fr):=by
 have nd:(["reader","take_front","waiting","whole","front"]:O Str).Nodup:=by decide
 refine F.ok (N:=["reader","take_front","waiting","whole","front"]) rG (λvs H Q E h=>?_) (λbO A outer s H vs Q E hr h=>?_)
 ·obtain⟨_,_,_,_,_,_,rfl,_⟩:=h;rfl
 obtain⟨p,T,n,k,y,n',rfl,hR,hT,hk,q⟩:=h;refine⟨_,aJ (cK (i:=2) nd rfl (Bm rfl) (mT aD)) (aJ (cK (i:=3) nd rfl (Bm rfl) mS) (aJ (f7 AJ (fe HE (pv 3) mS (cy _))
  (aJ (cK (i:=4) nd rfl (Bm rfl) (zJ G hr (Aj _) (pv 1) (ak (pv 0) aD)))
   (a9 (iI (eL K rfl (gh (c0 K rfl) (pv 4) de (λ_ _=>rfl)) (λ_=>rfl))
    (a9 (dX (mU K rfl Bp CH CG il (pv 2) (ak (mT (ak (gh (c0 K rfl) (pv 4) de (λ_ _=>rfl)) aD)) aD))))
    (a9 (cK (i:=3) nd rfl (Bm rfl) (kn B hr ⋯ rfl (ak (pv 0) (ak (pv 2) (ak (gh (c0 K rfl) (pv 4) de (λ_ _=>rfl)) aD))))))))))
  (a9 (cU (pv 3))))),?_⟩
 refine⟨by decide,λwt H1 s1 e1 n1=>?_⟩;refine⟨λm σ H2=>KpP p H H2/\∃o4,(∃k n st bs,m=k+1/\σ=[al (.ref p),al (.ref G.f),al (.ref wt),al .aB,o4]/\RdA C p T n H2/\WtA K wt bs st H2/\(∀b∈bs,H b=bn)/\rdN T fr k n st=al (y,n'))\/∃u,m=0/\σ=[al (.ref p),al (.ref G.f),al (.ref wt),al u,o4]/\RdA C p T n' H2/\VR K [] H2 u y/\u≠.aB,
  ⟨k+1,.same s1,bn,.inl ⟨k,n,[],[],rfl,rfl,hR.same s1,⟨e1,by simp,by simp,trivial,by decide⟩,λ_ h=>(nomatch h),hk⟩⟩,?_⟩
 rintro m σ H2 ⟨k2,o4,⟨k,n,st,bs,rfl,rfl,r2,w2,hn,h2⟩ | ⟨u,rfl,rfl,r2,v2,ne⟩⟩
 ·refine⟨_,rfl,rfl,true,by simp,gX ?_⟩;refine⟨λσ' H'=>∃m',m' < k+1/\(KpP p H H'/\∃o4,(∃k n st bs,m'=k+1/\σ'=[al (.ref p),al (.ref G.f),al (.ref wt),al .aB,o4]/\RdA C p T n H'/\WtA K wt bs st H'/\(∀b∈bs,H b=bn)/\rdN T fr k n st=al (y,n'))\/∃u,m'=0/\σ'=[al (.ref p),al (.ref G.f),al (.ref wt),al u,o4]/\RdA C p T n' H'/\VR K [] H' u y/\u≠.aB),λ_ _ z=>z,?_⟩;cases k with
  | zero=>cases h2
  | succ k=>
  obtain⟨pw,pb⟩:=w2.pw r2;refine⟨_,rfl,rfl,.ref p,rfl,?_⟩;rcases rdN_some h2 with⟨ff,n3,hf,f1,f2,h3⟩ | ⟨x,n3,hf,h3⟩
  ·refine⟨p,T,n,_,_,n3,rfl,r2,hT,hf,λu3 a3 H3 k3 r3 e3 v3=>?_⟩;obtain⟨dx,hp⟩:=id r2;have t3:aN K H2 H3:=tk1 (λc u nc z=>k3.k c u nc z) hp rfl;have w3:=w2.mono t3 λb hb o z=>k3.k b o (λy=>by
    subst y;rcases hb with hb | hb
    ·exact pw hb
    ·exact pb hb) z
   refine⟨.ref a3,rfl,.inr (.inl ⟨a3,_,1,.bl true,rfl,rfl,cf.of e3,rfl,true,rfl,gX ?_⟩)⟩;refine⟨.ref wt,rfl,qH w3.h,.ref a3,rfl,.inr (.inl ⟨a3,_,0,u3,rfl,rfl,cf.of e3,rfl,by show 1<=sizeLine;decide,λb4 H4 s4 e4 n4=>?_⟩)⟩;have t4:=s4.dj (K:=K);have w4:=w3.mono t4 λc _ o z=>s4 c o z;have bz:(bs.reverse.map V.ref).length < sizeLine:=by
    rw[Al,B6,w2.e.len];exact Aw f2 ⋯
   refine⟨wt,_,_,rfl,rfl,w4.h,bz,λH5 x5 e5=>?_⟩;have t5:aN K H4 H5:=tk1 (λc u nc z=>x5 c u nc z) w4.h rfl;have bw:b4≠wt:=λz=>by subst z;rw[w3.h]at n4;cases n4
   have nb:b4∉bs:=λz=>by obtain⟨ws,z⟩:=w3.e.lst _ z;rw[z]at n4;cases n4
   have QZ:=k2.trans k3;have n0:H b4=bn:=by
    have:=QZ.t b4 n4;exact this
   have r4:=r3.same s4;refine⟨k+1,Bq _,KpS.p (QZ.trans (.same s4)) (KpS.x (S:=λc=>c=wt) x5 e5 rfl) (λc z=>.inr (z▸n1)),_,.inl ⟨k,n3,(ff,bn)::st,b4::bs,rfl,rfl,?_,?_,?_,h3⟩⟩
   ·obtain⟨Mj,r4⟩:=r4;exact⟨Mj,x5 _ _ pw r4⟩
   ·refine⟨by rw[e5];simp,?_,B3.mpr ⟨nb,w2.nd⟩,⟨⟨_,x5 _ _ bw e4,.cons (VR.tk t5 (VR.tk t4 v3)) .nil,f1⟩,w4.e.mono t5 λc hc o z=>x5 c o (λy=>w2.nw (y▸hc)) z⟩,by simp;omega⟩;intro z;rcases AA.mp z with z | z
    ·exact bw z.symm
    ·exact w2.nw z
   ·intro b hb;rcases AA.mp hb with rfl | hb
    ·exact n0
    ·exact hn b hb
  ·refine⟨p,T,n,_,_,n3,rfl,r2,hT,hf,λu3 a3 H3 k3 r3 e3 v3=>?_⟩;obtain⟨dx,hp⟩:=id r2;have t3:aN K H2 H3:=tk1 (λc u nc z=>k3.k c u nc z) hp rfl;have w3:=w2.mono t3 λb hb o z=>k3.k b o (λy=>by
    subst y;rcases hb with hb | hb
    ·exact pw hb
    ·exact pb hb) z
   refine⟨.ref a3,rfl,.inr (.inl ⟨a3,_,1,.bl false,rfl,rfl,cf.of e3,rfl,false,rfl,eU ?_⟩)⟩;refine⟨.ref p,rfl,.ref wt,rfl,.ref a3,rfl,.inr (.inl ⟨a3,_,0,u3,rfl,rfl,cf.of e3,rfl,?_⟩)⟩;have own:∀c,OwnS p wt bs c->c=p\/H c=bn:=λc z=>by
    rcases z with z | z | z
    ·exact .inl z
    ·exact .inr (z▸n1)
    ·exact .inr (hn c z)
   rcases h3 with⟨n4,M3,hb,h4⟩ | ⟨M3,hb,hy⟩
   ·refine⟨p,wt,u3,T,n3,bs,st,x,.aB,n4,M3,rfl,r3,w3,v3,hT,hb,λu' MF H' kk r' w' sub v'=>?_⟩;cases v';exact⟨k+1,Bq _,KpS.p (k2.trans k3) kk own,_,.inl ⟨k,n4,M3,MF,rfl,rfl,r',w',λb hb=>hn b (sub b hb),h4⟩⟩
   ·refine⟨p,wt,u3,T,n3,bs,st,x,y,n',M3,rfl,r3,w3,v3,hT,hb,λu' MF H' kk r' w' sub v'=>?_⟩;exact⟨0,Nat.succ_pos _,KpS.p (k2.trans k3) kk own,_,.inr ⟨u',rfl,rfl,r',v',λz=>hy (vr_non (z▸v'))⟩⟩
 ·refine⟨u,rfl,rfl,false,by simp[ne],eU ⟨u,rfl,q u H2 k2 r2 v2⟩⟩
end
end My
namespace FL
section
variable[bD]
def tCalA(a:db)(fz:O (db×Obj))(sp:Sp)(ta:TE)(t:TA):TE:=λσ H Q=>ta σ H λx H1=>x=.ref a/\mz H1 fz/\t σ H1 λvs H2=>mz H2 fz/\sp vs H2 Q E0
def pe_callA{p:Pos}{x:Str}(G:CalA X.prog X.w X.K X.mg X.base a [] [] fz k ps sp)(hr:bt k' X.A)(hk:k<=k')(hf:PE X (.Name x p) ta)(ha:PA X (e::es) t)
  (he:dA X e es:=by rfl) (bZ:fF X pos es:=by rfl):PE X (.Call (.Name x p) (e::es) [] pos) (tCalA a fz sp ta t):=λU s σ H Q I q=>by
 refine AQ (aY (hf U s σ H _ I q) λv s1 ⟨y,H1,I1,r1,ey,z1,q1⟩=>?_);subst ey;cases r1;have kz:∀{σ':L2.St}{H':Hp}{s':eM},Inv X U σ' H' s'->mz H' fz->EJ a s'.heap:=λJ z=>G.kp _ J.gL J.bk λp hp=>let ⟨u,e⟩:=z p hp;(J.aV _ _ e).1;exact ED (kz I1 z1) (aY (ha pos U s1 σ H1 _ I1 q1) λKa s2 ⟨vs,H2,I2,r,z2,q2⟩=>⟨kz I2 z2,ki G.ok (hr.mono hk) G.bi .nil dZ I2 r (by rw[Bg];exact⟨.nil,z2,q2⟩)⟩) he bZ
section
variable{K:Aa}{L:Lm}
def fn_lamP(I0:LamIn L [] base a [] fz)(S:LamS ps [] L.sc)(len:∀vs H Q E,sp vs H Q E->vs.length=ps.length)
  (hb:∀(cl:O (Str×db)) (pm cv g9:ce) (us:O ce),us.length=ps.length->Db (L.fn cl pm cv g9) ⟨us,[]⟩=pure (ps.zip us))
  (Ä:∀(cl:O (Str×db)) (cv:ce) (A:tz) (outer:O Env) (s:eM) (H:Hp) (vs:O V) (Q:VK) (E:XK),bt k (A.deeper (CV L.q L.sc s.heap.objs.size a cv cl))->sp vs H Q E->∃t,PE (cxL P w K mg base ps L a cl cv A outer s H) L.bd t/\t (vs.map al) H Q) :
  Nonempty (CalA P w K mg base a [] [] fz (k+1) ps sp):=by
 obtain⟨cl,pm,c,g9,co,rfl,ID,jD,Iz,IG⟩:=I0;refine⟨⟨L.fn cl pm (.ref c) g9,⟨λvs H Q E h=>len vs H Q E h.2.2,λA outer s H args Ka vs Q E hr e0 PK r rj=>?_⟩,.all (hb cl pm _ g9),λh _ _ hz=>⟨_,_,_,_,hz (a,_) (AZ ..)⟩⟩⟩;obtain⟨_,z,rj⟩:=rj;obtain⟨_,z1⟩:=z (a,L.ob cl pm (.ref c) g9) (AZ ..);obtain⟨_,z2⟩:=z (c,co) (by simp);have Nq:vs.length=ps.length:=len vs H Q E rj;obtain⟨Qt,ct,d1,d2⟩:=ID;have Sy:∀y∈L.sc.names,y.2≠.free:=λy hy z=>by have:=S.fin y hy z;simp at this
 refine Ep hr.depth ((e0.aV _ _ z1).1) rfl S.co S.gen rfl ⟨c,co,Qt,ct,rfl,((e0.aV _ _ z2).1),d1,d2⟩ (PK _ _ _ _ ?_);refine Df S.noc (λy hy=>S.par _ (CM hy).1) (λh' JH vB=>?_) S.kind;have hk:∀b o,s.heap.get? b=al o->h'.get? b=al o:=λb o e=>by
  rw[vB.2 b (Az (Ao e))];exact Ae _ e
 refine⟨(e0.mod.nolimit.keeps λb o e=>(e0.bs b o e).1).keeps hk,Eo ?_⟩;have kc:∀{c:db}{v:Option ce},base.IsCell c v->h'.IsCell c v:=λ⟨o,h1,h2⟩=>⟨o,hk _ _ (e0.bs _ _ h1).1,h2⟩;have nd:ps.Nodup:=by have:=S.nd;rwa [Bg]at this
 have I:Inv (cxL P w K mg base ps L a cl (.ref c) A outer s H) [] (vs.map al) H {heap:=h',gens:=s.gens,drawn:=s.drawn,toks:=s.toks+(ps.zip Ka).length,os:=s.os}:=by
  refine⟨⟨e0.mod,S.kind,rfl,rfl,Aj _,Iz,λx hx=>?_,λ_ _ z=>(by cases z),λ_=>hr.hd,Dd e0.frames,.inr ⟨rfl,rfl⟩,λb z=>(nomatch z),e0.bs,e0.yD,λb _ _ z=>(nomatch z),λb z=>(nomatch z),e0.gA,e0.y6⟩,
   rfl,e0.bare,Un.kept hk,⟨_,JH,λi x v h1 h2 h3=>?_⟩,λx c' e=>?_,e0.aV.fresh (Aj _),λx c' e=>?_,λp hp=>(nomatch hp),e0.aV.kept hk,?_⟩
  ·rcases hx with hx | hx
   ·exact absurd rfl (S.noc _ (AU hx))
   ·exact absurd rfl (Sy _ (AU hx))
  ·have h1:ps[i]?=al x:=h1;rw[Ak]at h2;cases e:vs[i]? with
   | none=>rw[e]at h2;cases h2
   | some v'=>
    rw[e]at h2;cases h2;obtain⟨u,hu,ru⟩:=r.get e;exact⟨u,ru,.inl ⟨S.par x (AB h1),zip_rev nd h1 hu⟩⟩
  ·obtain⟨v,hv⟩:=jD x c' e;exact⟨v,kc hv⟩
  ·obtain⟨v,o,ho,_⟩:=jD x c' e;exact(e0.bs _ _ ho).2
  ·show(vs.map al).length=ps.length;rw[Al,Nq]
 obtain⟨t,ht,hq⟩:=Ä cl (.ref c) A outer s H vs Q E (hr.deeper _) rj;refine BM (ht [] _ _ H Q I hq) (λu s' h=>?_) λe s' h=>h.elim;obtain⟨v,H',J,ru,q'⟩:=h;exact⟨v,H',J.os,J.bare,J.base,J.aV,ru,q'⟩
end
end
end FL
namespace My
section
variable[bD]
section
variable{K:Aa}
def spRI(C:db):Sp:=λvs H Q _=>∃(p dx:db) (T:Str),vs=[.ref p,.str T]/\H p=al (.ins C dx [])/\∀H',OffP p H H'->RdA C p T 0 H'->Q .aB H'
def ok_rinit(R:RdK K mg C)(hi:mg "isinstance"=bn)(hs:mg "str"=bn)(F:Fun K "__init__" "Reader.__init__" (clsM 0 sR) f fd):bx P w K mg base fD 1 f fd ["self","text"] (spRI C):=by
 refine F.ok (N:=["self","text"]) rG (λvs H Q E h=>?_) (λbO A outer s H vs Q E hr h=>?_)
 ·obtain⟨_,_,_,rfl,_⟩:=h;rfl
 obtain⟨p,dx,T,rfl,hp,q⟩:=h;refine⟨_,aJ (iI (mO (mN (bT (vh K rfl) (by rfl) hi boot_isinstance (ak (pv 1) (ak (tj (v:=.ty "str") rfl hs wv rfl) aD))))) (a9 kl) dW) (aJ (qK (pv 0) (pv 1) rfl) (a9 (qK (pv 0) de rfl))),?_⟩;refine⟨.str T,rfl,.str T,_,_,true,rfl,.str T,pj K,true,rfl,eU ?_⟩;refine⟨.str T,rfl,.ref p,rfl,p,C,dx,_,rfl,hp,R.cl,R.t,(by show 0 < 1000;decide),?_⟩;refine⟨.ref p,rfl,p,C,dx,_,rfl,aF,R.cl,R.p,(by show 1 < 1000;decide),q _ (λb nb=>?_) ⟨dx,aF⟩⟩;rw[ax nb,ax nb]
def rtL:Lm:=match aU (tpR 17) with
 | [.Return (al (.Call _ [_,.Lambda ar bd sc _] [] _)) _]=>⟨"read_tree.<locals>.<lambda>",ar,bd,sc⟩
 | _=>⟨"",⟨[],[],bn,[],[],bn,[]⟩,.Constant .none 0 ⟨0,0,0,0⟩,default⟩
def spOne(K:Aa)(C:db)(fr:FrF):Sp:=λvs H Q _=>∃(p:db) (T:Str) (n k:Nat) (y:PV) (n':Nat),vs=[.ref p]/\RdA C p T n H/\T.length<=sizeLine/\rdN T fr k n []=al (y,n')/\∀u H',KpP p H H'->RdA C p T n' H'->VR K [] H' u y->Q u H'
def ok_lam{fr:FrF}(G:qi P w K mg base "take_tree_front" 4 ["reader"] (spFront K C fr))(N:qi P w K mg base "take_nested" 5 ["reader","take_front"] (spNest K C G.f fr))(L:LamIn rtL [] base a [] fz):Nonempty (CalA P w K mg base a [] [] fz 6 ["reader"] (spOne K C fr)):=by
 refine fn_lamP L ⟨rfl,rfl,rfl,by decide +kernel,by decide +kernel,by decide +kernel,by decide +kernel,by decide +kernel⟩ (λvs H Q E h=>?_) (λ_ _ _ _=>usN (by (repeat intro _);rfl)) λcl cv A outer s H vs Q E hr h=>?_
 ·obtain⟨_,_,_,_,_,_,rfl,_⟩:=h;rfl
 obtain⟨p,T,n,k,y,n',rfl,h⟩:=h;exact⟨_,kn N hr (Aj _) rfl (ak (pv 0) (ak (Hw G rfl) aD)),.ref p,rfl,p,T,n,k,y,n',rfl,h⟩
def mRT(x:PV):W PV:=⟨λQ=>∃T k y,x=.str T/\T.length<=sizeLine/\rdN T frT k 0 []=al (y,T.length)/\Q y,λh ⟨T,k,y,a,b,c,q⟩=>⟨T,k,y,a,b,c,h _ q⟩⟩
structure RMk(P:re)(w:sK)(K:Aa)(mg:Str->Option ce)(base:lm)(C:db) where
 f:db
 fd:wn
 m:Mk K C f
 ok:bx P w K mg base fD 1 f fd ["self","text"] (spRI C)
 bi:Binds K fd ["self","text"] []
 at':mg "Reader"=al (.ref C)
theorem ok_all(R:RdK K mg C)(I:RMk P w K mg base C)(A:CalA P w K mg base a [] [] fz 6 ["reader"] (spOne K C frT))(F:Fun K "read_all" "read_all" (tpR 16) f fd):bx P w K mg base fD 7 f fd ["text","take"] (ja K [.v,.f a [] [] fz] (eK 1 mRT)):=by
 have nd:(["text","take","reader","told"]:O Str).Nodup:=by decide
 refine F.ok (N:=["text","take","reader","told"]) rG (λvs H Q E h=>?_) (λbO A' outer s H vs Q E hr h=>?_)
 ·obtain⟨_,_,h,_⟩:=h;cases h with | v _ t=>cases t with | f _ _ t=>cases t;rfl
 obtain⟨tb,l,h,q⟩:=h;cases h with
 | @v u x vI U2 l' r t=>
 cases t with
 | @f _ _ _ _ _ _ _ r2 z t=>
 cases t;obtain⟨T,k,y,rfl,hT,hk,q⟩:=q;cases r;refine⟨_,aJ (cK (i:=2) nd rfl (Bm rfl) (zI I.m I.ok (hr.mono ⋯) rfl I.at' I.bi .nil dZ (ak (pv 0) aD))) (aJ (cK (i:=3) nd rfl (Bm rfl) (pe_callA A hr (Aj _) (pv 1) (ak (pv 2) aD)))
  (aJ (iI (fe tm (gj (pv 2) rfl) (bT (dz K rfl) (by rfl) R.len DB (ak (pv 0) aD)) (cy _)) (a9 kl) dW) (a9 (cU (pv 3))))),?_⟩
 refine⟨.str T,rfl,λp dx np SD ne=>⟨p,dx,T,rfl,aF,λH1 o1 r1=>⟨rfl,?_⟩⟩⟩;have sm:dh H H1:=λc o e=>by
  have n1:c≠p:=λz=>by subst z;rw[np]at e;cases e
  have n2:c≠dx:=λz=>by subst z;rw[SD]at e;cases e
  rw[o1 c n1,ax n1,ax n2];exact e
 have z1:mz H1 fz:=λp hp=>let ⟨u,e⟩:=z p hp;⟨u,sm _ _ e⟩;refine⟨.ref a,rfl,rfl,z1,.ref p,rfl,z1,p,T,0,k,y,T.length,rfl,r1,hT,hk,λu2 H2 k2 r2 v2=>?_⟩;obtain⟨GJ,Tn⟩:=r2;have lt:¬((T.length:Int) < (T.length:Int)):=by omega
 refine⟨.ref p,rfl,p,C,GJ,_,.int T.length,rfl,Tn,R.cl,R.p,rfl,.str T,rfl,.str T,T.length,rfl,⟨hT,rfl⟩,_,_,rfl,rfl,_,rfl,?_⟩;rw[decide_eq_false lt];refine eU ?_;have s2:dh H H2:=λc o e=>k2.k c o (λz=>by subst z;rw[np]at e;cases e) (sm c o e);refine⟨u2,rfl,q u2 H2 ⟨λc o e _ _=>s2 c o e,tb.same s2,λc e=>?_,λc φ pa=>?_⟩ v2⟩
 ·cases y:H c with
  | none=>rfl
  | some o=>rw[s2 c o y]at e;cases e
 ·obtain⟨i,h1,_⟩:=pa
  match i with
  | 0=>cases h1
  | 1=>cases h1
  | i+2=>simp at h1
end
end
end My
variable{P:AL}
namespace My
section
variable[bD]
structure RD(K:Aa):Prop where
 ex:∃C fi Qh fs Qg ft Qf,AH K gt "Reader"=al (al (.ref C))/\Fun K "__init__" "Reader.__init__" (clsM 0 sR) fi Qh/\Mk K C fi/\uh K C/\di K C "text"/\di K C "place"/\
  Fun K "stands_at" "Reader.stands_at" (clsM 1 sR) fs Qg/\Meth K C "stands_at" fs/\Fun K "take" "Reader.take" (clsM 2 sR) ft Qf/\Meth K C "take" ft
def rdx{K:Aa}{f1 f2 f3:db}{Sw Sv Su:ce}{Sr UM Sq UL So UK:Option db}{OW OV OU:Array (Option ce)}{S1 Qr Sl Mz UH S0 Qq Sk Mx UG SY Qp Sj Mw UE:ce}
  (a:AH K gt "Reader"=al (al (.ref C))) (m2:AO K (.ref C) "__init__"=al (al (.ref f1))) (l1:K.lookup f1=al ⟨Sw,Sr,.func (A9 "__init__" "Reader.__init__" (bL (clsM 0 sR)) (aU (clsM 0 sR)) (au (clsM 0 sR)) .none S1 Qr Sl UM Mz UH),OW⟩)
  (c1:BW K Mz "Reader.__init__"=true) (k1:A7 K (.ref f1)=true) (m1:Ee K C=true) (m3:CT K (.ref f1)=true) (m4:A7 K (.ref C)=true) (d1:Cw K C A3=true) (d2:CU K C=true) (d3:DL K C=true) (d4:AO K (.ref C) "__setattr__"=al (al (.builtin "object.__setattr__")))
  (n1:AO K (.ref C) "text"=al bn) (n2:AO K (.ref C) "place"=al bn)
  (g2:AO K (.ref C) "stands_at"=al (al (.ref f2))) (l2:K.lookup f2=al ⟨Sv,Sq,.func (A9 "stands_at" "Reader.stands_at" (bL (clsM 1 sR)) (aU (clsM 1 sR)) (au (clsM 1 sR)) .none S0 Qq Sk UL Mx UG),OV⟩) (c2:BW K Mx "Reader.stands_at"=true) (k2:A7 K (.ref f2)=true) (i2:CT K (.ref f2)=true)
  (g3:AO K (.ref C) "take"=al (al (.ref f3))) (l3:K.lookup f3=al ⟨Su,So,.func (A9 "take" "Reader.take" (bL (clsM 2 sR)) (aU (clsM 2 sR)) (au (clsM 2 sR)) .none SY Qp Sj UK Mw UE),OU⟩) (c3:BW K Mw "Reader.take"=true) (k3:A7 K (.ref f3)=true) (i3:CT K (.ref f3)=true):RD K:=
 ⟨C,f1,_,f2,_,f3,_,a,kN l1 c1 k1,⟨m1,m2,m3,m4⟩,⟨d1,d2,d3,d4⟩,n1,n2,kN l2 c2 k2,⟨g2,i2,k2⟩,kN l3 c3 k3,⟨g3,i3,k3⟩⟩
abbrev dRT:DF:=⟨"read_tree",tpR 17,["text"],8,λK=>ja K [.v] (eK 1 mRT)⟩
def mk_rt{t2:Tok}(X:v.K.In h)(G:h.Ns gt v.mg)(rd:RD v.K)(UB:DX v.K "take_many" (tpR 12))(UA:DX v.K "take_tree_front" (tpR 13))(Uz:DX v.K "take_behind" (tpR 14))(Uy:DX v.K "take_nested" (tpR 15))(Ux:DX v.K "read_all" (tpR 16))(Uw:DXc v.K "read_tree" (tpR 17) P)(hP:TabIs P "read_tree.<locals>.<lambda>")
  (hl:v.mg "LETTERS"=al (.str LTR t1)) (hn:v.mg "LONGEST_WORD"=al (.int 8 t2)) (q1:v.mg "len"=bn) (q2:v.mg "isinstance"=bn) (q3:v.mg "str"=bn):Nonempty (dRT.C v):=by
 obtain⟨C,fi,Qh,fs,Qg,ft,Qf,a,Fi,M,cl,nt,np,Fs,Ms,Ft,UP⟩:=rd.ex;have R:RdK v.K v.mg C:=⟨cl,nt,np,q1⟩;obtain⟨RQ⟩:=UB.mk2 (d:=⟨"take_many",tpR 12,["reader","signs","most"],3,λK=>spMany C⟩) X G;obtain⟨QG⟩:=UA.mk2 (d:=⟨"take_tree_front",tpR 13,["reader"],4,λK=>spFront K C frT⟩) X G;obtain⟨RP⟩:=Uz.mk2 (d:=⟨"take_behind",tpR 14,["reader","waiting","part"],3,λK=>spBehind K C⟩) X G;obtain⟨JZ⟩:=Uy.mk2 (d:=⟨"take_nested",tpR 15,["reader","take_front"],5,λK=>spNest K C QG.f frT⟩) X G;obtain⟨JY⟩:=Ux.mk2 (d:=⟨"read_all",tpR 16,["text","take"],7,λK=>ja K [] (eK 1 mRT)⟩) X G;obtain⟨RO,UQ⟩:=Uw.mk3 (d:=dRT) X G;have all:∀(b:lm) (ad:db) (us:O V) (fz:O (db×Obj)),LamIn rtL [] b ad us fz->us.length=([]:O PV).length->bx v.P v.w v.K v.mg b fD 7 JY.f JY.fd ["text","take"] (ja v.K ([.v]++.f ad us [] fz::[]) (eK 1 mRT)):=λb ad us fz L hu=>by
  have:us=[]:=Bk hu;subst this;have S:MtS v.P v.w v.K v.mg b C:=⟨fs,Qg,Ms,ok_stands R Fs,Fs.binds λ_ _ _ _ _ _=>usN (by (repeat intro _);rfl)⟩;have T:MtT v.P v.w v.K v.mg b C:=⟨ft,Qf,UP,ok_take R S Ft,Ft.binds λ_ _ _ _ _ _=>usN (by (repeat intro _);rfl)⟩;have UO:=(RQ.at b).c (ok_many R S T RQ.fn);have Qz:=(QG.at b).c (ok_front R S T UO hl hn QG.fn);have UN:=(RP.at b).c (ok_behind R T RP.fn);have N:qi v.P v.w v.K v.mg b "take_nested" 5 ["reader","take_front"] (spNest v.K C Qz.f frT):=⟨JZ.f,JZ.fd,ok_nest Qz UN JZ.fn,JZ.bi,JZ.fn.kp,JZ.at'⟩;obtain⟨A⟩:=ok_lam Qz N L;exact ok_all R ⟨fi,Qh,M,ok_rinit R q2 q3 Fi,Fi.binds λ_ _ _ _ _ _=>usN (by (repeat intro _);rfl),CC X G a⟩ A JY.fn
 have cn:CapN (ox (tpR 17)) (au (tpR 17)) rtL.sc [] []:=by decide +kernel
 refine⟨RO.c (mkVc (P:=P) RO UQ λ{bO A outer s H E} hc hr nd=>λx=>?_)⟩;exact SF.cj (e_callLam (L:=rtL) (ys:=[]) (is:=[]) (qs:=[]) (k1:=[.v]) (k2:=[]) JY.bi JY.fn.kp JY.at' all (λ_=>rfl) cn rfl hr (al_cons (ag 0) (al_lam "read_tree.<locals>.<lambda>" [] hc hP cn aj))) λ_=>rfl
end
def fk(aO:PV):W (O PV):=
 []\λiy=>
 am (aO\λx3=>ap [x3]) λcS=>
 am (qw (λs4=>(s4.2\λl5=>ap (!l5.isEmpty))) (λs4=>(
 am (mP s4.2) λt7=>
 t7.2\λx9=>am (jt s4.1 x9) λiw=>
 cO (ly (am (am (ap t7.2) (dn .str)) cH)) (
 am (am (ap t7.2) bo) λO7=>am (uX t7.1 O7) λdC=>
 ap (iw,dC)) (
 ap (iw,t7.1)))) (iy,cS)) λs4=>
 (s4.1\λH9=>ap H9.reverse)
def d6(aO:PV):W PV:=
 []\λfc=>
 []\λm8=>
 am (aO\λx3=>fk x3) λO6=>am (dG O6 (fc,m8) λgk s4=>(
 am (am (am (ap gk) (dn .str)) cH) λb=>am (if b=true then (
 gk\λvG=>am (jt s4.1 vG) λsJ=>
 ap (sJ,s4.2)) else (
 am (mP s4.2) λOz=>
 am (mP Oz.1) λOy=>
 am (Oy.2\λGU=>Oz.2\λGS=>ap (.tup [GU,GS])) λGR=>am (jt s4.1 GR) λsI=>
 ap (sI,Oy.1))) λHb=>
 am (b2 uF (am (ap Hb.1) uK) (ap (.int 1))) λGQ=>am (jt Hb.2 GQ) λpf=>
 ap (Hb.1,pf))) λs4=>
 (am (ap s4.1) qE)
def kB(xh:PV):W PV:=
 (cO (am (am (ap xh) (dn .str)) cH) (ap (.tup [])) (ap xh))
def fm(aO:PV):W PV:=
 am (aO\λx2=>d6 x2) λfc=>
 am (am (am (ap fc) bo) λl4=>dN l4 λp5=>(ap .aB)) λnY=>
 am (am (am (ap fc) bo) λl6=>.e7 (l6.length<=sizeLine) (.ret (iZ 0 l6))) λSR=>am (dG SR nY λp8 s7=>am (MW p8) λt9=>(
 am (am (t9.2\λoB=>kB oB) bo) λSS=>am (dG SS s7 λtL Hc=>(
 t9.1\λvH=>tL\λui=>am (setW Hc ui vH) λp7=>
 ap p7)) λHc=>
 ap Hc)) λs7=>
 (am (ap s7) qE)
def eT(bA:PV)(eS:PV):W PV:=
 (vn (am (ap bA) (dn .tup)) (b2 ig (c1 eG (ap bA)) (ap eS)))
def bq(bA:PV):W PV:=
 cO (F5 (ly (am (am (ap bA) (dn .str)) cH)) (ly (UJ oLe oLe (ap (.int 1)) (c1 eG (ap bA)) (ap (.int 8))))) (
 (ap (.bl false))) (
 (am (am (am (ap bA) qF) λl1=>dN l1 λp2=>(b2 zX (ap p2) (ap (.str "abcdefghijklmnopqrstuvwxyz")))) pZ))
def m_is_grown_2(is_leaf_:PV->W PV)(bA:PV)(qP:PV):W PV:=
 am (bA\λx3=>ap [x3]) λcS=>
 am (hZ (λs4=>(s4.2\λl5=>ap (!l5.isEmpty))) (λs4=>(
 am (mP s4.2) λt7=>
 cO (am (t7.2\λx8=>(.int 2)\λx9=>eT x8 x9) cH) (
 am (am (ap t7.2) bo) λO7=>am (uX t7.1 O7) λdC=>
 ap (.go (s4.1,dC))) (
 cO (F5 (ly (am (t7.2\λvH=>is_leaf_ vH) cH)) (Kb (t7.2\λGW=>am (rf GW) λS2=>ap (gw s4.1 S2)) (ly (am (ap qP) cH)))) (
 (.bl false)\λui=>ap (Lp.out ui)) (
 (.bl true)\λza=>t7.2\λvG=>am (zA s4.1 vG za) λsU=>
 ap (.go (sU,t7.1)))))) ([],cS)) (pC (λs4=>
 (ap (.bl true))) id)
def m_is_great_2(bA:PV):W PV:=
 (bA\λx1=>(.bl false)\λx2=>m_is_grown_2 bq x1 x2)
def m_leaves(aO:PV):W PV:=
 (am (am (aO\λx1=>fk x1) λl2=>oy l2 λp3=>O5 (am (am (ap p3) (dn .str)) cH) (ap p3)) qE)
def m_is_small(rB:PV)(bA:PV):W PV:=
 cO (ly (am (rB\λx1=>m_is_great_2 x1) cH)) (
 (ap (.bl false))) (
 am (rB\λx3=>m_leaves x3) λmC=>
 (bA\λx4=>(.bl true)\λx7=>m_is_grown_2 (λgk=>(vn (gk\λx6=>bq x6) (Pd false (ap gk) (am (ap mC) bo)))) x4 x7))
def m__law_hand_2(cZ:PV)(k_:PV):W (O PV):=
 am (cO (am (am (ap cZ) xq) λl2=>ap (!l2.isEmpty)) (dw (am (ap cZ) bo) (b2 oMod (ap k_) (c1 eG (ap cZ)))) (ap (.int 0))) λnR=>
 am (b2 gm (b2 oMod (c1 pX (ap nR)) (b2 gm (b2 gm (b2 lE (ap (.int 10)) (ap (.int 60))) (b2 lE (ap (.int 10)) (ap (.int 60)))) (b2 lE (ap (.int 10)) (ap (.int 60))))) (c1 nU (b2 M9 (c1 pX (ap nR)) (b2 lE (ap (.int 10)) (ap (.int 18)))))) λdq=>
 (dq\λx4=>am (b2 oMod (b2 gm (w2 addW (w2 addW (b2 oMod (ap nR) (ap (.int 2305843009213693921))) (b2 gm (b2 gm (ap (.int 104729)) (ap k_)) (ap k_))) (ap (.int 7))) (ap (.int 48271))) (ap (.int 2305843009213693951))) λx5=>ap [x4,x5])
def m__law_take_4(bI:O PV)(eS:PV):W (PV×O PV):=
 cO (t2 OY (dw (ap bI) (ap (.int 0))) (ap (.int 0))) (
 am (b2 oMod (dw (ap bI) (ap (.int 0))) (ap eS)) λtW=>
 am (b2 oDiv (dw (ap bI) (ap (.int 0))) (ap eS)) λx3=>(.int 0)\λx4=>am (setW bI x4 x3) λgy=>
 tW\λx5=>ap (x5,gy)) (
 am (b2 oMod (w2 addW (b2 gm (dw (ap bI) (ap (.int 1))) (ap (.int 6364136223846793005))) (ap (.int 1442695040888963407))) (ap (.int 2305843009213693951))) λx7=>(.int 1)\λx8=>am (setW bI x8 x7) λd8=>
 am (b2 oDiv (dw (ap d8) (ap (.int 1))) (ap (.int 524287))) λmZ=>
 am (b2 oMod (b2 oDiv (b2 oMod (b2 gm (ap mZ) (ap mZ)) (ap (.int 1000000007))) (ap (.int 11))) (ap eS)) λoB=>ap (oB,d8))
def m__law_words_5(eS:PV):W (O PV):=
 (.str "abcdefghijklmnopqrstuvwxyz")\λjn=>
 am ((.int 26)\λx2=>bE x2) λkT=>am (dw ((.int 1)\λx3=>(.int 3)\λx4=>(.int 5)\λx5=>(.int 7)\λx6=>(.int 9)\λx7=>(.int 11)\λx8=>ap [x3,x4,x5,x6,x7,x8]) ((.int 6)\λx9=>bE x9)) λmH=>
 am (dw ((.str "")\λGV=>(.str "")\λvH=>(.str "ab")\λui=>ap [GV,vH,ui]) ((.int 3)\λOa=>bE Oa)) λkZ=>
 []\λkQ=>
 am (am (ap eS) jx) λO6=>am (dG O6 kQ λLq Ha=>(
 am (dw ((.str "")\λJ6=>(.str "a")\λN8=>(.str "zz")\λGU=>(.str "abcde")\λGS=>ap [J6,N8,GU,GS]) ((.int 4)\λGR=>bE GR)) λyh=>
 am (w2 addW (w2 addW (ap kZ) (b2 w9 (ap jn) (b2 oMod (w2 addW (ap kT) (b2 gm (ap mH) (ap Lq))) (ap (.int 26))))) (ap yh)) λGQ=>am (jt Ha GQ) λpG=>
 ap pG)) λHa=>
 ap Ha
def m__law_joined_2(cg:PV):W PV:=
 am (am (ap cg) bo) λvY=>am ((.int 5)\λx1=>bE x1) λmF=>
 am (am (b2 uF (c1 eG (ap cg)) (ap (.int 1))) jx) λSO=>am (dG SO vY λJE s5=>(
 am (b2 uF (am (ap s5) uK) (ap (.int 2))) λpJ=>
 am (dw ((.int 0)\λx9=>pJ\λoB=>am (b2 oMod (ap JE) (w2 addW (ap pJ) (ap (.int 1)))) λGX=>am (am (w2 addW (ap pJ) (ap (.int 1))) λGW=>bE GW) λGV=>am (am (w2 addW (ap pJ) (ap (.int 1))) λvH=>bE vH) λui=>ap [x9,oB,GX,GV,ui]) (ap mF)) λyH=>
 am (am (am (dw (ap s5) (ap yH)) λza=>am (dw (ap s5) (w2 addW (ap yH) (ap (.int 1)))) λvG=>ap (.tup [za,vG])) λJ8=>ap [J8]) λSQ=>yH\λJ7=>am (w2 addW (ap yH) (ap (.int 2))) λJ6=>am (Ku s5 J7 J6 SQ) λvZ=>
 ap vZ)) λs5=>
 (dw (ap s5) (ap (.int 0)))
def m__law_great_5(o8:PV):W PV:=
 am (w2 addW (ap (.int 1)) (am (dw ((.int 5)\λx2=>o8\λx3=>ap [x2,x3]) (c1 nU (b2 ig ((.int 8)\λx4=>bE x4) (ap (.int 0))))) λx5=>bE x5)) λkA=>
 (am (xQ (kA\λx6=>m__law_words_5 x6)) λx7=>m__law_joined_2 x7)
def m__law_leaves:Nat->PV->W (O PV)
 | 0,_=>W.fail
 | n+1,aO=>
 cO (am (am (ap aO) (dn .str)) cH) (
 (aO\λx1=>ap [x1])) (
 (am (am (dw (am (ap aO) bo) (ap (.int 0))) λx2=>m__law_leaves n x2) λl4=>am (am (dw (am (ap aO) bo) (ap (.int 1))) λx3=>m__law_leaves n x3) λl5=>MB l4 l5))
def m__law_small_3(fX:PV)(o8:PV):W PV:=
 am (w2 addW (ap (.int 1)) (am (dw ((.int 6)\λx2=>o8\λx3=>ap [x2,x3]) (c1 nU (b2 ig ((.int 8)\λx4=>bE x4) (ap (.int 0))))) λx5=>bE x5)) λkA=>
 am (am (am (ap fX) xq) λl8=>bn\λi9=>am (am (w2 addW (ap (.int 1)) (am (c1 eG (ap fX)) λx7=>bE x7)) part) λS3=>ap (lN l8 i9 S3)) λxU=>
 (am (xQ (am (am (ap kA) jx) λH9=>dN H9 λSm=>(dw (am (ap (.cl xU)) bo) (am (c1 eG (ap (.cl xU))) λvH=>bE vH)))) λui=>m__law_joined_2 ui)
def m_bracketed(ic:PV)(cx:PV):W PV:=
 (ic\λx1=>am (stW x1) λu2=>cx\λx3=>am (stW x3) λu4=>ap (.str (A3++("(":Str)++u2++(",":Str)++u4++(")":Str))))
def m_text_of(aO:PV):W PV:=
 []\λmD=>
 am (am (aO\λx2=>d6 x2) bo) λH9=>am (dG H9 mD λdg s3=>(
 cO (am (am (ap dg) (dn .str)) cH) (
 dg\λx6=>am (jt s3 x6) λsN=>
 ap sN) (
 am (am (dw (ap s3) (dw (am (ap dg) bo) (ap (.int 0)))) λx8=>am (dw (ap s3) (dw (am (ap dg) bo) (ap (.int 1)))) λx9=>m_bracketed x8 x9) λoB=>am (jt s3 oB) λsM=>
 ap sM))) λs3=>
 (dw (ap s3) (am (ap (.int 1)) xj))
def m_is_tree_2(bA:PV):W PV:=
 (bA\λx1=>(.bl true)\λx2=>m_is_grown_2 bq x1 x2)
def m_paired:Nat->PV->PV->W PV
 | 0,_,_=>W.fail
 | n+1,ic,cx=>
 cO (t2 zU (dw (am (ap cx) bo) (ap (.int 0))) (dw (am (ap ic) bo) (ap (.int 0)))) (
 (cx\λx1=>ic\λx2=>m_paired n x1 x2)) (
 (am (am (dw (am (ap ic) bo) (ap (.int 0))) λx3=>am (dw (am (ap cx) bo) (ap (.int 0))) λx4=>m_bracketed x3 x4) λx5=>am (am (dw (am (ap ic) bo) (ap (.int 1))) λx6=>am (dw (am (ap cx) bo) (ap (.int 1))) λx7=>ap (.tup [x6,x7])) λx8=>ap (.tup [x5,x8])))
def m_plain(aO:PV):W PV:=
 []\λrT=>
 am (am (aO\λx2=>d6 x2) bo) λSV=>am (dG SV rT λdg s3=>(
 cO (am (am (ap dg) (dn .str)) cH) (
 am (dg\λx6=>dg\λx7=>ap (.tup [x6,x7])) λx8=>am (jt s3 x8) λyy=>
 ap yy) (
 am (am (dw (ap s3) (dw (am (ap dg) bo) (ap (.int 0)))) λoB=>am (dw (ap s3) (dw (am (ap dg) bo) (ap (.int 1)))) λGX=>m_paired 3 oB GX) λGW=>am (jt s3 GW) λyx=>
 ap yx))) λs3=>
 (dw (am (dw (ap s3) (am (ap (.int 1)) xj)) bo) (ap (.int 1)))
def m_alike(ic:PV)(cx:PV):W PV:=
 (vn (ic\λx4=>m_is_tree_2 x4) (vn (cx\λx3=>m_is_tree_2 x3) (b2 ig (ic\λx1=>m_plain x1) (cx\λx2=>m_plain x2))))
def m__law_made:Nat->PV->PV->W PV
 | 0,_,_=>W.fail
 | n+1,cg,iQ=>
 am (dw (am (ap cg) bo) (ap iQ)) λku=>
 cO (am (am (ap ku) (dn .str)) cH) (
 (ap ku)) (
 (am (cg\λx2=>am (dw (am (ap ku) bo) (ap (.int 0))) λx3=>m__law_made n x2 x3) λx4=>am (cg\λx5=>am (dw (am (ap ku) bo) (ap (.int 1))) λx6=>m__law_made n x5 x6) λx7=>ap (.tup [x4,x7])))
def m__law_leads(cg:PV)(fC:PV):W PV:=
 am (am (c1 eG (ap cg)) jx) λSU=>am (iq SU () λkr s2=>(
 kr\λrm=>(.int 0)\λqX=>
 am (hZ (λs6=>(Kb (t2 tE (dw (am (ap fC) bo) (ap s6.1)) (ap .aB)) (t2 oLt (ap s6.2) (c1 eG (ap cg))))) (λs6=>(
 cO (F5 (Pc true (ap s6.1) (am (dw (am (ap cg) bo) (dw (am (ap fC) bo) (ap s6.1))) bo)) (t2 oLe (dw (am (ap fC) bo) (ap s6.1)) (ap s6.1))) (
 (.bl false)\λx7=>ap (Lp.out x7)) (
 am (dw (am (ap fC) bo) (ap s6.1)) λxI=>am (w2 addW (ap s6.2) (ap (.int 1))) λxn=>
 ap (.go (xI,xn))))) (rm,qX)) (pC (λs6=>
 cO (t2 fR (ap s6.1) (b2 uF (c1 eG (ap cg)) (ap (.int 1)))) (
 (.bl false)\λoB=>ap (Lp.out oB)) (
 ap (.go ()))) Lp.out))) (pC (λs2=>
 (vn (b2 ig (c1 eG (ap fC)) (c1 eG (ap cg))) (b2 ig (am (am (ap fC) tupOf) λH9=>.aB\λGV=>FO H9 GV) (ap (.int 1))))) id)
def m__law_right_3(aO:PV)(gz:PV):W PV:=
 am (aO\λx2=>d6 x2) λkd=>
 am (am (am (c1 eG (ap kd)) jx) λl5=>dN l5 λp6=>(kd\λx7=>p6\λx8=>m__law_made 12 x7 x8)) λiM=>
 cO (F5 (t2 fR (dw (am (ap (.cl iM)) bo) (am (ap (.int 1)) xj)) (ap aO)) (ly (am (kd\λx9=>am (aO\λoB=>fm oB) λGX=>m__law_leads x9 GX) cH))) (
 (ap (.bl false))) (
 cO (t2 fR (aO\λGW=>m_leaves GW) (am (am (am (ap (.cl iM)) bo) λSW=>oy SW λM6=>O5 (am (am (ap M6) (dn .str)) cH) (ap M6)) qE)) (
 (ap (.bl false))) (
 am (aO\λOa=>m_plain Oa) λeQ=>
 cO (F5 (t2 fR (c1 eG (eQ\λJ8=>d6 J8)) (c1 eG (ap kd))) (t2 fR (xQ (am (eQ\λza=>m_leaves za) sortTSW)) (xQ (am (aO\λvG=>m_leaves vG) sortTSW)))) (
 (ap (.bl false))) (
 cO (F5 (ly (am (aO\λGU=>eQ\λGS=>m_alike GU GS) cH)) (F5 (t2 fR (eQ\λJ6=>m_is_great_2 J6) (aO\λN8=>m_is_great_2 N8)) (t2 iP (gz\λN9=>eQ\λJ7=>m_is_small N9 J7) (ap (.bl true))))) (
 (ap (.bl false))) (
 cO (ly (am (am (am (am (ap (.cl iM)) bo) λSN=>dN SN λOT=>(vn (b2 xa (OT\λN6=>m_is_tree_2 N6) (ap (.bl true))) (b2 xa (gz\λGQ=>OT\λN7=>m_is_small GQ N7) (ap (.bl true))))) pZ) cH)) (
 (ap (.bl false))) (
 (am (am (am (ap (.cl iM)) bo) λSM=>dN SM λOS=>(b2 ig (am (OS\λRU=>m_text_of RU) λRT=>mRT RT) (ap OS))) pZ))))))
def m_law_25(cZ:PV):W PV:=
 am (am (w2 addW (ap (.int 1)) (am (am (am (ap cZ) xq) λl1=>bn\λi2=>am (am (ap (.int 20)) part) λj3=>ap (lN l1 i2 j3)) uK)) jx) λSJ=>am (iq SJ () λJE s5=>(
 am (cZ\λx8=>JE\λx9=>m__law_hand_2 x8 x9) λjE=>KQ potG05 jE (
 am ((.int 8)\λGX=>m__law_great_5 GX) λbQ=>
 am (am (xQ (bQ\λGV=>m__law_leaves 12 GV)) λvH=>(.int 10)\λui=>m__law_small_3 vH ui) λaQ=>
 am (cO (am (am (ap aQ) (dn .str)) cH) (ap aQ) (am (dw (am (ap aQ) bo) (ap (.int 1))) λza=>am (dw (am (ap aQ) bo) (ap (.int 0))) λvG=>ap (.tup [za,vG]))) λjb=>
 am (am (bQ\λJ8=>aQ\λN9=>jb\λJ7=>ap (.tup [J8,N9,J7])) bo) λSK=>am (iq SK () λsH M4=>(
 cO (ly (am (sH\λGU=>bQ\λGS=>m__law_right_3 GU GS) cH)) (
 (.bl false)\λGR=>ap (Lp.out GR)) (
 ap (.go ())))) (pC (λM4=>
 cO (F5 (t2 iP (bQ\λN6=>m_is_great_2 N6) (ap (.bl true))) (t2 fR (aQ\λRV=>m_is_great_2 RV) (b2 ig (am (aQ\λGQ=>m_leaves GQ) setLenSW) (c1 eG (aQ\λN7=>m_leaves N7))))) (
 (.bl false)\λN5=>ap (Lp.out N5)) (
 ap (.go ()))) Lp.out)))) (pC (λs5=>
 (ap (.bl true))) id)
end My
variable{x:PL.PV}{Q:O PL.PV->Prop}{t:My.Tr}
namespace My
def Tr.pv:Tr->PV
 | .leaf x=>.str x
 | .node l r=>.tup [l.pv,r.pv]
def Ent.pv:Ent->PV
 | .word x=>.str x
 | .pair a b=>.tup [.int (a:Int),.int (b:Int)]
def gI{l:List α}(h:l≠[]):∃a x,l=a++[x]:=⟨l.dropLast,l.getLast h,(List.dropLast_concat_getLast h).symm⟩
def vT{a b:O Tr}(h:eN a++b=t.post):aX a+b.length=t.size:=by
 have h1:=congrArg CS h;rw[Ab,t.aK]at h1;have h2:∀l:O Tr,(eN l).length=aX l:=by
  intro l
  induction l with
  | nil=>rfl
  | cons x l ih=>
   have e1:eN (x::l)=x.post++eN l:=rfl;have e2:aX (x::l)=x.size+aX l:=rfl;rw[e1,e2,Ab,ih,x.aK]
 rw[h2]at h1;exact h1
theorem eI(h:l.length < 1000):jt l x=.ret (l++[x]):=sw (by have:=cT (Aj _);omega)
theorem oU(t:Tr)(hz:t.size<=900):(fk t.pv).le (.ret (t.post.map Tr.pv)):=λQ q=>by
 refine qu (λn s=>∃ts bs:O Tr,n=aX ts/\s=(bs.map Tr.pv,ts.map Tr.pv)/\eN ts++bs.reverse=t.post) ⟨[t],[],rfl,rfl,by rw[jh];simp⟩ ?_;rintro n s ⟨ts,bs,rfl,rfl,hp⟩;have hs:=vT hp;rw[B6]at hs;by_cases he:ts=[]
 ·subst he;have Nn:bs.reverse=t.post:=hp;simp;rw[<- List.map_reverse,Nn];exact q
 ·obtain⟨us,u,rfl⟩:=gI he;have Gx:=gK us;rw[aH,bF]at hs;simp;rw[eI (by rw[Al];omega)];cases u with
  | leaf x=>
   simp[Tr.pv];refine⟨_,?_,us,rfl,bs++[.leaf x],⟨by simp[Tr.pv],rfl⟩,?_⟩
   ·rw[aH,bF];show aX us < aX us+1;omega
   ·rw[fg,jh]at hp;rw[Ez,<- hp];simp[Tr.post]
  | node c d=>
   have e1:uX (us.map Tr.pv) [c.pv,d.pv]=.ret (us.map Tr.pv++[c.pv,d.pv]):=sw (cT (by
    simp;omega))
   simp[Tr.pv,e1];refine⟨_,?_,us++[c,d],rfl,bs++[.node c d],⟨by simp[Tr.pv],by simp⟩,?_⟩
   ·have e2:aX [Tr.node c d]=c.size+d.size+1:=by rw[bF];rfl
    have e3:aX [c,d]=c.size+d.size:=by simp[aX]
    rw[aH,aH,e2,e3];omega
   ·rw[fg,jh]at hp;rw[Ez,<- hp,fg,uz];simp[Tr.post]
def eR(l:O Nat):O PV:=l.map λ(n:Nat)=>.int (n:Int)
@[simp] theorem Lb(l:O Nat):(eR l).length=l.length:=Al _
@[simp] theorem Lc(a b:O Nat):eR (a++b)=eR a++eR b:=AN
@[simp] theorem JB(a:Nat)(l:O Nat):eR (a::l)=.int (a:Int)::eR l:=rfl
@[simp] theorem La:eR []=[]:=rfl
def Gm{f:PV->W (Option PV)}(g:PV->Option PV)(h:∀x∈l,f x=.ret (g x))(q:Q (l.filterMap g)):(oy l f).run Q:=by rw[xu h];exact q
def HS{f:PV->W PV}(g:PV->PV)(h:∀x∈l,f x=.ret (g x))(q:Q (l.map g)):(dN l f).run Q:=by rw[m7 h];exact q
theorem gq(t:Tr)(hz:t.size<=900):(d6 t.pv).le (.ret (.tup ((t.nd 0).map Ent.pv))):=λQ q=>by
 unfold d6;simp;refine W.le.use (oU t hz) ?_;refine kR (λr s=>∃(k:O Tr) (Z:O Ent) (ls:O Nat),r=k.map Tr.pv/\s=(Z.map Ent.pv,eR ls.reverse)/\run k Z ls=al (t.nd 0,[t.size-1])/\Z.length+k.length<=900/\ls.length<=Z.length) ⟨t.post,[],[],rfl,rfl,ux t,by simp[t.aK];omega,Aj _⟩ ?_ ?_
 ·rintro x r s ⟨k,Z,ls,e,rfl,h,hl,Nr⟩;cases k with
  | nil=>cases e
  | cons p k=>
   injection e with e1 e2;subst e1;subst e2;rw[Av]at hl;cases p with
   | leaf x=>
    have a1:∀y,jt (eR ls.reverse) y=.ret (eR ls.reverse++[y]):=λy=>eI (by simp;omega);simp[Tr.pv,eI (l:=Z.map Ent.pv) (by simp;omega),a1];refine⟨k,rfl,Z++[Ent.word x],Z.length::ls,⟨by simp[Ent.pv],by simp⟩,h,by simp;omega,by simp;omega⟩
   | node c d=>
    match ls,h,Nr with
    | b::a::ls,h,Nr=>
     rw[Av,Av]at Nr;have a0:eR (b::a::ls).reverse=(eR ls.reverse++[.int a])++[.int b]:=by simp
     have a1:∀y,jt (eR ls.reverse) y=.ret (eR ls.reverse++[y]):=λy=>eI (by simp;omega);rw[a0];simp only[Tr.pv,lf,fx,gR,aR,if_false,rJ];simp[eI (l:=Z.map Ent.pv) (by simp;omega),a1];refine⟨k,rfl,Z++[Ent.pair a b],Z.length::ls,⟨by simp[Ent.pv],by simp⟩,h,by simp;omega,by simp;omega⟩
 ·rintro s ⟨k,Z,ls,e,rfl,h,hl,Nr⟩;cases k with
  | nil=>
   cases h;simpa using q
  | cons p k=>cases e
end My
variable{a b d:Int}
namespace My
theorem mulL(h:-1000000000<=a/\a<=1000000000):wf a b:=xl ∅ ∅
theorem mulR(h:-1000000000<=b/\b<=1000000000):wf a b:=mul_r ∅ ∅
theorem qV(h0:0<=d)(h1:d < 6):∃st:Int,cF [PV.int 1,PV.int 3,PV.int 5,PV.int 7,PV.int 9,PV.int 11] d=al (.int st)/\(st=1\/st=3\/st=5\/st=7\/st=9\/st=11):=by
 have:d=0\/d=1\/d=2\/d=3\/d=4\/d=5:=by omega
 rcases this with rfl | rfl | rfl | rfl | rfl | rfl
 ·exact⟨1,rfl,by decide⟩
 ·exact⟨3,rfl,by decide⟩
 ·exact⟨5,rfl,by decide⟩
 ·exact⟨7,rfl,by decide⟩
 ·exact⟨9,rfl,by decide⟩
 ·exact⟨11,rfl,by decide⟩
theorem du{i j:Int}(h:-1000<=i/\i<=1000/\-1000<=j/\j<=1000)(h2:j-i<=1000):okN i j:=⟨by omega,by omega,by omega,by omega,cT ∅⟩
theorem Jm{l:List α}(h:k+1 < l.length):∃a x y b,l=a++x::y::b/\a.length=k:=by
 refine⟨l.take k,l[k],l[k+1],l.drop (k+2),?_,by rw[Bb];omega⟩;have e1:l.drop k=l[k]::l.drop (k+1):=A8 ∅;have e2:=A8 ∅;rw[<- e2,<- e1,List.take_append_drop]
end My
variable{a:Nat}
namespace My
theorem u7(t:Tr){b:Nat}(h:j < t.size)(e:en t 0 j=.pair a b):a < j/\b < j:=by
 rcases yG t 0 j h with⟨x,e1,_⟩ | ⟨a',b',e1,e2,e3,_⟩
 ·rw[e1]at e;cases e
 ·rw[e1]at e;injection e with h1 h2;omega
theorem rM(y:Nat):∀l:O Nat,(l.map λn=>((n:Nat):Int)).erase (y:Int)=(l.erase y).map λn=>((n:Nat):Int)
 | []=>rfl
 | a::l=>by
  rw[A1,List.erase_cons,List.erase_cons,rM y l];by_cases c:a=y
  ·subst c;simp
  ·have c1:(a==(y:Int))=false:=by simp;omega
   have c2:(a==y)=false:=by simpa using c
   rw[c1,c2];simp
theorem Im(k:Nat)(l:O Nat)(b:Bool):lH b (.int (k:Int)) (eR l)=.ret (if b then !decide (k∈l) else decide (k∈l)):=by
 have h1:uQ (.int k) (eR l):=⟨by simp,gC.mpr λx hx=>by
  obtain⟨n,_,rfl⟩:=Bn.mp hx;simp,gD λx hx=>by
  obtain⟨n,_,rfl⟩:=Bn.mp hx;simp⟩
 have h2:lI (.int (k:Int)) (eR l)=decide (k∈l):=by
  unfold lI eR;rw[List.any_map]
  induction l with
  | nil=>simp
  | cons a l ih=>
   have ih:=ih ⟨by simp,gC.mpr λx hx=>by
    obtain⟨n,_,rfl⟩:=Bn.mp hx;simp,gD λx hx=>by
    obtain⟨n,_,rfl⟩:=Bn.mp hx;simp⟩
   rw[BF,ih];by_cases c:a=k
   ·subst c;simp
   ·have c1:(a==(k:Int))=false:=by simp;omega
    have c2:¬k=a:=λz=>c z.symm;simp[c1,c2]
 unfold lH;rw[sw h1,h2]
theorem Fe(h:k < n):nh n (k:Int)=al k:=by
 unfold nh;rw[if_pos ∅,if_pos ∅];simp
def sT{v:PV}(h:k < l.length):setW l (.int (k:Int)) v=.ret (l.set k v):=by
 unfold setW;simp[Fe h]
theorem jR{x:Str}(h:Wd x):bq (.str x)=.ret (.bl true):=by
 unfold bq;obtain⟨h1,h2,h3⟩:=h;have c1:x.length<=sizeLine:=cT ∅;have c2:x.cps.size<=sizeLine:=c1;have c3:(1:Int)<=(x.length:Int):=by omega
 have c4:(x.length:Int)<=8:=by omega
 simp only[lf,gS,iY,aR,A2,Am,if_false,Fw,sw c1,GH,c3,c4,decide_true,uY,cW,xY,sw c2];rw[m7 (g:=λ_=>PV.bl true) λy hy=>?_]
 ·simp only[lf];rw[all_map (λ_=>true)];congr 2;exact D3.mpr λ_ _=>rfl
 ·obtain⟨c,hc,rfl⟩:=Bn.mp hy;obtain⟨k1,k2⟩:=h3 c hc;simp only[IZ,kI k1 k2]
def vX(l:O PV)(n:Int):eT (.tup l) (.int n)=.ret (.bl ((l.length:Int)==n)):=by
 unfold eT;simp only[lf,fx,Fx,gT,fw,kW]
def mJ(x:Str)(n:PV):eT (.str x) n=.ret (.bl false):=by
 unfold eT;simp only[lf,gS,Fy,Fz]
end My
variable{f:PL.PV->FL.W PL.PV}
namespace My
section
variable{α:Type}
theorem xm{c:α->PV}{g:α->PV}:∀{l:List α},(∀x∈l,(f (c x)).le (.ret (g x)))->(dN (l.map c) f).le (.ret (l.map g))
 | [],_=>W.le.refl _
 | x::r,h=>W.le.ret (h x (.head _)) (W.le.ret (xm λy hy=>h y (.tail _ hy)) (W.le.refl _))
def m5{c:α->PV}(g:α->PV){l:List α}(h:∀x∈l,(f (c x)).le (.ret (g x)))(q:Q (l.map g)):(dN (l.map c) f).run Q:=xm h Q q
end
def vp:V->PV
 | .int i=>.int i
 | .str x=>.str x
 | .bl b=>.bl b
 | _=>.aB
def qm(t:Tr):O PV:=(ah (t.nd 0) 0 (Aq t.size V.aB)).map vp
@[simp] theorem ue(t:Tr):(qm t).length=t.size:=by unfold qm;rw[Al,sf,Bl]
def uf(t:Tr)(h:j < t.size):(qm t)[j]?=al (vp (se t 0 j .aB)):=by unfold qm;rw[Ak,Jn t h];rfl
def cD(t:Tr):((t.nd 0).map Ent.pv).length=t.size:=by rw[Al,t.bU]
theorem yJ(t:Tr)(hz:t.size<=900):(fm t.pv).le (.ret (.tup (qm t))):=λQ q=>by
 unfold fm;have c:((t.nd 0).map Ent.pv).length<=sizeLine:=cT (by rw[cD];omega);simp only[lf,f8];refine W.le.use (gq t hz) ?_;simp only[bh,mo];refine HS (λ_=>.aB) (λx hx=>rfl) ?_;simp only[sw c,mo];have e0:((t.nd 0).map Ent.pv).map (λ_=>PV.aB)=(ah ((t.nd 0).take 0) 0 (Aq t.size V.aB)).map vp:=by
  rw[List.take_zero,ah,List.map_replicate,List.map_const',cD];rfl
 rw[e0];refine jY (λi s=>s=(ah ((t.nd 0).take i) 0 (Aq t.size V.aB)).map vp) rfl (λi x s hx hs=>?_) (λs hs=>?_)
 ·subst hs;have hi:i < t.size:=by have:=(Ai.mp hx).1;rw[cX,cD]at this;exact this
  obtain⟨y,hy,rfl⟩:=gU hx;have e:=tG t 0 i hi;rw[Ak,e]at hy;have hy:=Option.some.inj hy;subst hy;have et:(t.nd 0).take (i+1)=(t.nd 0).take i++[en t 0 i]:=by rw[Cb,e];rfl
  have ea:ah ((t.nd 0).take (i+1)) 0 (Aq t.size V.aB)=yL (ah ((t.nd 0).take i) 0 (Aq t.size V.aB)) (0+i) (en t 0 i):=by
   rw[et,nZ,Bb,t.bU];congr 1;omega
  have TY:(ah ((t.nd 0).take i) 0 (Aq t.size V.aB)).length=t.size:=by rw[sf,Bl]
  rw[ea];generalize hA:ah ((t.nd 0).take i) 0 (Aq t.size V.aB)=A at TY ⊢;unfold kB;cases Uq:en t 0 i with
  | word w=>simp[Ent.pv,dG,yL]
  | pair a b=>
   obtain⟨ha,hb⟩:=u7 t hi Uq;have s1:setW (A.map vp) (.int a) (.int ((0+i:Nat)))=.ret ((A.map vp).set a (.int ((0+i:Nat):Int))):=sT (by rw[Al];omega);have s2:setW ((A.map vp).set a (.int ((0+i:Nat):Int))) (.int b) (.int ((0+i:Nat):Int))=.ret (((A.map vp).set a (.int ((0+i:Nat):Int))).set b (.int ((0+i:Nat):Int))):=sT (by rw[Cg,Al];omega);simp only[Ent.pv,IU,mo,fx,gR,aR,f8,Am,if_false,bh,dG,lf,s1,s2];show _=List.map vp ((A.set a _).set b _);rw[List.map_set,List.map_set];rfl
 ·subst hs;simp only[cX,Al];rw[List.take_length];exact q
theorem take_ok05:∀ns l Q,potG05 ns->((eK 1 bE) l).run Q->((λlo l=>eK 1 (m__law_take_4 lo) l) (ns.map PV.int) l).run λt=>Q t.1/\∃HJ:O Int,t.2=HJ.map PV.int/\potG05 HJ:=by
 rintro ns l Q ⟨g,s,rfl,g0,s0,s1⟩ q
 match l,q with
 | [],q=>exact q.elim
 | _::_::_,q=>exact q.elim
 | [x],q=>
  show(m__law_take_4 _ x).run _;have q:=q;cases x with
  | int m=>
   obtain⟨⟨m0,m1⟩,q⟩:=q;have q:∀d:Int,0<=d->d < m->Q (.int d):=λd h0 h1=>q _ ⟨d,rfl,h0,h1⟩;unfold m__law_take_4;generalize hA:(2305843009213693951:Int)=A;generalize hB:(6364136223846793005:Int)=B;generalize hC:(1442695040888963407:Int)=C;have A0:0 < A:=by omega
   by_cases hg:0 < g
   ·simp[cF,nh,hg,m0,setW,yV];refine⟨by omega,q _ (BO _ ∅) (BE _ m0),[g / m,s],rfl,_,_,rfl,Int.ediv_nonneg g0 ∅,s0,s1⟩
   ·have e1:wf s B:=xl ∅ ∅;simp[cF,nh,hg,m0,setW,Pb,e1,A0,yV];generalize hM:(s*B+C) % A=M;have M0:0<=M:=by rw[<- hM];exact BO _ ∅
    have M1:M < A:=by rw[<- hM];exact BE _ A0
    refine⟨xl ∅ ∅,q _ (BO _ ∅) (BE _ m0),[g,M],rfl,_,_,rfl,g0,M0,by omega⟩
  | _=>exact q.elim
theorem hand_run05{k:Int}(k0:0<=k)(k1:k<=1000)(q:∀l,(∃ms:O Int,l=ms.map PV.int/\potG05 ms)->Q l):(m__law_hand_2 (.cl (ns.map PV.int)) (.int k)).run Q:=by
 unfold m__law_hand_2;generalize hA:(2305843009213693951:Int)=A;generalize hB:(2305843009213693921:Int)=B;have A0:0 < A:=by omega
 have B0:0 < B:=by omega
 have fin:∀x:Int,(am (b2 gm (b2 oMod (c1 pX (ap (.int x))) (b2 gm (b2 gm (b2 lE (ap (.int 10)) (ap (.int 60))) (b2 lE (ap (.int 10)) (ap (.int 60)))) (b2 lE (ap (.int 10)) (ap (.int 60))))) (c1 nU (b2 M9 (c1 pX (ap (.int x))) (b2 lE (ap (.int 10)) (ap (.int 18)))))) λdq=>
 (dq\λx4=>am (b2 oMod (b2 gm (w2 addW (w2 addW (b2 oMod (ap (.int x)) (ap (.int B))) (b2 gm (b2 gm (ap (.int 104729)) (ap (.int k))) (ap (.int k)))) (ap (.int 7))) (ap (.int 48271))) (ap (.int A))) λx5=>ap [x4,x5])).run Q:=by
  intro x;have p1:yU 10 60:=⟨by decide,by decide,by decide⟩;have p2:yU 10 18:=⟨by decide,by decide,by decide⟩;have c1:wf 104729 k:=mulL ∅;have c2:wf (104729*k) k:=mulR ∅;have c3:∀y,wf y 48271:=λy=>mulR ∅;simp only[lf,IW,sw p1,sw p2,yb,nH,Mb,nJ,dr,Ja,W.yA,W.zr,mo,sw c1,sw c2,sw (c3 _),sw A0,sw B0];refine⟨EX (by decide +kernel) (by decide +kernel),EX (by decide +kernel) (by decide +kernel),by decide +kernel,?_,?_⟩
  ·split
   ·exact mulR ∅
   ·exact mulR ∅
  ·refine q _ ⟨[_,_],rfl,_,_,rfl,Int.mul_nonneg (BO _ (by decide +kernel)) ?_,BO _ ∅,by rw[hA];exact BE _ A0⟩
   split <;> first | decide | (split <;> decide)
 cases ns with
 | nil=>
  simp only[D9,lf,j4,List.isEmpty_nil,A2,Am,if_false];exact fin 0
 | cons n ns=>
  have l0:(0:Int) < ((n::ns).map PV.int).length:=by simp
  obtain⟨v,e,e2⟩:=yI (xs:=(n::ns).map PV.int) (BO k ∅) (BE k l0);rw[Ak]at e2;obtain⟨c,rfl⟩:∃c,v=.int c:=by
   cases z:(n::ns)[(k % ((n::ns).map PV.int).length).toNat]? with
   | none=>rw[z]at e2;cases e2
   | some c=>rw[z]at e2;exact⟨c,(Option.some.inj e2).symm⟩
  have e3:(!((n::ns).map PV.int).isEmpty)=true:=rfl;simpa only[lf,j4,e3,if_true,jZ,j5,nH,sw l0,cE,e,FB]using fin c
theorem menuP_begin(h0:0<=d)(h1:d < 3):∃bg:Str,cF [PV.str "",PV.str "",PV.str "ab"] d=al (.str bg)/\Part bg 2:=by
 have:d=0\/d=1\/d=2:=by omega
 rcases this with rfl | rfl | rfl
 ·exact⟨"",rfl,by decide +kernel,by decide +kernel⟩
 ·exact⟨"",rfl,by decide +kernel,by decide +kernel⟩
 ·exact⟨"ab",rfl,by decide +kernel,by decide +kernel⟩
theorem menuP_end(h0:0<=d)(h1:d < 4):∃bg:Str,cF [PV.str "",PV.str "a",PV.str "zz",PV.str "abcde"] d=al (.str bg)/\Part bg 5:=by
 have:d=0\/d=1\/d=2\/d=3:=by omega
 rcases this with rfl | rfl | rfl | rfl
 ·exact⟨"",rfl,by decide +kernel,by decide +kernel⟩
 ·exact⟨"a",rfl,by decide +kernel,by decide +kernel⟩
 ·exact⟨"zz",rfl,by decide +kernel,by decide +kernel⟩
 ·exact⟨"abcde",rfl,by decide +kernel,by decide +kernel⟩
theorem words_run05{m:Int}(m0:0<=m)(m1:m<=26)(q:∀ws:O Str,ws.length=m.toNat->(∀x∈ws,Wd x)->ws.Nodup->Q (ws.map PV.str)):(m__law_words_5 (.int m)).run Q:=by
 unfold m__law_words_5;simp only[lf,f8,cq 26 ⋯ ⋯,cq 6 ⋯ ⋯,cq 3 ⋯ ⋯];refine ba λd1 a1 b1=>ba λd3 a3 b3=>?_;obtain⟨st,jO,SX⟩:=qV a3 b3;simp only[cE,jO,FB,mo];refine ba λd5 a5 b5=>?_;obtain⟨bg,TU,Q1⟩:=menuP_begin a5 b5;simp only[cE,TU,FB,mo,gQ,sw (du (i:=0) (j:=m) ∅ ∅)];have lb:=Q1.1;refine pH (λi s=>∃ws:O Str,s=ws.map PV.str/\ws.length=i/\(∀x∈ws,Wd x)/\(ws.map λx=>x.cps[bg.length]?)=(BN i).map λk:Nat=>al (97+((d1+st*(0+(k:Int))) % 26).toNat)) ⟨[],rfl,rfl,by simp,rfl⟩ ?_ ?_
 ·rintro i s hi ⟨ws,rfl,hl,hw,hs⟩;have e0:0<=(d1+st*(0+(i:Int))) % 26:=BO _ ⋯;have e1:(d1+st*(0+(i:Int))) % 26 < 26:=BE _ ⋯;have e2:(d1+st*(i:Int))=d1+st*(0+(i:Int)):=by rw[Ec]
  have c1:wf st (i:Int):=mulL ∅;have c2:("abcdefghijklmnopqrstuvwxyz":Str).length<=sizeLine:=by decide +kernel
  have c3:bg.length+(⟨#[97+((d1+st*(0+(i:Int))) % 26).toNat]⟩:Str).length<=sizeLine:=cT (by show bg.length+1<=1000;omega);simp only[lf,f8,cq 4 ⋯ ⋯];refine ba λd7 a7 b7=>?_;obtain⟨en,TJ,Q0⟩:=menuP_end a7 b7;have le:=Q0.1;have c4:(bg++(⟨#[97+((d1+st*(0+(i:Int))) % 26).toNat]⟩:Str)).length+en.length<=sizeLine:=cT (by rw[Ar];show bg.length+1+en.length<=1000;omega);simp only[cE,TJ,FB,mo,lf,yb,sw c1,dr,nH,sw (show(0:Int) < 26 by decide),e2,IX _ _ (uJ e0 e1),sw c2,FA,sw c3,sw c4];rw[eI (by rw[Al,hl];omega)];refine⟨ws++[bg++⟨#[97+((d1+st*(0+(i:Int))) % 26).toNat]⟩++en],by rw[AN];rfl,by rw[Ab,hl];rfl,?_,by rw[AN,hs,List.range_succ,AN,List.map_singleton,List.map_singleton,uj]⟩;intro x hx;rcases A5.mp hx with z | z
  ·exact hw x z
  ·rw[AG.mp z];exact zb Q1 Q0 ∅ ∅
 ·rintro s ⟨ws,rfl,hl,hw,hs⟩;have nd:(ws.map λx=>x.cps[bg.length]?).Nodup:=by rw[hs];exact lG SX ∅
  exact q ws hl hw (mX (g:=λx:Str=>x.cps[bg.length]?) nd)
end My
variable{Q:PL.PV->Prop}{ws:O Bv}
namespace My
theorem joined_run05(hw:ws≠[])(h8:ws.length<=100)(q:∀t:Tr,t.ae=ws->Q t.pv):(m__law_joined_2 (.cl (ws.map PV.str))).run Q:=by
 have wl:0 < ws.length:=Dq.mpr hw;unfold m__law_joined_2;simp only[lf,f8,jZ,mo,cq 5 ⋯ ⋯,j5,rH,Al,gQ];refine ba λw w0 w1=>?_;simp only[sw (du (i:=0) (j:=(ws.length:Int)-1) ∅ ∅),mo];refine pH (λi s=>∃ts:O Tr,s=ts.map Tr.pv/\ts.length+i=ws.length/\ts.flatMap Tr.ae=ws) ⟨ws.map Tr.leaf,by simp[Tr.pv],by simp,by simp[List.flatMap_map,Tr.ae,List.flatMap_singleton']⟩ ?_ ?_
 ·rintro i s hi ⟨ts,rfl,hl,hp⟩;have h2:2<=ts.length:=by omega
  have f0:(0:Int) < (ts.length:Int)-2+1:=by omega
  simp only[lf,f8,yc,Al,rH,mo,dr,nH,sw f0,cq ((ts.length:Int)-2+1) f0 ∅];refine ba λd d0 d1=>ba λe e0 e1=>?_;have m0:=BO ((i:Int)) (show(ts.length:Int)-2+1≠0 by omega);have m1:=BE ((i:Int)) f0;obtain⟨a,ha,a1⟩:∃a:Nat,cF [PV.int 0,PV.int ((ts.length:Int)-2),PV.int (((i:Int)) % ((ts.length:Int)-2+1)),PV.int d,PV.int e] w=al (.int (a:Int))/\a+1 < ts.length:=by
   have:w=0\/w=1\/w=2\/w=3\/w=4:=by omega
   rcases this with rfl | rfl | rfl | rfl | rfl
   ·exact⟨0,rfl,by omega⟩
   ·exact⟨ts.length-2,by show al (PV.int ((ts.length:Int)-2))=_;congr 2;omega,by omega⟩
   ·exact⟨(((i:Int)) % ((ts.length:Int)-2+1)).toNat,by show al (PV.int _)=_;rw[Dr m0],by omega⟩
   ·exact⟨d.toNat,by show al (PV.int d)=_;rw[Dr d0],by omega⟩
   ·exact⟨e.toNat,by show al (PV.int e)=_;rw[Dr e0],by omega⟩
  obtain⟨as,x,y,bs,rfl,hk⟩:=Jm a1;have i0:cF ((as++x::y::bs).map Tr.pv) (a:Int)=al x.pv:=nV (by rw[Ak,Ah ∅];simp[hk]);have i1:cF ((as++x::y::bs).map Tr.pv) ((a:Int)+1)=al y.pv:=by
   have:((a:Int)+1)=((a+1:Nat):Int):=by push_cast;rfl
   rw[this];exact nV (by rw[Ak,Ah ∅];simp[hk])
  simp only[cE,ha,FB,mo,i0,i1,dr,lf];rw[Ab,Av,Av]at hl;refine⟨⟨by omega,by omega,?_,cT ?_⟩,?_⟩
  ·rw[Al,Ab,Av,Av];push_cast;omega
  ·rw[Al,Ab,Av,Av];simp;omega
  ·have e:((as++x::y::bs).map Tr.pv).take (a:Int).toNat++[.tup [x.pv,y.pv]]++((as++x::y::bs).map Tr.pv).drop ((a:Int)+2).toNat=(as++.node x y::bs).map Tr.pv:=by
    have t1:(a:Int).toNat=as.length:=by omega
    have t2:((a:Int)+2).toNat=as.length+2:=by omega
    rw[t1,t2,<- List.map_take,<- List.map_drop,List.take_left' rfl];have:(as++x::y::bs).drop (as.length+2)=bs:=by
     rw[show as++x::y::bs=(as++[x,y])++bs by simp,List.drop_left' (by simp)]
    rw[this];simp[Tr.pv]
   refine⟨as++.node x y::bs,e,by simp;omega,?_⟩;rw[<- hp];simp[A4,List.flatMap_cons,Tr.ae]
 ·rintro s ⟨ts,rfl,hl,hp⟩;have h1:ts.length=1:=by omega
  match ts,h1 with
  | [t],_=>
   have:t.ae=ws:=by simpa using hp
   exact q t this
structure Gr5(t:Tr):Prop where
 ws:t.Ws
 nd:t.ae.Nodup
 few:t.ae.length<=8
def leaves_ne(t:Tr):t.ae≠[]:=by have:=t.dE;intro z;rw[z]at this;simp at this
theorem great_run05(q:∀t:Tr,Gr5 t->Q t.pv):(m__law_great_5 (.int 8)).run Q:=by
 unfold m__law_great_5;simp only[lf,f8,cq 8 ⋯ ⋯];refine ba λd d0 d1=>?_;obtain⟨n,hn,n0,n1⟩:∃n:Int,cF [PV.int 5,PV.int 8] (if (d==0)=true then 1 else 0)=al (.int n)/\0 < n/\n<=8:=by
  by_cases h:d=0
  ·subst h;exact⟨8,rfl,by decide,by decide⟩
  ·have e:(d==0)=false:=by simpa using h
   rw[e];exact⟨5,rfl,by decide,by decide⟩
 simp only[kW,mo,nJ,cE,hn,FB,cq n n0 ∅];refine ba λk k0 k1=>?_;simp only[dr,mo];refine words_run05 ∅ ∅ λws hl hw hd=>?_;refine joined_run05 (λz=>by rw[z]at hl;simp at hl;omega) ∅ λt ht=>q t ⟨λx hx=>hw x (ht▸hx),by rw[ht];exact hd,by rw[ht,hl];omega⟩
theorem lvs_le:∀(n:Nat) (t:Tr),t.depth < n->t.ae.length<=900->(m__law_leaves n t.pv).le (.ret (t.ae.map PV.str))
 | 0,_,h,_=>absurd h (Nat.not_lt_zero _)
 | n+1,.leaf x,_,_=>λQ q=>by
  unfold m__law_leaves;simp only[Tr.pv,lf,gS,iY,aR,if_true,mo];exact q
 | n+1,.node a b,h,hl=>λQ q=>by
  have hd:(Tr.node a b).depth=max a.depth b.depth+1:=rfl;have e:(Tr.node a b).ae=a.ae++b.ae:=rfl;rw[e,Ab]at hl;unfold m__law_leaves;simp only[Tr.pv,lf,fx,gR,aR,Am,if_false,bh,cE,show cF [a.pv,b.pv] 0=al a.pv from rfl,show cF [a.pv,b.pv] 1=al b.pv from rfl,FB,f8];refine lvs_le n a ∅ ∅ _ ?_;show(W.run _ _);refine lvs_le n b ∅ ∅ _ ?_;refine⟨cT (by simp;omega),?_⟩;rw[e,AN]at q;exact q
end My
variable{g:My.Tr}
namespace My
def in_str(x:Str)(l:O Str)(b:Bool):lH b (.str x) (l.map PV.str)=.ret (if b then !decide (x∈l) else decide (x∈l)):=by
 have h1:uQ (.str x) (l.map PV.str):=⟨by simp,gC.mpr λy hy=>by
  obtain⟨n,_,rfl⟩:=Bn.mp hy;simp,gD λy hy=>by
  obtain⟨n,_,rfl⟩:=Bn.mp hy;simp⟩
 have h2:lI (.str x) (l.map PV.str)=decide (x∈l):=by
  unfold lI;rw[List.any_map];clear h1
  induction l with
  | nil=>simp
  | cons a l ih=>
   rw[BF,ih];by_cases c:a=x
   ·subst c;simp[GB]
   ·have c':¬x=a:=λz=>c z.symm;simp[GB,c,c']
 unfold lH;rw[sw h1,h2]
theorem grown2_le(f:PV->W PV)(g:Str->Bool)(t:Tr)(hf:∀x∈t.ae,f (.str x)=.ret (.bl (g x)))(b:Bool)(hd:b=true\/t.ae.Nodup)(hz:t.size<=900):(m_is_grown_2 f t.pv (.bl b)).le (.ret (.bl (t.ae.all g))):=λQ q=>by
 unfold m_is_grown_2;simp only[lf,f8];refine hV (λn s=>∃(ts:O Tr) (aw:O (Key×PV)),n=aX ts/\s=(aw,ts.map Tr.pv)/\(∀x∈ts.flatMap Tr.ae,f (.str x)=.ret (.bl (g x)))/\(ts.flatMap Tr.ae).all g=t.ae.all g/\(b=true\/(ts.flatMap Tr.ae).Nodup/\∀x∈ts.flatMap Tr.ae,gw aw (.inr x)=false)/\aX ts+aw.length<=900) (n:=aX [t]) ⟨[t],[],rfl,rfl,by simpa using hf,by simp,hd.imp id λh=>⟨by simpa using h,λ_ _=>rfl⟩,by rw[bF];simpa using hz⟩ ?_;rintro n s ⟨ts,aw,rfl,rfl,h1,rq,h2,h3⟩;by_cases he:ts=[]
 ·subst he;simp at rq;have hq:t.ae.all g=true:=by simpa using rq
  rw[hq]at q;exact q
 ·obtain⟨us,u,rfl⟩:=gI he;have Tf:=u.size_pos;have Gx:=gK us;rw[aH,bF]at h3;have ee:(!((us++[u]).map Tr.pv).isEmpty)=true:=by simp
  have em:(us++[u]).map Tr.pv=us.map Tr.pv++[u.pv]:=by simp
  simp only[lf,mo,ee,if_true,f8];rw[em];simp only[rJ,mo];cases u with
  | leaf x=>
   have wx:=h1 x (by simp[Tr.ae]);have c1:aw.length < sizeLine:=jd ∅;have cb:=h2.imp id λh=>h.2 x (by simp[Tr.ae]);have ct:(if (gw aw (.inr x))=true then (ap (!b)) else ap false)=ap false:=by
    rcases cb with h | h
    ·rw[h];split <;> rfl
    ·rw[h];rfl
   cases hg:g x with
   | false=>
    rw[hg]at wx;have hq:t.ae.all g=false:=by rw[<- rq,A4,List.all_append];simp[Tr.ae,hg]
    rw[hq]at q;simp only[Tr.pv,mJ,aR,mo,Am,if_false,wx,Ex,lf,if_true,f8];exact q
   | true=>
    rw[hg]at wx;simp only[Tr.pv,mJ,aR,mo,Am,if_false,wx,A2,lf,nI,ct,zA,sw c1,f8];refine⟨aX us,by rw[aH,bF];show aX us < aX us+1;omega,us,_,rfl,rfl,λy hy=>h1 y (by simp[hy]),by rw[<- rq,A4,List.all_append];simp[Tr.ae,hg],?_,?_⟩
    ·rcases h2 with h | ⟨h,k⟩
     ·exact .inl h
     ·right
      rw[A4]at h;have nx:x∉us.flatMap Tr.ae:=λz=>by
       have:=(Cp.mp h).2.2 x z x (by simp[Tr.ae]);exact this rfl
      refine⟨(Cp.mp h).1,λy hy=>?_⟩;have ky:=k y (by simp[hy]);have kx:=k x (by simp[Tr.ae]);have Sx:x≠y:=λz=>nx (z▸hy);unfold mL;rw[kx];show gw (aw++[_]) _=false;unfold gw at ky ⊢;rw[Dl,ky];simp[Sx]
    ·have:(mL aw (.inr x) (.bl true)).length<=aw.length+1:=by
      unfold mL
      split <;> simp
     omega
  | node c d=>
   have hsz:(Tr.node c d).size=c.size+d.size+1:=rfl;have e1:uX (us.map Tr.pv) [c.pv,d.pv]=.ret (us.map Tr.pv++[c.pv,d.pv]):=sw (cT (by simp;omega));have e2:(([c.pv,d.pv].length:Int)==2)=true:=rfl;simp only[Tr.pv,vX,e2,aR,mo,if_true,bh,e1,f8];have e3:aX [c,d]=c.size+d.size:=by simp[aX]
   refine⟨aX (us++[c,d]),by rw[aH,aH,bF,e3];omega,us++[c,d],aw,rfl,by simp,λy hy=>h1 y (by simpa[Tr.ae,A4]using hy),by rw[<- rq];simp[Tr.ae,A4],?_,by rw[aH,e3];omega⟩;refine h2.imp id λ⟨h,k⟩=>⟨by simpa[Tr.ae,A4]using h,λy hy=>k y (by simpa[Tr.ae,A4]using hy)⟩
theorem great2_le(g:Gr5 t):(m_is_great_2 t.pv).le (.ret (.bl true)):=by
 unfold m_is_great_2;simp only[lf];have h:=grown2_le bq (λ_=>true) t (λx hx=>jR (g.ws x hx)) false (.inr g.nd) (by have:=t.size_eq;have:=g.few;omega);have e:t.ae.all (λ_=>true)=true:=by simp
 rw[e]at h;exact h
theorem post_leaves:∀t:Tr,(t.post.map Tr.pv).filterMap (λv=>if Kd.is .str v=true then al v else bn)=t.ae.map PV.str
 | .leaf x=>rfl
 | .node a b=>by
  have e:(Tr.node a b).post=a.post++b.post++[.node a b]:=rfl;rw[e];simp only[AN,List.filterMap_append,post_leaves a,post_leaves b,A1,D9];show _=(a.ae++b.ae).map PV.str;rw[AN];have:List.filterMap (λv=>if Kd.is .str v=true then al v else bn) [(Tr.node a b).pv]=[]:=rfl;rw[this,Bg]
def leaves_le(t:Tr)(hz:t.size<=900):(m_leaves t.pv).le (.ret (.tup (t.ae.map PV.str))):=λQ q=>by
 unfold m_leaves;simp only[lf,f8];refine oU t hz _ ?_;refine Gm (λv=>if Kd.is .str v=true then al v else bn) (λv hv=>?_) ?_
 ·obtain⟨u,_,rfl⟩:=Bn.mp hv;cases u <;> rfl
 ·rw[post_leaves];exact q
theorem small_le(hg:Gr5 g)(t:Tr)(hw:t.Ws)(hz:t.size<=900):(m_is_small g.pv t.pv).le (.ret (.bl (t.ae.all λx=>decide (x∈g.ae)))):=λQ q=>by
 unfold m_is_small;simp only[lf,f8];refine great2_le hg _ ?_;simp only[aR,mo,A2,Am,if_false,lf];refine leaves_le g (by have:=g.size_eq;have:=hg.few;omega) _ ?_;refine grown2_le _ (λx=>decide (x∈g.ae)) t (λx hx=>?_) true (.inl rfl) hz _ q;simp only[jR (hw x hx),lf,gT,bh,in_str,Mc,Am,if_false]
theorem mapW_all5{S:PV->Prop}:∀{l:O PV},(∀x∈l,∀R:PV->Prop,(∀v,S v->R v)->(f x).run R)->∀{Q:O PV->Prop},(∀m,m.length=l.length->(∀v∈m,S v)->Q m)->(dN l f).run Q
 | [],_,Q,q=>q [] rfl (λ_ h=>nomatch h)
 | x::l,h,Q,q=>by
  show(am (f x) λy=>am (dN l f) λm=>ap (y::m)).run Q;simp only[f8];refine h x (.head _) _ λv hv=>?_;refine mapW_all5 (λy hy=>h y (.tail _ hy)) λm hm hs=>?_;exact q (v::m) (by simp[hm]) λu hu=>by
   rcases AA.mp hu with rfl | hu
   ·exact hv
   ·exact hs u hu
theorem strs_of5:∀{m:O PV}{ls:O Str},(∀v∈m,∃w∈ls,v=PV.str w)->∃ws:O Str,m=ws.map PV.str/\∀w∈ws,w∈ls
 | [],_,_=>⟨[],rfl,λ_ h=>nomatch h⟩
 | v::m,ls,h=>by
  obtain⟨w,hw,rfl⟩:=h v (.head _);obtain⟨ws,rfl,h2⟩:=strs_of5 (m:=m) (ls:=ls) λu hu=>h u (.tail _ hu);exact⟨w::ws,rfl,λx hx=>by
   rcases AA.mp hx with rfl | hx
   ·exact hw
   ·exact h2 x hx⟩
def occ_let:∀k:_root_.Fin 26,occ "(" (97+k.val)=false:=by decide +kernel
theorem occ_l{c:Nat}(h:97<=c/\c < 123):occ "(" c=false:=by
 have:=occ_let ⟨c-97,by omega⟩;have e:97+(c-97)=c:=by omega
 simpa[e]using this
def occ_pp:occ "(" 40=true:=by decide +kernel
def occ_cc:occ "," 44=true:=by decide +kernel
def occ_rr:occ ")" 41=true:=by decide +kernel
def occ_c0:occ LTR 44=false:=by decide +kernel
def occ_r0:occ LTR 41=false:=by decide +kernel
def Kx(k:O Nat):Prop:=∀c r,k=c::r->c=44\/c=41
def wd_cut{x k:O Nat}(h8:x.length<=8)(hx:∀c∈x,97<=c/\c < 123)(hk:Kx k):((x++k).take 8).takeWhile (occ LTR)=x:=by
 have all:∀c∈x,occ LTR c=true:=λc hc=>kI (hx c hc).1 (hx c hc).2;rw[List.take_append,Bh h8,List.takeWhile_append_of_pos all];have:((k.take (8-x.length)).takeWhile (occ LTR))=[]:=by
  cases k with
  | nil=>simp
  | cons c r=>
   have hc:occ LTR c=false:=by
    rcases hk c r rfl with z | z
    ·rw[z];exact occ_c0
    ·rw[z];exact occ_r0
   cases e:8-x.length with
   | zero=>simp
   | succ m=>rw[List.take_succ_cons,B1 (by rw[hc];decide)]
 rw[this,Bg]
def fin(T:Str)(k n:Nat)(st:Stk)(x:PV):Option (PV×Nat):=match beh T n st x with
 | some (.aB,n2,lz)=>rdN T frT k n2 lz
 | some (y,n2,_)=>al (y,n2)
 | none=>bn
theorem rd_tree:∀(t:Tr),t.Ws->∀(pre k:O Nat) (st:Stk) (fu:Nat),T.cps.toList=pre++(t.tl++k)->Kx k->st.length+t.depth < 1000->rdN T frT (fu+t.size) pre.length st=fin T fu (pre.length+t.tl.length) st t.pv
 | .leaf x,hw,pre,k,st,fu,hT,hk,hd=>by
  obtain⟨w1,w2,w3⟩:=hw x (AG.mpr rfl);have hT:T.cps.toList=pre++(x.cps.toList++k):=hT;have lx:x.cps.toList.length=x.length:=by simp[C5]
  have ew:wdAt T pre.length=x.cps.toList:=by
   unfold wdAt;rw[hT,List.drop_left];exact wd_cut ∅ w3 hk
  have e1:at1 T pre.length "("=false:=by
   cases ex:x.cps.toList with
   | nil=>rw[ex]at lx;simp at lx;omega
   | cons c r=>
    have:T.cps.toList[pre.length]?=al c:=by rw[hT,ex];simp
    rw[at1_of this];exact occ_l (w3 c (by rw[ex];exact .head _))
  have ef:frT T pre.length=al (.str x,false,pre.length+x.length):=by
   unfold frT;rw[e1,ew,if_neg ⋯,if_neg (λz=>by rw[z]at lx;simp at lx;omega),lx]
  show rdN T frT (fu+1) pre.length st=fin T fu (pre.length+x.cps.toList.length) st (.str x);rw[lx,rdN,ef];rfl
 | .node l r,hw,pre,k,st,fu,hT,hk,hd=>by
  have dl:l.depth < (Tr.node l r).depth/\r.depth < (Tr.node l r).depth:=by
   show l.depth < max l.depth r.depth+1/\r.depth < max l.depth r.depth+1;omega
  have LU:T.cps.toList=pre++(40::(l.tl++(44::(r.tl++(41::k))))):=by rw[hT,sL]
  have len:(Tr.node l r).tl.length=l.tl.length+r.tl.length+3:=by
   have:=congrArg CS (sL l r []);simp at this;omega
  have sz:fu+(Tr.node l r).size=(fu+r.size+l.size)+1:=by show fu+(l.size+r.size+1)=_;omega
  have t1:T.cps.toList[pre.length]?=al 40:=by rw[LU];simp
  have ef:frT T pre.length=al (.tup [],true,pre.length+1):=by
   unfold frT;rw[at1_of t1,occ_pp,if_pos rfl]
  rw[sz,rdN,ef];show(if ([]:O PV).length<=100/\st.length < 1000 then rdN T frT (fu+r.size+l.size) (pre.length+1) (([],bn)::st) else bn)=_;rw[if_pos ⟨by simp,by omega⟩];have h1:=rd_tree l (λx hx=>hw x (Bf _ hx)) (pre++[40]) (44::(r.tl++(41::k))) (([],bn)::st) (fu+r.size) (by rw[LU];simp) (λc r e=>by injection e with e;exact .inl e.symm) (by simp;omega);rw[Ab,Bc]at h1;rw[h1];have t2:T.cps.toList[pre.length+1+l.tl.length]?=al 44:=by
   rw[LU,Ah ∅];have:pre.length+1+l.tl.length-pre.length=l.tl.length+1:=by omega
   rw[this,Cc,Ah (Aj _),Du];rfl
  have b1:beh T (pre.length+1+l.tl.length) (([],bn)::st) l.pv=al (.aB,pre.length+1+l.tl.length+1,([],al l.pv)::st):=by
   unfold beh;rw[at1_of t2,occ_cc,if_pos rfl]
  unfold fin;rw[b1];show rdN T frT (fu+r.size) (pre.length+1+l.tl.length+1) (([],al l.pv)::st)=_;have h2:=rd_tree r (λx hx=>hw x (Ax _ hx)) (pre++[40]++l.tl++[44]) (41::k) (([],al l.pv)::st) fu (by rw[LU];simp) (λc r e=>by injection e with e;exact .inr e.symm) (by simp;omega);rw[Ab,Ab,Ab,Bc,Bc]at h2;rw[h2];have t3:T.cps.toList[pre.length+1+l.tl.length+1+r.tl.length]?=al 41:=by
   rw[LU,Ah ∅];have:pre.length+1+l.tl.length+1+r.tl.length-pre.length=(l.tl.length+1+r.tl.length)+1:=by omega
   rw[this,Cc,Ah ∅];have:l.tl.length+1+r.tl.length-l.tl.length=r.tl.length+1:=by omega
   rw[this,Cc,Ah (Aj _),Du];rfl
  have b2:beh T (pre.length+1+l.tl.length+1+r.tl.length) (([],al l.pv)::st) r.pv=beh T (pre.length+(Tr.node l r).tl.length) st (Tr.node l r).pv:=by
   rw[beh,at1_of t3,occ_rr,if_pos rfl,len];have:pre.length+1+l.tl.length+1+r.tl.length+1=pre.length+(l.tl.length+r.tl.length+3):=by omega
   rw[this];rfl
  unfold fin;rw[b2]
def tl_len(t:Tr):t.tl.length=t.text.length:=by simp[Tr.tl,C5]
theorem rt_le(t:Tr)(hw:t.Ws)(hd:t.depth < 900)(hl:t.text.length<=1000):(mRT (.str t.text)).le (.ret t.pv):=λQ q=>by
 refine⟨t.text,t.size,t.pv,rfl,Ba hl ⋯,?_,q⟩;have:=rd_tree (T:=t.text) t hw [] [] [] 0 (by simp[Tr.tl]) (λ_ _ e=>by cases e) (by simp;omega);simp only[List.length_nil,BS,tl_len]at this;rw[this];unfold fin;rw[beh];cases t <;> rfl
end My
variable{u:Bv}
namespace My
def ev_stW(h:u.length<=1000):stW (.str u)=.ret u:=sw h
def brk_eq{v:Str}(h1:u.length<=1000)(h2:v.length<=1000):m_bracketed (.str u) (.str v)=.ret (.str (A3++"("++u++","++v++")")):=by
 unfold m_bracketed;simp only[lf,ev_stW h1,ev_stW h2]
theorem post_sub:∀(t:Tr) (k:Nat) (u:Tr),t.post[k]?=al u->t.Ws->u.Ws/\u.ae.length<=t.ae.length
 | .leaf x,k,u,h,hw=>by
  have:k=0:=by have:=(Ai.mp h).1;simp[Tr.post]at this;exact this
  subst this;simp[Tr.post]at h;subst h;exact⟨hw,Aj _⟩
 | .node l r,k,u,h,hw=>by
  have h:(l.post++r.post++[Tr.node l r])[k]?=al u:=h;have hm:=AB h;have go:∀s:Tr,(∀k (u:Tr),s.post[k]?=al u->s.Ws->u.Ws/\u.ae.length<=s.ae.length)->s.Ws->s.ae.length<=(Tr.node l r).ae.length->u∈s.post->u.Ws/\u.ae.length<=(Tr.node l r).ae.length:=λs ih hs hl hu=>by
   obtain⟨j,hj⟩:=BH hu;obtain⟨a,b⟩:=ih j u hj hs;exact⟨a,Ba b hl⟩
  have e:(Tr.node l r).ae=l.ae++r.ae:=rfl;rcases A5.mp hm with hm | hm
  ·rcases A5.mp hm with hm | hm
   ·exact go l (λk u=>post_sub l k u) (λx hx=>hw x (by rw[e];exact Bf _ hx)) (by rw[e,Ab];omega) hm
   ·exact go r (λk u=>post_sub r k u) (λx hx=>hw x (by rw[e];exact Ax _ hx)) (by rw[e,Ab];omega) hm
  ·rw[AG.mp hm];exact⟨hw,Aj _⟩
theorem txt_small(hw:t.Ws)(hl:t.ae.length<=60):t.text.length<=1000:=by have:=t.text_len hw;omega
theorem text_le(t:Tr)(hw:t.Ws)(hl:t.ae.length<=60):(m_text_of t.pv).le (.ret (.str t.text)):=λQ q=>by
 have hz:t.size<=900:=by have:=t.size_eq;omega
 unfold m_text_of;simp only[lf,f8];refine W.le.use (gq t hz) ?_;simp only[mo,bh];refine jY (λi s=>s=(t.post.take i).map λu=>PV.str u.text) rfl (λi x s hx hs=>?_) (λs hs=>?_)
 ·subst hs;have hi:i < t.post.length:=by
   have:=(Ai.mp hx).1;rw[Al,Tr.bU]at this;rw[t.aK];exact this
  obtain⟨u,hu⟩:∃u,t.post[i]?=al u:=⟨_,Ag hi⟩;have tl:((t.post.take i).map λu=>PV.str u.text).length < 1000:=by
   have:=t.aK;rw[Al,Bb];omega
  have nx:((t.post.take (i+1)).map λu=>PV.str u.text)=((t.post.take i).map λu=>PV.str u.text)++[PV.str u.text]:=by
   rw[Cb,hu,AN];rfl
  have n:=lY t 0 i u hu;rw[Ak]at hx;cases u with
  | leaf y=>
   have n:(t.nd 0)[i]?=al (.word y):=n;rw[n]at hx;cases hx;show(cO (am (am (ap (PV.str y)) (dn .str)) cH) _ _).run _;simp only[lf,f8,gS,iY,aR,mo,if_true,eI tl];exact nx.symm
  | node l r=>
   obtain⟨a,b,n1,ha,hb,pa,pb⟩:=n;rw[n1]at hx;cases hx;obtain⟨lw,ll⟩:=post_sub t a l pa hw;obtain⟨vV,rl⟩:=post_sub t b r pb hw;have ga:cF ((t.post.take i).map λu=>PV.str u.text) ((0+a:Nat):Int)=al (.str l.text):=atI_n (by rw[BS,Ak,BD,if_pos ha,pa];rfl);have gb:cF ((t.post.take i).map λu=>PV.str u.text) ((0+b:Nat):Int)=al (.str r.text):=atI_n (by rw[BS,Ak,BD,if_pos hb,pb];rfl);have ep:(Ent.pair (0+a) (0+b)).pv=PV.tup [.int ((0+a:Nat):Int),.int ((0+b:Nat):Int)]:=rfl;show(cO (am (am (ap (PV.tup [.int ((0+a:Nat):Int),.int ((0+b:Nat):Int)])) (dn .str)) cH) _ _).run _;have i0:cF [PV.int ((0+a:Nat):Int),.int ((0+b:Nat):Int)] 0=al (.int ((0+a:Nat):Int)):=rfl;have i1:cF [PV.int ((0+a:Nat):Int),.int ((0+b:Nat):Int)] 1=al (.int ((0+b:Nat):Int)):=rfl;simp only[lf,f8,ep,fx,gR,aR,mo,Am,if_false,bh,cE,i0,i1,FB,ga,gb,brk_eq (txt_small lw ∅) (txt_small vV ∅),eI tl];exact nx.symm
 ·subst hs;have sp:=t.size_pos;have:((t.nd 0).map Ent.pv).length=t.size:=by rw[Al,Tr.bU]
  rw[this,Bh (by rw[t.aK];exact Aj _)];have e:cF (t.post.map λu=>PV.str u.text) (-1)=al (.str t.text):=by
   have pl:=t.eO;obtain⟨a,x,z⟩:=gI (l:=t.post) (λz=>by rw[z]at pl;cases pl);have:x=t:=by
    have l:=t.aK;rw[z,Ab,Bc]at l;rw[z,Ah ∅]at pl;have:t.size-1-a.length=0:=by omega
    rw[this]at pl;simpa using pl
   rw[z,AN,this];exact gF _ _
  simp only[lf,rK,cE,e,FB,mo];exact q
end My
variable{b:My.Tr}
namespace My
def ev_ltS(s t:Str):of2 zU (.str s) (.str t)=.ret (.bl (decide (s.cps.toList < t.cps.toList))):=ww λQ=>⟨Cj,λq=>⟨rfl,q⟩⟩
abbrev pr8(u:Tr):PV:=.tup [.str u.text,u.pv]
def pair_go(n:Nat){a:Tr}(h:¬b.tl < a.tl)(ha:a.text.length<=1000)(hb:b.text.length<=1000):m_paired (n+1) (pr8 a) (pr8 b)=.ret (pr8 (.node a b)):=by
 have i0:∀u:Tr,cF [PV.str u.text,u.pv] 0=al (.str u.text):=λ_=>rfl;have i1:∀u:Tr,cF [PV.str u.text,u.pv] 1=al u.pv:=λ_=>rfl;have e:decide (b.text.cps.toList < a.text.cps.toList)=false:=decide_eq_false h;unfold m_paired;simp only[pr8,lf,bh,cE,i0,i1,FB,ev_ltS,cW,e,Am,if_false,brk_eq ha hb];rfl
def pair_eq{a:Tr}(ha:a.text.length<=1000)(hb:b.text.length<=1000):m_paired 3 (pr8 a) (pr8 b)=.ret (pr8 (mk2 a b)):=by
 unfold mk2;by_cases h:b.tl < a.tl
 ·rw[if_pos h,<- pair_go 1 (kD _ _ h) hb ha];have i0:∀u:Tr,cF [PV.str u.text,u.pv] 0=al (.str u.text):=λ_=>rfl;have e:decide (b.text.cps.toList < a.text.cps.toList)=true:=decide_eq_true h;rw[m_paired];simp only[pr8,lf,bh,cE,i0,FB,ev_ltS,cW,e,if_true]
 ·rw[if_neg h];exact pair_go 2 h ha hb
theorem plain_le(t:Tr)(hw:t.Ws)(hl:t.ae.length<=60):(m_plain t.pv).le (.ret t.plain.pv):=λQ q=>by
 have hz:t.size<=900:=by have:=t.size_eq;omega
 have Ö:∀k (u:Tr),t.post[k]?=al u->u.plain.text.length<=1000:=λk u hu=>by
  obtain⟨w1,w2⟩:=post_sub t k u hu hw;exact txt_small (iJ w1) (by rw[(bH u).2];omega)
 unfold m_plain;simp only[lf,f8];refine W.le.use (gq t hz) ?_;simp only[mo,bh];refine jY (λi s=>s=(t.post.take i).map λu=>pr8 u.plain) rfl (λi x s hx hs=>?_) (λs hs=>?_)
 ·subst hs;have hi:i < t.post.length:=by
   have:=(Ai.mp hx).1;rw[Al,Tr.bU]at this;rw[t.aK];exact this
  obtain⟨u,hu⟩:∃u,t.post[i]?=al u:=⟨_,Ag hi⟩;have tl:((t.post.take i).map λu=>pr8 u.plain).length < 1000:=by
   have:=t.aK;rw[Al,Bb];omega
  have nx:((t.post.take (i+1)).map λu=>pr8 u.plain)=((t.post.take i).map λu=>pr8 u.plain)++[pr8 u.plain]:=by
   rw[Cb,hu,AN];rfl
  have n:=lY t 0 i u hu;rw[Ak]at hx;cases u with
  | leaf y=>
   have n:(t.nd 0)[i]?=al (.word y):=n;rw[n]at hx;cases hx;show(cO (am (am (ap (PV.str y)) (dn .str)) cH) _ _).run _;have ep:(Ent.word y).pv=PV.str y:=rfl;simp only[lf,f8,ep,gS,iY,aR,mo,if_true,eI tl];exact nx.symm
  | node l r=>
   obtain⟨a,b,n1,ha,hb,pa,pb⟩:=n;rw[n1]at hx;cases hx;have ga:cF ((t.post.take i).map λu=>pr8 u.plain) ((0+a:Nat):Int)=al (pr8 l.plain):=atI_n (by rw[BS,Ak,BD,if_pos ha,pa];rfl);have gb:cF ((t.post.take i).map λu=>pr8 u.plain) ((0+b:Nat):Int)=al (pr8 r.plain):=atI_n (by rw[BS,Ak,BD,if_pos hb,pb];rfl);have ep:(Ent.pair (0+a) (0+b)).pv=PV.tup [.int ((0+a:Nat):Int),.int ((0+b:Nat):Int)]:=rfl;have i0:cF [PV.int ((0+a:Nat):Int),.int ((0+b:Nat):Int)] 0=al (.int ((0+a:Nat):Int)):=rfl;have i1:cF [PV.int ((0+a:Nat):Int),.int ((0+b:Nat):Int)] 1=al (.int ((0+b:Nat):Int)):=rfl;show(cO (am (am (ap (Ent.pair (0+a) (0+b)).pv) (dn .str)) cH) _ _).run _;simp only[lf,f8,ep,fx,gR,aR,mo,Am,if_false,bh,cE,i0,i1,FB,ga,gb,pair_eq (Ö a l pa) (Ö b r pb),eI tl];exact nx.symm
 ·subst hs;have:((t.nd 0).map Ent.pv).length=t.size:=by rw[Al,Tr.bU]
  rw[this,Bh (by rw[t.aK];exact Aj _)];have e:cF (t.post.map λu=>pr8 u.plain) (-1)=al (pr8 t.plain):=by
   have pl:=t.eO;obtain⟨a,x,z⟩:=gI (l:=t.post) (λz=>by rw[z]at pl;cases pl);have:x=t:=by
    have l:=t.aK;rw[z,Ab,Bc]at l;rw[z,Ah ∅]at pl;have:t.size-1-a.length=0:=by omega
    rw[this]at pl;simpa using pl
   rw[z,AN,this];exact gF _ _
  have i1:cF [PV.str t.plain.text,t.plain.pv] 1=al t.plain.pv:=rfl;simp only[lf,rK,cE,e,FB,mo,bh,i1];exact q
theorem tree2_le(t:Tr)(hw:t.Ws)(hl:t.ae.length<=60):(m_is_tree_2 t.pv).le (.ret (.bl true)):=λQ q=>by
 have hz:t.size<=900:=by have:=t.size_eq;omega
 unfold m_is_tree_2;simp only[lf];refine grown2_le bq (λ_=>true) t (λx hx=>jR (hw x hx)) true (.inl rfl) hz Q ?_;have e:t.ae.all (λ_=>true)=true:=by simp
 rw[e];exact q
theorem par_at:∀(t:Tr) (o j:Nat) (p:V),j < t.size->(j=t.size-1/\se t o j p=p)\/∃a,j < a/\a < t.size/\se t o j p=.int (o+a:Nat)/\∃x y,en t o a=.pair x y/\(x=o+j\/y=o+j)
 | .leaf x,o,j,p,h=>by
  have:j=0:=by have:j < 1:=h;omega
  subst this;exact .inl ⟨rfl,rfl⟩
 | .node l r,o,j,p,h=>by
  have es:(Tr.node l r).size=l.size+r.size+1:=rfl;have lp:=l.size_pos;have rp:=r.size_pos;have er:en (.node l r) o (l.size+r.size)=.pair (o+l.size-1) (o+l.size+r.size-1):=by rw[en,if_neg ∅,if_neg ∅]
  by_cases c1:j < l.size
  ·have e1:se (.node l r) o j p=se l o j (.int (o+l.size+r.size:Nat)):=by rw[se,if_pos c1]
   rw[e1];rcases par_at l o j (.int (o+l.size+r.size:Nat)) c1 with⟨q1,q2⟩ | ⟨a,q1,q2,q3,x,y,q4,q5⟩
   ·exact .inr ⟨l.size+r.size,by omega,by omega,by rw[q2,BV],_,_,er,.inl ∅⟩
   ·exact .inr ⟨a,q1,by omega,q3,x,y,by rw[en,if_pos q2];exact q4,q5⟩
  ·by_cases c2:j < l.size+r.size
   ·have e1:se (.node l r) o j p=se r (o+l.size) (j-l.size) (.int (o+l.size+r.size:Nat)):=by rw[se,if_neg c1,if_pos c2]
    rw[e1];rcases par_at r (o+l.size) (j-l.size) (.int (o+l.size+r.size:Nat)) ∅ with⟨q1,q2⟩ | ⟨a,q1,q2,q3,x,y,q4,q5⟩
    ·exact .inr ⟨l.size+r.size,by omega,by omega,by rw[q2,BV],_,_,er,.inr ∅⟩
    ·refine .inr ⟨l.size+a,by omega,by omega,by rw[q3,BV],x,y,?_,?_⟩
     ·rw[en,if_neg ∅,if_pos ∅,Ca];exact q4
     ·rcases q5 with q5 | q5
      ·exact .inl ∅
      ·exact .inr ∅
   ·refine .inl ⟨by omega,?_⟩;rw[se,if_neg c1,if_neg c2]
def aht(h:j < t.size):(j=t.size-1/\(qm t)[j]?=al .aB)\/∃a:Nat,j < a/\a < t.size/\(qm t)[j]?=al (.int (a:Int))/\∃x y:Nat,((t.nd 0).map Ent.pv)[a]?=al (.tup (eR [x,y]))/\j∈[x,y]:=by
 rcases par_at t 0 j .aB h with⟨q1,q2⟩ | ⟨a,q1,q2,q3,x,y,q4,q5⟩
 ·exact .inl ⟨q1,by rw[uf t h,q2];rfl⟩
 ·refine .inr ⟨a,q1,q2,by rw[uf t h,q3,BS];rfl,x,y,?_,?_⟩
  ·rw[Ak,tG t 0 a q2,q4];rfl
  ·rw[BS]at q5;rcases q5 with rfl | rfl <;> simp
theorem ah_last(t:Tr):∃A:O PV,qm t=A++[.aB]/\∀v∈A,∃n:Int,v=.int n:=by
 have sp:=t.size_pos;refine⟨(qm t).take (t.size-1),?_,λv hv=>?_⟩
 ·have hl:(qm t)[t.size-1]?=al .aB:=by
   rcases aht (t:=t) (j:=t.size-1) ∅ with⟨_,z⟩ | ⟨a,z1,z2,_⟩
   ·exact z
   ·omega
  have:(qm t).take (t.size-1)++[PV.aB]=(qm t).take (t.size-1+1):=by rw[Cb,hl];rfl
  rw[this,Bh (by rw[ue];omega)]
 ·obtain⟨j,hj⟩:=BH hv;rw[BD]at hj
  split at hj
  ·rcases aht (t:=t) (j:=j) ∅ with⟨z,_⟩ | ⟨a,_,_,z,_⟩
   ·omega
   ·rw[z]at hj;exact⟨_,(Option.some.inj hj).symm⟩
  ·cases hj
def cnt_non(t:Tr):FO (qm t) .aB=.ret (.int 1):=by
 obtain⟨A,e,h⟩:=ah_last t;have z:∀A:O PV,(∀v∈A,∃n:Int,v=.int n)->A.countP (λy=>fH y .aB)=0/\cV (A++[.aB])=true/\cm (A++[.aB])<=150:=by
  intro A
  induction A with
  | nil=>intro _;exact⟨rfl,by simp,by simp⟩
  | cons a A ih=>
   intro h;obtain⟨n,rfl⟩:=h a (.head _);obtain⟨h1,h2,h3⟩:=ih λv hv=>h v (.tail _ hv);refine⟨by rw[D2,h1];simp[fH],by simpa using h2,by simpa using h3⟩
 obtain⟨h1,h2,h3⟩:=z A h;unfold FO;rw[e,sw ⟨by simp,h2,h3⟩];unfold Ji;rw[List.countP_append,h1];simp[fH]
theorem leads_le(t:Tr)(hz:t.size<=900):(m__law_leads (.tup ((t.nd 0).map Ent.pv)) (.tup (qm t))).le (.ret (.bl true)):=λQ q=>by
 have sp:=t.size_pos;unfold m__law_leads;simp only[lf,f8,fw,cD,gQ,sw (du (i:=0) (j:=(t.size:Int)) ∅ ∅),mo,B5];refine pI (λ_ s=>s=()) rfl (λk s hk hs=>?_) (λs hs=>?_)
 ·subst hs;refine hV (λn s=>∃j m:Nat,s=(.int (j:Int),.int (m:Int))/\j < t.size/\m<=j/\n=t.size-j) ⟨k,0,rfl,hk,Bj _,rfl⟩ ?_;rintro n s ⟨j,m,rfl,hj,hm,rfl⟩;rcases aht hj with⟨e1,e2⟩ | ⟨a,a1,a2,a3,x,y,a4,a5⟩
  ·have g:cF (qm t) (j:Int)=al .aB:=atI_n e2;simp only[lf,f8,bh,cE,g,FB,tR,PV.ma,cW,mo,A2,Am,if_false,ny,rH,xZ];have:((j:Int)==(t.size:Int)-1)=true:=by rw[beq_iff_eq];omega
   simp only[this,A2,Am,if_false,mo]
  ·have g:cF (qm t) (j:Int)=al (.int (a:Int)):=atI_n a3;have g2:cF ((t.nd 0).map Ent.pv) (a:Int)=al (.tup (eR [x,y])):=atI_n a4;have l1:decide ((m:Int) < (t.size:Int))=true:=by simp;omega
   have l2:decide ((a:Int)<=(j:Int))=false:=by simp;omega
   simp only[lf,f8,bh,cE,g,g2,FB,tR,PV.ma,cW,mo,Ex,if_true,fw,cD,Ma,l1,Im,decide_eq_true a5,A2,Am,if_false,GH,l2,dr];exact⟨t.size-a,by omega,a,m+1,by simp,a2,by omega,rfl⟩
 ·simp only[ny,lf,fw,ue,cD,kW,beq_self_eq_true,gT,tupOf,cnt_non];exact q
theorem made_le(t:Tr):∀(n k:Nat) (u:Tr),t.post[k]?=al u->u.depth < n->(m__law_made n (.tup ((t.nd 0).map Ent.pv)) (.int (k:Int))).le (.ret u.pv)
 | 0,k,u,h,hd=>by omega
 | n+1,k,.leaf x,h,hd=>λQ q=>by
  have e:cF ((t.nd 0).map Ent.pv) (k:Int)=al (.str x):=atI_n (by rw[Ak,show(t.nd 0)[k]?=al (.word x) from lY t 0 k _ h];rfl);rw[m__law_made];simp only[lf,f8,bh,cE,e,FB,mo,gS,iY,aR,if_true];exact q
 | n+1,k,.node l r,h,hd=>λQ q=>by
  obtain⟨a,b,n1,ha,hb,pa,pb⟩:=(lY t 0 k _ h:∃a b,(t.nd 0)[k]?=al (.pair (0+a) (0+b))/\a < k/\b < k/\t.post[a]?=al l/\t.post[b]?=al r);have d:(Tr.node l r).depth=max l.depth r.depth+1:=rfl;have e:cF ((t.nd 0).map Ent.pv) (k:Int)=al (.tup [.int ((0+a:Nat):Int),.int ((0+b:Nat):Int)]):=atI_n (by rw[Ak,n1];rfl);have i0:cF [PV.int ((0+a:Nat):Int),.int ((0+b:Nat):Int)] 0=al (.int (a:Int)):=by rw[BS];rfl
  have i1:cF [PV.int ((0+a:Nat):Int),.int ((0+b:Nat):Int)] 1=al (.int (b:Int)):=by rw[BS b];rfl
  rw[m__law_made];simp only[lf,f8,bh,cE,e,FB,mo,fx,gR,aR,Am,if_false,i0,i1];refine W.le.use (made_le t n a l pa ∅) ?_;refine W.le.use (made_le t n b r pb ∅) ?_;exact q
theorem great3_le(t:Tr)(hw:t.Ws)(hl:t.ae.length<=60):(m_is_great_2 t.pv).le (.ret (.bl (decide t.ae.Nodup))):=λQ q=>by
 have hz:t.size<=900:=by have:=t.size_eq;omega
 unfold m_is_great_2;simp only[lf];unfold m_is_grown_2;simp only[lf,f8];refine hV (λn s=>∃(ts:O Tr) (aw:O (Key×PV)),n=aX ts/\s=(aw,ts.map Tr.pv)/\(∀x∈ts.flatMap Tr.ae,Wd x)/\(t.ae.Nodup↔(ts.flatMap Tr.ae).Nodup/\∀y∈ts.flatMap Tr.ae,gw aw (.inr y)=false)/\aw.length+aX ts<=901) ⟨[t],[],rfl,rfl,λx hx=>hw x (by simpa using hx),by simp[gw],by rw[bF];simp;omega⟩ ?_;rintro n s ⟨ts,aw,rfl,rfl,h1,h2,h3⟩;by_cases he:ts=[]
 ·subst he;have hq:t.ae.Nodup:=h2.mpr ⟨by simp,by simp⟩;rw[decide_eq_true hq]at q;exact q
 ·obtain⟨us,u,rfl⟩:=gI he;have Tf:=u.size_pos;have Gx:=gK us;rw[aH,bF]at h3;have ee:(!((us++[u]).map Tr.pv).isEmpty)=true:=by simp
  have em:(us++[u]).map Tr.pv=us.map Tr.pv++[u.pv]:=by simp
  simp only[lf,mo,ee,if_true,f8];rw[em];simp only[rJ,mo];cases u with
  | leaf x=>
   have wx:=jR (h1 x (by simp[Tr.ae]));have c1:aw.length < sizeLine:=jd ∅;cases hk:gw aw (.inr x) with
   | true=>
    have hq:¬t.ae.Nodup:=λz=>by
     have:=(h2.mp z).2 x (by simp[Tr.ae]);rw[hk]at this;cases this
    rw[decide_eq_false hq]at q;simp only[Tr.pv,mJ,aR,mo,Am,if_false,wx,A2,lf,nI,hk,if_true,Ex,f8];exact q
   | false=>
    simp only[Tr.pv,mJ,aR,mo,Am,if_false,wx,A2,lf,nI,hk,zA,sw c1,f8];have ep:mL aw (.inr x) (.bl true)=aw++[(.inr x,.bl true)]:=by unfold mL;rw[hk];rfl
    have hp:∀y,gw (aw++[(.inr x,PV.bl true)]) (.inr y)=(gw aw (.inr y)||decide (x=y)):=λy=>by
     unfold gw;rw[Dl];simp
    rw[ep];refine⟨aX us,by rw[aH,bF];show aX us < aX us+1;omega,us,_,rfl,rfl,λy hy=>h1 y (by simp[hy]),h2.trans ?_,by rw[Ab];show aw.length+1+aX us<=901;have:(Tr.leaf x).size=1:=rfl;omega⟩;rw[A4];have e1:[Tr.leaf x].flatMap Tr.ae=[x]:=by simp[Tr.ae]
    rw[e1,Cp];refine⟨λ⟨⟨n1,_,n3⟩,k⟩=>⟨n1,λy hy=>?_⟩,λ⟨n1,k⟩=>⟨⟨n1,by simp,λy hy z hz=>?_⟩,λy hy=>?_⟩⟩
    ·rw[hp,k y (Bf _ hy)];have:x≠y:=λz=>n3 y hy x (by simp) z.symm;simp[this]
    ·have hz:=AG.mp hz;subst hz;intro w;subst w;have:=k y hy;rw[hp]at this;simp at this
    ·rcases A5.mp hy with hy | hy
     ·have:=k y hy;rw[hp,Bool.or_eq_false_iff]at this;exact this.1
     ·rw[AG.mp hy];exact hk
  | node c d=>
   have hsz:(Tr.node c d).size=c.size+d.size+1:=rfl;have e1:uX (us.map Tr.pv) [c.pv,d.pv]=.ret (us.map Tr.pv++[c.pv,d.pv]):=sw (cT (by simp;omega));have e2:(([c.pv,d.pv].length:Int)==2)=true:=rfl;simp only[Tr.pv,vX,e2,aR,mo,if_true,bh,e1,f8];have e3:aX [c,d]=c.size+d.size:=by simp[aX]
   have ef:(us++[c,d]).flatMap Tr.ae=(us++[Tr.node c d]).flatMap Tr.ae:=by simp[Tr.ae,A4]
   refine⟨aX (us++[c,d]),by rw[aH,aH,bF,e3];omega,us++[c,d],aw,rfl,by simp,by rw[ef];exact h1,by rw[ef];exact h2,by rw[aH,e3];omega⟩
theorem tr_fok:∀t:Tr,PV.eA t.pv=true/\PV.dI t.pv<=t.depth+1
 | .leaf x=>⟨by simp[Tr.pv],by simp[Tr.pv]⟩
 | .node l r=>by
  obtain⟨a1,a2⟩:=tr_fok l;obtain⟨b1,b2⟩:=tr_fok r;have d:(Tr.node l r).depth=max l.depth r.depth+1:=rfl;refine⟨by simp[Tr.pv,a1,b1],?_⟩;simp[Tr.pv];omega
def strs_fok(l:O Str):cV (l.map PV.str)=true/\cm (l.map PV.str)<=1:=⟨gC.mpr λx hx=>by
  obtain⟨n,_,rfl⟩:=Bn.mp hx;simp,gD λx hx=>by
  obtain⟨n,_,rfl⟩:=Bn.mp hx;simp⟩
def eq_self(h1:PV.eA x=true)(h2:PV.dI x<=150):of2 ig x x=.ret (.bl true):=by rw[ye,sw ⟨h1,h1,h2⟩,kU _ h1]
def ne_self(h1:PV.eA x=true)(h2:PV.dI x<=150):of2 fR x x=.ret (.bl false):=by rw[ya,sw ⟨h1,h1,h2⟩,kU _ h1];rfl
theorem ne_tr8(h:t.depth < 100):of2 fR t.pv t.pv=.ret (.bl false):=ne_self (tr_fok t).1 (by have:=(tr_fok t).2;omega)
theorem eq_tr8(h:t.depth < 100):of2 ig t.pv t.pv=.ret (.bl true):=eq_self (tr_fok t).1 (by have:=(tr_fok t).2;omega)
theorem ne_strT(l:O Str):of2 fR (.tup (l.map PV.str)) (.tup (l.map PV.str))=.ret (.bl false):=ne_self (by simpa using (strs_fok l).1) (by have:=(strs_fok l).2;simp;omega)
theorem ne_strC(l:O Str):of2 fR (.cl (l.map PV.str)) (.cl (l.map PV.str))=.ret (.bl false):=ne_self (by simpa using (strs_fok l).1) (by have:=(strs_fok l).2;simp;omega)
def mk2_perm(a b:Tr):(mk2 a b).ae.Perm (a.ae++b.ae):=by
 unfold mk2
 split
 ·exact List.perm_append_comm
 ·exact .refl _
theorem plain_perm:∀t:Tr,t.plain.ae.Perm t.ae
 | .leaf x=>.refl _
 | .node l r=>(mk2_perm l.plain r.plain).trans ((plain_perm l).append (plain_perm r))
theorem mk2_depth(a b:Tr):(mk2 a b).depth=max a.depth b.depth+1:=by
 unfold mk2
 split
 ·show max b.depth a.depth+1=_;omega
 ·rfl
theorem plain_depth:∀t:Tr,t.plain.depth=t.depth
 | .leaf x=>rfl
 | .node l r=>by show(mk2 l.plain r.plain).depth=_;rw[mk2_depth,plain_depth l,plain_depth r];rfl
def sortedS_pw:∀{l:O Str},sortedS l=true->l.Pairwise λa b=>¬b.cps.toList < a.cps.toList
 | [],_=>.nil
 | x::r,h=>by
  have go:∀(r:O Str) (x:Str),risingS x r=true->(x::r).Pairwise λa b=>¬b.cps.toList < a.cps.toList:=by
   intro r
   induction r with
   | nil=>intro x _;simp
   | cons y r ih=>
    intro x h;have h:(!ltCps y.cps.toList x.cps.toList&&risingS y r)=true:=h;rw[Bs,Cq,ltCps_eq,decide_eq_false_iff_not]at h;have q:=ih y h.2;refine List.pairwise_cons.mpr ⟨λz hz=>?_,q⟩;rcases AA.mp hz with rfl | hz
    ·exact h.1
    ·have k:=(List.pairwise_cons.mp q).1 z hz;exact DS.mpr (List.le_trans (DS.mp h.1) (DS.mp k))
  exact go r x h
def sorted_one{a b:O Str}(h:a.Perm b)(ha:sortedS a=true)(hb:sortedS b=true):a=b:=
 List.Perm.eq_of_pairwise (λx y _ _ p q=>zh (List.le_antisymm (DS.mp p) (DS.mp q))) (sortedS_pw ha) (sortedS_pw hb) h
theorem alike_le(t:Tr)(hw:t.Ws)(hl:t.ae.length<=60):(m_alike t.pv t.plain.pv).le (.ret (.bl true)):=λQ q=>by
 have pl:=(bH t).2;have pd:=plain_depth t;have td:=t.dM;unfold m_alike;simp only[lf,f8];refine W.le.use (tree2_le t hw hl) ?_;simp only[gT,f8];refine W.le.use (tree2_le t.plain (iJ hw) ∅) ?_;simp only[gT,f8];refine W.le.use (plain_le t hw hl) ?_;refine W.le.use (plain_le t.plain (iJ hw) ∅) ?_;rw[f9,eq_tr8 ∅];exact q
theorem fmS_all(l:O Str):∀n,n<=l.length->∀y,(fmS (λi=>l.getD i A3) n).any (·==y)=(l.take n).any (·==y)
 | 0,_,y=>rfl
 | n+1,h,y=>by
  rw[fmS_succ,ddS_any,fmS_all l n ∅ y,Cb,Ag ∅,Dl];congr 1;simp only[DH,Ag (show n < l.length by omega),Option.getD_some,EI,BF,List.any_nil,Bool.or_false];by_cases e:y=l[n]
  ·subst e;simp
  ·have:(l[n]==y)=false:=beq_eq_false_iff_ne.mpr λz=>e z.symm;rw[this];simp[e]
theorem fmS_len(l:O Str):∀n,n<=l.length->((fmS (λi=>l.getD i A3) n).length=n↔(l.take n).Nodup)
 | 0,_=>by simp[fmS]
 | n+1,h=>by
  have le:=fmS_le (λi=>l.getD i A3) n;have ih:=fmS_len l n ∅;have ha:=fmS_all l n ∅ (l.getD n A3);have eg:l.getD n A3=l[n]:=by rw[DH,Ag ∅];rfl
  rw[fmS_succ,ddS_len,ha,eg,Cb,Ag ∅,EI,Cp];cases c:(l.take n).any (·==l[n]) with
  | true=>
   rw[if_pos rfl];obtain⟨z,z1,z2⟩:=List.any_eq_true.mp c;have z2:=eq_of_beq z2;refine⟨λk=>by omega,λ⟨_,_,k⟩=>absurd z2 (k z z1 _ (by simp))⟩
  | false=>
   rw[if_neg ⋯];refine⟨λk=>⟨ih.mp ∅,by simp,λa ha b hb e=>?_⟩,λ⟨k,_,_⟩=>by rw[ih.mpr k]⟩;have hb:=AG.mp hb;subst hb;have:=List.any_eq_false.mp c a ha;exact this (by rw[e];simp)
def set_len(l:O Str):(sLenS l==(l.length:Int))=decide l.Nodup:=by
 have:=fmS_len l l.length (Aj _);rw[List.take_length]at this;unfold sLenS;by_cases h:l.Nodup
 ·rw[decide_eq_true h,this.mpr h];simp
 ·rw[decide_eq_false h];refine beq_eq_false_iff_ne.mpr λz=>h (this.mp ?_);exact Int.ofNat.inj z
theorem post_mem:∀(t u:Tr),u∈t.post->∀x∈u.ae,x∈t.ae
 | .leaf y,u,h=>by
  have h:u∈[Tr.leaf y]:=h;rw[AG.mp h];exact λ_ h=>h
 | .node l r,u,h=>by
  have h:u∈l.post++r.post++[Tr.node l r]:=h;have e:(Tr.node l r).ae=l.ae++r.ae:=rfl;rcases A5.mp h with h | h
  ·rcases A5.mp h with h | h
   ·exact λx hx=>by rw[e];exact Bf _ (post_mem l u h x hx)
   ·exact λx hx=>by rw[e];exact Ax _ (post_mem r u h x hx)
  ·rw[AG.mp h];exact λ_ h=>h
theorem right3_le(hg:Gr5 g)(t:Tr)(hs:∀x∈t.ae,x∈g.ae)(hl:t.ae.length<=10):(m__law_right_3 t.pv g.pv).le (.ret (.bl true)):=λQ q=>by
 have hw:t.Ws:=λx hx=>hg.ws x (hs x hx);have sz:=t.size_eq;have hz:t.size<=900:=by omega
 have td:=t.dM;have pl:=(bH t).2;have U0:=t.plain.size_eq;have pd:=plain_depth t;have pw:=iJ hw;have sub:∀k (u:Tr),t.post[k]?=al u->u.Ws/\u.ae.length<=10/\∀x∈u.ae,x∈g.ae:=λk u hu=>by
  obtain⟨a,b⟩:=post_sub t k u hu hw;exact⟨a,by omega,λx hx=>hs x (post_mem t u (AB hu) x hx)⟩
 unfold m__law_right_3;simp only[lf,f8];refine W.le.use (gq t hz) ?_;simp only[mo,fw,cD,gQ,sw (du (i:=0) (j:=(t.size:Int)) ∅ ∅),B5];refine m5 (c:=λi:Nat=>PV.int (0+(i:Int))) (λi=>((t.post[i]?).map Tr.pv).getD .aB) (l:=BN t.size) (λi hi=>?_) ?_
 ·have hi:i < t.size:=DG.mp hi;obtain⟨u,hu⟩:∃u,t.post[i]?=al u:=⟨_,Ag (by rw[t.aK];exact hi)⟩;have ul:=(sub i u hu).2.1;have ud:=u.dM;rw[hu,Ec];exact made_le t 12 i u hu ∅
 have ep:((BN t.size).map λi=>((t.post[i]?).map Tr.pv).getD .aB)=t.post.map Tr.pv:=by
  apply List.ext_getElem?;intro i;rw[Ak,Ak];rcases EO i t.size with h | h
  ·have TH:t.post[i]?=al (t.post[i]'(by rw[t.aK];exact h)):=Ag _;rw[List.getElem?_range h];show al (((t.post[i]?).map Tr.pv).getD PV.aB)=(t.post[i]?).map Tr.pv;rw[TH];rfl
  ·rw[C3 (by simpa using h),C3 (by rw[t.aK];exact h)];rfl
 rw[ep];have el:cF (t.post.map Tr.pv) (-1)=al t.pv:=by
  have pl:=t.eO;obtain⟨a,x,z⟩:=gI (l:=t.post) (λz=>by rw[z]at pl;cases pl);have:x=t:=by
   have l:=t.aK;rw[z,Ab,Bc]at l;rw[z,Ah ∅]at pl;have:t.size-1-a.length=0:=by omega
   rw[this]at pl;simpa using pl
  rw[z,AN,this];exact gF _ _
 simp only[jZ,mo,rK,cE,el,FB,ne_tr8 (show t.depth < 100 by omega),cW,Am,if_false,f8,lf];refine W.le.use (yJ t hz) ?_;refine W.le.use (leads_le t hz) ?_;simp only[mo,aR,A2,Am,if_false,f8,lf];refine W.le.use (leaves_le t hz) ?_;refine Gm (λv=>if Kd.is .str v=true then al v else bn) (λv hv=>?_) ?_
 ·obtain⟨u,_,rfl⟩:=Bn.mp hv;cases u <;> simp[Tr.pv]
 rw[post_leaves];simp only[IV,mo,ne_strT,cW,Am,if_false,f8,lf];refine W.le.use (plain_le t hw ∅) ?_;refine W.le.use (gq t.plain ∅) ?_;have e1:((t.plain.size:Int)==(t.size:Int))=true:=by rw[beq_iff_eq];omega
 simp only[mo,fw,cD,xZ,e1,A2,cW,Am,if_false,f8,lf];refine W.le.use (leaves_le t.plain ∅) ?_;simp only[sortTSW,ev_strs,lf,sw (show t.plain.ae.length < 64 by omega),f8,W.sW,mo];intro SH ⟨p1,s1⟩;refine W.le.use (leaves_le t hz) ?_;simp only[sortTSW,ev_strs,lf,sw (show t.ae.length < 64 by omega),f8,W.sW,mo];intro SG ⟨p2,s2⟩;have em:SH=SG:=sorted_one ((p1.trans (plain_perm t)).trans p2.symm) s1 s2;subst em;simp only[ne_strC,mo,cW,Am,if_false,f8,lf];refine W.le.use (alike_le t hw ∅) ?_;simp only[mo,aR,A2,Am,if_false,f8,lf];refine W.le.use (great3_le t.plain pw ∅) ?_;refine W.le.use (great3_le t hw ∅) ?_;have en:decide t.plain.ae.Nodup=decide t.ae.Nodup:=decide_eq_decide.mpr (plain_perm t).nodup_iff;rw[en];have eb:of2 fR (.bl (decide t.ae.Nodup)) (.bl (decide t.ae.Nodup))=.ret (.bl false):=ne_self (by simp) (by simp);simp only[eb,mo,cW,Am,if_false,f8,lf];refine W.le.use (small_le hg t.plain pw ∅) ?_;have ea:∀u:Tr,(∀x∈u.ae,x∈g.ae)->(u.ae.all λx=>decide (x∈g.ae))=true:=λu h=>D3.mpr λx hx=>decide_eq_true (h x hx);rw[ea t.plain λx hx=>hs x (((bH t).1 x).mp hx)];simp only[mf,beq_self_eq_true,A2,mo,cW,Am,if_false,f8,lf];refine m5 (c:=Tr.pv) (λ_=>.bl true) (λu hu R r=>?_) ?_
 ·obtain⟨k,hk⟩:=BH hu;obtain⟨a,b,c⟩:=sub k u hk;have us:=u.size_eq;simp only[f8];refine W.le.use (tree2_le u a ∅) ?_;simp only[yd,beq_self_eq_true,mo,gT,f8,lf];refine W.le.use (small_le hg u a ∅) ?_;rw[ea u c];simp only[yd,beq_self_eq_true];exact r
 have Me:∀l:O Tr,pZ (l.map λ_=>PV.bl true)=.ret (.bl true):=λl=>by
  have e:l.map (λ_=>PV.bl true)=(l.map λ_=>true).map PV.bl:=by rw[C1];rfl
  rw[e,ub];congr 2;simp
 simp only[Me,mo,aR,A2,Am,if_false,f8,lf];refine m5 (c:=Tr.pv) (λ_=>.bl true) (λu hu R r=>?_) ?_
 ·obtain⟨k,hk⟩:=BH hu;obtain⟨a,b,c⟩:=sub k u hk;have ud:=u.dM;simp only[f8];refine W.le.use (text_le u a ∅) ?_;refine W.le.use (rt_le u a ∅ (txt_small a ∅)) ?_;simp only[mo,eq_tr8 (show u.depth < 100 by omega)];exact r
 rw[Me];exact q
def cut_lst5(l:O PV)(h:a<=l.length):lN l bn (al (a:Int))=l.take a:=by
 unfold lN;rw[HT.oM,HT.sV,List.drop_zero,Nat.sub_zero,Nat.min_eq_left h]
theorem small_run05(hw:ws≠[])(h1:ws.length<=900)(hn:n=9\/n=10)(q:∀t:Tr,(∀x∈t.ae,x∈ws)->t.ae.length<=n->Q t.pv):(m__law_small_3 (.cl (ws.map PV.str)) (.int (n:Int))).run Q:=by
 have wl:0 < ws.length:=Dq.mpr hw;unfold m__law_small_3;simp only[lf,f8,cq 8 ⋯ ⋯];refine ba λd d0 d1=>?_;obtain⟨m,hm,m0,m1⟩:∃m:Int,cF [PV.int 6,PV.int (n:Int)] (if (d==0)=true then 1 else 0)=al (.int m)/\0 < m/\m<=n:=by
  by_cases h:d=0
  ·subst h;exact⟨n,rfl,by omega,by omega⟩
  ·have e:(d==0)=false:=by simpa using h
   rw[e];exact⟨6,rfl,by decide,by omega⟩
 simp only[kW,mo,nJ,cE,hm,FB,cq m m0 ∅];refine ba λk k0 k1=>?_;simp only[dr,mo,j4,j5,Al,cq (ws.length:Int) ∅ ∅];refine ba λj j0 j1=>?_;obtain⟨a,ha⟩:∃a:Nat,1+j=(a:Int):=⟨(1+j).toNat,by omega⟩;obtain⟨c,hc⟩:∃c:Nat,1+k=(c:Int):=⟨(1+k).toNat,by omega⟩;simp only[dr,tQ,mo,ha,hc,cut_lst5 (ws.map PV.str) (show a<=_ by rw[Al];omega),gQ,sw (du (i:=0) (j:=(c:Int)) ∅ ∅),B5];rw[<- List.map_take];have tl:(ws.take a).length=a:=by rw[Bb];omega
 refine mapW_all5 (S:=λv=>∃w∈ws,v=PV.str w) (λx _ R r=>?_) λms hl hs=>?_
 ·simp only[lf,jZ,j5,Al,tl,f8,cq (a:Int) ∅ ∅];refine ba λe e0 e1=>?_;obtain⟨v,hv,Ly⟩:=yI (xs:=(ws.take a).map PV.str) e0 (by rw[Al,tl];exact e1);simp only[cE,hv,FB,mo];rw[Ak]at Ly;cases z:(ws.take a)[e.toNat]? with
  | none=>rw[z]at Ly;cases Ly
  | some w=>
   rw[z]at Ly;exact r v ⟨w,List.mem_of_mem_take (AB z),(Option.some.inj Ly).symm⟩
 ·obtain⟨us,rfl,hu⟩:=strs_of5 hs;rw[eV,Al]at hl;refine joined_run05 (λz=>by rw[z]at hl;simp at hl;omega) ∅ λt ht=>q t (λx h=>hu x (ht▸h)) (by rw[ht];omega)
theorem law08_ok:∀ns:O Int,ns.length<=63->(m_law_25 (.cl (ns.map PV.int))).run (·=.bl true):=by
 intro ns hn;unfold m_law_25;have hl:(lN (ns.map PV.int) bn (al 20)).length<=20:=by
  unfold lN;rw[HT.oM,show(al (20:Int))=al ((20:Nat):Int) from rfl,HT.sV];simp only[Bb,CA];omega
 generalize hm:(lN (ns.map PV.int) bn (al 20)).length=m at hl;simp only[lf,f8,j4,tQ,yc,hm,dr,gQ,sw (du (i:=0) (j:=1+(m:Int)) ∅ ∅),mo];refine pI (λ_ s=>s=()) rfl (λk s hk hs=>?_) (λs hs=>?_)
 ·refine hand_run05 ∅ ∅ λl hl=>?_;refine⟨hl,?_⟩;simp only[lf,f8,mo];refine great_run05 λg hg=>?_;have gp:=g.dE;have gd:=g.dM;have gf:=hg.few;refine lvs_le 12 g ∅ ∅ _ ?_;simp only[mo];refine small_run05 (n:=10) (leaves_ne g) ∅ (.inr rfl) λt ts tl=>?_;have tw:t.Ws:=λx hx=>hg.ws x (ts x hx);have tp:=t.dE;have sz:=t.size_eq;obtain⟨u,eu,us,ul⟩:∃u:Tr,(∀{R:PV->Prop},R u.pv->(cO (am (am (ap t.pv) (dn .str)) cH) (ap t.pv) (am (dw (am (ap t.pv) bo) (ap (.int 1))) λza=>am (dw (am (ap t.pv) bo) (ap (.int 0))) λvG=>ap (.tup [za,vG]))).run R)/\(∀x∈u.ae,x∈g.ae)/\u.ae.length<=10:=by
   cases t with
   | leaf x=>exact⟨.leaf x,λr=>r,ts,tl⟩
   | node a b=>
    have e:(Tr.node a b).ae=a.ae++b.ae:=rfl;refine⟨.node b a,λr=>?_,λx hx=>ts x ?_,?_⟩
    ·exact r
    ·rw[e];rcases A5.mp (show x∈b.ae++a.ae from hx) with z | z
     ·exact Ax _ z
     ·exact Bf _ z
    ·rw[e,Ab]at tl;show(b.ae++a.ae).length<=10;rw[Ab];omega
  refine eu ?_;simp only[mo,bh];refine tN (λ_ s=>s=()) rfl (λi x s hx hs=>?_) (λs hs=>?_)
  ·obtain⟨v,rfl,v1,v2⟩:∃v:Tr,x=v.pv/\(∀y∈v.ae,y∈g.ae)/\v.ae.length<=10:=by
    have:=AB hx;simp only[AA,Cz,or_false]at this;rcases this with rfl | rfl | rfl
    ·exact⟨g,rfl,λ_ h=>h,by omega⟩
    ·exact⟨t,rfl,ts,tl⟩
    ·exact⟨u,rfl,us,ul⟩
   simp only[f8];refine W.le.use (right3_le hg v v1 v2) ?_;simp only[mo,aR,A2,Am,if_false]
  ·simp only[ny,f8];refine W.le.use (great2_le hg) ?_;simp only[mf,beq_self_eq_true,A2,mo,lf,cW,Am,if_false,f8];refine W.le.use (great3_le t tw ∅) ?_;refine W.le.use (leaves_le t ∅) ?_;have sb:t.ae.length+1 < wP:=by unfold wP;omega
   simp only[setLenSW,ev_strs,lf,sw sb,f8,mo];refine W.le.use (leaves_le t ∅) ?_;have eb:of2 fR (.bl (decide t.ae.Nodup)) (.bl (decide t.ae.Nodup))=.ret (.bl false):=ne_self (by simp) (by simp);simp only[fw,Al,kW,set_len,mo,eb,cW,Am,if_false]
 ·simp only[ny,mo]
end My
variable{f6 lT:PySem.Tok}{fv:AL}
namespace My
instance tabc:bD:=⟨[(224,"read_tree.<locals>.<lambda>"),(49,"is_small.<locals>.<lambda>")]⟩
def top(i:Nat):r6:=BA.main.body.getD i (.Pass ⟨0,0,0,0⟩)
abbrev dV(i k:Nat)(ks:O AK)(n:Nat)(m:lj PV n):DF:=⟨RG (top i),top i,ou (top i),k,λK=>ja K ks (eK n m)⟩
abbrev dL(i k:Nat)(ks:O AK)(n:Nat)(m:lj (O PV) n):DF:=⟨RG (top i),top i,ou (top i),k,λK=>oK K ks (eK n m)⟩
abbrev dv(i k n:Nat)(m:lj PV n):DF:=dV i k (Aq n .v) n m
abbrev lsc_is_word_0:u8:=Gk [("sign",lo),("LETTERS",gi)]
def lc_is_word_0:LS (top 5) lsc_is_word_0:=lcs
abbrev lsc_leaves_0:u8:=Gk [("part",lo),("isinstance",gi),("str",gi)]
def lc_leaves_0:LS (top 13) lsc_leaves_0:=lcs
abbrev lsc_ahead_of_0:u8:=Gk [("node",lo)]
def lc_ahead_of_0:LS (top 14) lsc_ahead_of_0:=lcs
def sc_paired:bN (ox (top 17)) (ou (top 17)) (au (top 17)):=rG
def sc__law_take:bN (ox (top 33)) (ou (top 33)) (au (top 33)):=rG
def sc__law_leaves:bN (ox (top 37)) (ou (top 37)) (au (top 37)):=rG
abbrev lsc__law_small_0:u8:=Gk [("_law_k",lo),("_law_take",gi),("len",gi),("_law_few",fr),("_law_hand_here",fr)]
def lc__law_small_0:LS (top 38) lsc__law_small_0:=lcs
def sc__law_made:bN (ox (top 39)) (ou (top 39)) (au (top 39)):=rG
abbrev lsc__law_right_0:u8:=Gk [("_law_number",lo),("_law_made",gi),("_law_some",fr)]
abbrev lsc__law_right_1:u8:=Gk [("_law_part",lo),("isinstance",gi),("str",gi)]
abbrev lsc__law_right_2:u8:=Gk [("_law_part",lo),("is_tree",gi),("is_small",gi),("_law_great_here",fr)]
abbrev lsc__law_right_3:u8:=Gk [("_law_part",lo),("read_tree",gi),("text_of",gi)]
def lc__law_right_0:LS (top 41) lsc__law_right_0:=lcs
def lc__law_right_1:LS (top 41) lsc__law_right_1:=lcs
def lc__law_right_2:LS (top 41) lsc__law_right_2:=lcs
def lc__law_right_3:LS (top 41) lsc__law_right_3:=lcs
structure NB(v:EV):Prop where
 len:v.mg "len"=bn
 isinstance:v.mg "isinstance"=bn
 tuple:v.mg "tuple"=bn
 str:v.mg "str"=bn
 all:v.mg "all"=bn
 list:v.mg "list"=bn
 reversed:v.mg "reversed"=bn
 enumerate:v.mg "enumerate"=bn
 abs:v.mg "abs"=bn
 int:v.mg "int"=bn
 range:v.mg "range"=bn
 sorted:v.mg "sorted"=bn
 set:v.mg "set"=bn
abbrev d_is_row:DF:=dv 1 1 2 eT
def k_is_row(D:DI v d_is_row)(q:NB v):D.O:=
 mY D λhr nd bA eS=>
 (SF.cj (mi (fJ rfl .tup rfl q.isinstance (ag 0) rfl q.tuple boot_tuple) (pM (fK (jB rfl (bB hr)) (dJ rfl rfl q.len (ag 0)) (ag 1)))) λ_=>rfl)
abbrev d_is_word:DF:=dv 5 1 1 bq
def k_is_word(D:DI v d_is_word)(q:NB v)(bf:v.mg "LONGEST_WORD"=al (.int 8 f6))(cY:v.mg "LETTERS"=al (.str "abcdefghijklmnopqrstuvwxyz" lT)):D.O:=
 mY D λhr nd bA=>
 (SF.vA (qf.t (jw (gZ (cJ rfl (fJ rfl .str rfl q.isinstance (ag 0) rfl q.str wv) (λ_=>rfl))) (ia (gZ (zd xA xA aq (dJ rfl rfl q.len (ag 0)) (Je bf rfl))))))
 (SF.cj dP λ_=>rfl)
 (SF.cj (yw rfl rfl rfl q.all (kj (ng rfl lc_is_word_0 (Il (ag 0)) (λ_ _ _ _ _=>(mR 0 lc_is_word_0.nd)) (λ_ _ _ _ _ p2=>(fK (Ii rfl) (ag 0) (Jd cY rfl))) rfl))) λ_=>rfl))
abbrev d_is_grown(fa:db)(us:O V)(qs:O PV)(fz:O (db×Obj))(is_leaf_:PV->W PV):DF:=⟨"is_grown",top 6,["thing","is_leaf","often"],4,λK=>ja K [.v,.f fa us qs fz,.v] (eK 2 (m_is_grown_2 is_leaf_))⟩
theorem k_is_grown{is_leaf_:PV->W PV}(D:DI v (d_is_grown fa us qs fz is_leaf_))(rC:CalA v.P v.w v.K v.mg v.base fa us qs fz 3 pl (ja v.K (Aq 1 .v) (eK 1 is_leaf_)))(xM:d_is_row.C v):D.O:=
 mY D λhr nd bA qP=>
 (SF.OC (i:=3) nd rfl (Bm rfl)
 (sl 4 nd (bV (n:=1) (av 0 aj) rfl) λcS=>
 (SF.hZ (hd:=(λ(s4:O (Key×PV)×O PV)=>([al (.val bA),al (.adr fa us qs fz),al (.val qP),al (.od s4.1),al (.ol bn s4.2),bn]:bj))) (s0:=([],cS)) (inj:=id) AJ (.refl _) (λs4=>(F6 rfl (cC 4) (λ_=>rfl))) (λ_=>trivial) (λs4=>
 (SF.mQ 4 5 rfl ⋯ rfl rfl (.inl rfl) nd rfl (Bm rfl) λt7=>
 (SF.Gu (cJ rfl (eC xM hr (av 5 (ao aq aj))) (λ_=>rfl))
 (SF.extend 4 rfl rfl rfl (.inl rfl) (bb (ag 5)) λdC=>
 (SF.gr rfl (.m 32)))
 (SF.Gu (qf.t (jw (gZ (cJ rfl (FH 1 rC rfl hr (by first | exact Bx rfl | omega) rfl (av 5 aj) rfl) (λ_=>rfl))) (ia (qf.t (vK (Ke 3 rfl (bB hr) (ag 5)) (sF (gZ (cJ rfl (ag 2) (λ_=>rfl)))))))))
 (SF.ret (k:=λui=>(Lp.out ui)) dP λ_=>rfl)
 (SF.putD 3 rfl (bB hr) rfl (.inl rfl) dP (ag 5) λsU=>
 (SF.gr rfl (.m 32))))))) λs4=>
 (SF.cj dP λ_=>rfl))))
abbrev d_is_tree:DF:=dv 7 5 1 m_is_tree_2
def k_is_tree(D:DI v d_is_tree)(ju:v.mg "is_word"=al (.ref fv))(b8:(d_is_grown fv [] [] [] bq).C v):D.O:=
 mY D λhr nd bA=>
 (SF.cj (eC b8 hr (av 0 (MJ rfl ju (ao dP aj)))) λ_=>rfl)
abbrev d_is_great:DF:=dv 8 5 1 m_is_great_2
def k_is_great(D:DI v d_is_great)(ju:v.mg "is_word"=al (.ref fv))(b8:(d_is_grown fv [] [] [] bq).C v):D.O:=
 mY D λhr nd bA=>
 (SF.cj (eC b8 hr (av 0 (MJ rfl ju (ao dP aj)))) λ_=>rfl)
abbrev d_parts_of:DF:=dL 10 1 [.v] 1 fk
def k_parts_of(D:DI v d_parts_of)(q:NB v):D.O:=
 O3 D λhr nd aO=>
 (sl 1 nd (bV (n:=0) aj rfl) λiy=>
 (sl 2 nd (bV (n:=1) (av 0 aj) rfl) λcS=>
 (SF.J9 (hd:=(λ(s4:O PV×O PV)=>([al (.val aO),al (.ol bn s4.1),al (.ol bn s4.2),bn]:bj))) (s0:=(iy,cS)) AJ (.refl _) (λs4=>(F6 rfl (cC 2) (λ_=>rfl))) (λs4=>
 (SF.mQ 2 3 rfl ⋯ rfl rfl (.inl rfl) nd rfl (Bm rfl) λt7=>
 (SF.append 1 rfl rfl rfl (.inl rfl) (ag 3) λiw=>
 (SF.Gu (gZ (cJ rfl (fJ rfl .str rfl q.isinstance (ag 3) rfl q.str wv) (λ_=>rfl)))
 (SF.extend 2 rfl rfl rfl (.inl rfl) (bb (ag 3)) λdC=>
 (SF.gr rfl (.m 8)))
 (SF.gr rfl (.m 8)))))) λs4=>
 (SF.sX (Li rfl rfl rfl q.list rfl q.reversed (Hk 1)) λ_=>rfl))))
abbrev d_leaves:DF:=dv 13 2 1 m_leaves
def k_leaves(D:DI v d_leaves)(q:NB v)(ip:d_parts_of.C v):D.O:=
 mY D λhr nd aO=>
 (SF.cj (j7 rfl rfl q.tuple (iG (Gq rfl lc_leaves_0 (eD rfl (Gv (lC ip hr (av 0 aj)))) (λ_ _ _ _ _=>(mR 0 lc_leaves_0.nd)) (λ_ _ _ _ _ p3=>(cJ rfl (fJ rfl .str rfl q.isinstance (ag 0) rfl q.str wv) (λ_=>rfl))) (λ_ _ _ _ _ p3=>(ag 0)) rfl))) λ_=>rfl)
abbrev lsm_is_small_1:u8:={kind:=.function,names:=[("part",lo),("words",fr),("is_word",gi)],isGenerator:=false,isCoroutine:=false}
def lcp_is_small_1:CapN (ox (top 9)) (au (top 9)) lsm_is_small_1 [2] ["words"]:=by decide +kernel
abbrev d_is_small:DF:=dv 9 6 2 m_is_small
def k_is_small(D:DI v d_is_small)(hc:LamK v.K v.mg D.fd.code P)(hP:TabIs P "is_small.<locals>.<lambda>")(rA:HF v.P v.w v.K v.mg 1 3 "is_grown" 4 ["thing","is_leaf","often"] λfa us qs fz g=>ja v.K [.v,.f fa us qs fz,.v] (eK 2 (m_is_grown_2 g)))(rE:∀b,d_is_word.C (v.at b))(cz:d_is_great.C v)(c9:d_leaves.C v):D.O:=
 mkVc D hc λhL hr nd rB bA=>
 (SF.vA (gZ (cJ rfl (eC cz hr (av 0 aj)) (λ_=>rfl)))
 (SF.cj dP λ_=>rfl)
 (sv 2 nd (eC c9 hr (av 0 aj)) λmC=>
 (SF.cj (e_callL (pl:=["part"]) (al_cons (ag 1) (al_lam (is:=[2]) (qs:=[mC]) "is_small.<locals>.<lambda>" ["words"] hL hP lcp_is_small_1 (ao dP aj))) lcp_is_small_1 rA hr λb=>λhr gk=>(mi (eC (rE b) hr (av 0 aj)) (pM (Mi rfl (bB hr) (ag 0) (bb (ag 1)))))) λ_=>rfl)))
abbrev d_nodes:DF:=dv 11 2 1 d6
def k_nodes(D:DI v d_nodes)(q:NB v)(ip:d_parts_of.C v):D.O:=
 mY D λhr nd aO=>
 (sl 1 nd (bV (n:=0) aj rfl) λfc=>
 (sl 2 nd (bV (n:=0) aj rfl) λm8=>
 (SF.uW (hd:=(λ(s4:O PV×O PV)=>([al (.val aO),al (.ol bn s4.1),al (.ol bn s4.2),bn,bn,bn]:bj))) (s0:=(fc,m8)) AJ rfl (eD rfl (Gv (lC ip hr (av 0 aj)))) (.refl _) (mR 3 nd) (λs4 gk=>
 (SF.S5 (out1:=λ(Hb:O PV×O PV)=>.nx ([al (.val aO),al (.ol bn Hb.1),al (.ol bn Hb.2),al (.val gk),bn,bn]:bj)) (cJ rfl (fJ rfl .str rfl q.isinstance (ag 3) rfl q.str wv) (λ_=>rfl))
 (SF.append 1 rfl rfl rfl (.inl rfl) (ag 3) λsJ=>
 (SF.nil rfl (.refl _)))
 (SF.mQ 2 4 rfl ⋯ rfl rfl (.inl rfl) nd rfl (Bm rfl) λOz=>
 (SF.mQ 2 5 rfl ⋯ rfl rfl (.inl rfl) nd rfl (Bm rfl) λOy=>
 (SF.append 1 rfl rfl rfl (.inl rfl) (fy (n:=2) (av 5 (av 4 aj)) rfl) λsI=>
 (SF.nil rfl (.m 48)))))
 λHb=>(SF.append 2 rfl rfl rfl (.inl rfl) (tT (rP rfl rfl q.len (cC 1)) aq) λpf=>
 (SF.gr rfl (.m 8))))) λs4=>
 (SF.cj (j7 rfl rfl q.tuple (cC 1)) λ_=>rfl))))
abbrev d_halves:DF:=dv 12 1 1 kB
def k_halves(D:DI v d_halves)(q:NB v):D.O:=
 mY D λhr nd xh=>
 (SF.cj (Jc (cJ rfl (fJ rfl .str rfl q.isinstance (ag 0) rfl q.str wv) (λ_=>rfl)) (fy (n:=0) aj rfl) (ag 0)) λ_=>rfl)
abbrev d_ahead_of:DF:=dv 14 3 1 fm
def k_ahead_of(D:DI v d_ahead_of)(q:NB v)(d9:d_nodes.C v)(xN:d_halves.C v):D.O:=
 mY D λhr nd aO=>
 (sv 1 nd (eC d9 hr (av 0 aj)) λfc=>
 (SF.sS (i:=3) rfl nd rfl rfl lc_ahead_of_0 (eD rfl (gv (ag 1))) (λ_ _ _ _ _=>(mR 0 lc_ahead_of_0.nd)) (λ_ _ _ _ _ p5=>ym) rfl λnY=>
 (SF.P9 (hd:=(λ(s7:O PV)=>([al (.val aO),al (.val fc),bn,al (.ol bn s7),bn,bn]:bj))) (s0:=nY) AJ rfl (Ff rfl rfl q.enumerate (gv (ag 1))) (.refl _) (λ_=>(Ug rfl (Hu rfl (oT (mR 4 nd) (oT (mR 2 nd) zE))))) (λs7 t9=>
 (SF.uW (hd:=(λ(Hc:O PV)=>([al (.val aO),al (.val fc),al (.val t9.2),al (.ol bn Hc),al (.val t9.1),bn]:bj))) (s0:=s7) AJ rfl (eD rfl (gv (eC xN hr (av 2 aj)))) (.refl _) (mR 5 nd) (λHc tL=>
 (SF.G9 3 rfl rfl (.inl rfl) (ag 4) (ag 5) λp7=>
 (SF.gr rfl (.m 32)))) λHc=>
 (SF.gr rfl (.m 20)))) λs7=>
 (SF.cj (j7 rfl rfl q.tuple (cC 3)) λ_=>rfl))))
abbrev d_bracketed:DF:=dv 15 1 2 m_bracketed
def k_bracketed(D:DI v d_bracketed):D.O:=
 mY D λhr nd ic cx=>
 (SF.cj (e_f2 (ag 0) (ag 1)) λ_=>rfl)
abbrev d_text_of:DF:=dv 16 3 1 m_text_of
def k_text_of(D:DI v d_text_of)(q:NB v)(d9:d_nodes.C v)(ek:d_bracketed.C v):D.O:=
 mY D λhr nd aO=>
 (sl 1 nd (bV (n:=0) aj rfl) λmD=>
 (SF.uW (hd:=(λ(s3:O PV)=>([al (.val aO),al (.ol bn s3),bn]:bj))) (s0:=mD) AJ rfl (eD rfl (gv (eC d9 hr (av 0 aj)))) (.refl _) (mR 2 nd) (λs3 dg=>
 (SF.Gu (cJ rfl (fJ rfl .str rfl q.isinstance (ag 2) rfl q.str wv) (λ_=>rfl))
 (SF.append 1 rfl rfl rfl (.inl rfl) (ag 2) λsN=>
 (SF.gr rfl (.m 4)))
 (SF.append 1 rfl rfl rfl (.inl rfl) (eC ek hr (ao (bp rfl (cC 1) (bp rfl (bb (ag 2)) aq)) (ao (bp rfl (cC 1) (bp rfl (bb (ag 2)) aq)) aj))) λsM=>
 (SF.gr rfl (.m 4))))) λs3=>
 (SF.cj (bp rfl (cC 1) (yn aq)) λ_=>rfl)))
abbrev d_paired:DF:=dv 17 4 2 (m_paired 3)
theorem k_paired(D:DI v d_paired)(ek:d_bracketed.C v):∀n,bx v.P v.w v.K v.mg v.base fD (n+1) D.f D.fd (ou (top 17)) (ja v.K [.v,.v] (eK 2 (m_paired n)))
 | 0=>xS (vP λl Q hl=>match l,hl with | [ic,cx],_=>λh=>h.elim)
 | n+1=>have kL:=D.cN (k_paired D ek n)
  Qc (k:=n+1) (n:=2) (m:=m_paired (n+1)) D.fn sc_paired rfl (oY (oY mW)) λl hl=>match l,hl with | [ic,cx],_=>λ_ _ _ _ _ _ hr=>show SF _ _ _ [al (.val ic),al (.val cx)] _ (m_paired (n+1) ic cx) _ from
 (SF.vA (dU Ih (bp rfl (bb (ag 1)) aq) (bp rfl (bb (ag 0)) aq))
 (SF.cj (eC kL hr (av 1 (av 0 aj))) λ_=>rfl)
 (SF.cj (fy (n:=2) (ao (eC ek hr (ao (bp rfl (bb (ag 0)) aq) (ao (bp rfl (bb (ag 1)) aq) aj))) (ao (fy (n:=2) (ao (bp rfl (bb (ag 0)) aq) (ao (bp rfl (bb (ag 1)) aq) aj)) rfl) aj)) rfl) λ_=>rfl))
abbrev d_plain:DF:=dv 18 5 1 m_plain
def k_plain(D:DI v d_plain)(q:NB v)(d9:d_nodes.C v)(kL:d_paired.C v):D.O:=
 mY D λhr nd aO=>
 (sl 1 nd (bV (n:=0) aj rfl) λrT=>
 (SF.uW (hd:=(λ(s3:O PV)=>([al (.val aO),al (.ol bn s3),bn]:bj))) (s0:=rT) AJ rfl (eD rfl (gv (eC d9 hr (av 0 aj)))) (.refl _) (mR 2 nd) (λs3 dg=>
 (SF.Gu (cJ rfl (fJ rfl .str rfl q.isinstance (ag 2) rfl q.str wv) (λ_=>rfl))
 (SF.append 1 rfl rfl rfl (.inl rfl) (fy (n:=2) (av 2 (av 2 aj)) rfl) λyy=>
 (SF.gr rfl (.m 4)))
 (SF.append 1 rfl rfl rfl (.inl rfl) (eC kL hr (ao (bp rfl (cC 1) (bp rfl (bb (ag 2)) aq)) (ao (bp rfl (cC 1) (bp rfl (bb (ag 2)) aq)) aj))) λyx=>
 (SF.gr rfl (.m 4))))) λs3=>
 (SF.cj (bp rfl (bb (bp rfl (cC 1) (yn aq))) aq) λ_=>rfl)))
abbrev d_alike:DF:=dv 19 6 2 m_alike
def k_alike(D:DI v d_alike)(jX:d_plain.C v)(gN:d_is_tree.C v):D.O:=
 mY D λhr nd ic cx=>
 (SF.cj (mi (eC gN hr (av 0 aj)) (mi (eC gN hr (av 1 aj)) (pM (fK (jB rfl (bB hr)) (eC jX hr (av 0 aj)) (eC jX hr (av 1 aj)))))) λ_=>rfl)
abbrev d_read_tree:DF:=dRT
abbrev d__law_hand:DF:=dL 32 1 [.v,.v] 2 m__law_hand_2
def k__law_hand(D:DI v d__law_hand)(q:NB v):D.O:=
 O3 D λhr nd cZ k_=>
 (sv 2 nd (Jc (Kc rfl (bB hr) (qI (ag 0))) (bp rfl (bb (ag 0)) (g8 (ag 1) (dJ rfl rfl q.len (ag 0)))) aq) λnR=>
 (sv 3 nd (i5 (g8 (GI rfl q.abs (ag 2)) (i5 (i5 (tU aq aq) (tU aq aq)) (tU aq aq))) (nK rfl q.int (fK Lu (GI rfl q.abs (ag 2)) (tU aq aq)))) λdq=>
 (SF.sX (bV (n:=2) (av 3 (ao (g8 (i5 (b9 rfl (b9 rfl (g8 (ag 2) aq) (i5 (i5 aq (ag 1)) (ag 1))) aq) aq) aq) aj)) rfl) λ_=>rfl)))
abbrev d__law_take:DF:=dV 33 1 [.p (k7 potG05),.v] 1 bE
def k__law_take(D:DI v d__law_take):D.O:=
 Ho (n:=1) (Uj (n:=1) (m:=m__law_take_4) D.fn sc__law_take rfl λad bI l hl=>match l,hl with | [eS],_=>λ_ _ _ _ _ _ hr=>show SF _ _ _ [al (.ol (al ad) bI),al (.val eS),bn,bn] _ (m__law_take_4 bI eS) _ from
 (SF.vA (dU Ls (bp rfl (cC 0) aq) aq)
 (sv 2 sc__law_take.nd (g8 (bp rfl (cC 0) aq) (ag 1)) λtW=>
 (SF.G9 0 rfl rfl (.inl rfl) (yr (bp rfl (cC 0) aq) (ag 1)) aq λgy=>
 (SF.KA 0 (k:=λx5=>(x5,gy)) rfl (ag 2) λ_=>rfl)))
 (SF.G9 0 rfl rfl (.inl rfl) (g8 (b9 rfl (i5 (bp rfl (cC 0) aq) aq) aq) aq) aq λd8=>
 (sv 3 sc__law_take.nd (yr (bp rfl (cC 0) aq) aq) λmZ=>
 (SF.KA 0 (k:=λoB=>(oB,d8)) rfl (g8 (yr (g8 (i5 (ag 3) (ag 3)) aq) aq) (ag 1)) λ_=>rfl))))) take_ok05
abbrev d__law_words:DF:=dL 34 2 [.p (k7 potG05),.v] 1 m__law_words_5
def k__law_words(D:DI v d__law_words)(q:NB v)(aG:d__law_take.C v):D.O:=
 O3 D λhr nd eS=>
 (sv 2 nd jG λjn=>
 (SF.par (i:=3) (j:=4) rfl nd rfl rfl ⋯ rfl rfl (eC aG hr (cR 0 (ao aq aj))) (bp rfl (iG (bV (n:=6) (ao aq (ao aq (ao aq (ao aq (ao aq (ao aq aj)))))) rfl)) (eC aG hr (cR 0 (ao aq aj)))) λkT mH=>
 (sv 5 nd (bp rfl (iG (bV (n:=3) (ao jG (ao jG (ao jG aj))) rfl)) (eC aG hr (cR 0 (ao aq aj)))) λkZ=>
 (sl 6 nd (bV (n:=0) aj rfl) λkQ=>
 (SF.uW (hd:=(λ(Ha:O PV)=>([al (.jg (k7 potG05)),al (.val eS),al (.val jn),al (.val kT),al (.val mH),al (.val kZ),al (.ol bn Ha),bn,bn]:bj))) (s0:=kQ) AJ rfl (gM rfl q.range (ag 1)) (.refl _) (mR 7 nd) (λHa Lq=>
 (sv 8 nd (bp rfl (iG (bV (n:=4) (ao jG (ao jG (ao jG (ao jG aj)))) rfl)) (eC aG hr (cR 0 (ao aq aj)))) λyh=>
 (SF.append 6 rfl rfl rfl (.inl rfl) (b9 rfl (b9 rfl (ag 5) (Mh (ag 2) (g8 (b9 rfl (ag 3) (i5 (ag 4) (ag 7))) aq) (λ_ _=>rfl))) (ag 8)) λpG=>
 (SF.gr rfl (.m 384))))) λHa=>
 (SF.OI 6 rfl rfl))))))
abbrev d__law_joined:DF:=dV 35 2 [.p (k7 potG05),.v] 1 m__law_joined_2
def k__law_joined(D:DI v d__law_joined)(q:NB v)(aG:d__law_take.C v):D.O:=
 mY D λhr nd cg=>
 (SF.parL (i:=2) (j:=3) rfl nd rfl rfl ⋯ rfl rfl (HY rfl rfl q.list (bb (ag 1))) (eC aG hr (cR 0 (ao aq aj))) λvY mF=>
 (SF.uW (hd:=(λ(s5:O PV)=>([al (.jg (k7 potG05)),al (.val cg),al (.ol bn s5),al (.val mF),bn,bn,bn]:bj))) (s0:=vY) AJ rfl (gM rfl q.range (tT (dJ rfl rfl q.len (ag 1)) aq)) (.refl _) (mR 4 nd) (λs5 JE=>
 (sv 5 nd (tT (rP rfl rfl q.len (cC 2)) aq) λpJ=>
 (sv 6 nd (bp rfl (iG (bV (n:=5) (ao aq (av 5 (ao (g8 (ag 4) (b9 rfl (ag 5) aq)) (ao (eC aG hr (cR 0 (ao (b9 rfl (ag 5) aq) aj))) (ao (eC aG hr (cR 0 (ao (b9 rfl (ag 5) aq) aj))) aj))))) rfl)) (ag 3)) λyH=>
 (SF.Kt 2 rfl rfl (.inl rfl) (bV (n:=1) (ao (fy (n:=2) (ao (bp rfl (cC 2) (ag 6)) (ao (bp rfl (cC 2) (b9 rfl (ag 6) aq)) aj)) rfl) aj) rfl) (ag 6) (b9 rfl (ag 6) aq) λvZ=>
 (SF.gr rfl (.m 112)))))) λs5=>
 (SF.cj (bp rfl (cC 2) aq) λ_=>rfl)))
abbrev d__law_great:DF:=dV 36 3 [.p (k7 potG05),.v] 1 m__law_great_5
def k__law_great(D:DI v d__law_great)(q:NB v)(aG:d__law_take.C v)(eE:d__law_joined.C v)(nz:d__law_words.C v):D.O:=
 mY D λhr nd o8=>
 (sv 2 nd (b9 rfl aq (eC aG hr (cR 0 (ao (bp rfl (iG (bV (n:=2) (ao aq (av 1 aj)) rfl)) (nK rfl q.int (fK (jB rfl (bB hr)) (eC aG hr (cR 0 (ao aq aj))) aq))) aj)))) λkA=>
 (SF.cj (eC eE hr (cR 0 (ao (mh (lC nz hr (cR 0 (av 2 aj)))) aj))) λ_=>rfl))
abbrev d__law_leaves:DF:=dL 37 12 [.v] 1 (m__law_leaves 12)
theorem k__law_leaves(D:DI v d__law_leaves)(q:NB v):∀n,bx v.P v.w v.K v.mg v.base fD (n+0) D.f D.fd (ou (top 37)) (oK v.K [.v] (eK 1 (m__law_leaves n)))
 | 0=>xS (zk λl Q hl=>match l,hl with | [aO],_=>λh=>h.elim)
 | n+1=>have c6:=D.cN (k__law_leaves D q n)
  Rv (k:=n+0) (n:=1) (m:=m__law_leaves (n+1)) D.fn sc__law_leaves rfl (oY mW) λl hl=>match l,hl with | [aO],_=>λ_ _ _ _ _ _ hr=>show SF _ _ _ [al (.val aO)] _ (m__law_leaves (n+1) aO) _ from
 (SF.vA (cJ rfl (fJ rfl .str rfl q.isinstance (ag 0) rfl q.str wv) (λ_=>rfl))
 (SF.sX (bV (n:=1) (av 0 aj) rfl) λ_=>rfl)
 (SF.sX (Ll rfl (kj (lC c6 hr (ao (bp rfl (bb (ag 0)) aq) aj))) (kj (lC c6 hr (ao (bp rfl (bb (ag 0)) aq) aj)))) λ_=>rfl))
abbrev d__law_small:DF:=dV 38 3 [.p (k7 potG05),.v,.v] 2 m__law_small_3
def k__law_small(D:DI v d__law_small)(q:NB v)(aG:d__law_take.C v)(eE:d__law_joined.C v):D.O:=
 mY D λhr nd fX o8=>
 (sv 3 nd (b9 rfl aq (eC aG hr (cR 0 (ao (bp rfl (iG (bV (n:=2) (ao aq (av 2 aj)) rfl)) (nK rfl q.int (fK (jB rfl (bB hr)) (eC aG hr (cR 0 (ao aq aj))) aq))) aj)))) λkA=>
 (sl 4 nd (Lh rfl (qI (ag 1)) wZ (wY (b9 rfl aq (eC aG hr (cR 0 (ao (dJ rfl rfl q.len (ag 1)) aj)))))) λxU=>
 SF.dc 4 rfl (SF.cj (eC eE hr (cR 0 (ao (mh (ng rfl lc__law_small_0 (gM rfl q.range (ag 3)) (λ_ _ _ _ _=>(mR 0 lc__law_small_0.nd)) (λ_ _ _ _ _ Sm=>(bp rfl (bb (ag 1)) (eC aG hr (cR 2 (ao (dJ rfl rfl q.len (ag 1)) aj))))) rfl)) aj))) λ_=>rfl)))
abbrev d__law_made:DF:=dv 39 12 2 (m__law_made 12)
theorem k__law_made(D:DI v d__law_made)(q:NB v):∀n,bx v.P v.w v.K v.mg v.base fD (n+0) D.f D.fd (ou (top 39)) (ja v.K [.v,.v] (eK 2 (m__law_made n)))
 | 0=>xS (vP λl Q hl=>match l,hl with | [cg,iQ],_=>λh=>h.elim)
 | n+1=>have ez:=D.cN (k__law_made D q n)
  Qc (k:=n+0) (n:=2) (m:=m__law_made (n+1)) D.fn sc__law_made rfl (oY (oY mW)) λl hl=>match l,hl with | [cg,iQ],_=>λ_ _ _ _ _ _ hr=>show SF _ _ _ [al (.val cg),al (.val iQ),bn] _ (m__law_made (n+1) cg iQ) _ from
 (sv 2 sc__law_made.nd (bp rfl (bb (ag 0)) (ag 1)) λku=>
 (SF.vA (cJ rfl (fJ rfl .str rfl q.isinstance (ag 2) rfl q.str wv) (λ_=>rfl))
 (SF.cj (ag 2) λ_=>rfl)
 (SF.cj (fy (n:=2) (ao (eC ez hr (av 0 (ao (bp rfl (bb (ag 2)) aq) aj))) (ao (eC ez hr (av 0 (ao (bp rfl (bb (ag 2)) aq) aj))) aj)) rfl) λ_=>rfl)))
abbrev d__law_leads:DF:=dv 40 1 2 m__law_leads
def k__law_leads(D:DI v d__law_leads)(q:NB v):D.O:=
 mY D λhr nd cg fC=>
 (SF.xR (hd:=(λ(s2:Unit)=>([al (.val cg),al (.val fC),bn,bn,bn]:bj))) (s0:=()) (inj:=id) AJ rfl (gM rfl q.range (dJ rfl rfl q.len (ag 0))) (.refl _) (mR 2 nd) (λ_=>trivial) (λs2 kr=>
 (SF.par (i:=3) (j:=4) rfl nd rfl rfl ⋯ rfl rfl (ag 2) aq λrm qX=>
 (SF.hZ (hd:=(λ(s6:PV×PV)=>([al (.val cg),al (.val fC),al (.val kr),al (.val s6.1),al (.val s6.2)]:bj))) (s0:=(rm,qX)) (inj:=Lp.out) AJ (.refl _) (λs6=>(qf.t (vK (dU Fc (bp rfl (bb (ag 1)) (ag 3)) ym) (sF (dU Lr (ag 4) (dJ rfl rfl q.len (ag 0))))))) (λ_=>trivial) (λs6=>
 (SF.vA (qf.t (jw (GZ rfl (bB hr) (ag 3) (bb (bp rfl (bb (ag 0)) (bp rfl (bb (ag 1)) (ag 3))))) (ia (dU xA (bp rfl (bb (ag 1)) (ag 3)) (ag 3)))))
 (SF.ret (k:=λx7=>(Lp.out x7)) dP λ_=>rfl)
 (SF.par (i:=3) (j:=4) rfl nd rfl rfl ⋯ rfl rfl (bp rfl (bb (ag 1)) (ag 3)) (b9 rfl (ag 4) aq) λxI xn=>
 (SF.gr rfl (.refl _))))) λs6=>
 (SF.Gu (dU (kF rfl (bB hr)) (ag 3) (tT (dJ rfl rfl q.len (ag 0)) aq))
 (SF.ret (k:=λoB=>(Lp.out oB)) dP λ_=>rfl)
 (SF.gr rfl (.m 28)))))) λs2=>
 (SF.cj (mi (fK (jB rfl (bB hr)) (dJ rfl rfl q.len (ag 1)) (dJ rfl rfl q.len (ag 0))) (pM (fK (jB rfl (bB hr)) (e_cntT rfl (bB hr) (ag 1) ym) aq))) λ_=>rfl))
abbrev d__law_right:DF:=dv 41 13 2 m__law_right_3
def k__law_right(D:DI v d__law_right)(q:NB v)(d9:d_nodes.C v)(ez:d__law_made.C v)(nC:d__law_leads.C v)(rF:d_ahead_of.C v)(c9:d_leaves.C v)(jX:d_plain.C v)(kM:d_is_small.C v)(cz:d_is_great.C v)(Fu:d_alike.C v)(gN:d_is_tree.C v)(pD:d_read_tree.C v)(uU:d_text_of.C v):D.O:=
 mY D λhr nd aO gz=>
 (sv 2 nd (eC d9 hr (av 0 aj)) λkd=>
 (SF.sS (i:=3) rfl nd rfl rfl lc__law_right_0 (gM rfl q.range (dJ rfl rfl q.len (ag 2))) (λ_ _ _ _ _=>(mR 0 lc__law_right_0.nd)) (λ_ _ _ _ _ p6=>(eC ez hr (av 1 (av 0 aj)))) rfl λiM=>
 SF.dc 3 rfl (SF.vA (qf.t (jw (dU (kF rfl (bB hr)) (bp rfl (bb (ag 3)) (yn aq)) (ag 0)) (ia (gZ (cJ rfl (eC nC hr (av 2 (ao (eC rF hr (av 0 aj)) aj))) (λ_=>rfl))))))
 (SF.cj dP λ_=>rfl)
 (SF.vA (dU (kF rfl (bB hr)) (eC c9 hr (av 0 aj)) (j7 rfl rfl q.tuple (iG (Gq rfl lc__law_right_1 (eD rfl (gv (ag 3))) (λ_ _ _ _ _=>(mR 0 lc__law_right_1.nd)) (λ_ _ _ _ _ M6=>(cJ rfl (fJ rfl .str rfl q.isinstance (ag 0) rfl q.str wv) (λ_=>rfl))) (λ_ _ _ _ _ M6=>(ag 0)) rfl))))
 (SF.cj dP λ_=>rfl)
 (sv 4 nd (eC jX hr (av 0 aj)) λeQ=>
 (SF.vA (qf.t (jw (dU (kF rfl (bB hr)) (dJ rfl rfl q.len (eC d9 hr (av 4 aj))) (dJ rfl rfl q.len (ag 2))) (ia (dU (kF rfl (bB hr)) (mh (l_sortTS rfl rfl q.sorted (eC c9 hr (av 4 aj)))) (mh (l_sortTS rfl rfl q.sorted (eC c9 hr (av 0 aj))))))))
 (SF.cj dP λ_=>rfl)
 (SF.vA (qf.t (jw (gZ (cJ rfl (eC Fu hr (av 0 (av 4 aj))) (λ_=>rfl))) (jw (dU (kF rfl (bB hr)) (eC cz hr (av 4 aj)) (eC cz hr (av 0 aj))) (ia (dU l7 (eC kM hr (av 1 (av 4 aj))) dP)))))
 (SF.cj dP λ_=>rfl)
 (SF.vA (gZ (cJ rfl (yw rfl rfl rfl q.all (kj (ng rfl lc__law_right_2 (eD rfl (gv (ag 3))) (λ_ _ _ _ _=>(mR 0 lc__law_right_2.nd)) (λ_ _ _ _ _ OT=>(mi (fK xB (eC gN hr (av 0 aj)) dP) (pM (fK xB (eC kM hr (av 1 (av 0 aj))) dP)))) rfl))) (λ_=>rfl)))
 (SF.cj dP λ_=>rfl)
 (SF.cj (yw rfl rfl rfl q.all (kj (ng rfl lc__law_right_3 (eD rfl (gv (ag 3))) (λ_ _ _ _ _=>(mR 0 lc__law_right_3.nd)) (λ_ _ _ _ _ OS=>(fK (jB rfl (bB hr)) (eC pD hr (ao (eC uU hr (av 0 aj)) aj)) (ag 0))) rfl))) λ_=>rfl)))))))))
abbrev d_law:DF:=dv 42 14 1 m_law_25
def k_law(D:DI v d_law)(q:NB v)(pE:d__law_hand.C v)(nF:d__law_great.C v)(nA:d__law_small.C v)(c6:d__law_leaves.C v)(nB:d__law_right.C v)(cz:d_is_great.C v)(c9:d_leaves.C v):D.O:=
 mY D λhr nd cZ=>
 (SF.xR (hd:=(λ(s5:Unit)=>([al (.val cZ),bn,bn,bn,bn,bn,bn]:bj))) (s0:=()) (inj:=id) AJ rfl (gM rfl q.range (b9 rfl aq (rP rfl rfl q.len (iG (Lh rfl (qI (ag 0)) wZ (wY aq)))))) (.refl _) (mR 1 nd) (λ_=>trivial) (λs5 JE=>
 (sl 2 nd (lC pE hr (av 0 (av 1 aj))) λjE=>SF.jg 2 rfl
 (sv 3 nd (eC nF hr (cR 2 (ao aq aj))) λbQ=>
 (sv 4 nd (eC nA hr (cR 2 (ao (mh (lC c6 hr (av 3 aj))) (ao aq aj)))) λaQ=>
 (sv 5 nd (Jc (cJ rfl (fJ rfl .str rfl q.isinstance (ag 4) rfl q.str wv) (λ_=>rfl)) (ag 4) (fy (n:=2) (ao (bp rfl (bb (ag 4)) aq) (ao (bp rfl (bb (ag 4)) aq) aj)) rfl)) λjb=>
 (SF.xR (hd:=(λ(M4:Unit)=>([al (.val cZ),al (.val JE),al (.jg (k7 potG05)),al (.val bQ),al (.val aQ),al (.val jb),bn]:bj))) (s0:=()) (inj:=Lp.out) AJ rfl (eD rfl (gv (fy (n:=3) (av 3 (av 4 (av 5 aj))) rfl))) (.refl _) (mR 6 nd) (λ_=>trivial) (λM4 sH=>
 (SF.Gu (gZ (cJ rfl (eC nB hr (av 6 (av 3 aj))) (λ_=>rfl)))
 (SF.ret (k:=λGR=>(Lp.out GR)) dP λ_=>rfl)
 (SF.gr rfl (.m 64)))) λM4=>
 (SF.Gu (qf.t (jw (dU l7 (eC cz hr (av 3 aj)) dP) (ia (dU (kF rfl (bB hr)) (eC cz hr (av 4 aj)) (fK (jB rfl (bB hr)) (e_lensetS rfl rfl rfl q.len rfl q.set (eC c9 hr (av 4 aj))) (dJ rfl rfl q.len (eC c9 hr (av 4 aj))))))))
 (SF.ret (k:=λN5=>(Lp.out N5)) dP λ_=>rfl)
 (SF.gr rfl (.m 62))))))))) λs5=>
 (SF.cj dP λ_=>rfl))
def all_d{K:Aa}(X:K.In h)(G:h.Ns gt mg)(yp:DX K "is_row" (top 1))(va:DX K "is_word" (top 5))(rQ:DX K "is_grown" (top 6))(vc:DX K "is_tree" (top 7))(rR:DX K "is_great" (top 8))(rO:DX K "parts_of" (top 10))(yo:DX K "leaves" (top 13))(e_is_small:DXc K "is_small" (top 9) 49)(FE:DX K "nodes" (top 11))(yq:DX K "halves" (top 12))(rS:DX K "ahead_of" (top 14))(pN:DX K "bracketed" (top 15))(u9:DX K "text_of" (top 16))(yj:DX K "paired" (top 17))(FC:DX K "plain" (top 18))(FI:DX K "alike" (top 19))(pR:DX K "_law_hand" (top 32))(pO:DX K "_law_take" (top 33))(nL:DX K "_law_words" (top 34))(lM:DX K "_law_joined" (top 35))(nQ:DX K "_law_great" (top 36))(lL:DX K "_law_leaves" (top 37))(nM:DX K "_law_small" (top 38))(pP:DX K "_law_made" (top 39))(nP:DX K "_law_leads" (top 40))(nN:DX K "_law_right" (top 41))(Qo:RD K)(pL:DX K "take_many" (tpR 12))(i4:DX K "take_tree_front" (tpR 13))(lK:DX K "take_behind" (tpR 14))(lJ:DX K "take_nested" (tpR 15))(rN:DX K "read_all" (tpR 16))(e_read_tree:DXc K "read_tree" (top 30) 224)(bf:AH K gt "LONGEST_WORD"=al (al (.int 8 f6)))(cY:AH K gt "LETTERS"=al (al (.str "abcdefghijklmnopqrstuvwxyz" lT)))(J2:AH K gt "len"=al bn)(mB:AH K gt "isinstance"=al bn)(y8:AH K gt "tuple"=al bn)(J0:AH K gt "str"=al bn)(J4:AH K gt "all"=al bn)(GO:AH K gt "list"=al bn)(qt:AH K gt "reversed"=al bn)(oA:AH K gt "enumerate"=al bn)(J5:AH K gt "abs"=al bn)(J3:AH K gt "int"=al bn)(y9:AH K gt "range"=al bn)(vF:AH K gt "sorted"=al bn)(J1:AH K gt "set"=al bn):MU K mg d_law:=by
 constructor
 rintro v rfl rfl D;have q:∀b,NB (v.at b):=λb=>⟨AI X G J2,AI X G mB,AI X G y8,AI X G J0,AI X G J4,AI X G GO,AI X G qt,AI X G oA,AI X G J5,AI X G J3,AI X G y9,AI X G vF,AI X G J1⟩;replace bf:=CC X G bf;replace cY:=CC X G cY;have p:=q v.base;have qg:TabIs 224 "read_tree.<locals>.<lambda>":=⟨by decide +kernel,by decide +kernel⟩;obtain⟨qb⟩:=mk_rt (v:=v) X G Qo pL i4 lK lJ rN e_read_tree qg cY bf p.len p.isinstance p.str;obtain⟨qh⟩:=yp.mk2 (d:=d_is_row) X G;have qc:∀b,d_is_row.C (v.at b):=λb=>(qh.at b).c (k_is_row (qh.at b) (q b));obtain⟨cG⟩:=va.mk2 (d:=d_is_word) X G;have vq:∀b,d_is_word.C (v.at b):=λb=>(cG.at b).c (k_is_word (cG.at b) (q b) bf cY);obtain⟨aE⟩:=rQ.mk2 (d:=(d_is_grown 0 [] [] [] λ_=>.fail)) X G;have dm:∀b,(d_is_grown cG.f [] [] [] bq).C (v.at b):=λb=>DI.c (v:=v.at b) ⟨aE.f,aE.fd,aE.fn,aE.bi,aE.at'⟩ (have A:=((cG.at b).cA (k_is_word (cG.at b) (q b) bf cY)).mono (k':=3) ⋯;k_is_grown (v:=v.at b) (fa:=cG.f) (us:=[]) (qs:=[]) (fz:=[]) (is_leaf_:=bq) ⟨aE.f,aE.fd,aE.fn,aE.bi,aE.at'⟩ A (qc b));have sC:HF v.P v.w v.K v.mg 1 3 "is_grown" 4 ["thing","is_leaf","often"] λfa us qs fz g=>ja v.K [.v,.f fa us qs fz,.v] (eK 2 (m_is_grown_2 g)):=⟨aE.f,aE.fd,aE.bi,aE.fn.kp,aE.at',λ{pl qs g} b fa us fz ⟨A⟩=>k_is_grown (v:=v.at b) (fa:=fa) (us:=us) (qs:=qs) (fz:=fz) (is_leaf_:=g) ⟨aE.f,aE.fd,aE.fn,aE.bi,aE.at'⟩ A (qc b)⟩;refine vc.go (d:=d_is_tree) X G (λD=>k_is_tree D cG.at' (dm v.base)) λmx=>?_;refine rR.go (d:=d_is_great) X G (λD=>k_is_great D cG.at' (dm v.base)) λiz=>?_;refine rO.go (d:=d_parts_of) X G (λD=>k_parts_of D p) λk5=>?_;refine yo.go (d:=d_leaves) X G (λD=>k_leaves D p k5) λk6=>?_;obtain⟨lh,sA⟩:=e_is_small.mk3 (d:=d_is_small) X G;have sk:TabIs 49 "is_small.<locals>.<lambda>":=⟨by decide +kernel,by decide +kernel⟩;have si:=lh.c (k_is_small lh sA sk sC vq iz k6);refine FE.go (d:=d_nodes) X G (λD=>k_nodes D p k5) λj8=>?_;refine yq.go (d:=d_halves) X G (λD=>k_halves D p) λyO=>?_;refine rS.go (d:=d_ahead_of) X G (λD=>k_ahead_of D p j8 yO) λsj=>?_;refine pN.go (d:=d_bracketed) X G (λD=>k_bracketed D) λjH=>?_;refine u9.go (d:=d_text_of) X G (λD=>k_text_of D p j8 jH) λvo=>?_;refine yj.go (d:=d_paired) X G (λD=>k_paired D jH 3) λyN=>?_;refine FC.go (d:=d_plain) X G (λD=>k_plain D p j8 yN) λug=>?_;refine FI.go (d:=d_alike) X G (λD=>k_alike D ug mx) λFZ=>?_;refine pR.go (d:=d__law_hand) X G (λD=>k__law_hand D p) λqe=>?_;refine pO.go (d:=d__law_take) X G (λD=>k__law_take D) λeB=>?_;refine nL.go (d:=d__law_words) X G (λD=>k__law_words D p eB) λn9=>?_;refine lM.go (d:=d__law_joined) X G (λD=>k__law_joined D p eB) λhJ=>?_;refine nQ.go (d:=d__law_great) X G (λD=>k__law_great D p eB hJ n9) λoj=>?_;refine lL.go (d:=d__law_leaves) X G (λD=>k__law_leaves D p 12) λlQ=>?_;refine nM.go (d:=d__law_small) X G (λD=>k__law_small D p eB hJ) λoe=>?_;refine pP.go (d:=d__law_made) X G (λD=>k__law_made D p 12) λqd=>?_;refine nP.go (d:=d__law_leads) X G (λD=>k__law_leads D p) λoi=>?_;refine nN.go (d:=d__law_right) X G (λD=>k__law_right D p j8 qd oi sj k6 ug si iz FZ mx qb vo) λog=>?_;exact k_law D p qe oj oe lQ og iz k6
end My
end
open PySem PySem.W PyProof.Rows
structure PySem.W.Fast:Prop where(tw11152721664207390583 tw10148650450655128549 tw7215412956788833440 tw2247937224864427410 tw4766644976232079131 tw15986027170792297970 tw13176315897454329008 tw10949122777771004019 tw2852478770303952804 tw15186204293740261354 tw9842630912009017070 tw11241434201817941634 tw11483880839495905467 tw15511452780510741042 tw4613080363795446272 tw5398560743927617759 tw8501102018418392063 tw866449938390981509 tw721422107627880617 tw2079084119687080307 tw17818162277812231524 tw12535502827682566411 tw15653914986541163258 tw16716115840402951459 tw14006375275455298785 tw8121563730573841593 tw15196463093769939561 tw1027198017281072117 tw18166283607037314865 tw6777172016341510372 tw12017136389039908359 tw8357414804277616415 tw7734770655122060697 tw12777516174547278849 tw3840130099197566704 tw3442115688217224881 tw17676823333439217816 tw8100481858242491624 tw9765873417351906555 tw3812406962716616981 tw5923069052344981535 tw964295340142830487 tw12317787119316972158 tw8032873160622165913 tw2915567880032346272 tw12950617920287510179 tw6975415329178116622 tw9228214693707031390 tw1918525918787445923 tw4586785544351761232 tw6497823390805155681 tw16001014333482600957 tw4471932717522362421 tw6399282302974924116 tw8350502379809259698 tw14527988804650176057 tw4543750558786475088 tw1195640776669875344 tw11322929602007610418 tw1800383389316714056 tw3651569459378406577 tw3148534610413557593 tw8046688376711179199 tw12095697104087864202 tw12793887338833208528 tw14939064523039669609 tw1743797199907912073 tw8203694515990171938 tw13233944593145701343 tw10964725345752364642 tw15957478353311593618 tw12714883338139355593 tw985118095196908751 tw16078604057190105778 tw14221578819026726785 tw15616276101876632963 tw6457041113850076520 tw5446139216280785298 tw7879209444923080534 tw15108544152904805267 tw5843461294542092718 tw7544244522296872333 tw10567495818745368623 tw11452225840375019983 tw13774891485677542039 tw15464138462298476749 tw663593159345137487 tw12760719124864054054 tw17517423621432881224 tw3849678537078910000 tw14634392062537067454 tw17330668036779263932 tw17047199788802335875 tw12487821645566246996 tw12573740001120523123 tw14190949024234004917 tw10795570195140723382 tw14123757767940173217 tw18017421587329133946 tw2894362466148979681 tw12581958090538674642 tw3990795073633784399 tw8906363612358301244 tw17476063941236080776 tw16844319797750790563 tw17850636446972635882 tw3411933569981489148 tw1098785326280404924 tw8496310779607227396 tw15006508293409758948 tw9292499143897580254 tw16203705550273182183 tw17479767556950313700 tw2332834831355330518 tw10286554397325461080 tw11117365439474855209 tw12223976851146486256 tw16570314782448826274 tw541091290833209354 tw17168808141802157335 tw11837857205406603312 tw11645049688510578267 tw2452419630971867132 tw12243505206288322915 tw12106385826511642936 tw2514631247331599160 tw16706695103106493025 tw508838109756874891 tw16739363747981450094 tw12629937962223252428 tw6261762846528790436 tw11933047816237625863 tw4263095499145339201 tw15776814635156530992 tw7948854681139210827 tw2934766334267271462 tw14697998224593186494 tw7784704230728211105 tw1632838001606965553 tw18395050293441518545 tw2847511503366159385 tw5160630102694625957 tw5705837212584412658 tw11557662815067264867 tw13754870277489649918 tw15073545881361032842 tw6696054578445552839 tw9429539561933428812 tw11144407255585192682 tw14906611526361755737 tw6220438922771635125 tw6884314706788655152 tw15263740622330880018 tw17262744453763400460 tw13601433357418912242 tw9535772184030613295 tw12528722975736177351 tw5831741289674185128 tw11539841484081303251 tw14925324184283936510 tw14259897481565165284 tw14921823020265237259 tw15678353103459956317 tw9620812966293570173 tw15162324483102415082 tw6222801452165566724 tw5884663104542489163 tw7114035732898850399 tw5546643372446367737 tw7286191777344632249 tw6572110469374687868 tw1756134787202753358 tw14741662346100545177 tw10091896153293853988 tw16523808304667445586 tw9228247082613093650 tw2744368527151776600 tw8811333414242296311 tw4616484119764987459 tw9234748599069978280 tw10673200987475449722 tw9096753853472885221 tw15254865496948522351 tw2178181793384549990 tw1819986486996670910 tw13424312242881825410 tw4241076132819516654 tw8141776669553528776 tw327248892520581127 tw13944377602831957169 tw8222771611064615257 tw14479352052130453931 tw6361316166448579773 tw6572945560341893524 tw10271460935490788269 tw14317626691797738422 tw7141307868844582837 tw8258402506184825422 tw3119539796172359432 tw17467195135805956574 tw2000678727145969109 tw13108033949074948871 tw2792614268373033763 tw7748148635059561773 tw12585469169273640246 tw10082026741383863117 tw5651101413630461202 tw7343340633443999812 tw2418020882015514960 tw13311701750331770157 tw3781026154450462571 tw10683403836649826419 tw18133272167629065414 tw1467875498822544807 tw4161457629800520255 tw12205186083004205638 tw13402230230889679216 tw8788709949044041474 tw4558094705751612120 tw3036656330452974361 tw4626168399917074878 tw6031793635622334035 tw14366102767218499745 tw6571226154884806609 tw10427868010232823817 tw5064648043923748130 tw16025526391553075622 tw8207482889766904737 tw3250624095612387684 tw14236982826628395589 tw659037733732423800 tw12061813072989526801 tw2312726377557489478 tw5363799017788524381 tw8693807472041075703 tw13075674342361761544 tw1657662054343661422 tw1162387776108353901 tw747792146096502874 tw7841732231580011970 tw17913521003309265157 tw90420042231639524 tw9815606713415620155 tw12950748874444727806 tw7011767165963408129 tw1145215179914463088 tw14182224624912055653 tw11600769496252574257 tw18438681645923461867 tw17132730448284884078 tw17926925715990909758 tw3041517108956450090 tw15472611234655813887 tw5418100762263049336 tw3234809535541285195 tw14348795935082609754 tw5475044231509266640 tw13728703759984889853 tw9947834731527424689 tw17183900742433205173 tw1264075876666842010 tw3919628799502605447 tw6565108953305282816 tw15721400427600826921 tw2195820057253613457 tw17615591122836867702 tw1740366636323898059 tw14319230169891299408 tw3176978057389922749 tw15808402044582685606 tw17593241207763426213 tw13211121964581931075 tw2899739552183907043 tw13528330134718030688 tw14024304543005932415 tw16378222993106383966 tw8931015089263840805:True)
def PySem.W.Fast.tw12087198261727622801:=PySem.Challenge.pw_treewithin_k08_whole_trees_put_together
theorem PySem.W.Fast.te12087198261727622801:PySem.Challenge.pw_treewithin_k08_whole_trees_put_together=PySem.W.Fast.tw12087198261727622801:=rfl
set_option maxRecDepth 100000 in
set_option maxHeartbeats 0 in
theorem PySem.Challenge.cw_treewithin_k08_whole_trees_put_together_holds : PySem.Challenge.rw_treewithin_k08_whole_trees_put_together.Holds := by
 w_on;o_law;k_head;(case hw=>w_witness2)
 k_fill
 refine FL.walkT (l:=PySem.Challenge.rw_treewithin_k08_whole_trees_put_together) (k:=14) rfl rfl ⟨rfl,by decide,by decide,rfl⟩ (fun w h Y=>⟨PySem.W.km_in_of Y,PySem.W.km_tabs_of Y⟩) ?K ?C ?F
 case K=>
  intro w P hP;have hP:P∈[224,49]:=hP;simp only[List.mem_cons,List.not_mem_nil,or_false]at hP;rcases hP with rfl | rfl
  all_goals first | rfl | k_is
 case C=>
  intro w h hK P hP;have hP:P∈[224,49]:=hP;simp only[List.mem_cons,List.not_mem_nil,or_false]at hP;rcases hP with rfl | rfl
  ·(refine' FL.DXc.tab (x:="read_tree") (st:=My.top 30) (FL.dxc ?a ?l ?h ?k ?e ?z) hK;(case a=>k_is);(case l=>k_is);(case h=>k_is);(case k=>k_is);(case e=>k_is);(case z=>exact⟨_,_,_,_,_,_,_,rfl,rfl,rfl,rfl,rfl,rfl,by decide⟩))
  ·(refine' FL.DXc.tab (x:="is_small") (st:=My.top 9) (FL.dxc ?a ?l ?h ?k ?e ?z) hK;(case a=>k_is);(case l=>k_is);(case h=>k_is);(case k=>k_is);(case e=>k_is);(case z=>exact⟨_,_,_,_,_,_,_,rfl,rfl,rfl,rfl,rfl,rfl,by decide⟩))
 case F=>
  intro w mg fa h KX G hmg;have e8_read_tree:=FL.forK (fun K=>FL.DXc K "read_tree" (My.top 30) 224) KX (by
   show FL.DXc _ _ _ _;refine' FL.dxc ?a ?l ?h ?k ?e ?z
   case a=>k_is
   case l=>k_is
   case h=>k_is
   case k=>k_is
   case e=>k_is
   case z=>exact⟨_,_,_,_,_,_,_,rfl,rfl,rfl,rfl,rfl,rfl,by decide⟩)
  have e8_is_small:=FL.forK (fun K=>FL.DXc K "is_small" (My.top 9) 49) KX (by
   show FL.DXc _ _ _ _;refine' FL.dxc ?a ?l ?h ?k ?e ?z
   case a=>k_is
   case l=>k_is
   case h=>k_is
   case k=>k_is
   case e=>k_is
   case z=>exact⟨_,_,_,_,_,_,_,rfl,rfl,rfl,rfl,rfl,rfl,by decide⟩)
  refine' FL.mkAll (st:=My.top 42) (k:=14) My.law08_ok KX G hmg ?e (fun _ _ _ _ _ _=>FL.usN fun _=>rfl) (My.all_d KX G (e_read_tree:=e8_read_tree) (e_is_small:=e8_is_small) ..)
  all_goals try first | (refine' FL.dx ?a ?l ?c ?k;(case a=>k_is);(case l=>k_is);(case c=>k_is);(case k=>k_is)) | (refine' My.rdx ?a ?m2 ?l1 ?c1 ?k1 ?m1 ?m3 ?m4 ?d1 ?d2 ?d3 ?d4 ?n1 ?n2 ?g2 ?l2 ?c2 ?k2 ?i2 ?g3 ?l3 ?c3 ?k3 ?i3;(case a=>k_is);(case m2=>k_is);(case l1=>k_is);(case c1=>k_is);(case k1=>k_is);(case m1=>k_is);(case m3=>k_is);(case m4=>k_is);(case d1=>k_is);(case d2=>k_is);(case d3=>k_is);(case d4=>k_is);(case n1=>k_is);(case n2=>k_is);(case g2=>k_is);(case l2=>k_is);(case c2=>k_is);(case k2=>k_is);(case i2=>k_is);(case g3=>k_is);(case l3=>k_is);(case c3=>k_is);(case k3=>k_is);(case i3=>k_is)) | k_is
#print axioms PySem.Challenge.cw_treewithin_k08_whole_trees_put_together_holds
