import PyProof.Rows.All
import Wide.All
import OpenK.AllK
import Wide.FinOn
import Lean
import PyProof.EqAt
import PyProof.EqKinds
import PyProof.TupleCall
import PyProof.NeKinds
import PyProof.FactsAll.tuple_2
import PyProof.FactsAll.str_0
import PyProof.FactsAll.str_1
import PyProof.FactsAll.str_2
import PyProof.FactsAll.str_3
import PyProof.Rows.MinMaxN
import PyProof.Rows.SumAny
import PyProof.Rows.SetFrom
import PyProof.ReprRoads
import PyProof.Rows.StrKeys3
import PyProof.CallFns
import KE.KSortTup
import KE.KDictSum
import KE.KIsAll
import PyProof.StrLawsIn
import PySem.Challenge.RW_treewithin_k74_texts_that_write_no_tree
open PySem.W renaming Frag -> Aa, findIn -> Ao, nsIn -> Aw, kitOne -> Ay, mg_none_of -> Az, keepIn -> AG, Looks -> AM, kia_one -> AQ, fnOf -> AY, mroIn -> Bb, emptyDict -> Bf, mg_of -> Bh, clsIn -> Bi, looks_findIn -> Bk, callWith_K -> Bq, codeIn -> Bx, specialIn -> BA, hasDictIn -> BC, instObj -> BG, looks_mroIn -> B2, looks_clsIn -> B3, kitAny -> B4, isFn -> B9, plainGet -> Cq, any_some -> Cr, InstAt -> CK, methodCall_KW -> C1, subIn -> C2, plainGet_of -> C8, FnAt -> De, typeIn -> Dj, lookIn -> Dk, plainOver -> Dw, methodObj -> Dx, kitx_list -> Dy, kitx_dict -> Dz, envX -> DT, cellsFrom_some -> DU, takesIn -> D8, takerIn -> D9, makesIn -> Ea, tabObj -> Ek, hideAll_size -> El, hideAll_none -> Em, hideAll_get -> Ew, findObj_own -> Ex, excIn -> Ey, of_hideAll -> EA, looks_find -> EB, kitx_tuple -> EC, callWith_F -> ED, set_plain -> EI, handedIn -> EN, InitBack -> EO
open PySem renaming wpAny_bind -> Ab, wpAny_pure -> Ae, Addr -> AN, Value -> AO, wpAny_loadPart -> AU, wpAny_Call_Name_kw -> AW, mem_of_lookup -> A1, wpAny_holding -> A4, wpAny_field -> A6, wpAny_truthy_bool -> A7, wpAny_mono -> Be, Str -> Bt, Expr -> Bu, wpAny_newObj_type -> BD, wpAny_callSpecial?_slot -> BE, wpAny_standAt -> BK, wpAny_passesOwn -> BS, Shared -> BW, wpAny_call -> B1, wpAny_getItem_str_slice -> B6, wpAny_setField_rec -> Ca, wpAny_execs_nil -> Ce, Pos -> Cs, wpAny_call_entry -> Ct, wpAny_setField -> CU, wpAny_loadPart_at -> CV, wpAny_bindName -> CW, wpAny_attempt -> C3, wpAny_of_eq -> C4, wpAny_isSubtype_exc -> C9, boot_len -> Dr, Heap -> Ds, wpAny_execs_cons -> DM, wpAny_rule -> D2, wpAny_listPart -> Er, wpAny_letGo -> Es, frameOf -> Ez, Within -> EJ, Obj -> EU
open PySem.Heap renaming get?_push_of_some -> Ad, lt_size -> Ai, get?_push_size -> Am, get?_update_ne -> AZ, size_push -> Bm, get?_update_self -> Cj, SameBut -> CN, get?_update_other -> DZ
open PySem.Str renaming length_append -> Af, cps_append -> AR, length -> BM, empty -> Cg, ofString -> DV
open List renaming getElem?_eq_some_iff -> Ag, length_cons -> Ah, getElem?_eq_getElem -> Ak, size_toArray -> Al, replicate -> An, length_append -> Ap, mem_cons -> Au, lookup_cons -> AA, length_map -> AB, getElem?_map -> AE, mem_cons_of_mem -> AH, mem_append_right -> AJ, append_nil -> AV, drop_eq_getElem_cons -> A5, mem_of_getElem? -> A8, mem_cons_self -> A9, getElem?_append_right -> Ba, length_take -> Bc, getElem?_append_left -> Bd, eq_nil_of_length_eq_zero -> Bg, getElem?_replicate -> BF, filterMap_cons -> BI, length_replicate -> BR, nodup_cons -> BU, mem_append_left -> BX, getElem?_set_ne -> BZ, lookup -> B7, take_of_length_le -> Cb, range -> Cc, mem_append -> Cf, takeWhile_cons_of_pos -> Co, takeWhile_cons_of_neg -> Cp, not_mem_nil -> Cu, length_drop -> Cv, length_pos_iff -> Cz, mem_singleton -> CH, getElem?_set_self -> CY, of_mem_zip -> C5, mem_filter -> C6, length_nil -> C7, replicate_succ -> Dc, mem_filterMap -> Du, getElem?_zip_eq_some -> Dv, length -> DD, getElem?_set -> DE, set_comm -> DH, drop_length -> DQ, all_eq_true -> DR, map_map -> D5, drop_eq_nil_of_le -> D6, nil_append -> Ec, map_append -> Ed, length_set -> Ee, forIn_cons -> Ef, lookup_cons_self -> Eh, length_singleton -> Ei, contains_iff_mem -> Ej, mem_range -> Eu, mem_map -> EK, map_nil -> EL
open Nat renaming le_refl -> Aj, lt_of_lt_of_le -> Aq, le_trans -> Av, ne_of_lt -> AI, lt_irrefl -> Bl, zero_le -> Bz, lt_succ_self -> BL, le_of_ble_eq_true -> BQ, lt_or_ge -> Dg, le_of_eq -> Dh, not_lt -> Dt, lt_succ_of_lt -> DC, le_add_right -> DP, ne_of_gt -> D3, le_of_lt -> D4, le_succ -> Et, ble -> EY
open PySem.Value renaming ref -> Ar, none -> A2, bool -> CG, int -> CI, str -> DK, type -> EZ
open False renaming elim -> AD
open Bool renaming false_ne_true -> AL, false_eq_true -> AX, and_eq_true -> Bw, eq_iff_iff -> CF, not_eq_true' -> CZ, not_true -> DJ
open PySem.NameKind renaming free -> A3, cell -> Ci
open Or renaming inl -> Bj, inr -> Bo
open Array renaming toList_append -> Bp, getElem?_eq_none -> D7
open PySem.F renaming slot_str_ascii_iterator_next -> Br, plainAttrs_list -> B5, slot_enumerate_next -> Ck, type_list_append -> CA, slot_list_append -> CB, args_tuple_add_2 -> CC, entry_tuple_add -> CJ, slot_tuple_add -> CO, args_str_ascii_iterator_next_1 -> CP, entry_str_ascii_iterator_next -> C0, excCall_ValueError -> Dm, excBase_ValueError -> Dn, excAttr_ValueError -> Dp, args_enumerate_next_1 -> DL, entry_enumerate_next -> D1, entry_bexc_ga -> Eg, args_bexc_ga -> En
open PySem.Challenge renaming pw_treewithin_k74_texts_that_write_no_tree -> Bs
open Int renaming emod_lt_of_pos -> Bv, emod_nonneg -> BH, toNat_natCast -> Cn, toNat_of_nonneg -> Dd, eq_ofNat_of_zero_le -> DS, zero_add -> EM
open PySem.Obj renaming mapFields -> BJ, mapSeq -> DY
open PySem.Calls renaming spliced_cons -> BN, spliced_nil -> CS, callWith_builtin -> CT, Name_function_global -> Dq, evalArgs_plain -> Eo
open Ne renaming symm -> BO
open ForInStep renaming yield -> BV
open True renaming intro -> B8
open PySem.PassesOwn renaming never -> Cd, leaving -> DA
open PyProof.Rows renaming callWith_type1 -> Cm
open And renaming right -> Cw
open PySem.EntryCells renaming newEntry -> Cy
open Option renaming map_some -> CD, getD_none -> DN
open PySem.Manifest.AttrKind renaming slot -> CM
open PySem.Txt renaming slice_le -> Df, slice -> Di
open PySem.SeqAt.RcNeAt renaming lists_lengths -> Dl, lists -> EE
open PySem.EqBoolInt renaming of_rcne -> DB, of_rc -> Eb
open PySem.SeqAt.RcAt renaming lists_lengths -> DG, lists -> ER
open PySem.SeqAt renaming EqAt -> DW
open PySem.Around renaming frames_deeper -> Ep
open PySem.callAny renaming viaDunder -> EG
open PySem.Within renaming cons -> EH
open PySem.IsL renaming isList -> ES
open PySem.IntMulOk renaming of_bits -> ET
open Sum renaming inr -> EW, inl -> EX
set_option compiler.extract_closed false
set_option Elab.async false
set_option linter.all false
set_option bootstrap.genMatcherCode false
set_option maxRecDepth 100000
set_option maxHeartbeats 1000000
open Option renaming some→al,none→bn
open PyProof.Rows renaming assignInOrder_cons→ut,boot_isinstance→wf,envOfC→wT,AllBare→GT
open PySem renaming Addr→ce,Value→ci,Shared→db,wpAny→f8,mainGlobals→ge,model→gl,starEach→gt,Expr→im,Heap→io,eval→jp,rawInt→lf,Program→lm,compareOp→mo,Stmt→nn,bootBuiltins→o0,sizeLine_eq→pc,holding→pi,behindInMarks→pr,attributeBase→re,cellsFrom→r6,binaryOp→r9,World→sw,FuncData→sK,codeAny_mono→tz,Around→u8,NameKind→wn,swapsWithSole→wp,swapsWith→wv,swappedStores→ww,sliceBounds→wP,isInstance→wS,IntMulOk→xz,checkBuiltinCall→BT,assignEach→Ch,PassesOwn→Da,excClassObj→Db,codeAny_call_builtin→EQ,backTo→Fk,standAt→FB,codeAny→FM,sysModules→FS,builtinsNs→Gc,keywordEach→GE,Scope→GM,codeAmong→Ix,call_meets→IR,post_val_or_str→KB,letOwnedTupleGo→KF,getAttrByItsOwn→KM
set_option genSizeOf false
local macro_rules | `(command|def $i:declId $s:optDeclSig $v:declVal)=>`(command|noncomputable def $i:declId $s:optDeclSig $v:declVal)
local macro_rules | `(command|abbrev $i:declId $s:optDeclSig $v:declVal)=>`(command|noncomputable abbrev $i:declId $s:optDeclSig $v:declVal)
theorem rTq9(h:0=0:=by rfl):0=0:=h
local macro_rules | `(‹$p›)=>`(autoParam $p rTq9._auto_1)
local macro_rules | `(‹_›)=>`(by assumption)
theorem dTq9(h:0=0:=by decide):0=0:=h
local macro_rules | `(~~~$p)=>`(autoParam $p dTq9._auto_1)
local macro_rules | `(∅)=>`(by lia)
local macro_rules | `(⋯)=>`(by decide)
open PySem PySem.Spec PyProof.Rows
abbrev O.{u}(α:Type u):=List α
namespace L2
end L2
namespace My
end My
namespace PL
end PL
namespace FL
end FL
open L2 My PL FL
namespace L2
abbrev Key:=Sum Int Str
def lZ:Key->ci->Bool
 |.inl k,v=>Value.isInt k v
 |.inr x,v=>Value.isStrOf x v
def Qr(w:sw):Key->Int
 |.inl k=>hashInt k
 |.inr x=>hashStr w x
def bp:∀{k:Key}{v:ci},lZ k v=true->(∃i t,k=EX i/\v=CI i t)\/(∃x t,k=EW x/\v=DK x t)
 |.inl i,v,h=>by
  obtain⟨t,e⟩:=Value.isInt_shape h;exact .inl ⟨i,t,rfl,e⟩
 |.inr x,v,h=>by
  obtain⟨t,e⟩:=Value.isStrOf_shape (v:=v) h;exact .inr ⟨x,t,rfl,e⟩
def uy(i:Int)(t:Tok):lZ (.inl i) (.int i t)=true:=by simp[lZ,Value.isInt]
def ux(x:Str)(t:Tok):lZ (.inr x) (.str x t)=true:=by simp[lZ,Value.isStrOf]
def Iq(a b:Int):decide ((EX a:Key)=EX b)=(a==b):=by
 by_cases e:a=b
 .subst e;simp
 .rw[decide_eq_false (λq=>e (EX.inj q))];exact(beq_eq_false_iff_ne.mpr e).symm
def Il(a b:Str):decide ((EW a:Key)=EW b)=decide (a=b):=by
 by_cases e:a=b
 .simp
 .rw[decide_eq_false (λq=>e (EW.inj q)),decide_eq_false e]
def Ip(a:Int)(b:Str):decide ((EX a:Key)=EW b)=false:=decide_eq_false (λq=>nomatch q)
def Im(a:Str)(b:Int):decide ((EW a:Key)=EX b)=false:=decide_eq_false (λq=>nomatch q)
def cq(prog:lm)(w:sw):PySem.KeyKind prog w Key where
 is:=lZ
 hash:=Qr w
 inj:=λv a b ha hb=>by
  rcases bp ha with⟨i,t,rfl,rfl⟩|⟨x,t,rfl,rfl⟩
  .rcases bp hb with⟨j,u,rfl,e⟩|⟨y,u,rfl,e⟩
   .injection e with e1 _;rw[e1]
   .exact nomatch e
  .rcases bp hb with⟨j,u,rfl,e⟩|⟨y,u,rfl,e⟩
   .exact nomatch e
   .injection e with e1 _;rw[e1]
 byValue:=λk v h=>by
  rcases bp h with⟨i,t,rfl,rfl⟩|⟨x,t,rfl,rfl⟩<;>rfl
 pyHash:=λhv h=>by
  rcases bp hv with⟨i,t,rfl,rfl⟩|⟨x,t,rfl,rfl⟩
  .exact wpAny_pyHash_int h
  .exact wpAny_pyHash_str h
 eqBool:=λhu hv h=>by
  rcases bp hu with⟨i,t,rfl,rfl⟩|⟨x,t,rfl,rfl⟩
  .rcases bp hv with⟨j,u,rfl,rfl⟩|⟨y,u,rfl,rfl⟩
   .rw[Iq]at h;exact wpAny_eqBool_int h
   .rw[Ip]at h;exact DW.int_str i t y u _ _ _ _ h
  .rcases bp hv with⟨j,u,rfl,rfl⟩|⟨y,u,rfl,rfl⟩
   .rw[Im]at h;exact DW.str_int x t j u _ _ _ _ h
   .rw[Il]at h;exact wpAny_eqBool_str h
 «strs»:=λk x t v h=>by
  rcases bp h with⟨i,u,rfl,e⟩|⟨y,u,rfl,e⟩
  .exact nomatch e
  .injection e with e1 _;subst e1;cases v<;>rfl
def oW(prog:lm)(w:sw)(i:Int)(t:Tok):(cq prog w).is (.inl i) (.int i t)=true:=uy i t
def oV(prog:lm)(w:sw)(x:Str)(t:Tok):(cq prog w).is (.inr x) (.str x t)=true:=ux x t
end L2
variable{us:O AO}{u:AO}{a b e:AN}{P:PySem.Program}{w:PySem.World}{h h':Ds}{α β:Type}
namespace L2
inductive V where
 |a8|bl (b:Bool)|int (i:Int)|str (x:Str)|tF (b:Array UInt8)|IK (b:UInt64)|ref (a:ce)|ty (n:String)
 deriving DecidableEq
def RelV:V->ci->Prop
 |.a8,u=>u=A2
 |.bl b,u=>u=CG b
 |.int i,u=>∃t,u=CI i t
 |.str x,u=>∃t,u=DK x t
 |.tF b,u=>∃t,u=Value.bytes b t
 |.IK b,u=>∃t,u=Value.float b t
 |.ref a,u=>u=Ar a
 |.ty n,u=>u=EZ n
abbrev Vals:O V->O ci->Prop:=Paired RelV
def Vals.length{xs:O V}(r:Vals xs us):xs.length=us.length:=Paired.length r
theorem Vals.get:∀{xs:O V}{us:O ci}{i:Nat}{x:V},Vals xs us->xs[i]?=al x->∃u,us[i]?=al u/\RelV x u
 |_,_,_,_,.nil,e=>by simp at e
 |_,_,0,_,.cons r _,e=>by simp at e;subst e;exact⟨_,rfl,r⟩
 |_,_,i+1,x,.cons _ t,e=>by
  obtain⟨u,h1,h2⟩:=Vals.get t (by simpa using e);exact⟨u,by simpa using h1,h2⟩
theorem Vals.set{x:V}(r:RelV x u):∀{xs:O V}{us:O ci} (i:Nat),Vals xs us->Vals (xs.set i x) (us.set i u)
 |_,_,_,.nil=>.nil
 |_,_,0,.cons _ t=>.cons r t
 |_,_,i+1,.cons q t=>.cons q (Vals.set r i t)
theorem Vals.append:∀{xs ys:O V}{us ws:O ci},Vals xs us->Vals ys ws->Vals (xs++ys) (us++ws)
 |_,_,_,_,.nil,s=>s
 |_,_,_,_,.cons r t,s=>.cons r (Vals.append t s)
theorem Vals.take:∀{xs:O V}{us:O ci} (n:Nat),Vals xs us->Vals (xs.take n) (us.take n)
 |_,_,0,_=>.nil
 |_,_,_+1,.nil=>.nil
 |_,_,n+1,.cons r t=>.cons r (Vals.take n t)
theorem Vals.drop:∀{xs:O V}{us:O ci} (n:Nat),Vals xs us->Vals (xs.drop n) (us.drop n)
 |_,_,0,r=>r
 |_,_,_+1,.nil=>.nil
 |_,_,n+1,.cons _ t=>Vals.drop n t
def lj:Option V->Option ci->Prop
 |some v,al u=>RelV v u
 |none,bn=>True
 |_,_=>False
def KV{κ:Type}:O (κ×V)->O (κ×ci)->Prop:=Paired λ(p:κ×V) (q:κ×ci)=>p.1=q.1/\RelV p.2 q.2
def kV:Key->V
 |.inl i=>.int i
 |.inr x=>.str x
inductive HO where
 |lst (xs:List V)
 |tup (xs:List V)
 |dK (aZ:List (Key×V))|dT (aZ:List (List Key×V))
 |set (S:Int->Bool) (n:Nat)
 |ins (C dx:ce) (fs:List (Str×V))
 |own (x:ce)
 |xd (fs:List (Str×V))
 |met (f x:ce)
 |PF (lo hi:Int)
 |b8 (o:Obj) (u:HO)
 |jd (ps:Array ci)
 |ext (φ:io->Prop)
abbrev Hp:=ce->Option HO
def upd(H:Hp)(a:ce)(o:HO):Hp:=λb=>if b=a then al o else H b
def ao{H:Hp}{o:HO}:upd H a o a=al o:=by unfold upd;rw[if_pos rfl]
def ag{H:Hp}{o:HO}(h:b≠a):upd H a o b=H b:=by unfold upd;rw[if_neg h]
def sD{H:Hp}{o u:HO}(h:H a=al o)(h':H b=al u)(d:o≠u):a≠b:=by
 intro e;subst e;rw[h]at h';exact d (Option.some.inj h')
def a9{H:Hp}{o:HO}(h:H a=al o)(h':H b=bn):a≠b:=by
 intro e;subst e;rw[h]at h';cases h'
section
variable(P:lm)(w:sw)
def bM(H:Hp)(h:io)(a:ce):HO->Prop
 |.lst xs=>xs.length<=sizeLine/\∃(aw:O ci) (n:Nat),Vals xs aw/\h.get? a=al {cls:=.type "list",data:=.seq aw.toArray n}
 |.tup xs=>xs.length<=sizeLine/\∃aw:O ci,Vals xs aw/\IsTup h a aw.toArray/\∃o,h.get? a=al o/\o.dict=bn
 |.dK aZ=>aZ.length<=sizeLine/\(a==FS)=false/\∃vs,KV aZ vs/\h.DictOf (cq P w) a vs
 |.dT aZ=>aZ.length<=sizeLine/\(a==FS)=false/\∃xs:O (O Key×ce×ci),
   Paired (λ(p:O Key×V) (q:O Key×ce×ci)=>p.1=q.1/\H q.2.1=al (.tup (p.1.map kV))/\RelV p.2 q.2.2) aZ xs/\
   ∃o es ep,h.get? a=al o/\o.ExactDict/\o.data=.dict es ep/\es.toList=xs.map (entryOfKey (tupleKind (cq P w)))/\(xs.map (·.1)).Nodup
 |.set S n=>h.SetOf (intKind P w) a S n
 |.ins C dx fs=>H dx=al (.own a)/\fs.length<=1000/\dx≠a/\h.get? a=al (BG C dx)/\
   ∃mA,h.Ns1 dx mA/\(∀f,lj (fs.lookup f) (mA f))/\EJ mA (fs.map (·.1))
 |.own _=>∃o,h.get? a=al o
 |.xd fs=>∃mA,h.Ns1 a mA/\∀f,lj (fs.lookup f) (mA f)
 |.PF lo hi=>∃t u v,h.get? a=al {cls:=.type "range",data:=.fields #[.int lo t,.int hi u,.int 1 v]}
 |.b8 o u=>h.get? a=al o/\bM H h a u
 |.jd ps=>h.get? a=al {cls:=.none,data:=.fields ps}
 |.met f x=>h.get? a=al (Dx (.ref f) (.ref x))
 |.ext φ=>φ h/\(∃o,h.get? a=al o)/\∀h1 h2:io,φ h1->(∀o,h1.get? a=al o->h2.get? a=al o)->φ h2
def fR(H:Hp)(h:io):Prop:=∀a o,H a=al o->bM P w H h a o
end
section
variable{H H':Hp}{o:HO}
def bM.lt(x:bM P w H h a o):a<h.objs.size:=by
 cases o with
 |lst xs=>obtain⟨_,_,_,_,e⟩:=x;exact Ai e
 |tup xs=>obtain⟨_,_,_,p,_⟩:=x;exact p.lt
 |dK aZ=>obtain⟨_,_,_,_,o,_,_,e,_⟩:=x;exact Ai e
 |dT aZ=>obtain⟨_,_,_,_,o,_,_,e,_⟩:=x;exact Ai e
 |set S n=>obtain⟨o,_,_,_,e,_⟩:=x;exact Ai e
 |ins C dx fs=>obtain⟨_,_,_,e,_⟩:=x;exact Ai e
 |own y=>obtain⟨_,e⟩:=x;exact Ai e
 |xd fs=>obtain⟨_,⟨_,_,_,e,_⟩,_⟩:=x;exact Ai e
 |PF lo hi=>obtain⟨_,_,_,e⟩:=x;exact Ai e
 |b8 ob u=>obtain⟨e,_⟩:=x;exact Ai e
 |jd ps=>exact Ai (x)
 |met f y=>exact Ai (show h.get? a=al _ from x)
 |ext φ=>obtain⟨_,⟨_,e⟩,_⟩:=x;exact Ai e
theorem Paired.Ic{F G:α->β->Prop}:∀{l₁:List α}{l₂:List β},Paired F l₁ l₂->(∀a b,F a b->G a b)->Paired G l₁ l₂
 |_,_,.nil,_=>.nil
 |_,_,.cons r t,f=>.cons (f _ _ r) (Paired.Ic t f)
def bM.jP(x:bM P w H h a o)(k:∀b u,(b=a\/H b=al (.own a))->h.get? b=al u->h'.get? b=al u)(ho:∀b,H b=al (.own a)->H' b=al (.own a))(ht:∀b xs,H b=al (.tup xs)->H' b=al (.tup xs)):bM P w H' h' a o:=by
 induction o with
 |lst xs=>obtain⟨z,aw,n,r,e⟩:=x;exact⟨z,aw,n,r,k _ _ (.inl rfl) e⟩
 |tup xs=>obtain⟨z,aw,r,⟨ob,e,c⟩,od,e2,d⟩:=x;exact⟨z,aw,r,⟨ob,k _ _ (.inl rfl) e,c⟩,od,k _ _ (.inl rfl) e2,d⟩
 |dK aZ=>obtain⟨z,y,vs,r,ob,es,ep,e,c⟩:=x;exact⟨z,y,vs,r,ob,es,ep,k _ _ (.inl rfl) e,c⟩
 |dT aZ=>
  obtain⟨z,y,xs,r,ob,es,ep,e,c⟩:=x;exact⟨z,y,xs,Paired.Ic r λp q z=>⟨z.1,ht _ _ z.2.1,z.2.2⟩,ob,es,ep,k _ _ (.inl rfl) e,c⟩
 |set S n=>obtain⟨ob,es,ep,t,e,c⟩:=x;exact⟨ob,es,ep,t,k _ _ (.inl rfl) e,c⟩
 |ins C dx fs=>
  obtain⟨d,z,ne,e,mA,⟨od,es,ep,e2,c⟩,r⟩:=x;exact⟨ho _ d,z,ne,k _ _ (.inl rfl) e,mA,⟨od,es,ep,k _ _ (.inr d) e2,c⟩,r⟩
 |own y=>obtain⟨ob,e⟩:=x;exact⟨ob,k _ _ (.inl rfl) e⟩
 |xd fs=>obtain⟨mA,⟨od,es,ep,e,c⟩,r⟩:=x;exact⟨mA,⟨od,es,ep,k _ _ (.inl rfl) e,c⟩,r⟩
 |PF lo hi=>obtain⟨t,u,v,e⟩:=x;exact⟨t,u,v,k _ _ (.inl rfl) e⟩
 |b8 ob u ih=>obtain⟨e,q⟩:=x;exact⟨k _ _ (.inl rfl) e,ih q⟩
 |jd ps=>
  have e:h.get? a=al {cls:=.none,data:=.fields ps}:=x;show h'.get? a=al {cls:=.none,data:=.fields ps};exact k a _ (.inl rfl) e
 |met f y=>
  have e:h.get? a=al (Dx (.ref f) (.ref y)):=x;show h'.get? a=al (Dx (.ref f) (.ref y));exact k a _ (.inl rfl) e
 |ext φ=>obtain⟨p,⟨o,e⟩,st⟩:=x;exact⟨st _ _ p λo q=>k _ _ (.inl rfl) q,⟨o,k _ _ (.inl rfl) e⟩,st⟩
def fR.lt(x:fR P w H h)(e:H a=al o):a<h.objs.size:=(x a o e).lt
def fR.fresh(x:fR P w H h)(e:h.objs.size<=a):H a=bn:=by
 cases q:H a with
 |none=>rfl
 |some u=>exact absurd (Aq (x.lt q) e) (Bl _)
def fR.kept(x:fR P w H h)(k:∀b u,h.get? b=al u->h'.get? b=al u):fR P w H h':=λa o e=>
 (x a o e).jP (λb u _ q=>k b u q) (λ_ q=>q) λ_ _ q=>q
def fR.laid(x:fR P w H h)(k:∀b u,h.get? b=al u->h'.get? b=al u)(hp:h.objs.size<=a)(new:bM P w (upd H a o) h' a o):fR P w (upd H a o) h':=λb u e=>by
 have hn:=x.fresh hp;by_cases hb:b=a
 .subst hb;rw[ao]at e;cases e;exact new
 .rw[ag hb]at e;exact(x b u e).jP (λc v _ q=>k c v q) (λc q=>by rw[ag (a9 q hn)];exact q) λc xs q=>by rw[ag (a9 q hn)];exact q
end
def Rd(H:Hp)(a:ce)(u:HO):Prop:=H a=al u\/∃o,H a=al (.b8 o u)
def Rd.ok{H:Hp}{u:HO}(r:Rd H a u)(x:fR P w H h):bM P w H h a u:=by
 rcases r with r|⟨o,r⟩
 .exact x a u r
 .obtain⟨_,q⟩:=x a _ r;exact q
def OD:Option HO->Prop
 |some (.lst _)=>True
 |some (.dK _)=>True
 |some (.dT _)=>True
 |some (.set _ _)=>True
 |some (.ins _ _ _)=>True
 |some (.ext _)=>True
 |_=>False
section
variable{H:Hp}{x:ce}{o':HO}
def fR.write(ok:fR P w H h)(mu:OD (H x))(he:e=x\/H e=al (.own x))(k:∀b u,b≠e->h.get? b=al u->h'.get? b=al u)(JM:∃u,h'.get? e=al u)(new:bM P w (upd H x o') h' x o'):fR P w (upd H x o') h':=λb u q=>by
 have zP:∀c y,H c=al (.own y)->c≠x:=λc y r z=>by subst z;rw[r]at mu;exact mu
 have P7:∀c xs,H c=al (.tup xs)->c≠x:=λc xs r z=>by subst z;rw[r]at mu;exact mu
 by_cases hb:b=x
 .subst hb;rw[ao]at q;cases q;exact new
 .rw[ag hb]at q;by_cases IG:b=e
  .have q':H b=al (.own x):=by
    rcases he with z|z
    .exact absurd (IG.trans z) hb
    .rw[IG];exact z
   rw[q]at q';cases q';obtain⟨v,hv⟩:=JM;exact⟨v,by rw[IG];exact hv⟩
  .refine(ok b u q).jP (λc v hc r=>k c v ?_ r) (λc r=>by rw[ag (zP c b r)];exact r) λc xs r=>by rw[ag (P7 c xs r)];exact r
   rcases hc with rfl|hc
   .exact IG
   .rintro rfl;rcases he with z|z
    .exact zP c b hc z
    .rw[hc]at z;cases z;exact hb rfl
end
structure Un(fs ex:List ce)(H H':Hp)(h h':io):Prop where
 keep:∀b o,h.get? b=al o->H b=bn->b∉fs->b∉ex->h'.get? b=al o
 slot:∀b o,h.get? b=al o->H b=bn->b∈fs->b∉ex->∃sl,h'.get? b=al {o with slots:=sl}
 free:∀b o,h.get? b=al o->H b=bn->b∉ex->H' b=bn
 there:∀b o,h.get? b=al o->b∉ex->∃o',h'.get? b=al o'
 bW:∀b xs,H b=al (.tup xs)->H' b=al (.tup xs)
 jn:∀b o u,H b=al (.b8 o u)->H' b=al (.b8 o u)
 jc:∀b ps,H b=al (.jd ps)->∃more,H' b=al (.jd (ps++more))
section
variable{fs ex:O ce}{H H1:Hp}{h1:io}{x:ce}{o:HO}
def Un.any(u:Un fs ex H H1 h h1){ob:Obj}(q:h.get? b=al ob)(n:H b=bn)(hx:b∉ex):∃sl,h1.get? b=al {ob with slots:=sl}:=by
 by_cases hb:b∈fs
 .exact u.slot b ob q n hb hx
 .exact⟨ob.slots,u.keep b ob q n hb hx⟩
def Un.kept(k:∀b u,h.get? b=al u->h'.get? b=al u):Un fs ex H H h h':=
 ⟨λb ob q _ _ _=>k b ob q,λb ob q _ _ _=>⟨ob.slots,k b ob q⟩,λ_ _ _ n _=>n,λb ob q _=>⟨ob,k b ob q⟩,λ_ _ q=>q,λ_ _ _ q=>q,λ_ ps q=>⟨#[],by rw[q];simp⟩⟩
def Un.refl:Un fs ex H H h h:=Un.kept λ_ _ q=>q
def Un.laid(k:∀b u,h.get? b=al u->h'.get? b=al u)(hp:h.objs.size<=a)(hn:H a=bn):Un fs ex H (upd H a o) h h' where
 keep:=λb u q _ _ _=>k b u q
 slot:=λb u q _ _ _=>⟨u.slots,k b u q⟩
 free:=λb u q n _=>by rw[ag (AI (Aq (Ai q) hp))];exact n
 there:=λb u q _=>⟨u,k b u q⟩
 bW:=λb xs q=>by rw[ag (a9 q hn)];exact q
 jn:=λb u xs q=>by rw[ag (a9 q hn)];exact q
 jc:=λb ps q=>⟨#[],by rw[ag (a9 q hn),q];simp⟩
def Un.write(mu:OD (H x))(he:e=x\/H e=al (.own x))(k:∀b u,b≠e->h.get? b=al u->h'.get? b=al u)(JM:∃u,h'.get? e=al u):Un fs ex H (upd H x o) h h':=by
 have hx:∀b,H b=bn->b≠x:=λb n z=>by subst z;rw[n]at mu;exact mu
 have hb:∀b,H b=bn->b≠e:=λb n z=>by
  subst z;rcases he with r|r
  .exact hx b n r
  .rw[n]at r;cases r
 have hm:∀b u,H b=al u->¬OD (al u)->b≠x:=λb u q nm z=>by subst z;rw[q]at mu;exact nm mu
 refine⟨λb u q n _ _=>k b u (hb b n) q,λb u q n _ _=>⟨u.slots,k b u (hb b n) q⟩,λb u q n _=>by rw[ag (hx b n)];exact n,λb u q _=>?_,
  λb xs q=>by rw[ag (hm b _ q λz=>z)];exact q,λb u xs q=>by rw[ag (hm b _ q λz=>z)];exact q,λb ps q=>⟨#[],by rw[ag (hm b _ q λz=>z),q];simp⟩⟩
 by_cases IG:b=e
 .subst IG;exact JM
 .exact⟨u,k b u IG q⟩
end
def O9(h:io)(H:Hp):O ce:=(Cc h.objs.size).filter λa=>(H a).isSome
def ni(h:io)(H:Hp):io:=PySem.W.hideAll h (O9 h H)
def uC(h:io)(H:Hp):(ni h H).objs.size=h.objs.size:=El _ _
def xj{H:Hp}{o:Obj}(e:h.get? b=al o)(n:H b=bn):(ni h H).get? b=al o:=
 Ew _ e λhm=>by
  have q:=(C6.mp hm).2;rw[n]at q;simp at q
def zJ{H:Hp}{o:Obj}(e:(ni h H).get? b=al o):h.get? b=al o/\H b=bn:=by
 have e':=EA (O9 h H) e;refine⟨e',?_⟩;cases q:H b with
 |none=>rfl
 |some x=>
  have z:(ni h H).get? b=bn:=Em (O9 h H) (C6.mpr ⟨Eu.mpr (Ai e'),by simp[q]⟩);rw[z]at e;cases e
def FK(g h:io)(L:ce):O (ce×Obj):=(Cc h.objs.size).filterMap λa=>if a=L\/(g.get? a).isSome=true then bn else (h.get? a).map λo=>(a,o)
def rest(g h:io)(L d:ce):O (ce×Obj):=(FK g h L).filter λp=>decide (p.1≠d)
end L2
variable{H H':L2.Hp}{o:EU}{Z:O (AN×EU)}{g':Array PySem.GenState}{ch:O AN}{it:AN}{i j:Nat}{M:PySem.Model}{A:PySem.Around}{E:AO->BW->Prop}{v:L2.V}{Q:Unit->BW->Prop}{s':BW}
namespace L2
structure Mod(K:Aa)(mg:Str->Option ci)(base:io):Prop where
 wW:K.In base
 glob:base.Ns ge mg
 blt:∃mb,base.Ns Gc mb/\∀x:Str,x≠"__name__"->mb x=o0 x
 nolimit:base.NoLimit
 bm:∃bm ob,mg "__builtins__"=al (.ref bm)/\bm≠Gc/\base.get? bm=al ob/\ob.cls=.type "module"/\ob.dict=al Gc/\ob.data=.plain
structure Cx where
 prog:lm
 w:sw
 K:Aa
 mg:Str->Option ci
 base:io
 A:u8
 N:List Str
 s₀:db
 H₀:Hp
 env:Env
 outer:List Env
 stack:List Env
 ex:List ce
 fn:Str->Bool
 calm:Bool
 pn:List (ce×Obj)
 xe:ci->db->Prop
abbrev dg(x:Str):Prop:=(x==("__debug__":Str))=false
abbrev rA(x:Str):Prop:=(x==("__classdict__":Str))=false
abbrev dZ(X:Cx)(e:im)(es:O im):Prop:=gt (e::es) X.env=(false,jp e X.env)::gt es X.env
abbrev fb(X:Cx)(p:Pos)(es:O im):Prop:=(Fk p (gt es X.env)).any (·.1)=false
abbrev uV(X:Cx)(e:im):Prop:=∀x,foldedSetIterable e X.env x=pure x
abbrev OJ(X:Cx)(p:Pos)(l:O im):Prop:=((Fk p (gt l X.env)).all (λx=>!x.1)&&(backToKw p (GE [] X.env)).all (λx=>x.1.isSome)&&decide (l.length+([]:O Keyword).length+(if ([]:O Keyword).isEmpty then 0 else 1)<30))=true
abbrev J2(p q:Pos):Prop:=(p.endLine==q.line)=true
abbrev FT(X:Cx)(y:Str):Prop:=X.fn y=true\/X.env.scope.names.lookup y=al .local
def jo(l:O Env):O ce:=l.filterMap (·.frame)
abbrev Cx.fs(X:Cx):O ce:=jo X.outer
def rp(sc:GM)(x:Str):Prop:=sc.names.lookup x=al .local\/sc.names.lookup x=al .cell\/sc.names.lookup x=al .free
def Loc(sc:GM)(x:Str):Prop:=sc.names.lookup x=al .local\/sc.names.lookup x=al .cell
def Look(env:Env)(h:io)(m:Str->Option ci)(x:Str)(u:ci):Prop:=
 (env.kindOf x=al .local/\m x=al u)\/((env.kindOf x=al .cell\/env.kindOf x=al .free)/\∃c,env.cells.lookup x=al c/\h.IsCell c (al u))
structure Cx.Ok(X:Cx):Prop where
 mod:Mod X.K X.mg X.base
 kind:X.env.scope.kind=.function
 glob:X.env.globals=ge
 blt:X.env.builtins=Gc
 above:X.s₀.heap.objs.size<=X.env.locals
 inj:∀x y c,X.env.cells.lookup x=al c->X.env.cells.lookup y=al c->x=y
 has:∀x,(X.env.kindOf x=al .cell\/X.env.kindOf x=al .free)->∃c,X.env.cells.lookup x=al c
 Jj:∀x c,X.fn x=true->X.env.cells.lookup x=al c->X.s₀.heap.objs.size<=c
 hd:X.calm=true->X.A.handled=bn
 frames:X.A.frames=al X.stack
 jO:X.stack=X.outer\/(X.stack=X.env::X.outer/\X.env.frame=al X.env.locals)
 Ru:∀b∈X.ex,b≠X.env.locals/\∀x c,X.env.cells.lookup x=al c->c≠b
 bs:∀b o,X.base.get? b=al o->X.s₀.heap.get? b=al o/\X.H₀ b=bn
 ye:X.base.objs.size<=X.s₀.heap.objs.size
 um:∀b o,X.base.get? b=al o->b∉X.ex
 uH:∀b∈X.ex,b∉X.fs
 fD:X.s₀.heap.FunFrames X.base X.outer
 yM:∀b∈X.fs,X.H₀ b=bn
structure Inv(X:Cx)(Z:List (ce×Obj))(σ:List (Option V))(H:Hp)(s:db):Prop where
 ok:X.Ok
 os:s.os=X.s₀.os
 bare:GT s.gens
 base:Un X.fs X.ex X.H₀ H X.s₀.heap s.heap
 loc:∃m,s.heap.Ns X.env.locals m/\∀(i:Nat) (x:Str) (v:V),X.N[i]?=al x->σ[i]?=al (al v)->rp X.env.scope x->∃u,RelV v u/\Look X.env s.heap m x u
 cell:∀x c,X.env.cells.lookup x=al c->∃v,s.heap.IsCell c v
 free:H X.env.locals=bn
 dA:∀x c,X.env.cells.lookup x=al c->H c=bn
 pin:∀p∈X.pn++Z,s.heap.get? p.1=al p.2/\H p.1=bn/\p.1≠X.env.locals/\p.1∉X.fs/\∀v,p.2.data≠.cell v
 aW:fR X.prog X.w H s.heap
 len:σ.length=X.N.length
section
variable{X:Cx}{σ:O (Option V)}{s:db}
def Cx.Ok.Qa(ok:X.Ok)(e:X.base.get? b=al o):b∉X.fs:=λhb=>by
 have:=(ok.fD.mem hb).1;rw[e]at this;cases this
def Inv.bs(I:Inv X Z σ H s):∀b o,X.base.get? b=al o->s.heap.get? b=al o/\H b=bn:=λb o e=>
 ⟨I.base.keep b o (I.ok.bs b o e).1 (I.ok.bs b o e).2 (I.ok.Qa e) (I.ok.um b o e),I.base.free b o (I.ok.bs b o e).1 (I.ok.bs b o e).2 (I.ok.um b o e)⟩
def Inv.bk(I:Inv X Z σ H s):∀b o,X.base.get? b=al o->s.heap.get? b=al o:=λb o e=>(I.bs b o e).1
def Inv.mod(I:Inv X Z σ H s):Mod X.K X.mg X.base:=I.ok.mod
def Inv.cR(I:Inv X Z σ H s):X.K.In s.heap:=I.ok.mod.wW.keeps I.bk
def Inv.lt(I:Inv X Z σ H s):X.env.locals<s.heap.objs.size:=let ⟨_,hn,_⟩:=I.loc;hn.lt
def Inv.sz(I:Inv X Z σ H s):X.s₀.heap.objs.size<=s.heap.objs.size:=Av I.ok.above (D4 I.lt)
def Inv.P9(I:Inv X Z σ H s)(h:s.heap.objs.size<=a):a∉X.fs:=λhb=>by
 obtain⟨_,o,ho,_⟩:=I.ok.fD.mem hb;exact absurd (Aq (Ai ho) (Av I.sz h)) (Bl _)
def Inv.u9(I:Inv X Z σ H s):∀x c,X.env.cells.lookup x=al c->c≠X.env.locals:=λx c e z=>by
 obtain⟨v,o,ho,hd⟩:=I.cell x c e;obtain⟨m,⟨o',es,ep,E5,Q1,_⟩,_⟩:=I.loc;rw[z,E5]at ho;cases ho;rw[Q1]at hd;cases hd
def Inv.fD(I:Inv X Z σ H s):s.heap.FunFrames X.base X.outer:=by
 have all:∀l,(∀b∈jo l,b∈X.fs)->X.s₀.heap.FunFrames X.base l->s.heap.FunFrames X.base l:=by
  intro l
  induction l with
  |nil=>intro _ _;trivial
  |cons env r ih=>
   intro hs hl;obtain⟨hk,⟨L,o,hf,hn,ho,hd⟩,hr⟩:=hl;have hL:=hs L (by unfold jo;rw[BI,hf];exact A9);obtain⟨sl,e⟩:=I.base.slot L o ho (I.ok.yM L hL) hL λz=>I.ok.uH L z hL;exact⟨hk,⟨L,_,hf,hn,e,hd⟩,ih (λb hb=>hs b (by unfold jo;rw[BI,hf];exact AH _ hb)) hr⟩
 exact all X.outer (λ_ hb=>hb) I.ok.fD
def Inv.stack(I:Inv X Z σ H s):s.heap.FunFrames X.base X.stack:=by
 rcases I.ok.jO with e|⟨e,hf⟩
 .rw[e];exact I.fD
 .rw[e];obtain⟨m,hn,_⟩:=I.loc;refine .cons (by rw[I.ok.kind];decide) hf hn ?_ I.fD;exact Heap.get?_none_of_le (Av I.ok.ye I.ok.above)
def Inv.jN(I:Inv X Z σ H s):∀b∈jo X.stack,b∈X.env.locals::X.fs:=λb hb=>by
 rcases I.ok.jO with e|⟨e,hf⟩
 .rw[e]at hb;exact AH _ hb
 .rw[e]at hb;unfold jo at hb;rw[BI,hf]at hb;exact hb
def Inv.gK(I:Inv X Z σ H s):∀b∈jo X.stack,H b=bn:=λb hb=>by
 rcases Au.mp (I.jN b hb) with e|hb
 .rw[e];exact I.free
 .obtain⟨_,o,ho,_⟩:=I.ok.fD.mem hb;exact I.base.free b o ho (I.ok.yM b hb) λz=>I.ok.uH b z hb
def Inv.step{t':Nat}{d':Drawn}(I:Inv X Z σ H s)(yK:∀b∈ch,(b∈X.ex\/X.s₀.heap.objs.size<=b)/\b≠X.env.locals/\(∀x c,X.env.cells.lookup x=al c->c≠b)/\∀p∈X.pn++Z,p.1≠b)(keep:∀b o,b≠X.env.locals->b∉X.fs->b∉ch->s.heap.get? b=al o->H b=bn->h'.get? b=al o)(slot:∀b o,b≠X.env.locals->b∈X.fs->b∉ch->s.heap.get? b=al o->H b=bn->∃sl,h'.get? b=al {o with slots:=sl})(free:∀b o,b∉ch->s.heap.get? b=al o->H b=bn->H' b=bn)(there:∀b o,b∉ch->s.heap.get? b=al o->∃o',h'.get? b=al o')(bW:∀b xs,H b=al (.tup xs)->H' b=al (.tup xs))(jn:∀b o u,H b=al (.b8 o u)->H' b=al (.b8 o u))(jc:∀b ps,H b=al (.jd ps)->∃more,H' b=al (.jd (ps++more)))(ns:∀m,s.heap.Ns X.env.locals m->h'.Ns X.env.locals m)(aW:fR X.prog X.w H' h')(hg:GT g'):Inv X Z σ H' {s with heap:=h',gens:=g',drawn:=d',toks:=t'}:=by
 have Sz:∀b o,X.s₀.heap.get? b=al o->b≠X.env.locals:=λb o e=>AI (Aq (Ai e) I.ok.above);have NG:∀b o,X.s₀.heap.get? b=al o->b∉X.ex->b∉ch:=λb o e hx hb=>by
  rcases (yK b hb).1 with z|z
  .exact hx z
  .exact absurd (Aq (Ai e) z) (Bl _)
 have Ô:∀x c,X.env.cells.lookup x=al c->∀v,s.heap.IsCell c v->h'.IsCell c v:=λx c e v ⟨o,ho,hd⟩=>by
  have Lu:c∉ch:=λz=>(yK c z).2.2.1 x c e rfl;by_cases hc:c∈X.fs
  .obtain⟨sl,q⟩:=slot c o (I.u9 x c e) hc Lu ho (I.dA x c e);exact⟨_,q,hd⟩
  .exact⟨o,keep c o (I.u9 x c e) hc Lu ho (I.dA x c e),hd⟩
 refine⟨I.ok,I.os,hg,⟨λb o e n hb hx=>?_,λb o e n hb hx=>?_,λb o e n hx=>?_,λb o e hx=>?_,λb xs e=>bW b xs (I.base.bW b xs e),λb o xs e=>jn b o xs (I.base.jn b o xs e),λb ps e=>?_⟩,?_,λx c e=>?_,?_,λx c e=>?_,λp hp=>?_,aW,I.len⟩
 .exact keep b o (Sz b o e) hb (NG b o e hx) (I.base.keep b o e n hb hx) (I.base.free b o e n hx)
 .obtain⟨sl,e1⟩:=I.base.slot b o e n hb hx;obtain⟨za,e2⟩:=slot b _ (Sz b o e) hb (NG b o e hx) e1 (I.base.free b o e n hx);exact⟨za,e2⟩
 .obtain⟨o',e1⟩:=I.base.there b o e hx;exact free b o' (NG b o e hx) e1 (I.base.free b o e n hx)
 .obtain⟨o',e1⟩:=I.base.there b o e hx;exact there b o' (NG b o e hx) e1
 .obtain⟨m1,e1⟩:=I.base.jc b ps e;obtain⟨m2,e2⟩:=jc b _ e1;exact⟨m1++m2,by rw[e2,Array.append_assoc]⟩
 .obtain⟨m,hn,hl⟩:=I.loc;refine⟨m,ns m hn,λi x v e1 e2 e3=>?_⟩;obtain⟨u,r,l⟩:=hl i x v e1 e2 e3;refine⟨u,r,?_⟩;rcases l with l|⟨k,c,e,z⟩
  .exact .inl l
  .exact .inr ⟨k,c,e,Ô x c e _ z⟩
 .obtain⟨v,z⟩:=I.cell x c e;exact⟨v,Ô x c e v z⟩
 .obtain⟨m,⟨o,_,_,ho,_⟩,_⟩:=I.loc;exact free _ o (λz=>(yK _ z).2.1 rfl) ho I.free
 .obtain⟨v,o,ho,hd⟩:=I.cell x c e;exact free c o (λz=>(yK c z).2.2.1 x c e rfl) ho (I.dA x c e)
 .obtain⟨e,n,ne,nf,d⟩:=I.pin p hp;have Lu:p.1∉ch:=λz=>(yK p.1 z).2.2.2 p hp rfl;exact⟨keep p.1 p.2 ne nf Lu e n,free p.1 p.2 Lu e n,ne,nf,d⟩
def Inv.un{t':Nat}(I:Inv X Z σ H s)(u:Un X.fs [] H H' s.heap h')(aW:fR X.prog X.w H' h'):Inv X Z σ H' {s with heap:=h',toks:=t'}:=by
 obtain⟨m,⟨o,es,ep,ho,r⟩,_⟩:=id I.loc;obtain⟨sl,hL⟩:=u.any ho I.free (by simp);exact I.step (g':=s.gens) (d':=s.drawn) (ch:=[]) (λ_ z=>nomatch z) (λb o _ hb _ e n=>u.keep b o e n hb (by simp)) (λb o _ hb _ e n=>u.slot b o e n hb (by simp)) (λb o _ e n=>u.free b o e n (by simp)) (λb o _ e=>u.there b o e (by simp)) u.bW u.jn u.jc (λm' hm=>by
  obtain⟨o',RA,RB,E5,r'⟩:=hm;rw[ho]at E5;cases E5;exact⟨_,RA,RB,hL,r'⟩) aW I.bare
def Inv.call{t':Nat}{d':Drawn}(I:Inv X Z σ H s)(u:Un (jo X.stack) ch H H' s.heap h')(aW:fR X.prog X.w H' h')(hg:GT g')(yK:∀b∈ch,(b∈X.ex\/X.s₀.heap.objs.size<=b)/\b≠X.env.locals/\(∀x c,X.env.cells.lookup x=al c->c≠b)/\∀p∈X.pn++Z,p.1≠b):Inv X Z σ H' {s with heap:=h',gens:=g',drawn:=d',toks:=t'}:=by
 obtain⟨m,⟨o,es,ep,ho,r⟩,_⟩:=id I.loc;obtain⟨sl,hL⟩:=u.any ho I.free λz=>(yK _ z).2.1 rfl;exact I.step (ch:=ch) yK (λb o hL hb hc e n=>u.keep b o e n (λz=>(Au.mp (I.jN b z)).elim hL hb) hc) (λb o _ _ hc e n=>u.any e n hc) (λb o hc e n=>u.free b o e n hc) (λb o hc e=>u.there b o e hc) u.bW u.jn u.jc (λm' hm=>by
  obtain⟨o',RA,RB,E5,r'⟩:=hm;rw[ho]at E5;cases E5;exact⟨_,RA,RB,hL,r'⟩) aW hg
def Inv.turned{t':Nat}(I:Inv X Z σ H s)(k:∀b o,b≠it->s.heap.get? b=al o->h'.get? b=al o)(hn:H it=bn)(hL:it≠X.env.locals)(h1:it∈X.ex\/X.s₀.heap.objs.size<=it)(h2:∀x c,X.env.cells.lookup x=al c->c≠it)(h3:∀p∈X.pn++Z,p.1≠it):Inv X Z σ H {s with heap:=h',toks:=t'}:=by
 have Gs:∀b u,H b=al u->b≠it:=λb u e z=>by rw[z,hn]at e;cases e
 refine I.step (g':=s.gens) (d':=s.drawn) (ch:=[it]) (λb hb=>?_) (λb o _ _ hc e _=>k b o (λz=>hc (by simp[z])) e) (λb o _ _ hc e _=>⟨o.slots,k b o (λz=>hc (by simp[z])) e⟩) (λ_ _ _ _ n=>n)
  (λb o hc e=>⟨o,k b o (λz=>hc (by simp[z])) e⟩) (λ_ _ e=>e) (λ_ _ _ e=>e) (λb ps e=>⟨#[],by rw[e];simp⟩) (λm hm=>?_) (λb u e=>?_) I.bare
 .have e:b=it:=by simpa using hb
  subst e;exact⟨h1,hL,h2,h3⟩
 .obtain⟨o,es,ep,ho,r⟩:=hm;exact⟨o,es,ep,k _ o (BO hL) ho,r⟩
 .refine(I.aW b u e).jP (λc v hc q=>k c v ?_ q) (λ_ q=>q) λ_ _ q=>q;rcases hc with z|z
  .rw[z];exact Gs b u e
  .exact Gs c _ z
def Inv.tok(I:Inv X Z σ H s)(t:Nat):Inv X Z σ H {s with toks:=t}:=I.un Un.refl I.aW
def Inv.kept{t':Nat}(I:Inv X Z σ H s)(k:∀b u,s.heap.get? b=al u->h'.get? b=al u):Inv X Z σ H {s with heap:=h',toks:=t'}:=I.un (Un.kept k) (I.aW.kept k)
def Inv.laid{o:HO}{t':Nat}(I:Inv X Z σ H s)(k:∀b u,s.heap.get? b=al u->h'.get? b=al u)(hp:s.heap.objs.size<=a)(new:bM X.prog X.w (upd H a o) h' a o):Inv X Z σ (upd H a o) {s with heap:=h',toks:=t'}:=I.un (Un.laid k hp (I.aW.fresh hp)) (I.aW.laid k hp new)
def Inv.write{x:ce}{o:HO}{t':Nat}(I:Inv X Z σ H s)(mu:OD (H x))(he:e=x\/H e=al (.own x))(k:∀b u,b≠e->s.heap.get? b=al u->h'.get? b=al u)(JM:∃u,h'.get? e=al u)(new:bM X.prog X.w (upd H x o) h' x o):Inv X Z σ (upd H x o) {s with heap:=h',toks:=t'}:=I.un (Un.write mu he k JM) (I.aW.write mu he k JM new)
def Inv.rZ{oJ:O (ce×Obj)}(I:Inv X Z σ H s)(h:∀p∈oJ,s.heap.get? p.1=al p.2/\H p.1=bn/\p.1≠X.env.locals/\p.1∉X.fs/\∀v,p.2.data≠.cell v):Inv X oJ σ H s:=
 ⟨I.ok,I.os,I.bare,I.base,I.loc,I.cell,I.free,I.dA,λp hp=>(Cf.mp hp).elim (λz=>I.pin p (BX _ z)) (h p),I.aW,I.len⟩
def jW{N:O Str}(hN:N.Nodup){x:Str}(a:N[i]?=al x)(b:N[j]?=al x):i=j:=by
 obtain⟨h1,e1⟩:=Ag.mp a;obtain⟨h2,e2⟩:=Ag.mp b;exact(List.getElem_inj hN).mp (e1.trans e2.symm)
def tT{x:Str}(I:Inv X Z σ H s)(hN:X.N.Nodup)(hi:X.N[i]?=al x)(hx:Loc X.env.scope x)(r:RelV v u)(h:∀s',Inv X Z (σ.set i (al v)) H s'->(∃a,CN a s.heap s'.heap/\(a=X.env.locals\/X.env.cells.lookup x=al a))->Q () s')(hf:FT X x:=by first|exact .inl rfl|exact .inr rfl|assumption):f8 M A (storeName X.env x u) Q E s:=by
 obtain⟨m,hn,hl⟩:=id I.loc;have xm:(X.env.scope.kind==.class||(X.env.scope.kind==.module&&X.env.locals != X.env.globals))=false:=by rw[I.ok.kind];rfl
 have LW:i < σ.length:=by rw[I.len];exact(Ag.mp hi).1
 have u9:=I.u9;have É:∀{a:ce}{h':io},(∃o,s.heap.get? a=al o/\H a=bn)->CN a s.heap h'->fR X.prog X.w H h':=λ{a h'} ha hs b ob e=>by
  obtain⟨_,_,GG⟩:=ha;refine(I.aW b ob e).jP (λc w' hc q=>(hs.2 c ?_).trans q) (λ_ q=>q) λ_ _ q=>q;rintro rfl;rcases hc with rfl|hc
  .rw[GG]at e;cases e
  .rw[GG]at hc;cases hc
 rcases hx with hk|hk
 .refine wpAny_storeName_local hk hn (λh' LR hs=>?_) xm;obtain⟨oL,_,_,S2,_⟩:=id hn;refine h _ ⟨I.ok,I.os,I.bare,⟨λb o e n hb hx=>?_,λb o e n hb hx=>?_,I.base.free,λb o e hx=>?_,I.base.bW,I.base.jn,I.base.jc⟩,⟨_,LR,λj y v' e1 e2 e3=>?_⟩,λy c e=>?_,I.free,I.dA,λp hp=>?_,É ⟨oL,S2,I.free⟩ hs,by simpa using I.len⟩ ⟨_,hs,.inl rfl⟩
  .exact(hs.2 b (AI (Aq (Ai e) I.ok.above))).trans (I.base.keep b o e n hb hx)
  .obtain⟨sl,e1⟩:=I.base.slot b o e n hb hx;exact⟨sl,(hs.2 b (AI (Aq (Ai e) I.ok.above))).trans e1⟩
  .obtain⟨o',e1⟩:=I.base.there b o e hx;exact⟨o',(hs.2 b (AI (Aq (Ai e) I.ok.above))).trans e1⟩
  .by_cases hj:j=i
   .subst hj;rw[hi]at e1;cases e1;rw[CY LW]at e2;cases e2;exact⟨u,r,.inl ⟨hk,by simp⟩⟩
   .rw[BZ (BO hj)]at e2;obtain⟨u',r',q⟩:=hl j y v' e1 e2 e3;refine⟨u',r',?_⟩;rcases q with⟨k,e⟩|⟨k,c,e,z⟩
    .refine .inl ⟨k,?_⟩;have:y≠x:=λe=>hj (jW hN e1 (e▸hi));simp[this,e]
    .exact .inr ⟨k,c,e,z.sameBut hs (u9 y c e)⟩
  .obtain⟨w',z⟩:=I.cell y c e;exact⟨w',z.sameBut hs (u9 y c e)⟩
  .obtain⟨e,n,ne,nf,d⟩:=I.pin p hp;exact⟨(hs.2 p.1 ne).trans e,n,ne,nf,d⟩
 .have LX:X.fn x=true:=by
   rcases hf with z|z
   .exact z
   .rw[z]at hk;cases hk
  obtain⟨c,hc⟩:=I.ok.has x (.inl hk);obtain⟨w',z⟩:=I.cell x c hc;refine wpAny_storeName_cell I.ok.kind hk hc z (λh' yL hs=>?_);obtain⟨oc,S1,QH⟩:=id z;refine h {s with heap:=h'} ⟨I.ok,I.os,I.bare,⟨λb o e n hb hx=>?_,λb o e n hb hx=>?_,I.base.free,λb o e hx=>?_,I.base.bW,I.base.jn,I.base.jc⟩,⟨m,hn.sameBut hs (BO (u9 x c hc)),λj y v' e1 e2 e3=>?_⟩,λy c' e=>?_,I.free,I.dA,λp hp=>?_,É ⟨oc,S1,I.dA x c hc⟩ hs,by simpa using I.len⟩ ⟨c,hs,.inr hc⟩
  .exact(hs.2 b (AI (Aq (Ai e) (I.ok.Jj x c LX hc)))).trans (I.base.keep b o e n hb hx)
  .obtain⟨sl,e1⟩:=I.base.slot b o e n hb hx;exact⟨sl,(hs.2 b (AI (Aq (Ai e) (I.ok.Jj x c LX hc)))).trans e1⟩
  .obtain⟨o',e1⟩:=I.base.there b o e hx;exact⟨o',(hs.2 b (AI (Aq (Ai e) (I.ok.Jj x c LX hc)))).trans e1⟩
  .by_cases hj:j=i
   .subst hj;rw[hi]at e1;cases e1;rw[CY LW]at e2;cases e2;exact⟨u,r,.inr ⟨.inl hk,c,hc,yL⟩⟩
   .rw[BZ (BO hj)]at e2;obtain⟨u',r',q⟩:=hl j y v' e1 e2 e3;refine⟨u',r',?_⟩;rcases q with q|⟨k,c',e,z'⟩
    .exact .inl q
    .refine .inr ⟨k,c',e,z'.sameBut hs ?_⟩;rintro rfl;exact hj (jW hN e1 (I.ok.inj _ _ _ e hc▸hi))
  .by_cases E8:c'=c
   .subst E8;exact⟨_,yL⟩
   .obtain⟨w2,z2⟩:=I.cell y c' e;exact⟨w2,z2.sameBut hs E8⟩
  .obtain⟨e,n,ne,nf,d⟩:=I.pin p hp;refine⟨(hs.2 p.1 ?_).trans e,n,ne,nf,d⟩;intro q;rw[q,S1]at e;have q':oc=p.2:=Option.some.inj e;exact d w' (by rw[<- q'];exact QH)
def cE{x:Str}(I:Inv X Z σ H s)(hN:X.N.Nodup)(hi:X.N[i]?=al x)(hx:Loc X.env.scope x)(r:RelV v u)(h:∀s',Inv X Z (σ.set i (al v)) H s'->Q () s')(hf:FT X x:=by first|exact .inl rfl|exact .inr rfl|assumption):f8 M A (storeName X.env x u) Q E s:=
 tT I hN hi hx r (λs' I' _=>h s' I') hf
def Inv.M6(I:Inv X Z σ H s)(ho:s'.os=s.os)(u:Un (jo X.stack) ch H H' s.heap s'.heap)(aW:fR X.prog X.w H' s'.heap)(hg:GT s'.gens)(yK:∀b∈ch,(b∈X.ex\/X.s₀.heap.objs.size<=b)/\b≠X.env.locals/\(∀x c,X.env.cells.lookup x=al c->c≠b)/\∀p∈X.pn++Z,p.1≠b):Inv X Z σ H' s':=by
 obtain⟨h',g',d',t',o'⟩:=s';have e:o'=s.os:=ho;subst e;exact I.call (g':=g') (t':=t') (d':=d') u aW hg yK
end
abbrev XK:=ci->Option ce->Hp->Prop
abbrev St:=O (Option V)
abbrev VK:=V->Hp->Prop
abbrev TE:=St->Hp->VK->Prop
abbrev TT:=St->Hp->(Bool->Hp->Prop)->Prop
abbrev TA:=St->Hp->(O V->Hp->Prop)->Prop
structure Ends where
 nx:St->Hp->Prop
 rt:VK
 bk:St->Hp->Prop:=λ_ _=>False
 ct:St->Hp->Prop:=λ_ _=>False
abbrev TS:=Ends->St->Hp->Prop
def EP(X:Cx)(Z:O (ce×Obj))(σ:St)(Q:VK)(u:ci)(s':db):Prop:=∃v H',Inv X Z σ H' s'/\RelV v u/\Q v H'
def TP(X:Cx)(Z:O (ce×Obj))(σ:St)(Q:Bool->Hp->Prop)(b:Bool)(s':db):Prop:=∃H',Inv X Z σ H' s'/\Q b H'
def AP(X:Cx)(Z:O (ce×Obj))(σ:St)(Q:O V->Hp->Prop)(us:O ci)(s':db):Prop:=∃vs H',Inv X Z σ H' s'/\Vals vs us/\Q vs H'
def SP(X:Cx)(Z:O (ce×Obj))(D:Ends)(f:Flow)(s':db):Prop:=
 match f with
 |.next=>∃σ' H',Inv X Z σ' H' s'/\D.nx σ' H'
 |.brk=>∃σ' H',Inv X Z σ' H' s'/\D.bk σ' H'
 |.cont=>∃σ' H',Inv X Z σ' H' s'/\D.ct σ' H'
 |.ret u=>∃v σ' H',Inv X Z σ' H' s'/\RelV v u/\D.rt v H'
def PE(X:Cx)(e:im)(t:TE):Prop:=
 ∀(Z:O (ce×Obj)) (s:db) (σ:St) (H:Hp) (Q:VK),Inv X Z σ H s->t σ H Q->f8 (gl X.prog X.w) X.A (jp e X.env) (EP X Z σ Q) X.xe s
def PT(X:Cx)(e:im)(t:TT):Prop:=
 ∀(Z:O (ce×Obj)) (s:db) (σ:St) (H:Hp) (Q:Bool->Hp->Prop),Inv X Z σ H s->t σ H Q->f8 (gl X.prog X.w) X.A (isTrue e X.env (jp e X.env)) (TP X Z σ Q) X.xe s
def PW(X:Cx)(e:im)(t:TT):Prop:=
 ∀(Ã:Sem ci) (Z:O (ce×Obj)) (s:db) (σ:St) (H:Hp) (Q:Bool->Hp->Prop),Inv X Z σ H s->t σ H Q->f8 (gl X.prog X.w) X.A (isTrue e X.env Ã) (TP X Z σ Q) X.xe s
def PW.pt{X:Cx}{e:im}{t:TT}(h:PW X e t):PT X e t:=h _
def PA(X:Cx)(es:O im)(t:TA):Prop:=
 ∀(pos:Pos) (Z:O (ce×Obj)) (s:db) (σ:St) (H:Hp) (Q:O V->Hp->Prop),Inv X Z σ H s->t σ H Q->f8 (gl X.prog X.w) X.A (spliced (Fk pos (gt es X.env))) (AP X Z σ Q) X.xe s
def PS(X:Cx)(st:nn)(t:TS):Prop:=
 ∀(Z:O (ce×Obj)) (s:db) (σ:St) (H:Hp) (D:Ends),Inv X Z σ H s->t D σ H->f8 (gl X.prog X.w) X.A (exec st X.env) (SP X Z D) X.xe s
def jb(X:Cx)(st:O nn)(t:TS):Prop:=
 ∀(Z:O (ce×Obj)) (s:db) (σ:St) (H:Hp) (D:Ends),Inv X Z σ H s->t D σ H->f8 (gl X.prog X.w) X.A (execs st X.env) (SP X Z D) X.xe s
def bb{t:Sem α}{Q Q':α->db->Prop}{s:db}(h:f8 M A t Q E s)(hQ:∀a s,Q a s->Q' a s):f8 M A t Q' E s:=Be h hQ λ_ _ x=>x
end L2
variable{a e:Bu}{X:L2.Cx}{σ:L2.St}{Q:AO->BW->Prop}{ta tb:L2.TE}{R:L2.V->L2.V->L2.Hp->Prop}{pos:Cs}{op:PySem.CmpOp}
namespace L2
section
def bin{b:im}(ha:PE X a ta)(hb:PE X b tb){s:db}(I:Inv X Z σ H s)(h:ta σ H λx H1=>tb σ H1 λy H2=>R x y H2){Q:α->db->Prop}{f:ci->ci->Sem α}(hf:∀v u s2 x y H2,Inv X Z σ H2 s2->RelV x v->RelV y u->R x y H2->f8 (gl X.prog X.w) X.A (f v u) Q X.xe s2):f8 (gl X.prog X.w) X.A (jp a X.env) (λv s₁=>f8 (gl X.prog X.w) X.A (jp b X.env) (λu s₂=>f8 (gl X.prog X.w) X.A (f v u) Q X.xe s₂) X.xe s₁) X.xe s:=by
 refine bb (ha Z s σ H _ I h) λv s1 ⟨x,H1,I1,r1,q1⟩=>?_;refine bb (hb Z s1 σ H1 _ I1 q1) λu s2 ⟨y,H2,I2,r2,q2⟩=>?_;exact hf v u s2 x y H2 I2 r1 r2 q2
def Kf(i:Nat):TE:=λσ H Q=>∃v,σ[i]?=al (al v)/\Q v H
def tC(v:V):TE:=λ_ H Q=>Q v H
def c7{x:Str}(hN:X.N[i]?=al x)(hv:rp X.env.scope x)(hd: ~~~(dg x))(df: ~~~(rA x)):PE X (.Name x pos) (Kf i):=by
 intro Z s σ H Q I h;obtain⟨v,e,h⟩:=h;obtain⟨m,hn,hl⟩:=I.loc;obtain⟨u,r,l⟩:=hl i x v hN e hv;have fin:EP X Z σ Q u s:=⟨v,H,I,r,h⟩;rcases l with⟨hk,hm⟩|⟨hk,c,hc,ph⟩
 .exact wpAny_Name (wpAny_loadName_local I.ok.kind hk hn hm fin) hd
 .rcases hk with hk|hk
  .exact wpAny_Name (wpAny_loadName_cell I.ok.kind hk hc ph fin) hd
  .exact wpAny_Name (wpAny_loadName_free I.ok.kind hk hc ph fin df) hd
def bZ{i j pos}:PE X (.Constant (.int i) j pos) (tC (.int i)):=λ_ _ _ H _ I h=>wpAny_Constant_int ⟨.int i,H,I.tok _,⟨_,rfl⟩,h⟩
def wg{b j pos}:PE X (.Constant (.bool b) j pos) (tC (.bl b)):=λ_ _ _ H _ I h=>Constant_bool ⟨.bl b,H,I,rfl,h⟩
def gv{j pos}:PE X (.Constant .none j pos) (tC .a8):=λ_ _ _ H _ I h=>Constant_none ⟨.a8,H,I,rfl,h⟩
def iI{x j pos}:PE X (.Constant (.str x) j pos) (tC (.str x)):=λ_ _ _ H _ I h=>Calls.Constant_str ⟨.str x,H,I.tok _,⟨_,rfl⟩,h⟩
def Gl(X:Cx)(x:Str):Prop:=X.env.kindOf x=al .globalImplicit
def dr{s:db}{x:Str}(I:Inv X Z σ H s)(hg:Gl X x)(hm:X.mg x=al u)(h:Q u s)(hd: ~~~(dg x)):f8 (gl X.prog X.w) X.A (jp (.Name x pos) X.env) Q E s:=
 Dq I.ok.kind hg (Calls.loadGlobal_global (by rw[I.ok.glob];exact I.mod.glob.keeps I.bk) hm h) hd
def j7{s:db}{x:Str}(I:Inv X Z σ H s)(hg:Gl X x)(hm:X.mg x=bn)(hv:o0 x=al u)(h:Q u s)(hn: ~~~(x≠"__name__"))(hd: ~~~(dg x)):f8 (gl X.prog X.w) X.A (jp (.Name x pos) X.env) Q E s:=by
 obtain⟨mb,h1,h2⟩:=I.mod.blt;exact Dq I.ok.kind hg (Calls.loadGlobal_builtin (by rw[I.ok.glob];exact I.mod.glob.keeps I.bk) hm (by rw[I.ok.blt];exact h1.keeps I.bk) ((h2 x hn).trans hv) h) hd
def eu{x:Str}(hg:Gl X x)(hm:X.mg x=al u)(r:RelV v u)(hd: ~~~(dg x)):PE X (.Name x pos) (tC v):=
 λ_ _ _ H _ I h=>dr I hg hm ⟨v,H,I,r,h⟩ hd
def gQ{x:Str}(hg:Gl X x)(hm:X.mg x=bn)(hv:o0 x=al u)(r:RelV v u)(hn: ~~~(x≠"__name__"))(hd: ~~~(dg x)):PE X (.Name x pos) (tC v):=
 λ_ _ _ H _ I h=>j7 I hg hm hv ⟨v,H,I,r,h⟩ hn hd
variable{b:im}
def PC(X:Cx)(op:CmpOp)(a b:im)(t:TE):Prop:=
 ∀(Z:O (ce×Obj)) (s:db) (σ:St) (H:Hp) (Q:VK),Inv X Z σ H s->t σ H Q->
  f8 (gl X.prog X.w) X.A (jp a X.env) (λv s₁=>f8 (gl X.prog X.w) X.A (jp b X.env) (λu s₂=>f8 (gl X.prog X.w) X.A (mo op v u) (EP X Z σ Q) X.xe s₂) X.xe s₁) X.xe s
def tB(t:TE):TT:=λσ H Q=>t σ H λx H1=>∃c,x=.bl c/\Q c H1
def PZ{t:TE}(h:PC X op a b t)(h1:pr op b=false:=by first|exact Lr _ ⋯ ⋯ | rfl):PT X (.Compare a [op] [b] pos) (tB t):=by
 intro Z s σ H Q I hw;refine wpAny_isTrue_Compare1 (bb (h Z s σ H _ I hw) λv s1 h1=>bb h1 λu s2 h2=>bb h2 λc s3 ⟨x,H1,I1,r1,q1⟩=>?_) h1;obtain⟨d,rfl,q⟩:=q1;cases r1;exact A7 ⟨H1,I1,q⟩
def fm{t:TE}(h:PE X e t)(he:∀Ã,isTrue e X.env Ã=(do let v <- Ã;FB e.pos;pi [v] (truthy v)):=by intro _;rfl):PT X e (tB t):=by
 intro Z s σ H Q I hw;refine isTrue_plain (bb (h Z s σ H _ I hw) λv s1 ⟨x,H1,I1,r1,q1⟩=>?_) (he _);obtain⟨d,rfl,q⟩:=q1;cases r1;exact A7 ⟨H1,I1,q⟩
variable{tA Nq:TT}{rest:O im}
def Pn(t u:TT):TT:=λσ H Q=>t σ H λc H1=>if c=true then u σ H1 Q else Q false H1
def UW(t u:TT):TT:=λσ H Q=>t σ H λc H1=>if c=true then Q true H1 else u σ H1 Q
def Ph(t:TT):TT:=λσ H Q=>t σ H λc H1=>Q (!c) H1
def mK(ha:PT X a tA):PW X (.BoolOp .And [a] pos) tA:=by
 intro wh Z s σ H Q I h;refine isTrue_and (bb (ha Z s σ H Q I h) λc s1 e=>?_);cases c with
 |true=>exact isTrue_and_nil e
 |false=>exact e
def qv(ha:PT X a tA):PW X (.BoolOp .Or [a] pos) tA:=by
 intro wh Z s σ H Q I h;refine isTrue_or (bb (ha Z s σ H Q I h) λc s1 e=>?_);cases c with
 |false=>exact isTrue_or_nil e
 |true=>exact e
def qw(ha:PT X a tA)(hb:PW X (.BoolOp .And (b::rest) pos) Nq):PW X (.BoolOp .And (a::b::rest) pos) (Pn tA Nq):=by
 intro wh Z s σ H Q I h;refine isTrue_and (bb (ha Z s σ H _ I h) λc s1 ⟨H1,I1,q1⟩=>?_);cases c with
 |true=>exact hb wh Z s1 σ H1 Q I1 q1
 |false=>exact⟨H1,I1,q1⟩
def vN(ha:PT X a tA)(hb:PW X (.BoolOp .Or (b::rest) pos) Nq):PW X (.BoolOp .Or (a::b::rest) pos) (UW tA Nq):=by
 intro wh Z s σ H Q I h;refine isTrue_or (bb (ha Z s σ H _ I h) λc s1 ⟨H1,I1,q1⟩=>?_);cases c with
 |true=>exact⟨H1,I1,q1⟩
 |false=>exact hb wh Z s1 σ H1 Q I1 q1
def iG(ha:PT X a tA):PT X (.UnaryOp .Not a pos) (Ph tA):=by
 intro Z s σ H Q I h;exact isTrue_not (ha Z s σ H (λc H1=>Q (!c) H1) I h)
def Kw(ta tb:TE):TE:=λσ H Q=>ta σ H λx H1=>∃c,x=.bl c/\if c=true then tb σ H1 Q else Q (.bl false) H1
def Pg(ta tb:TE):TE:=λσ H Q=>ta σ H λx H1=>∃c,x=.bl c/\if c=true then Q (.bl true) H1 else tb σ H1 Q
def Kj(ta:TE):TE:=λσ H Q=>ta σ H λx H1=>∃c,x=.bl c/\Q (.bl (!c)) H1
def qB{op}{t:TE}(h:PE X a t):PE X (.BoolOp op [a] pos) t:=λZ s σ H Q I hw=>BoolOp_one (h Z s σ H Q I hw)
def HE(ha:PE X a ta)(hb:PE X (.BoolOp .And (b::rest) pos) tb):PE X (.BoolOp .And (a::b::rest) pos) (Kw ta tb):=by
 intro Z s σ H Q I h;refine BoolOp_and (bb (ha Z s σ H _ I h) λv s1 ⟨x,H1,I1,r1,q1⟩=>?_);obtain⟨c,rfl,q1⟩:=q1;cases r1;refine A7 ?_;cases c with
 |true=>exact hb Z s1 σ H1 Q I1 q1
 |false=>exact⟨.bl false,H1,I1,rfl,q1⟩
def Gp(ha:PE X a ta)(hb:PE X (.BoolOp .Or (b::rest) pos) tb):PE X (.BoolOp .Or (a::b::rest) pos) (Pg ta tb):=by
 intro Z s σ H Q I h;refine BoolOp_or (bb (ha Z s σ H _ I h) λv s1 ⟨x,H1,I1,r1,q1⟩=>?_);obtain⟨c,rfl,q1⟩:=q1;cases r1;refine A7 ?_;cases c with
 |false=>exact hb Z s1 σ H1 Q I1 q1
 |true=>exact⟨.bl true,H1,I1,rfl,q1⟩
def HC(ha:PE X a ta):PE X (.UnaryOp .Not a pos) (Kj ta):=by
 intro Z s σ H Q I h;refine UnaryOp_ (bb (ha Z s σ H _ I h) λv s1 ⟨x,H1,I1,r1,q1⟩=>?_);obtain⟨c,rfl,q1⟩:=q1;cases r1;exact not_of (A7 ⟨.bl (!c),H1,I1,rfl,q1⟩)
def UX(t:TT)(ta tb:TE):TE:=λσ H Q=>t σ H λc H1=>if c=true then ta σ H1 Q else tb σ H1 Q
def vZ{c:im}(hc:PT X c tA)(ha:PE X a ta)(hb:PE X b tb):PE X (.IfExp c a b pos) (UX tA ta tb):=by
 intro Z s σ H Q I h;refine wpAny_IfExp (bb (hc Z s σ H _ I h) λd s1 ⟨H1,I1,q1⟩=>?_);cases d with
 |true=>exact ha Z s1 σ H1 Q I1 q1
 |false=>exact hb Z s1 σ H1 Q I1 q1
end
end L2
variable{xs ys:O L2.V}{y:L2.V}{D:L2.Ends}{te to:L2.TE}{es:O Bu}{k n:Nat}{tg:Bu}{Ë py pt:Cs}{body:O PySem.Stmt}
namespace L2
def cX(K:Aa)(H:Hp)(a:ce)(xs:O V):Prop:=
 Rd H a (.lst xs)\/
  ∃(o:Obj) (aw:Array ci) (n:Nat),K.lookup a=al o/\o.cls=.type "list"/\o.dict=bn/\o.data=.seq aw n/\aw.size<=sizeLine/\Vals xs aw.toList
def dP(K:Aa)(H:Hp)(a:ce)(xs:O V):Prop:=
 Rd H a (.tup xs)\/
  ∃(o:Obj) (aw:Array ci) (n:Nat),K.lookup a=al o/\o.cls=.type "tuple"/\o.data=.seq aw n/\aw.size<=sizeLine/\Vals xs aw.toList
def RN:ci->Option V
 |.none=>al .a8
 |.bool b=>al (.bl b)
 |.int i _=>al (.int i)
 |.str x _=>al (.str x)
 |.bytes b _=>al (.tF b)
 |.float b _=>al (.IK b)
 |.ref a=>al (.ref a)
 |.type n=>al (.ty n)
 |_=>bn
def RelV.abs{x:V}(r:RelV x u):RN u=al x:=by
 cases x with
 |a8=>cases r;rfl
 |bl _=>cases r;rfl
 |int _=>obtain⟨t,rfl⟩:=r;rfl
 |str _=>obtain⟨t,rfl⟩:=r;rfl
 |tF _=>obtain⟨t,rfl⟩:=r;rfl
 |IK _=>obtain⟨t,rfl⟩:=r;rfl
 |ref _=>cases r;rfl
 |ty _=>cases r;rfl
def RelV.inj{x:V}(r:RelV x u)(q:RelV y u):x=y:=Option.some.inj (r.abs.symm.trans q.abs)
theorem Vals.inj:∀{xs ys:O V}{us:O ci},Vals xs us->Vals ys us->xs=ys
 |_,_,_,.nil,.nil=>rfl
 |_,_,_,.cons r t,.cons r' t'=>by rw[r.inj r',Vals.inj t t']
section
variable{s:db}{a:ce}
def cX.of{K:Aa}(h:H a=al (.lst xs)):cX K H a xs:=.inl (.inl h)
def dP.of{K:Aa}(h:H a=al (.tup xs)):dP K H a xs:=.inl (.inl h)
theorem Inv.list(I:Inv X Z σ H s)(h:cX X.K H a xs):∃aw:O ci,Vals xs aw/\PlainL s.heap a aw.toArray/\xs.length<=sizeLine:=by
 rcases h with h|⟨o,aw,n,hk,hc,hd,hs,hz,r⟩
 .obtain⟨z,aw,n,r,e⟩:=h.ok I.aW;exact⟨aw,r,⟨_,n,e,rfl,rfl,rfl⟩,z⟩
 .refine⟨aw.toList,r,⟨o,n,I.cR a o hk,hc,hd,by simpa using hs⟩,?_⟩;have e:=r.length;simp at e;lia
theorem Inv.tuple(I:Inv X Z σ H s)(h:dP X.K H a xs):∃aw:O ci,Vals xs aw/\IsTup s.heap a aw.toArray/\xs.length<=sizeLine:=by
 rcases h with h|⟨o,aw,n,hk,hc,hs,hz,r⟩
 .obtain⟨z,aw,r,p,_⟩:=h.ok I.aW;exact⟨aw,r,p,z⟩
 .refine⟨aw.toList,r,⟨o,I.cR a o hk,hc,n,by simpa using hs⟩,?_⟩;have e:=r.length;simp at e;lia
def Inv.wL(I:Inv X Z σ H s)(h:cX X.K H a xs)(h':cX X.K H a ys):xs=ys:=by
 obtain⟨aw,r,⟨o,n,e,_,_,d⟩,_⟩:=I.list h;obtain⟨its',r',⟨o',n',e',_,_,d'⟩,_⟩:=I.list h';rw[e]at e';cases e';rw[d]at d';injection d' with d1 _;have:aw=its':=by simpa using congrArg Array.toList d1
 subst this;exact r.inj r'
def Inv.ly(I:Inv X Z σ H s)(h:dP X.K H a xs)(h':dP X.K H a ys):xs=ys:=by
 obtain⟨aw,r,⟨o,e,_,n,d⟩,_⟩:=I.tuple h;obtain⟨its',r',⟨o',e',_,n',d'⟩,_⟩:=I.tuple h';rw[e]at e';cases e';rw[d]at d';injection d' with d1 _;have:aw=its':=by simpa using congrArg Array.toList d1
 subst this;exact r.inj r'
end
abbrev Cx.iD(X:Cx)(E:ci->db->Prop):Cx:={X with xe:=E}
abbrev Cx.yG(X:Cx):Cx:=X.iD λ_ _=>False
def Cx.Ok.iD(ok:X.Ok)(E:ci->db->Prop):(X.iD E).Ok:=
 ⟨ok.mod,ok.kind,ok.glob,ok.blt,ok.above,ok.inj,ok.has,ok.Jj,ok.hd,ok.frames,ok.jO,ok.Ru,ok.bs,ok.ye,ok.um,ok.uH,ok.fD,ok.yM⟩
def Cx.Ok.d9(ok:(X.iD E).Ok):X.Ok:=
 ⟨ok.mod,ok.kind,ok.glob,ok.blt,ok.above,ok.inj,ok.has,ok.Jj,ok.hd,ok.frames,ok.jO,ok.Ru,ok.bs,ok.ye,ok.um,ok.uH,ok.fD,ok.yM⟩
section
variable{s:db}
def Inv.iD(I:Inv X Z σ H s)(E:ci->db->Prop):Inv (X.iD E) Z σ H s:=⟨I.ok.iD E,I.os,I.bare,I.base,I.loc,I.cell,I.free,I.dA,I.pin,I.aW,I.len⟩
def Inv.d9(I:Inv (X.iD E) Z σ H s):Inv X Z σ H s:=⟨I.ok.d9,I.os,I.bare,I.base,I.loc,I.cell,I.free,I.dA,I.pin,I.aW,I.len⟩
def SP.d9{f:Flow}(h:SP (X.iD E) Z D f s'):SP X Z D f s':=by
 cases f with
 |next=>obtain⟨σ',H',I,q⟩:=h;exact⟨σ',H',I.d9,q⟩
 |brk=>obtain⟨σ',H',I,q⟩:=h;exact⟨σ',H',I.d9,q⟩
 |cont=>obtain⟨σ',H',I,q⟩:=h;exact⟨σ',H',I.d9,q⟩
 |ret u=>obtain⟨v,σ',H',I,r,q⟩:=h;exact⟨v,σ',H',I.d9,r,q⟩
def jb.yG{st:O nn}{t:TS}(h:jb X.yG st t):jb X st t:=λZ s σ H D I hw=>
 Be (h Z s σ H D (I.iD _) hw) (λ_ _ q=>q.d9) λ_ _ z=>AD z
end
section
variable{st:nn}{rest:O nn}{t u:TS}
def Kk:TS:=λD σ H=>D.nx σ H
def Pd(t u:TS):TS:=λD σ H=>t {D with nx:=u D} σ H
def cg:jb X [] Kk:=λ_ _ σ H _ I h=>Ce ⟨σ,H,I,h⟩
def az(h1:PS X st t)(h2:jb X rest u):jb X (st::rest) (Pd t u):=by
 intro Z s σ H D I h;refine DM (bb (h1 Z s σ H {D with nx:=u D} I h) λf s1 q=>?_);cases f with
 |next=>
  obtain⟨σ',H',I',q⟩:=q;exact h2 Z s1 σ' H' D I' q
 |ret v=>exact q
 |brk=>exact q
 |cont=>exact q
def aV(h1:PS X st t):jb X [st] t:=by
 intro Z s σ H D I h;refine DM (bb (h1 Z s σ H D I h) λf s1 q=>?_);cases f with
 |next=>exact Ce q
 |ret v=>exact q
 |brk=>exact q
 |cont=>exact q
def Kq:TS:=λD σ H=>D.ct σ H
def oG:PS X (.Continue pos) Kq:=λ_ _ σ H _ I h=>wpAny_Continue ⟨σ,H,I,h⟩
def Inv.quiet{s:db}(I:Inv X Z σ H s):interactive X.env=false:=by simp[interactive,I.ok.kind]
def Kp(te:TE):TS:=λD σ H=>te σ H λ_ H1=>D.nx σ H1
def dm(he:PE X e te)(hs:‹wv e bn pos.line X.env=pure false›):PS X (.Expr e pos) (Kp te):=by
 intro Z s σ H D I h;exact wpAny_Expr_any (bb (he Z s σ H _ I h) λv s1 ⟨x,H1,I1,r1,q1⟩=>⟨σ,H1,I1,q1⟩) I.quiet hs
def Pe(te:TE):TS:=λD σ H=>te σ H D.rt
def bJ(he:PE X e te):PS X (.Return (al e) pos) (Pe te):=by
 intro Z s σ H D I h;exact wpAny_Return_some (bb (he Z s σ H _ I h) λv s1 ⟨x,H1,I1,r1,q1⟩=>⟨x,σ,H1,I1,r1,q1⟩)
def Pk(c:TT)(t u:TS):TS:=λD σ H=>c σ H λb H1=>if b=true then t D σ H1 else u D σ H1
def fq{c:im}{a b:O nn}{tc:TT}(hc:PT X c tc)(ha:jb X a t)(hb:jb X b u):PS X (.If c a b pos) (Pk tc t u):=by
 intro Z s σ H D I h;refine wpAny_If (bb (hc Z s σ H _ I h) λd s1 ⟨H1,I1,q1⟩=>?_);cases d with
 |true=>exact ha Z s1 σ H1 D I1 q1
 |false=>exact hb Z s1 σ H1 D I1 q1
def Hf:TS:=λ_ _ _=>False
end
abbrev TG:=V->St->Hp->(St->Hp->Prop)->Prop
abbrev Ju:=O V->St->Hp->(St->Hp->Prop)->Prop
def PG(X:Cx)(Ê:im)(t:TG):Prop:=
 ∀(Z:O (ce×Obj)) (s:db) (σ:St) (H:Hp) (v:V) (u:ci) (Q:St->Hp->Prop),Inv X Z σ H s->RelV v u->t v σ H Q->
  f8 (gl X.prog X.w) X.A (assign Ê X.env u) (λ_ s'=>∃σ' H',Inv X Z σ' H' s'/\Q σ' H') X.xe s
def OA(X:Cx)(ts:O im)(t:Ju):Prop:=
 ∀(Z:O (ce×Obj)) (s:db) (σ:St) (H:Hp) (vs:O V) (us:O ci) (Q:St->Hp->Prop),Inv X Z σ H s->Vals vs us->t vs σ H Q->
  f8 (gl X.prog X.w) X.A (assignInOrder ((Ch ts X.env).map (·.2)) us) (λ_ s'=>∃σ' H',Inv X Z σ' H' s'/\Q σ' H') X.xe s
abbrev yq:=V->V->V->Hp->(Hp->Prop)->Prop
def uT(X:Cx)(t:yq):Prop:=
 ∀(Z:O (ce×Obj)) (s:db) (σ:St) (H:Hp) (o i v:V) (ov iv u:ci) (Q:Hp->Prop),Inv X Z σ H s->RelV o ov->RelV i iv->RelV v u->t o i v H Q->
  f8 (gl X.prog X.w) X.A (setItem ov iv u) (λ_ s'=>∃H',Inv X Z σ H' s'/\Q H') X.xe s
section
def hJ(i:Nat):TG:=λv σ H Q=>Q (σ.set i (al v)) H
def zr{x:Str}(hN:X.N.Nodup)(hi:X.N[i]?=al x)(hx:Loc X.env.scope x)(hf:FT X x:=by first|exact .inl rfl|exact .inr rfl|assumption):PG X (.Name x pos) (hJ i):=by
 intro Z s σ H v u Q I r h;exact wpAny_assign_Name (cE I hN hi hx r (λs' I'=>⟨_,H,I',h⟩) hf)
def L8:Ju:=λvs σ H Q=>vs=[]/\Q σ H
def xr(t:TG)(u:Ju):Ju:=λvs σ H Q=>∃v r,vs=v::r/\t v σ H λσ' H'=>u r σ' H' Q
def zp:OA X [] L8:=by
 intro Z s σ H vs us Q I r h;obtain⟨e,h⟩:=h;subst e;cases r;exact assignInOrder_nil ⟨σ,H,I,h⟩
def oK{t:TG}{u:Ju}(h1:PG X e t)(h2:OA X es u)(hs:‹(Ch (e::es) X.env).map (·.2)=assign e X.env::(Ch es X.env).map (·.2)›):OA X (e::es) (xr t u):=by
 intro Z s σ H vs us Q I r h;obtain⟨v,vr,e1,h⟩:=h;subst e1;cases r with
 |cons r rr=>
  rw[hs];exact ut (bb (h1 Z s σ H _ _ _ I r h) λ_ s1 ⟨σ1,H1,I1,q1⟩=>h2 Z s1 σ1 H1 _ _ Q I1 rr q1)
def L7(K:Aa)(n:Nat)(t:Ju):TG:=λv σ H Q=>∃a xs,v=.ref a/\dP K H a xs/\xs.length=n/\t xs σ H Q
def HA{t:Ju}(hc:X.calm=true)(h:OA X es t)(hn:‹(Ch es X.env).length=n›)(kW:‹(Ch es X.env).findIdx? (·.1)=bn›):PG X (.Tuple es k pos) (L7 X.K n t):=by
 intro Z s σ H v u Q I r hw;obtain⟨a,xs,e1,hq,hl,hw⟩:=hw;subst e1;cases r;obtain⟨aw,rv,ht,hz⟩:=I.tuple hq;exact assign_Tuple_tuple (I.ok.hd hc) ht (by simp[hn,<- hl,rv.length]) kW λh' hx=>h Z _ σ H xs _ Q (I.kept λb o e=>hx b o (AI (Ai e)) e) (by simpa using rv) hw
def Rf(to ti:TE)(t:yq):TG:=λv σ H Q=>to σ H λo H1=>ti σ H1 λi H2=>t o i v H2 λH3=>Q σ H3
def HB{o i:im}{ti:TE}{t:yq}(ho:PE X o to)(hi:PE X i ti)(hs:uT X t)(ha:∀v,assign (.Subscript o i pos) X.env v=(do
   let ov <- pi [v] (jp o X.env)
   let iv <- pi [v,ov] (jp i X.env)
   FB pos
   pi [v,ov,iv] (setItem ov iv v)
   release [v,ov,iv] []):=by intro _;rfl):PG X (.Subscript o i pos) (Rf to ti t):=by
 intro Z s σ H v u Q I r h;exact Ab (A4 (bb (ho Z s σ H _ I h) λov s1 ⟨x,H1,I1,r1,q1⟩=>Ab (A4 (bb (hi Z s1 σ H1 _ I1 q1) λiv s2 ⟨y,H2,I2,r2,q2⟩=>Ab (BK (Ab (A4 (bb (hs Z s2 σ H2 x y v ov iv u _ I2 r1 r2 r q2) λ_ s3 ⟨H3,I3,q3⟩=>wpAny_release ⟨σ,H3,I3,q3⟩))))))))
def Kv(te:TE)(g:TG):TS:=λD σ H=>te σ H λx H1=>g x σ H1 D.nx
def vT{g:TG}(he:PE X e te)(hg:PG X tg g)(hs:‹wp [tg] e pos.line X.env=pure false›)(hw:‹ww [tg] e X.env=pure bn›)(h1:‹(Ch [tg] X.env).map (·.2)=[assign tg X.env]›):PS X (.Assign [tg] e pos) (Kv te g):=by
 intro Z s σ H D I h;refine wpAny_Assign_stores (bb (he Z s σ H _ I h) λv s1 ⟨x,H1,I1,r1,q1⟩=>?_) hs hw;rw[h1];exact bb (hg Z s1 σ H1 x v _ I1 r1 q1) λ_ s2 q=>q
def bX{x:Str}(hN:X.N.Nodup)(hi:X.N[i]?=al x)(hx:Loc X.env.scope x)(he:PE X e te)(hs:‹wv e (al (.Name x Ë)) pos.line X.env=pure false›)(hf:FT X x:=by first|exact .inl rfl|exact .inr rfl|assumption):PS X (.Assign [.Name x Ë] e pos) (Kv te (hJ i)):=by
 intro Z s σ H D I h;refine wpAny_Assign_Name (bb (he Z s σ H _ I h) λv s1 ⟨y,H1,I1,r1,q1⟩=>?_) hs;exact cE I1 hN hi hx r1 (λs2 I2=>⟨_,H1,I2,q1⟩) hf
def Pf(i j:Nat)(ta:TA):TS:=λD σ H=>ta σ H λvs H1=>∃v w,vs=[v,w]/\D.nx ((σ.set i (al v)).set j (al w)) H1
def vR{x y:Str}{b:im}{ta:TA}{px:Pos}{kt k2 oE}(hc:X.calm=true)(hN:X.N.Nodup)(hi:X.N[i]?=al x)(hj:X.N[j]?=al y)(E6:i≠j)(hx:X.env.scope.names.lookup x=al .local)(hy:X.env.scope.names.lookup y=al .local)(ha:PA X [a,b] ta)(hw:ww [.Tuple [.Name x px,.Name y py] kt pt] (.Tuple [a,b] k2 oE) X.env=pure (al [x,y]))(hs:‹wp [.Tuple [.Name x px,.Name y py] kt pt] (.Tuple [a,b] k2 oE) pos.line X.env=pure false›):PS X (.Assign [.Tuple [.Name x px,.Name y py] kt pt] (.Tuple [a,b] k2 oE) pos) (Pf i j ta):=by
 intro Z s σ H D I h;refine Ab (BK ?_);refine Ab (Ae ?_);refine Ab (Tuple_ (bb (ha _ Z s σ H _ I h) λus s1 ⟨vs,H1,I1,r1,q1⟩=>?_));obtain⟨v,w,e1,q1⟩:=q1;subst e1;obtain⟨u1,u2,rfl,rv,ub⟩:∃u1 u2,us=[u1,u2]/\RelV v u1/\RelV w u2:=by
  cases r1 with
  |cons p q=>
   cases q with
   |cons p' q'=>
    cases q';exact⟨_,_,rfl,p,p'⟩
 refine BD ?_ (by show 2<=sizeLine;decide);rw[hw];refine Ab (Ae ?_);refine Ab (D2 (Ab (unpackItems_tuple (items:=#[u1,u2]) (I.ok.hd hc) (IsTup.new s1.heap _) λh' pf=>?_)));refine Ab (ut (CW (cE ((I1.kept λb o e=>Ad _ e).kept (t':=s1.toks) λb o e=>pf b o (AI (Ai e)) e) hN hj (.inl hy) ub (λs2 I4=>?_) (.inr hy))));refine ut (CW (cE I4 hN hi (.inl hx) rv (λs3 I5=>assignInOrder_nil (Ae ?_)) (.inr hx)));rw[DH _ _ (BO E6)]at I5;exact⟨_,H1,I5,q1⟩
end
section
def Hd(c:TT)(tb:TS):TS:=λD σ H=>∃W:Nat->St->Hp->Prop,(∃m,W m σ H)/\∀m σ H,W m σ H->
 c σ H λb H1=>if b=true then ∃N:St->Hp->Prop,(∀σ' H',N σ' H'->∃m',m'<m/\W m' σ' H')/\tb {D with nx:=N,ct:=N,bk:=D.nx} σ H1 else D.nx σ H1
def jR{c:im}{tc:TT}{tb:TS}(hp:Da (gl X.prog X.w) X.A X.env X.xe)(hc:PT X c tc)(hb:jb X body tb):PS X (.While c body [] pos) (Hd tc tb):=by
 intro Z s σ H D I h;obtain⟨W,⟨m0,w0⟩,Í⟩:=h;refine wpAny_While (codeAny_whileLoop (λn s'=>∃σ' H',Inv X Z σ' H' s'/\W n σ' H') ?_ m0 ⟨σ,H,I,w0⟩);rintro n s1 ⟨σ1,H1,I1,w1⟩;refine BS hp (bb (hc Z s1 σ1 H1 _ I1 (Í n σ1 H1 w1)) λb s2 ⟨H2,I2,q2⟩=>?_);cases b with
 |true=>
  obtain⟨N,hN,q2⟩:=q2;refine BS hp (bb (hb Z s2 σ1 H2 _ I2 q2) λf s3 q3=>?_);cases f with
  |next=>
   obtain⟨σ3,H3,I3,n3⟩:=q3;obtain⟨m',hm,w3⟩:=hN σ3 H3 n3;exact⟨m',hm,σ3,H3,I3,w3⟩
  |cont=>
   obtain⟨σ3,H3,I3,n3⟩:=q3;obtain⟨m',hm,w3⟩:=hN σ3 H3 n3;exact⟨m',hm,σ3,H3,I3,w3⟩
  |brk=>exact q3
  |ret v=>exact q3
 |false=>
  exact Ce ⟨σ1,H2,I2,q2⟩
end
structure It where
 go:Nat->Hp->Prop
 JA:Nat->Hp->V->Hp->Prop
 stop:Nat->Hp->Prop
def ll(X:Cx)(Z:O (ce×Obj))(H:Hp)(b:ce):Prop:=
 H b=bn/\b≠X.env.locals/\b∉X.fs/\(b∈X.ex\/X.s₀.heap.objs.size<=b)/\(∀x c,X.env.cells.lookup x=al c->c≠b)/\∀p∈X.pn++Z,p.1≠b
def Inv.Fd{s:db}(I:Inv X Z σ H s)(hb:s.heap.objs.size<=b)(hn:H' b=bn):ll X Z H' b:=by
 refine⟨hn,D3 (Aq I.lt hb),I.P9 hb,.inr (Av I.sz hb),λx c e z=>?_,λp hp z=>?_⟩
 .obtain⟨v,q⟩:=I.cell x c e;exact absurd (Aq q.lt (by rw[z];exact hb)) (Bl _)
 .exact absurd (Aq (Ai (I.pin p hp).1) (by rw[z];exact hb)) (Bl _)
structure Turn(P:lm)(w:sw)(K:Aa)(tg:im)(J:It)(fp:List ce)(it:ce)(tn:Nat->io->Prop):Prop where
 mem:it∈fp
 obj:∀i h,tn i h->∀b∈fp,∃o,h.get? b=al o/\∀v,o.data≠.cell v
 keep:∀i h h',tn i h->(∀b∈fp,∀o,h.get? b=al o->h'.get? b=al o)->tn i h'
 item:∀(X:Cx),X.prog=P->X.w=w->X.K=K->X.calm=true->∀(i:Nat) (Z:List (ce×Obj)) (s:db) (σ:St) (H:Hp) (E:ci->db->Prop),Inv X Z σ H s->(∀b∈fp,ll X Z H b)->tn i s.heap->J.go i H->
  f8 (gl P w) X.A (pyNext (.ref it)) (λr s1=>∃u,r=al u/\
   f8 (gl P w) X.A (KF tg (.ref it) u) (λ_ s2=>∃x H',Inv X Z σ H' s2/\RelV x u/\J.JA i H x H'/\tn (i+1) s2.heap/\∀b∈fp,H' b=bn) E s1) E s
 done:∀(X:Cx),X.prog=P->X.w=w->X.K=K->X.calm=true->∀(i:Nat) (Z:List (ce×Obj)) (s:db) (σ:St) (H:Hp) (E:ci->db->Prop),Inv X Z σ H s->(∀b∈fp,ll X Z H b)->tn i s.heap->J.stop i H->
  f8 (gl P w) X.A (pyNext (.ref it)) (λr s1=>r=bn/\Inv X Z σ H s1) E s
 self:∀(A:u8) (i:Nat) (s:db) (Q:ci->db->Prop) (E:ci->db->Prop),tn i s.heap->Q (.ref it) s->f8 (gl P w) A (pyIter (.ref it)) Q E s
abbrev TI:=St->Hp->(It->Hp->Prop)->Prop
def TN(X:Cx)(Z:O (ce×Obj))(σ:St)(tg:im)(R:It->Hp->Prop)(Qv:ci)(s2:db):Prop:=
 ∃(it:ce) (fp:O ce) (tn:Nat->io->Prop) (J:It) (H':Hp),Qv=.ref it/\Inv X Z σ H' s2/\Turn X.prog X.w X.K tg J fp it tn/\tn 0 s2.heap/\(∀b∈fp,ll X Z H' b)/\R J H'
def PI(X:Cx)(tg iter:im)(wi:TI):Prop:=
 ∀(Z:O (ce×Obj)) (s:db) (σ:St) (H:Hp) (R:It->Hp->Prop),Inv X Z σ H s->wi σ H R->
  f8 (gl X.prog X.w) X.A (jp iter X.env) (λv s1=>f8 (gl X.prog X.w) X.A (pyIter v) (TN X Z σ tg R) X.xe s1) X.xe s
def xp{s:db}{n:String}{vs:Array ci}{Q:Unit->db->Prop}(ho:s.heap.get? it=al o)(hc:o.cls=.type n)(hd:o.data=.fields vs)(hn:["enumerate","zip","dict_itemiterator","dict_reverseitemiterator","odict_iterator","itertools.zip_longest","itertools.pairwise"].contains n=false)(hQ:Q () s):f8 M A (KF tg (.ref it) u) Q E s:=by
 unfold KF;cases tg<;>first
  |exact Ae hQ
  |(cases u<;>first
    |exact Ae hQ
    |(
      refine Ab (wpAny_load ho ?_);rw[hc,hd];show f8 M A (if (["enumerate","zip","dict_itemiterator","dict_reverseitemiterator","odict_iterator","itertools.zip_longest","itertools.pairwise"].contains n&&vs[0]?==al (lf _))=true then _ else _) Q E s;rw[if_neg (by intro h;rw[hn,Bool.false_and]at h;cases h)];exact Ae hQ))
def TU(K:Aa)(a:ce):It:=
 ⟨λi H=>∃xs x,cX K H a xs/\xs[i]?=al x,λi H x H'=>H'=H/\∀xs,cX K H a xs->xs[i]?=al x,λi H=>∃xs,cX K H a xs/\xs.length<=i⟩
def TR(K:Aa)(a:ce):It:=
 ⟨λi H=>∃xs x,dP K H a xs/\xs[i]?=al x,λi H x H'=>H'=H/\∀xs,dP K H a xs->xs[i]?=al x,λi H=>∃xs,dP K H a xs/\xs.length<=i⟩
def OI(lo:Int)(n:Nat):It:=⟨λi _=>i<n,λi H x H'=>H'=H/\x=.int (lo+i),λi _=>n<=i⟩
theorem tQ{K:Aa}(a it:ce):Turn P w K tg (TU K a) [it] it (λi h=>h.IsListIter it a i) where
 mem:=by simp
 obj:=λi h st b hb=>by
  have e:b=it:=by simpa using hb
  subst e;obtain⟨o,e,c,d⟩:=st;exact⟨o,e,λv z=>by rw[d]at z;cases z⟩
 keep:=λi h h' st k=>st.at λo e=>k it (by simp) o e
 item:=by
  intro X hP hw hK hc i Z s σ H E I hf st hg;subst hP hw hK;obtain⟨xs,x,hq,hx⟩:=hg;obtain⟨aw,rv,p,hz⟩:=I.list hq;obtain⟨u,hu,ru⟩:=rv.get hx;obtain⟨f0,f1,f2,f3,f4,f5⟩:=hf it (by simp);refine wpAny_pyNext_list_item st p.isList (by simpa using hu) λh' vq sb=>?_;obtain⟨o,e,c,d⟩:=id vq;exact⟨u,rfl,xp e c d ⋯ ⟨x,H,(I.turned (λb o hb e=>(sb.2 b hb).trans e) f0 f1 f3 f4 f5),ru,⟨rfl,λys hy=>by rw[I.wL hy hq];exact hx⟩,vq,λb hb=>(hf b hb).1⟩⟩
 done:=by
  intro X hP hw hK hc i Z s σ H E I hf st hg;subst hP hw hK;obtain⟨xs,hq,hx⟩:=hg;obtain⟨aw,rv,p,hz⟩:=I.list hq;obtain⟨f0,f1,f2,f3,f4,f5⟩:=hf it (by simp);have hl:=rv.length;exact wpAny_pyNext_list_end (I.ok.hd hc) st p.isList (by simp;lia) λh' eb=>⟨rfl,I.turned (t':=s.toks) (λb o hb e=>eb b o hb e) f0 f1 f3 f4 f5⟩
 self:=λ_ _ _ _ _ st h=>wpAny_pyIter_listiter st h
theorem qf{K:Aa}(a it:ce):Turn P w K tg (TR K a) [it] it (λi h=>h.IsTupleIter it a i) where
 mem:=by simp
 obj:=λi h st b hb=>by
  have e:b=it:=by simpa using hb
  subst e;obtain⟨o,e,c,d⟩:=st;exact⟨o,e,λv z=>by rw[d]at z;cases z⟩
 keep:=λi h h' st k=>st.at λo e=>k it (by simp) o e
 item:=by
  intro X hP hw hK hc i Z s σ H E I hf st hg;subst hP hw hK;obtain⟨xs,x,hq,hx⟩:=hg;obtain⟨aw,rv,p,hz⟩:=I.tuple hq;obtain⟨u,hu,ru⟩:=rv.get hx;obtain⟨f0,f1,f2,f3,f4,f5⟩:=hf it (by simp);refine wpAny_pyNext_tuple_item st (p) (by simpa using hu) λh' vq sb=>?_;obtain⟨o,e,c,d⟩:=id vq;exact⟨u,rfl,xp e c d ⋯ ⟨x,H,(I.turned (λb o hb e=>(sb.2 b hb).trans e) f0 f1 f3 f4 f5),ru,⟨rfl,λys hy=>by rw[I.ly hy hq];exact hx⟩,vq,λb hb=>(hf b hb).1⟩⟩
 done:=by
  intro X hP hw hK hc i Z s σ H E I hf st hg;subst hP hw hK;obtain⟨xs,hq,hx⟩:=hg;obtain⟨aw,rv,p,hz⟩:=I.tuple hq;obtain⟨f0,f1,f2,f3,f4,f5⟩:=hf it (by simp);have hl:=rv.length;exact wpAny_pyNext_tuple_end (I.ok.hd hc) st (show s.heap.IsTuple a aw.toArray from p) (by simp;lia) λh' eb=>⟨rfl,I.turned (t':=s.toks) (λb o hb e=>eb b o hb e) f0 f1 f3 f4 f5⟩
 self:=λ_ _ _ _ _ st h=>wpAny_pyIter_tupleiter st h
theorem qg{K:Aa}(it:ce)(lo:Int)(n:Nat):Turn P w K tg (OI lo n) [it] it (λi h=>IsRangeIter h it (lo+(i:Nat)*1) ((n:Int)-(i:Nat)) 1) where
 mem:=by simp
 obj:=λi h st b hb=>by
  have e:b=it:=by simpa using hb
  subst e;exact⟨_,st,λv z=>by
   have z':=z;cases z'⟩
 keep:=λi h h' st k=>k it (by simp) _ st
 item:=by
  intro X hP hw hK hc i Z s σ H E I hf st hg;subst hP hw hK;obtain⟨f0,f1,f2,f3,f4,f5⟩:=hf it (by simp);refine(Walks.range (prog:=X.prog) (I.ok.hd hc) it lo 1 n).item i s _ _ hg st λv h' tk hv vq kk=>?_;obtain⟨t,rfl⟩:=hv;refine⟨_,rfl,xp vq rfl rfl ⋯ ⟨.int (lo+i),H,(I.turned (λb o hb e=>kk b o (by simpa using hb) e) f0 f1 f3 f4 f5),⟨t,?_⟩,⟨rfl,rfl⟩,vq,λb hb=>(hf b hb).1⟩⟩;rw[Int.mul_one]
 done:=by
  intro X hP hw hK hc i Z s σ H E I hf st hg;obtain⟨f0,f1,f2,f3,f4,f5⟩:=hf it (by simp);exact wpAny_pyNext_range_end (I.ok.hd hc) st (by have:n<=i:=hg;lia) λh' eb=>⟨rfl,I.turned (λb o hb e=>eb b o hb e) f0 f1 f3 f4 f5⟩
 self:=λ_ _ _ _ _ st h=>wpAny_pyIter_rangeiter st h
end L2
variable{fp:O AN}{iter:Bu}
namespace L2
section
theorem vK{s:db}{R:It->Hp->Prop}{lo hi:Int}{t u v:Tok}{tk:Nat}(I:Inv X Z σ H s)(h1:-(2 ^ 62)<=lo)(h2:lo < 2 ^ 62)(h3:-(2 ^ 62)<=hi)(h4:hi < 2 ^ 62)(q:R (OI lo (hi-lo).toNat) H):f8 (gl X.prog X.w) X.A (pyIter (.ref s.heap.objs.size)) (TN X Z σ tg R) E {s with heap:=s.heap.push {cls:=.type "range",data:=.fields #[.int lo t,.int hi u,.int 1 v]},toks:=tk}:=by
 refine wpAny_pyIter_range (IsRange.new ..) (small_one h1 h2 h3 h4) ?_;have I1:Inv X Z σ H {s with heap:=s.heap.push {cls:=.type "range",data:=.fields #[.int lo t,.int hi u,.int 1 v]},toks:=tk}:=I.kept λb o e=>Ad _ e;refine⟨(s.heap.push {cls:=.type "range",data:=.fields #[.int lo t,.int hi u,.int 1 v]}).objs.size,[(s.heap.push {cls:=.type "range",data:=.fields #[.int lo t,.int hi u,.int 1 v]}).objs.size],_,_,H,rfl,
  I1.kept (t':=tk) λb o e=>Ad _ e,qg _ lo (hi-lo).toNat,?_,λb hb=>?_,q⟩
 .have e1:lo+((0:Nat):Int)*1=lo:=by simp
  have e2:(((hi-lo).toNat:Nat):Int)-((0:Nat):Int)=Builtin.Range.rangeSize lo hi 1:=by rw[rangeSize_one];split<;>lia
  show IsRangeIter _ _ (lo+((0:Nat):Int)*1) ((((hi-lo).toNat:Nat):Int)-((0:Nat):Int)) 1;rw[e1,e2];exact Am _ rfl
 .have e:b=(s.heap.push {cls:=.type "range",data:=.fields #[.int lo t,.int hi u,.int 1 v]}).objs.size:=by simpa using hb
  subst e;exact I1.Fd (Aj _) (I1.aW.fresh (Aj _))
def LL(ta:TA):TI:=λσ H R=>ta σ H λvs H1=>∃j:Int,vs=[.int j]/\-(2 ^ 62)<=j/\j<2 ^ 62/\R (OI 0 j.toNat) H1
theorem ud{ta:TA}{p:Pos}(hg:Gl X "range")(hm:X.mg "range"=bn)(ha:PA X [a] ta)(hs:‹gt [a] X.env=[(false,jp a X.env)]›):PI X tg (.Call (.Name "range" p) [a] [] pos) (LL ta):=by
 intro Z s σ H R I h;refine Call_ (j7 I hg hm boot_range (Cm (bb (ha pos Z s σ H _ I h) λus s1 ⟨vs,H1,I1,r1,q1⟩=>?_) hs rfl));obtain⟨j,e,q1,q2,q⟩:=q1;subst e;cases r1 with
 |cons r rr=>
  cases rr;obtain⟨t,rfl⟩:=r;exact call_range_1 (vK I1 ∅ ∅ q1 q2 (by simpa using q))
def Pl(wi:TI)(g:TG)(tb:TS):TS:=λD σ H=>wi σ H λJ H1=>∃W:Nat->Nat->St->Hp->Prop,(∃m,W 0 m σ H1)/\∀i m σ H,W i m σ H->
 (J.stop i H/\D.nx σ H)\/(J.go i H/\∃N:St->Hp->Prop,(∀σ' H',N σ' H'->∃m',m'<m/\W (i+1) m' σ' H')/\∀x H',J.JA i H x H'->g x σ H' λσ2 H2=>tb {D with nx:=N,ct:=N,bk:=D.nx} σ2 H2)
def iH(fp:O ce)(h:io):O (ce×Obj):=fp.filterMap λb=>(h.get? b).map λo=>(b,o)
def eI(hb:b∈fp)(e:h.get? b=al o):(b,o)∈iH fp h:=Du.mpr ⟨b,hb,by rw[e];rfl⟩
def uh{p:ce×Obj}(hp:p∈iH fp h):p.1∈fp/\h.get? p.1=al p.2:=by
 obtain⟨b,hb,e⟩:=Du.mp hp;cases q:h.get? b with
 |none=>rw[q]at e;cases e
 |some o=>
  rw[q]at e;have e':=Option.some.inj e;subst e';exact⟨hb,q⟩
def Inv.pinned{s:db}(I:Inv X Z σ H s)(hf:∀b∈fp,ll X Z H b)(ho:∀b∈fp,∃o,s.heap.get? b=al o/\∀v,o.data≠.cell v):Inv X (Z++iH fp s.heap) σ H s:=
 I.rZ λp hp=>(Cf.mp hp).elim (λz=>I.pin p (AJ _ z)) λz=>by
  obtain⟨hb,e⟩:=uh z;obtain⟨f0,f1,f2,_⟩:=hf p.1 hb;obtain⟨o,e',d⟩:=ho p.1 hb;rw[e]at e';cases e';exact⟨e,f0,f1,f2,d⟩
def Inv.fe{pl:O (ce×Obj)}{s:db}(I:Inv X (Z++pl) σ H s):Inv X Z σ H s:=I.rZ λp hp=>I.pin p (AJ _ (BX _ hp))
def vS{wi:TI}{g:TG}{tb:TS}(hp:Da (gl X.prog X.w) X.A X.env X.xe)(hc:X.calm=true)(hi:PI X tg iter wi)(hg:PG X tg g)(hb:jb X body tb)(hs:uV X iter:=by intro _;rfl):PS X (.For tg iter body [] pos) (Pl wi g tb):=by
 intro Z s σ H D I h;refine wpAny_For (bb (hi Z s σ H _ I h) λv s1 h1=>bb h1 λQv s2 h2=>?_) hs;obtain⟨it,fp,tn,J,H2,e,I2,T,mz,f2,W,⟨m0,w0⟩,Í⟩:=h2;subst e;have Hj:∀{H':Hp},(∀b∈fp,H' b=bn)->∀b∈fp,ll X Z H' b:=λhn b hb=>⟨hn b hb,(f2 b hb).2⟩;refine codeAny_forLoop_any (λn s'=>∃i σ' H',Inv X Z σ' H' s'/\tn i s'.heap/\(∀b∈fp,H' b=bn)/\W i n σ' H') ?_ m0 ⟨0,σ,H2,I2,mz,λb hb=>(f2 b hb).1,w0⟩;rintro n s3 ⟨i,σ3,H3,I3,KA,L9,w3⟩;rcases Í i n σ3 H3 w3 with⟨stop,qn⟩|⟨go,N,hN,step⟩
 .refine BS hp (bb (T.done X rfl rfl rfl hc i Z s3 σ3 H3 X.xe I3 (Hj L9) KA stop) λr s4 ⟨hr,I4⟩=>?_);subst hr;exact Ce ⟨σ3,H3,I4,qn⟩
 .refine BS hp (bb (T.item X rfl rfl rfl hc i Z s3 σ3 H3 X.xe I3 (Hj L9) KA go) λr s4 ⟨u,hr,h4⟩=>?_);subst hr;refine BS hp (bb h4 λ_ s5 ⟨x,H5,I5,r5,y5,Hk,Rj⟩=>?_);refine BS hp (bb (hg _ s5 σ3 H5 x u _ (I5.pinned (Hj Rj) (T.obj _ _ Hk)) r5 (step x H5 y5)) λ_ s6 ⟨σ6,H6,I6,q6⟩=>?_);refine BS hp (bb (hb _ s6 σ6 H6 _ I6 q6) λf s7 q7=>?_);have again:∀{σ7:St}{H7:Hp},Inv X (Z++iH fp s5.heap) σ7 H7 s7->N σ7 H7->∃m,m<n/\∃i σ' H',Inv X Z σ' H' s7/\tn i s7.heap/\(∀b∈fp,H' b=bn)/\W i m σ' H':=λ{σ7 H7} I7 n7=>by
   obtain⟨m',hm,w7⟩:=hN σ7 H7 n7;refine⟨m',hm,i+1,σ7,H7,I7.fe,T.keep _ _ _ Hk λb hb o e=>(I7.pin (b,o) (AJ _ (AJ _ (eI hb e)))).1,λb hb=>?_,w7⟩;obtain⟨o,e,d⟩:=T.obj _ _ Hk b hb;exact(I7.pin (b,o) (AJ _ (AJ _ (eI hb e)))).2.1
  cases f with
  |next=>obtain⟨σ7,H7,I7,n7⟩:=q7;exact again I7 n7
  |cont=>obtain⟨σ7,H7,I7,n7⟩:=q7;exact again I7 n7
  |brk=>obtain⟨σ7,H7,I7,q7⟩:=q7;exact⟨σ7,H7,I7.fe,q7⟩
  |ret v=>obtain⟨x7,σ7,H7,I7,r7,q7⟩:=q7;exact⟨x7,σ7,H7,I7.fe,r7,q7⟩
end
end L2
variable{i:Int}{g:Int->Int->Int}{kR:PySem.CmpOp}{aw:O AO}
namespace L2
abbrev R2:=V->V->Hp->VK->Prop
def dQ(X:Cx)(f:ci->ci->Sem ci)(r:R2):Prop:=
 ∀(Z:O (ce×Obj)) (s:db) (σ:St) (H:Hp) (x y:V) (v u:ci) (Q:VK),Inv X Z σ H s->RelV x v->RelV y u->r x y H Q->
  f8 (gl X.prog X.w) X.A (f v u) (EP X Z σ Q) X.xe s
def RO(X:Cx)(f:ci->Sem ci)(r:V->Hp->VK->Prop):Prop:=
 ∀(Z:O (ce×Obj)) (s:db) (σ:St) (H:Hp) (x:V) (v:ci) (Q:VK),Inv X Z σ H s->RelV x v->r x H Q->
  f8 (gl X.prog X.w) X.A (f v) (EP X Z σ Q) X.xe s
def bE(X:Cx)(f:ci)(r:O V->Hp->VK->Prop):Prop:=
 ∀(Z:O (ce×Obj)) (s:db) (σ:St) (H:Hp) (xs:O V) (us:O ci) (Q:VK),Inv X Z σ H s->Vals xs us->r xs H Q->
  f8 (gl X.prog X.w) X.A (call f us) (EP X Z σ Q) X.xe s
def RP(X:Cx)(r:V->Hp->(Bool->Hp->Prop)->Prop):Prop:=
 ∀(Z:O (ce×Obj)) (s:db) (σ:St) (H:Hp) (x:V) (v:ci) (Q:Bool->Hp->Prop),Inv X Z σ H s->RelV x v->r x H Q->
  f8 (gl X.prog X.w) X.A (truthy v) (TP X Z σ Q) X.xe s
def JD(r:R2)(ta tb:TE):TE:=λσ H Q=>ta σ H λx H1=>tb σ H1 λy H2=>r x y H2 Q
def UT(r:V->Hp->VK->Prop)(ta:TE):TE:=λσ H Q=>ta σ H λx H1=>r x H1 Q
def rI(C:Int->Int->Prop)(g:Int->Int->V):R2:=λx y H Q=>∃i j,x=.int i/\y=.int j/\C i j/\Q (g i j) H
def Gm(g:Int->Int->V):R2:=λx y H Q=>∃i j,x=.int i/\y=.int j/\Q (g i j) H
def rU(g:Int->V):V->Hp->VK->Prop:=λx H Q=>∃i,x=.int i/\Q (g i) H
section
variable{b:im}
def Jn(ha:PE X a ta)(hb:PE X b tb){s:db}(I:Inv X Z σ H s)(h:ta σ H λx H1=>tb σ H1 λy H2=>R x y H2){f:ci->ci->Sem ci}(hf:∀v u s2 x y H2,Inv X Z σ H2 s2->RelV x v->RelV y u->R x y H2->f8 (gl X.prog X.w) X.A (f v u) Q X.xe s2):f8 (gl X.prog X.w) X.A (jp a X.env) (λv s₁=>f8 (gl X.prog X.w) X.A (jp b X.env) (λu s₂=>f8 (gl X.prog X.w) X.A (f v u) Q X.xe s₂) X.xe s₁) X.xe s:=by
 exact bb (ha Z s σ H _ I h) λv s1 ⟨x,H1,I1,r1,q1⟩=>bb (hb Z s1 σ H1 _ I1 q1) λu s2 ⟨y,H2,I2,r2,q2⟩=>hf v u s2 x y H2 I2 r1 r2 q2
def iY{op:Operator}{r:R2}(ho:dQ X (r9 op) r)(ha:PE X a ta)(hb:PE X b tb):PE X (.BinOp a op b pos) (JD r ta tb):=by
 intro Z s σ H Q I h;exact wpAny_BinOp (Jn ha hb I h λv u s2 x y H2 I2 rx ry q=>ho Z s2 σ H2 x y v u Q I2 rx ry q)
def oM{op:UnaryOp}{r:V->Hp->VK->Prop}(ho:RO X (unaryOp op) r)(ha:PE X a ta):PE X (.UnaryOp op a pos) (UT r ta):=by
 intro Z s σ H Q I h;exact UnaryOp_ (bb (ha Z s σ H _ I h) λv s1 ⟨x,H1,I1,r1,q1⟩=>ho Z s1 σ H1 x v Q I1 r1 q1)
def NC{f:ci->ci->Sem ci}{C:Int->Int->Prop}(rule:∀(i j:Int) (t u:Tok) (s:db) (Q:ci->db->Prop) (E:ci->db->Prop),C i j->Q (.int (g i j) s.toks) {s with toks:=s.toks+1}->f8 (gl X.prog X.w) X.A (f (.int i t) (.int j u)) Q E s):dQ X f (rI C λi j=>.int (g i j)):=by
 intro Z s σ H x y v u Q I rx ry h;obtain⟨i,j,rfl,rfl,hc,q⟩:=h;obtain⟨t,rfl⟩:=rx;obtain⟨t',rfl⟩:=ry;exact rule i j t t' s _ _ hc ⟨.int (g i j),H,I.tok _,⟨_,rfl⟩,q⟩
def Lj{f:ci->ci->Sem ci}(rule:∀(i j:Int) (t u:Tok) (s:db) (Q:ci->db->Prop) (E:ci->db->Prop),Q (.int (g i j) s.toks) {s with toks:=s.toks+1}->f8 (gl X.prog X.w) X.A (f (.int i t) (.int j u)) Q E s):dQ X f (Gm λi j=>.int (g i j)):=by
 intro Z s σ H x y v u Q I rx ry h;obtain⟨i,j,rfl,rfl,q⟩:=h;obtain⟨t,rfl⟩:=rx;obtain⟨t',rfl⟩:=ry;exact rule i j t t' s _ _ ⟨.int (g i j),H,I.tok _,⟨_,rfl⟩,q⟩
def HM{f:ci->ci->Sem ci}{g:Int->Int->Bool}(rule:∀(i j:Int) (t u:Tok) (s:db) (Q:ci->db->Prop) (E:ci->db->Prop),Q (.bool (g i j)) s->f8 (gl X.prog X.w) X.A (f (.int i t) (.int j u)) Q E s):dQ X f (Gm λi j=>.bl (g i j)):=by
 intro Z s σ H x y v u Q I rx ry h;obtain⟨i,j,rfl,rfl,q⟩:=h;obtain⟨t,rfl⟩:=rx;obtain⟨t',rfl⟩:=ry;exact rule i j t t' s _ _ ⟨.bl (g i j),H,I,rfl,q⟩
def yD(i j:Int):Prop:=0<j/\j<1073741824
def yC(i j:Int):Prop:=0<=j/\j<=1000000/\i.natAbs<2 ^ 64
def FZ(i j:Int):Prop:=(-(2 ^ 64)<i/\i<2 ^ 64)\/(-(2 ^ 64)<j/\j<2 ^ 64)
def FZ.ok{j:Int}(h:FZ i j):xz i j:=by
 rcases h with⟨h1,h2⟩|⟨h1,h2⟩
 .exact .of_left (intBits_le_64 h1 h2)
 .exact .of_right (intBits_le_64 h1 h2)
def wu:dQ X (r9 .Add) (Gm λi j=>.int (i+j)):=Lj λ_ _ _ _ _ _ _ q=>add_int q
def wo:dQ X (r9 .Sub) (Gm λi j=>.int (i-j)):=Lj λ_ _ _ _ _ _ _ q=>sub_int q
theorem zC:dQ X (r9 .FloorDiv) (rI yD λi j=>.int (i / j)):=NC λi j _ _ _ _ _ hc q=>by
 have h1:(0:Int)<j:=hc.1;have h2:j<1073741824:=hc.2;exact floordiv_int ∅ (by rw[Int.fdiv_eq_ediv_of_nonneg i ∅];exact q) (.inl (PyProof.noPylong_small ∅))
theorem HI:dQ X (r9 .Mod) (rI (λ_ j=>0<j) λi j=>.int (i % j)):=NC λi j _ _ _ _ _ hc q=>by
 have h1:(0:Int)<j:=hc;exact mod_int' ∅ (by rw[Int.fmod_eq_emod_of_nonneg i ∅];exact q)
def HG:dQ X (r9 .Pow) (rI yC λi j=>.int (i ^ j.toNat)):=NC λ_ _ _ _ _ _ _ hc q=>pow_int_small hc.1 hc.2.1 hc.2.2 q
def UK{f:ci->Sem ci}{g:Int->Int}(rule:∀(i:Int) (t:Tok) (s:db) (Q:ci->db->Prop) (E:ci->db->Prop),Q (.int (g i) s.toks) {s with toks:=s.toks+1}->f8 (gl X.prog X.w) X.A (f (.int i t)) Q E s):RO X f (rU λi=>.int (g i)):=by
 intro Z s σ H x v Q I rx h;obtain⟨i,rfl,q⟩:=h;obtain⟨t,rfl⟩:=rx;exact rule i t s _ _ ⟨.int (g i),H,I.tok _,⟨_,rfl⟩,q⟩
def jI:RO X (unaryOp .USub) (rU λi=>.int (-i)):=UK λ_ _ _ _ _ q=>neg_int q
end
def Pw:V->V->Bool
 |.a8,.a8=>true|.a8,.int _=>true|.int _,.a8=>true|.a8,.bl _=>true|.bl _,.a8=>true|.a8,.str _=>true|.str _,.a8=>true
 |.int _,.int _=>true|.bl _,.bl _=>true|.str _,.str _=>true|.tF _,.tF _=>true
 |.int _,.str _=>true|.str _,.int _=>true|.bl _,.str _=>true|.str _,.bl _=>true
 |_,_=>false
def U2:R2:=λx y H Q=>Pw x y=true/\Q (.bl (decide (x=y))) H
def Fw{j:Int}:decide (V.int i=V.int j)=(i==j):=by
 rw[CF];simp
def Ji{i j:Bool}:decide (V.bl i=V.bl j)=(i==j):=by
 rw[CF];simp
def Fv{i j:Str}:decide (V.str i=V.str j)=(i==j):=by
 rw[CF];simp
def Fy{i j:Array UInt8}:decide (V.tF i=V.tF j)=(i.toList==j.toList):=by
 rw[CF];cases i;cases j;simp
section
variable{b c:im}{tc:TE}
def bK{s:db}{Q:VK}{k k':Bool}(I:Inv X Z σ H s)(q:Q (.bl k) H)(e:k=k'):EP X Z σ Q (.bool k') s:=by
 subst e;exact⟨.bl k,H,I,rfl,q⟩
def Li:dQ X (mo .Eq) U2:=by
 intro Z s σ H x y v u Q I rx ry h;obtain⟨hs,q⟩:=h;cases x with
 |a8=>
  cases rx;cases y with
  |a8=>cases ry;exact PySem.EqNone.eq_none_none (bK I q (by simp))
  |bl j=>cases ry;exact PySem.EqNone.eq_none_bool (bK I q (by simp))
  |int j=>obtain⟨t',rfl⟩:=ry;exact PySem.EqNone.eq_none_int (bK I q (by simp))
  |str j=>obtain⟨t',rfl⟩:=ry;exact PySem.EqNone.eq_none_str (bK I q (by simp))
  |_=>exact absurd (hs) AL
 |bl i=>
  cases rx;cases y with
  |a8=>cases ry;exact PySem.EqNone.eq_bool_none (bK I q (by simp))
  |bl j=>cases ry;exact eq_bool (bK I q Ji)
  |str j=>obtain⟨t',rfl⟩:=ry;exact PySem.EqMixed.eq_bool_str (bK I q (by simp))
  |_=>exact absurd (show false=true from hs) AL
 |int i=>
  obtain⟨t,rfl⟩:=rx;cases y with
  |a8=>cases ry;exact PySem.EqNone.eq_int_none (bK I q (by simp))
  |int j=>obtain⟨t',rfl⟩:=ry;exact eq_int (bK I q Fw)
  |str j=>obtain⟨t',rfl⟩:=ry;exact PySem.EqMixed.eq_int_str (bK I q (by simp))
  |_=>exact absurd (show false=true from hs) AL
 |str i=>
  obtain⟨t,rfl⟩:=rx;cases y with
  |a8=>cases ry;exact PySem.EqNone.eq_str_none (bK I q (by simp))
  |bl j=>cases ry;exact PySem.EqMixed.eq_str_bool (bK I q (by simp))
  |int j=>obtain⟨t',rfl⟩:=ry;exact PySem.EqMixed.eq_str_int (bK I q (by simp))
  |str j=>obtain⟨t',rfl⟩:=ry;exact eq_str (bK I q Fv)
  |_=>exact absurd (show false=true from hs) AL
 |tF i=>
  obtain⟨t,rfl⟩:=rx;cases y with
  |tF j=>obtain⟨t',rfl⟩:=ry;exact PySem.W.eq_bytes (bK I q Fy)
  |_=>exact absurd (show false=true from hs) AL
 |_=>cases y<;>exact absurd (show false=true from hs) AL
def si:dQ X (mo .Lt) (Gm λi j=>.bl (decide (i<j))):=HM λ_ _ _ _ _ _ _ q=>lt_int q
def Lg:dQ X (mo .Gt) (Gm λi j=>.bl (decide (j<i))):=HM λ_ _ _ _ _ _ _ q=>gt_int q
def Lh:dQ X (mo .GtE) (Gm λi j=>.bl (decide (j<=i))):=HM λ_ _ _ _ _ _ _ q=>ge_int q
def lQ:dQ X (mo .In) (λx y H Q=>∃i j,x=.str i/\y=.str j/\Q (.bl (!(Builtin.Str.occurrences j i 0 j.length 1).isEmpty)) H):=by
 intro Z s σ H x y v u Q I rx ry h;obtain⟨i,j,rfl,rfl,q⟩:=h;obtain⟨t,rfl⟩:=rx;obtain⟨t',rfl⟩:=ry;exact in_str (bK I q rfl)
def wq:dQ X (mo .Is) (λx y H Q=>y=.a8/\Q (.bl (decide (x=.a8))) H):=by
 intro Z s σ H x y v u Q I rx ry h;obtain⟨rfl,q⟩:=h;cases ry;refine is_none_gen (bK I q ?_);cases x<;>first
  |(cases rx;rfl)
  |(obtain⟨t,rfl⟩:=rx;rfl)
def zA:dQ X (mo .IsNot) (λx y H Q=>y=.a8/\Q (.bl (!decide (x=.a8))) H):=by
 intro Z s σ H x y v u Q I rx ry h;obtain⟨rfl,q⟩:=h;cases ry;refine isnot_none_gen (bK I q ?_);cases x<;>first
  |(cases rx;rfl)
  |(obtain⟨t,rfl⟩:=rx;rfl)
def dQ.or{f:ci->ci->Sem ci}{r r':R2}(h:dQ X f r)(h':dQ X f r'):dQ X f (λx y H Q=>r x y H Q\/r' x y H Q):=by
 intro Z s σ H x y v u Q I rx ry q;rcases q with q|q
 .exact h Z s σ H x y v u Q I rx ry q
 .exact h' Z s σ H x y v u Q I rx ry q
def cH(b:im)(h: ~~~(op≠.In))(h2: ~~~(op≠.NotIn)):pr op b=false:=by
 have e1:(op==CmpOp.In)=false:=by cases op<;>first|rfl|exact absurd rfl h
 have e2:(op==CmpOp.NotIn)=false:=by cases op<;>first|rfl|exact absurd rfl h2
 cases b<;>simp[pr,e1,e2]
def jv{r:R2}(ho:dQ X (mo op) r)(ha:PE X a ta)(hb:PE X b tb)(hm:pr op b=false):PE X (.Compare a [op] [b] pos) (JD r ta tb):=by
 intro Z s σ H Q I h;exact wpAny_Compare1 (Jn ha hb I h λv u s2 x y H2 I2 rx ry q=>ho Z s2 σ H2 x y v u Q I2 rx ry q) hm
def F7(t:TE):TT:=λσ H Q=>t σ H λx H'=>∃k,x=.bl k/\Q k H'
def dj{r:R2}(ho:dQ X (mo op) r)(ha:PE X a ta)(hb:PE X b tb)(hm:pr op b=false):PT X (.Compare a [op] [b] pos) (F7 (JD r ta tb)):=by
 intro Z s σ H Q I h;refine wpAny_isTrue_Compare1 (bb (ha Z s σ H _ I h) λv s1 ⟨x,H1,I1,r1,q1⟩=>bb (hb Z s1 σ H1 _ I1 q1) λu s2 ⟨y,H2,I2,r2,q2⟩=>
  bb (ho Z s2 σ H2 x y v u _ I2 r1 r2 q2) λc s3 ⟨z,H3,I3,r3,k,e,q3⟩=>?_) hm
 subst e;cases r3;exact A7 ⟨H3,I3,q3⟩
def vp(r r':R2)(ta tb tc:TE):TE:=λσ H Q=>ta σ H λx H1=>tb σ H1 λy H2=>r x y H2 λz H3=>∃k,z=.bl k/\
 (if k=true then tc σ H3 λw' H4=>r' y w' H4 Q else Q (.bl false) H3)
def vQ{r r':R2}(ho:dQ X (mo op) r)(E5:dQ X (mo kR) r')(ha:PE X a ta)(hb:PE X b tb)(hc:PE X c tc)(hm:lastMarks [op,kR] [b,c]=false:=by with_unfolding_all rfl):PT X (.Compare a [op,kR] [b,c] pos) (F7 (vp r r' ta tb tc)):=by
 intro Z s σ H Q I h;refine isTrue_chain (bb (ha Z s σ H _ I h) λv s1 ⟨x,H1,I1,r1,q1⟩=>test_link (bb (hb Z s1 σ H1 _ I1 q1) λu s2 ⟨y,H2,I2,r2,q2⟩=>
  bb (ho Z s2 σ H2 x y v u _ I2 r1 r2 q2) λd s3 ⟨z,H3,I3,r3,k,e,q3⟩=>?_)) hm
 subst e;cases r3;refine A7 ?_;cases k with
 |false=>
  obtain⟨k',e',q'⟩:=q3;cases e';exact ite_ff ⟨H3,I3,q'⟩
 |true=>
  refine ite_tt (test_last (bb (hc Z s3 σ H3 _ I3 q3) λw' s4 ⟨z',H4,I4,r4,q4⟩=>bb (E5 Z s4 σ H4 y z' u w' _ I4 r2 r4 q4) λd' s5 ⟨z2,H5,I5,r5,k2,e2,q5⟩=>?_));subst e2;cases r5;exact A7 ⟨H5,I5,q5⟩
def FN(K:Aa)(x:V)(H:Hp)(k:Bool):Prop:=
 match x with
 |.a8=>k=false
 |.bl b=>k=b
 |.int i=>k=(i != 0)
 |.str y=>y.length<=sizeLine/\k=((y.length:Int) != 0)
 |.tF y=>y.size<=sizeLine/\k=((y.size:Int) != 0)
 |.ref p=>(∃xs,cX K H p xs/\k=!xs.isEmpty)\/(∃xs,dP K H p xs/\k=!xs.isEmpty)\/∃aZ,H p=al (.dK aZ)/\k=!aZ.isEmpty
 |_=>False
def qM{κ:Type}{aZ:O (κ×V)}{vs:O (κ×ci)}(r:KV aZ vs):(!vs.isEmpty)=!aZ.isEmpty:=by
 cases r<;>rfl
def j9(r:Vals xs aw):(!aw.toArray.isEmpty)=!xs.isEmpty:=by
 cases r<;>simp
def mZ:(sizeLine:Nat)<2 ^ 63:=by rw[pc];decide
theorem G9:RP X (λx H Q=>∃k,FN X.K x H k/\Q k H):=by
 intro Z s σ H x v Q I rx h;obtain⟨k,e,q⟩:=h;have hs:=pc;cases x with
 |a8=>
  cases rx;have e':=e;subst e';exact truthy_none ⟨H,I,q⟩
 |bl b=>
  cases rx;have e':=e;subst e';exact A7 ⟨H,I,q⟩
 |int i=>
  obtain⟨t,rfl⟩:=rx;have e':=e;subst e';exact PySem.P.truthy_int ⟨H,I,q⟩
 |str y=>
  obtain⟨t,rfl⟩:=rx;obtain⟨hy,e'⟩:y.length<=sizeLine/\k=((y.length:Int) != 0):=e;subst e';exact PySem.P.truthy_str ∅ ⟨H,I.tok _,q⟩
 |tF y=>
  obtain⟨t,rfl⟩:=rx;obtain⟨hy,e'⟩:y.size<=sizeLine/\k=((y.size:Int) != 0):=e;subst e';exact PySem.W.truthy_bytes ∅ ⟨H,I.tok _,q⟩
 |ref p=>
  cases rx;have e':=e;rcases e' with⟨xs,hx,e'⟩|⟨xs,hx,e'⟩|⟨aZ,hx,e'⟩
  .subst e';obtain⟨aw,r,pl,hz⟩:=I.list hx;have Ä:=r.length;exact wpAny_truthy_list pl.isList (by simp;lia) ⟨H,I.tok _,by rw[j9 r];exact q⟩
  .subst e';obtain⟨aw,r,pl,hz⟩:=I.tuple hx;have Ä:=r.length;exact truthy_tuple pl (by simp only[Al];lia) ⟨H,I.tok _,by rw[j9 r];exact q⟩
  .subst e';obtain⟨hz,hS,vs,r,m⟩:aZ.length<=sizeLine/\(p==FS)=false/\∃vs,KV aZ vs/\s.heap.DictOf (cq X.prog X.w) p vs:=I.aW p _ hx;have Ä:=Paired.length r;exact wpAny_truthy_dict hS m ∅ ⟨H,I.tok _,by rw[qM r];exact q⟩
 |_=>exact(e).elim
def vP(ha:PE X a ta)(he:∀Ã,isTrue a X.env Ã=(do let v <- Ã;FB a.pos;pi [v] (truthy v))):PT X a (λσ H Q=>ta σ H λx H'=>∃k,FN X.K x H' k/\Q k H'):=by
 intro Z s σ H Q I h;exact isTrue_plain (bb (ha Z s σ H _ I h) λv s1 ⟨x,H1,I1,r1,q1⟩=>G9 Z s1 σ H1 x v Q I1 r1 q1) (he _)
def qD:dQ X (r9 .Add) (λx y H Q=>∃i j,x=.str i/\y=.str j/\i.length+j.length<=sizeLine/\Q (.str (i++j)) H):=by
 intro Z s σ H x y v u Q I rx ry h;obtain⟨i,j,rfl,rfl,hz,q⟩:=h;obtain⟨t,rfl⟩:=rx;obtain⟨t',rfl⟩:=ry;exact add_str (λt' tk=>⟨.str (i++j),H,I.tok _,⟨_,rfl⟩,q⟩) hz
def vals1{x:V}(r:Vals [x] us):∃u,us=[u]/\RelV x u:=by
 cases r with
 |cons r1 r2=>cases r2;exact⟨_,rfl,r1⟩
def vals2{x:V}(r:Vals [x,y] us):∃u w',us=[u,w']/\RelV x u/\RelV y w':=by
 cases r with
 |cons r1 r2=>
  cases r2 with
  |cons r3 r4=>cases r4;exact⟨_,_,rfl,r1,r3⟩
def yd:bE X (.builtin "abs") (λxs H Q=>∃i,xs=[.int i]/\Q (.int (if i < 0 then -i else i)) H):=by
 intro Z s σ H xs us Q I r h;obtain⟨i,rfl,q⟩:=h;obtain⟨u,rfl,t,rfl⟩:=vals1 r;exact call_abs_int λu tk=>⟨.int (if i<0 then -i else i),H,I.tok _,⟨_,rfl⟩,q⟩
def uM(hc:X.calm=true):bE X (.builtin "max") (λxs H Q=>∃i j,xs=[.int i,.int j]/\Q (.int (if j > i then j else i)) H):=by
 intro Z s σ H xs us Q I r h;obtain⟨i,j,rfl,q⟩:=h;obtain⟨u,w',rfl,⟨t,rfl⟩,⟨t',rfl⟩⟩:=vals2 r;refine max_two_ints (I.ok.hd hc) λh' tk k=>⟨_,H,I.kept k,?_,q⟩;by_cases hj:j > i
 .rw[if_pos hj,if_pos hj];exact⟨_,rfl⟩
 .rw[if_neg hj,if_neg hj];exact⟨_,rfl⟩
def uL(hc:X.calm=true):bE X (.builtin "min") (λxs H Q=>∃i j,xs=[.int i,.int j]/\Q (.int (if j < i then j else i)) H):=by
 intro Z s σ H xs us Q I r h;obtain⟨i,j,rfl,q⟩:=h;obtain⟨u,w',rfl,⟨t,rfl⟩,⟨t',rfl⟩⟩:=vals2 r;refine min_two_ints (I.ok.hd hc) λh' tk k=>⟨_,H,I.kept k,?_,q⟩;by_cases hj:j<i
 .rw[if_pos hj,if_pos hj];exact⟨_,rfl⟩
 .rw[if_neg hj,if_neg hj];exact⟨_,rfl⟩
def uP:bE X (.type "int") (λxs H Q=>(∃i,xs=[.int i]/\Q (.int i) H)\/∃k,xs=[.bl k]/\Q (.int (if k then 1 else 0)) H):=by
 intro Z s σ H xs us Q I r h;rcases h with⟨i,rfl,q⟩|⟨k,rfl,q⟩
 .obtain⟨u,rfl,t,rfl⟩:=vals1 r;exact call_int_int ⟨.int i,H,I,⟨_,rfl⟩,q⟩
 .obtain⟨u,rfl,r1⟩:=vals1 r;cases r1;exact call_int_bool ⟨.int (if k then 1 else 0),H,I.tok _,⟨_,rfl⟩,q⟩
def Na(K:Aa)(x:V)(H:Hp)(n:Nat):Prop:=
 match x with
 |.str y=>y.length<=sizeLine/\n=y.length
 |.tF y=>y.size<=sizeLine/\n=y.size
 |.ref p=>(∃xs,cX K H p xs/\n=xs.length)\/∃xs,dP K H p xs/\n=xs.length
 |_=>False
theorem yc:bE X (.builtin "len") (λxs H Q=>∃x n,xs=[x]/\Na X.K x H n/\Q (.int n) H):=by
 intro Z s σ H xs us Q I r h;obtain⟨x,n,rfl,e,q⟩:=h;obtain⟨u,rfl,rx⟩:=vals1 r;have hs:=pc;cases x with
 |str y=>
  obtain⟨t,rfl⟩:=rx;obtain⟨hy,e'⟩:y.length<=sizeLine/\n=y.length:=e;subst e';exact len_str ∅ ⟨.int _,H,I.tok _,⟨_,rfl⟩,q⟩
 |tF y=>
  obtain⟨t,rfl⟩:=rx;obtain⟨hy,e'⟩:y.size<=sizeLine/\n=y.size:=e;subst e';exact PySem.W.len_bytes ∅ ⟨.int _,H,I.tok _,⟨_,rfl⟩,q⟩
 |ref p=>
  cases rx;have e':=e;rcases e' with⟨xs,hx,e'⟩|⟨xs,hx,e'⟩
  .subst e';obtain⟨aw,r',pl,hz⟩:=I.list hx;have Ä:=r'.length;exact Calls.call_len_list pl.isList (by simp;lia) ⟨.int xs.length,H,I.tok _,⟨_,by simp only[Al];rw[Ä]⟩,q⟩
  .subst e';obtain⟨aw,r',pl,hz⟩:=I.tuple hx;have Ä:=r'.length;exact len_tuple pl (by simp only[Al];lia) ⟨.int xs.length,H,I.tok _,⟨_,by simp only[Al];rw[Ä]⟩,q⟩
 |_=>exact(e).elim
end
end L2
variable{a:AN}{o:Option AO}{R:PySem.Result->BW->Prop}{pl:PySem.Sem Bool}{mA:Bt->Option AO}{prog:PySem.Program}{kw:O (Bt×AO)}{env:PySem.Env}{Á:Bu}{gI À:Cs}
namespace L2
structure rz(h:io)(x dx C:ce)(mA:Str->Option ci):Prop where
 obj:h.get? x=al (BG C dx)
 ns:h.Ns1 dx mA
 ne:dx≠x
def lW{dx:ce}(n:h.Ns1 dx mA):∃od,h.get? dx=al od/\∀name,Dk name od=al (mA name):=by
 obtain⟨o,es,ep,ho,hd,hk,_,hm⟩:=n;refine⟨o,ho,λname=>?_⟩;have e:=hm name;unfold nsFind findBy at e;rw[<- Array.find?_toList]at e;unfold Dk;rw[hd];dsimp only
 split
 .rename_i y q;rw[q]at e;exact congrArg al e
 .rename_i q;rw[q]at e;have a:es.toList.any (·.refKey)=false:=by
   rw[List.any_eq_false];intro y hy;obtain⟨z,t,QO⟩:=hk y (Array.mem_toList_iff.mp hy);simp[DictEntry.refKey,QO]
  have a':¬es.toList.any (·.refKey)=true:=by rw[a];exact AL
  rw[if_neg a'];exact congrArg al e
def rz.look{x dx C:ce}(I:rz h x dx C mA):∃od,CK h x (BG C dx) C (al od)/\∀name,Dk name od=al (mA name):=
 let ⟨od,ho,hl⟩:=lW I.ns
 ⟨od,⟨I.obj,rfl,rfl,ho⟩,hl⟩
section
variable{s:db}{K:Aa}{x dx C f:ce}{name:Str}{v:ci}
def get_map{expr:Bool}(X:K.In s.heap)(I:rz s.heap x dx C mA)(hg:Cq K C name=true)(hh:BC K C=true)(ha:Ao K (.ref C) name=al bn)(hv:mA name=al v)(NN:EN v=true)(h:Q v {s with toks:=s.toks+1}):f8 (gl prog w) A (getAttr (.ref x) name expr) Q E s:=by
 obtain⟨od,J,hl⟩:=I.look;exact PySem.W.get_value X J (C8 hg).1 (Ex hh ha rfl (by rw[hl,hv])) NN h
def xq{Q:ci×O ci->db->Prop}(X:K.In s.heap)(I:rz s.heap x dx C mA)(hg:Cq K C name=true)(hf:Ao K (.ref C) name=al (al (.ref f)))(ht:B9 K (.ref f)=true)(hv:mA name=bn)(h:Q (.ref f,[.ref x]) s):f8 (gl prog w) A (getMethod (.ref x) name pl) Q E s:=by
 obtain⟨od,J,hl⟩:=I.look;exact PySem.W.method_fn X J (C8 hg).1 (C8 hg).2 hf (beq_iff_eq.mp ht) (by show(Dk name od).map (·.isSome)=al false;rw[hl,hv];rfl) h
theorem zb{ns:O Str}{Q:Unit->db->Prop}(X:K.In s.heap)(I:rz s.heap x dx C mA)(hs:Ao K (.ref C) "__setattr__"=al (al (.builtin "object.__setattr__")))(hp:Dw K C=true)(ht:D9 K C name=al bn)(hh:BC K C=true)(hw:EJ mA ns)(E2:ns.length<=sizeLine)(h:∀h',rz h' x dx C (λy=>if y=name then al v else mA y)->CN dx s.heap h'->Q () {s with heap:=h',toks:=s.toks+2}):f8 (gl prog w) A (setAttr (.ref x) name v) Q E s:=by
 obtain⟨od,J,hl⟩:=I.look;refine EI X J hs (PySem.W.osa_open X J hp ht λb=>?_);obtain⟨cd,hc,Q1⟩:=Cr hh;refine Ab (Ae (Ab (Ab (AU I.obj (Ab (AM.here (s:={s with toks:=s.toks+1}) (B3 X hc) ?_))))));rw[Q1];refine Ae (Ab (Ae (Ab ?_)));refine wpAny_nsSet1 (s:={s with toks:=s.toks+1}) I.ns λh' ID NQ=>?_;obtain⟨oD,Xx,Xy,QI,QZ,xo⟩:=ID.count (EH name v hw);exact Ab (wpAny_lookBehind QI (by rw[QZ];exact pastItsLine_dict (Av xo (by rw[Ah];lia))) (Ae (h _ ⟨(NQ.2 _ (BO I.ne)).trans I.obj,ID,I.ne⟩ NQ)))
def wJ{vs:O ci}(X:K.In s.heap)(hm:Ea K C=true)(hi:Ao K (.ref C) "__init__"=al (al (.ref f)))(hf:Dj K (.ref f)=al (.type "function"))(h:FM (gl prog w) (A.under (.builtin "type.__call__" ⟨.ref C::vs,kw⟩)) (.call (.ref f) ⟨.ref (s.heap.objs.size+1)::vs,kw⟩) (EO (s.heap.objs.size+1) R)
   {s with heap:=(s.heap.push Bf).push (BG C s.heap.objs.size)}):FM (gl prog w) A (.call (.ref C) ⟨vs,kw⟩) R s:=by
 obtain⟨hh,g,d,t,os⟩:=s;exact PySem.W.make_core (PySem.W.makes_of X hm) (Bk X hi) (λself=>PySem.W.bind_fn X self hf) (.inl rfl) h
end
def eY(f:Str)(v:V):O (Str×V)->O (Str×V)
 |[]=>[(f,v)]
 |(g,x)::r=>if g=f then (g,v)::r else (g,x)::eY f v r
theorem iZ(f g:Str)(v:V):∀fs:O (Str×V),(eY f v fs).lookup g=if g=f then al v else fs.lookup g
 |[]=>by
  show B7 g [(f,v)]=_;by_cases h:g=f
  .have hb:(g==f)=true:=beq_iff_eq.mpr h;simp only[B7,hb,if_pos h]
  .have hb:=beq_eq_false_iff_ne.mpr h;simp only[B7,hb,if_neg h]
 |(k,x)::r=>by
  rw[show eY f v ((k,x)::r)=(if k=f then (k,v)::r else (k,x)::eY f v r) from rfl];by_cases hk:k=f
  .rw[if_pos hk];by_cases h:g=k
   .simp only[B7,(beq_iff_eq.mpr h),if_pos (h.trans hk)]
   .simp only[B7,(beq_eq_false_iff_ne.mpr h),if_neg (λe:g=f=>h (e.trans hk.symm))]
  .rw[if_neg hk];by_cases h:g=k
   .simp only[B7,(beq_iff_eq.mpr h),if_neg (λe:g=f=>hk (h.symm.trans e))]
   .simp only[B7,(beq_eq_false_iff_ne.mpr h)];exact(iZ f g v r)
theorem iO(f:Str)(v:V):∀fs:O (Str×V),f∈(eY f v fs).map (·.1)/\∀g,g∈fs.map (·.1)->g∈(eY f v fs).map (·.1)
 |[]=>⟨by simp[eY],λg h=>by simp at h⟩
 |(k,x)::r=>by
  obtain⟨i1,i2⟩:=iO f v r;rw[show eY f v ((k,x)::r)=(if k=f then (k,v)::r else (k,x)::eY f v r) from rfl];by_cases hk:k=f
  .subst hk;exact⟨by simp,λg h=>by simpa using h⟩
  .rw[if_neg hk];refine⟨?_,λg h=>?_⟩
   .exact AH _ i1
   .rcases Au.mp h with e|e
    .exact Au.mpr (.inl e)
    .exact AH _ (i2 g e)
theorem i4(f:Str)(v:V):∀fs:O (Str×V),(eY f v fs).length<=fs.length+1
 |[]=>by simp[eY]
 |(k,x)::r=>by
  have ih:=i4 f v r;rw[show eY f v ((k,x)::r)=(if k=f then (k,v)::r else (k,x)::eY f v r) from rfl];by_cases hk:k=f
  .rw[if_pos hk,Ah,Ah];lia
  .rw[if_neg hk,Ah,Ah];lia
def lj.some_of(r:lj (al v) o):∃u,o=al u/\RelV v u:=by
 cases o with
 |none=>exact(r).elim
 |some u=>exact⟨u,rfl,r⟩
def lj.none_of(r:lj bn o):o=bn:=by
 cases o with
 |none=>rfl
 |some u=>exact(r).elim
def uF(r:RelV v u):EN u=true:=by
 cases v with
 |a8=>cases (r);rfl
 |bl b=>cases (r);rfl
 |int i=>obtain⟨t,e⟩:=(r);cases e;rfl
 |str x=>obtain⟨t,e⟩:=(r);cases e;rfl
 |tF b=>obtain⟨t,e⟩:=(r);cases e;rfl
 |IK b=>obtain⟨t,e⟩:=(r);cases e;rfl
 |ref a=>cases (r);rfl
 |ty n=>cases (r);rfl
section
variable{C dx:ce}{fs:O (Str×V)}
def jA(aW:fR P w H h)(e:H a=al (.ins C dx fs)):∃mA,rz h a dx C mA/\(∀f,lj (fs.lookup f) (mA f))/\EJ mA (fs.map (·.1))/\fs.length<=1000/\H dx=al (.own a):=by
 obtain⟨d,z,ne,ob,mA,n,r,q⟩:=(aW a _ e);exact⟨mA,⟨ob,n,ne⟩,r,q,z,d⟩
end
structure tN(K:Aa)(C:ce):Prop where
 pg:Cq K C Cg=true
 hd:BC K C=true
 po:Dw K C=true
 sa:Ao K (.ref C) "__setattr__"=al (al (.builtin "object.__setattr__"))
def tN.get{K:Aa}{C:ce}(c:tN K C)(f:Str):Cq K C f=true:=c.pg
def cJ(K:Aa)(C:ce)(f:Str):Prop:=Ao K (.ref C) f=al bn
def cJ.taker{K:Aa}{C:ce}{f:Str}(n:cJ K C f):D9 K C f=al bn:=by
 unfold D9;rw[show Ao K (.ref C) f=al bn from n];rfl
structure Meth(K:Aa)(C:ce)(m:Str)(f:ce):Prop where
 at_:Ao K (.ref C) m=al (al (.ref f))
 fn:B9 K (.ref f)=true
 kp:AG K (.ref f)=true
section
variable{s:db}{C dx:ce}{fs:O (Str×V)}{f:Str}
def qU{b:Bool}(I:Inv X Z σ H s)(e:H a=al (.ins C dx fs))(c:tN X.K C)(n:cJ X.K C f)(l:fs.lookup f=al v)(h:∀u s',Inv X Z σ H s'->RelV v u->Q u s'):f8 (gl X.prog X.w) A (getAttr (.ref a) f b) Q E s:=by
 obtain⟨mA,O_,r,_,_,_⟩:=jA I.aW e;obtain⟨u,hu,ru⟩:=lj.some_of (by rw[<- l];exact r f);exact get_map I.cR O_ (c.get f) c.hd n hu (uF ru) (h u _ (I.tok _) ru)
def ke{m:Str}{g:ce}{Q:ci×O ci->db->Prop}(I:Inv X Z σ H s)(e:H a=al (.ins C dx fs))(c:tN X.K C)(k:Meth X.K C m g)(l:fs.lookup m=bn)(h:Q (.ref g,[.ref a]) s):f8 (gl X.prog X.w) A (getMethod (.ref a) m pl) Q E s:=by
 obtain⟨mA,O_,r,_,_,_⟩:=jA I.aW e;exact xq I.cR O_ (c.get m) k.at_ k.fn (lj.none_of (by rw[<- l];exact r m)) h
theorem ql{Q:Unit->db->Prop}(I:Inv X Z σ H s)(e:H a=al (.ins C dx fs))(c:tN X.K C)(n:cJ X.K C f)(hl:fs.length<1000)(ry:RelV y u)(h:∀s',Inv X Z σ (upd H a (.ins C dx (eY f y fs))) s'->Q () s'):f8 (gl X.prog X.w) A (setAttr (.ref a) f u) Q E s:=by
 obtain⟨mA,O_,r,wi,_,ho⟩:=jA I.aW e;have hz:(fs.map (·.1)).length<=sizeLine:=by rw[AB,pc];lia
 refine zb I.cR O_ c.sa c.po n.taker c.hd wi hz λh' O' sb=>h _ ?_;have hd:∃o,h'.get? dx=al o:=let ⟨o,_,_,e',_⟩:=O'.ns;⟨o,e'⟩;refine I.write (by rw[e];exact B8) (.inr ho) (λb q hb z=>(sb.2 b hb).trans z) hd ?_;refine⟨by rw[ag O_.ne];exact ho,?_,O_.ne,O'.obj,_,O'.ns,λg=>?_,λg hg=>?_⟩
 .have:=i4 f y fs;lia
 .rw[iZ];by_cases q:g=f
  .rw[if_pos q,if_pos q];exact ry
  .rw[if_neg q,if_neg q];exact r g
 .by_cases q:g=f
  .rw[q];exact(iO f y fs).1
  .refine(iO f y fs).2 g (wi g λz=>hg ?_);show(if g=f then al u else mA g)=bn;rw[if_neg q];exact z
def Inv.made(I:Inv X Z σ H s):Inv X Z σ (upd (upd H s.heap.objs.size (.own (s.heap.objs.size+1))) (s.heap.objs.size+1) (.ins C s.heap.objs.size [])) {s with heap:=(s.heap.push Bf).push (BG C s.heap.objs.size)}:=by
 have e1:(s.heap.push Bf).get? s.heap.objs.size=al Bf:=Am s.heap rfl;have e2:((s.heap.push Bf).push (BG C s.heap.objs.size)).get? (s.heap.objs.size+1)=al (BG C s.heap.objs.size):=by
  have:=Am (s.heap.push Bf) (o:=BG C s.heap.objs.size) rfl
  rwa [Bm]at this
 have e3:(s.heap.push Bf).Ns s.heap.objs.size (λ_=>bn):=⟨Bf,#[],_,e1,rfl,(λe he=>absurd he (by simp)),λ_=>rfl⟩;have I1:=I.laid (a:=s.heap.objs.size) (o:=.own (s.heap.objs.size+1)) (h':=s.heap.push Bf) (t':=s.toks) (λb u q=>Ad _ q) (Aj _) ⟨_,e1⟩;refine I1.laid (a:=s.heap.objs.size+1) (o:=.ins C s.heap.objs.size []) (t':=s.toks) (λb u q=>Ad _ q) (Dh (Bm _ _)) ?_;have ne:s.heap.objs.size≠s.heap.objs.size+1:=AI (BL _);refine⟨by rw[ag ne,ao],Bz _,ne,e2,λ_=>bn,(Heap.Ns1.of_empty e3).at λo q=>Ad _ q,λ_=>B8,λy hy=>absurd rfl hy⟩
def tJ{f:Str}{s:db}(hb:re e f env (jp e env)=jp e env)(h:f8 (gl prog w) A (jp e env) (λo s₁=>f8 (gl prog w) A (getAttr o f true) Q E s₁) E s):f8 (gl prog w) A (jp (.Attribute e f pos) env) Q E s:=
 Attribute_any_ h (by rw[arm_eval_Attribute,hb])
end
def Pm(K:Aa)(ta:TE)(f:Str):TE:=λσ H Q=>ta σ H λx H1=>∃a C dx fs v,x=.ref a/\H1 a=al (.ins C dx fs)/\tN K C/\cJ K C f/\fs.lookup f=al v/\Q v H1
def Px(K:Aa)(ta tv:TE)(f:Str):TS:=λD σ H=>tv σ H λy H1=>ta σ H1 λx H2=>∃a C dx fs,x=.ref a/\H2 a=al (.ins C dx fs)/\tN K C/\cJ K C f/\fs.length<1000/\
 D.nx σ (upd H2 a (.ins C dx (eY f y fs)))
section
variable{o:im}{f:Str}{tv:TE}
def dI(he:PE X e ta)(hb:re e f X.env (jp e X.env)=jp e X.env):PE X (.Attribute e f pos) (Pm X.K ta f):=by
 intro Z s σ H Q I h;refine tJ hb (bb (he Z s σ H _ I h) λu s1 ⟨x,H1,I1,rx,a,C,dx,fs,v,ex,ea,c,n,l,q⟩=>?_);subst ex;obtain rfl:u=Ar a:=rx;exact qU I1 ea c n l λu' s2 I2 ru=>⟨v,H1,I2,ru,q⟩
def qz(ha:PE X o ta)(hv:PE X Á tv)(hs:wv Á (al (.Attribute o f Ë)) pos.line X.env=pure false):PS X (.Assign [.Attribute o f Ë] Á pos) (Px X.K ta tv f):=by
 intro Z s σ H D I h;refine plainObj_wpAny_Assign_Attribute (bb (hv Z s σ H _ I h) λu s1 ⟨y,H1,I1,ry,q⟩=>bb (ha Z s1 σ H1 _ I1 q) λov s2 ⟨x,H2,I2,rx,a,C,dx,fs,ex,ea,c,n,l,q2⟩=>?_) hs;subst ex;obtain rfl:ov=Ar a:=rx;exact ql I2 ea c n l ry λs3 I3=>⟨σ,_,I3,q2⟩
def Gw{m:Str}{args:O im}{s:db}(he:PE X e te)(I:Inv X Z σ H s)(h:te σ H λx H1=>∃a C dx fs g,x=.ref a/\H1 a=al (.ins C dx fs)/\tN X.K C/\Meth X.K C m g/\fs.lookup m=bn/\
   ∀s1,Inv X Z σ H1 s1->f8 (gl X.prog X.w) X.A (callWith pos (.ref g) [.ref a] (Fk pos (gt args X.env)) (backToKw pos (GE [] X.env))) Q X.xe s1)(ht:jp (.Call (.Attribute e m À) args [] pos) X.env=(do
   let ov <- jp e X.env
   FB À.atName
   let (f,first) <- pi [ov] (getMethod ov m pl)
   callWith pos f first (Fk pos (gt args X.env)) (backToKw pos (GE [] X.env)))):f8 (gl X.prog X.w) X.A (jp (.Call (.Attribute e m À) args [] pos) X.env) Q X.xe s:=by
 refine C1 (pl:=pl) (bb (he Z s σ H _ I h) λu s1 ⟨x,H1,I1,rx,a,C,dx,fs,g,ex,ea,c,k,l,q⟩=>?_) ht;subst ex;obtain rfl:u=Ar a:=rx;exact ke I1 ea c k l (q s1 I1)
end
section
variable{s:db}{c:ci}{b:Bool}
inductive fN(K:Aa)(H:Hp):V->ci->Prop where
 |a8:fN K H .a8 (.type "NoneType")
 |bl (x:Bool):fN K H (.bl x) (.type "bool")
 |int (i:Int):fN K H (.int i) (.type "int")
 |str (x:Str):fN K H (.str x) (.type "str")
 |IK (x:UInt64):fN K H (.IK x) (.type "float")
 |lst {a:ce}{xs:List V} (e:H a=al (.lst xs)):fN K H (.ref a) (.type "list")
 |b8 {a:ce}{o:Obj}{xs:List V} (e:H a=al (.b8 o (.lst xs))):fN K H (.ref a) (.type "list")
 |tup {a:ce}{xs:List V} (e:H a=al (.tup xs)):fN K H (.ref a) (.type "tuple")
 |dK {a:ce}{aZ:List (Key×V)} (e:H a=al (.dK aZ)):fN K H (.ref a) (.type "dict")
 |dT {a:ce}{aZ:List (List Key×V)} (e:H a=al (.dT aZ)):fN K H (.ref a) (.type "dict")
 |ins {a C dx:ce}{fs:List (Str×V)} (e:H a=al (.ins C dx fs)) (cl:tN K C) (ha:Ao K (.ref C) "__class__"=al (al (.builtin "object.__class__")))
   (hn:BA K (.builtin "object.__class__") "__get__"=al (al (.builtin "getset_descriptor.__get__"))) (NP:D8 K (.builtin "object.__class__")=al true)
   (hm:Bb K C (.type "object")=al true):fN K H (.ref a) (.ref C)
def uz{x:V}{t:ci}(I:Inv X Z σ H s)(rx:RelV x u)(ty:fN X.K H x t)(e:Ay X.K t c=al b)(h:∀tk,Q (.bool b) {s with toks:=tk}):f8 (gl X.prog X.w) A (call (.builtin "isinstance") [u,c]) Q E s:=by
 cases ty with
 |a8=>cases (show u=A2 from rx);exact AQ PySem.W.kitx_none I.cR B8 e (λz=>nomatch z) h
 |bl y=>cases (show u=CG y from rx);exact AQ PySem.W.kitx_bool I.cR B8 e (λz=>nomatch z) h
 |int i=>obtain⟨t,q⟩:=(show ∃t,u=CI i t from rx);cases q;exact AQ PySem.W.kitx_int I.cR B8 e (λz=>nomatch z) h
 |str y=>obtain⟨t,q⟩:=(show ∃t,u=DK y t from rx);cases q;exact AQ PySem.W.kitx_str I.cR B8 e (λz=>nomatch z) h
 |IK y=>obtain⟨t,q⟩:=(show ∃t,u=Value.float y t from rx);cases q;exact AQ PySem.W.kitx_float I.cR B8 e (λz=>nomatch z) h
 | @lst a xs ea=>
  cases (show u=Ar a from rx);obtain⟨_,_,n,_,h1⟩:=(show bM X.prog X.w H s.heap a (.lst xs) from I.aW a _ ea);exact AQ Dy I.cR ⟨_,h1,rfl⟩ e (λz=>nomatch z) h
 | @b8 a ob xs ea=>
  cases (show u=Ar a from rx);obtain⟨_,_,_,n,_,h1⟩:=(show bM X.prog X.w H s.heap a (.b8 ob (.lst xs)) from I.aW a _ ea);exact AQ Dy I.cR ⟨_,h1,rfl⟩ e (λz=>nomatch z) h
 | @tup a xs ea=>
  cases (show u=Ar a from rx);obtain⟨_,_,_,p,_⟩:=(show bM X.prog X.w H s.heap a (.tup xs) from I.aW a _ ea);obtain⟨o,h1,h2,_⟩:=p;exact AQ EC I.cR ⟨o,h1,h2⟩ e (λz=>nomatch z) h
 | @dK a aZ ea=>
  cases (show u=Ar a from rx);obtain⟨_,_,vs,_,p⟩:=(show bM X.prog X.w H s.heap a (.dK aZ) from I.aW a _ ea);obtain⟨o,es,ep,h1,h2,_⟩:=p;exact AQ Dz I.cR ⟨o,h1,h2.1⟩ e (λz=>nomatch z) h
 | @dT a aZ ea=>
  cases (show u=Ar a from rx);obtain⟨_,_,xs,_,o,es,ep,h1,h2,_⟩:=(show bM X.prog X.w H s.heap a (.dT aZ) from I.aW a _ ea);exact AQ Dz I.cR ⟨o,h1,h2.1⟩ e (λz=>nomatch z) h
 | @ins a C dx fs ea cl ha hn NP hm=>
  cases (show u=Ar a from rx);obtain⟨mA,O_,_⟩:=jA I.aW ea;obtain⟨od,J,_⟩:=O_.look;exact AQ (PySem.W.kitx_own (cl.get _) cl.hd ha hn NP hm) I.cR J e (λz=>nomatch z) h
end
end L2
variable{o:Bu}{v cd Æ pm bC ct oc:AO}{Q:L2.VK}{vs:O L2.V}{mg:Bt->Option AO}{base:Ds}{fd:PySem.FuncData}{ps:O Bt}{outer:O PySem.Env}{sc scope:PySem.Scope}{qual:Bt}{an od:Option AN}{u7:Array (Option AO)}
namespace L2
structure bf(k:Nat)(A:u8):Prop where
 hd:A.handled=bn
 dp:A.depth+3*k+5<recursionLimit
 un:A.units+16*k+200<cLine
 gd:A.guards=al []
theorem bf.mono(r:bf k A)(h:j<=k):bf j A:=⟨r.hd,by have:=r.dp;lia,by have:=r.un;lia,r.gd⟩
theorem bf.deeper(r:bf (k+1) A)(env:Env):bf k (A.deeper env):=
 ⟨r.hd,by have:=r.dp;show A.depth+1+3*k+5<_;lia,by have:=r.un;show A.units+3+16*k+200<_;lia,r.gd⟩
def qI{C:ce}:(A.under (.builtin "type.__call__" ⟨.ref C::us,kw⟩)).depth=A.depth+1:=by
 first|rfl|simp
def qH{C:ce}:(A.under (.builtin "type.__call__" ⟨.ref C::us,kw⟩)).units=A.units+1:=by
 first|rfl|simp
theorem bf.make(r:bf (k+1) A)(C:ce)(us:O ci)(kw:O (Str×ci)):bf k (A.under (.builtin "type.__call__" ⟨.ref C::us,kw⟩)):=
 ⟨r.hd,by have:=r.dp;rw[qI];lia,by have:=r.un;rw[qH];lia,by have h:=r.gd;simp[Around.under,Code.guards,Code.isGuard,guardIds,pushGuards,h]⟩
theorem bf.depth(r:bf k A):A.depth<recursionLimit:=by have:=r.dp;lia
def Pj:TA:=λ_ H Q=>Q [] H
def Kr(ta:TE)(tr:TA):TA:=λσ H Q=>ta σ H λx H1=>tr σ H1 λxs H2=>Q (x::xs) H2
section
variable{t:TA}
def ax:PA X [] Pj:=λ_ _ _ _ H Q I h=>CS ⟨[],H,I,.nil,h⟩
def ah(ha:PE X e te)(hr:PA X es t)(hs:‹dZ X e es›):PA X (e::es) (Kr te t):=by
 intro pos Z s σ H Q I h;rw[hs];exact BN (bb (ha Z s σ H _ I h) λu s1 ⟨x,H1,I1,r1,q1⟩=>bb (hr pos Z s1 σ H1 _ I1 q1) λus s2 ⟨xs,H2,I2,r2,q2⟩=>⟨x::xs,H2,I2,.cons r1 r2,q2⟩)
end
abbrev Sp:=O V->Hp->VK->XK->Prop
abbrev uY:=O Env->Hp->db->XK->ci->db->Prop
structure nX(P:lm)(w:sw)(K:Aa)(mg:Str->Option ci)(base:io)(A:u8)(outer:List Env)(s:db)(H:Hp):Prop where
 frames:A.frames=al outer
 mod:Mod K mg base
 bs:∀b o,base.get? b=al o->s.heap.get? b=al o/\H b=bn
 ye:base.objs.size<=s.heap.objs.size
 fD:s.heap.FunFrames base outer
 yM:∀b∈jo outer,H b=bn
 aW:fR P w H s.heap
 bare:GT s.gens
def CE(outer:O Env)(P:lm)(w:sw)(H:Hp)(s:db)(Q:VK)(u:ci)(s':db):Prop:=
 ∃v H',s'.os=s.os/\GT s'.gens/\Un (jo outer) [] H H' s.heap s'.heap/\fR P w H' s'.heap/\RelV v u/\Q v H'
def CR(CX:uY)(outer:O Env)(P:lm)(w:sw)(H:Hp)(s:db)(Q:VK)(E:XK)(r:Result)(s':db):Prop:=
 match r with
 |.ok (.ret u)=>CE outer P w H s Q u s'
 |.ok _=>False
 |.error e=>CX outer H s E e s'
structure ba(P:lm)(w:sw)(K:Aa)(mg:Str->Option ci)(base:io)(CX:uY)(k:Nat)(f:ce)(fd:sK)(ps:List Str)(sp:Sp):Prop where
 len:∀vs H Q E,sp vs H Q E->vs.length=ps.length
 run:∀(A:u8) (outer:List Env) (s:db) (H:Hp) (args:Args) (us:List ci) (vs:List V) (Q:VK) (E:XK),bf k A->nX P w K mg base A outer s H->BindsTo s fd args (ps.zip us)->Vals vs us->sp vs H Q E->
  FM (gl P w) A (.call (.ref f) args) (CR CX outer P w H s Q E) s
def ba.imp{K:Aa}{CX:uY}{f:ce}{sp KH:Sp}(F:ba P w K mg base CX k f fd ps sp)(h:∀vs H Q E,KH vs H Q E->sp vs H Q E):ba P w K mg base CX k f fd ps KH:=
 ⟨λvs H Q E q=>F.len vs H Q E (h _ _ _ _ q),λA outer s H args us vs Q E hr he hb hv hs=>F.run A outer s H args us vs Q E hr he hb hv (h _ _ _ _ hs)⟩
def nX.make{K:Aa}{s:db}(e:nX P w K mg base A outer s H)(C:ce)(us:O ci)(kw:O (Str×ci)):nX P w K mg base (A.under (.builtin "type.__call__" ⟨.ref C::us,kw⟩)) outer s H:=⟨by first | exact e.frames | (simpa[Around.under,Code.envs,Code.isFrame,pushEnvs]using e.frames),e.mod,e.bs,e.ye,e.fD,e.yM,e.aW,e.bare⟩
section
variable{s:db}
def Inv.xK(I:Inv X Z σ H s):nX X.prog X.w X.K X.mg X.base X.A X.stack s H:=
 ⟨I.ok.frames,I.ok.mod,I.bs,Av I.ok.ye I.sz,I.stack,I.gK,I.aW,I.bare⟩
def Inv.after(I:Inv X Z σ H s)(h:CE X.stack X.prog X.w H s Q u s'):EP X Z σ Q u s':=by
 obtain⟨v,H',os,bare,un,aW,r,q⟩:=h;obtain⟨hh,g,d,t,Lf⟩:=s';obtain rfl:Lf=s.os:=os;exact⟨v,H',I.call (h':=hh) (g':=g) (d':=d) (t':=t) (ch:=[]) un aW bare (λb z=>absurd z (by simp)),r,q⟩
end
def F8(sp:Sp)(jF:O V)(E:XK)(t:TA):TE:=λσ H Q=>t σ H λvs H1=>sp (vs++jF) H1 Q E
def Kl(C:ce)(m:Str)(sp:Sp)(jF:O V)(E:XK)(ta:TE)(t:TA):TE:=λσ H Q=>ta σ H λx H1=>∃a dx fs,x=.ref a/\H1 a=al (.ins C dx fs)/\fs.lookup m=bn/\
 t σ H1 λvs H2=>sp (x::(vs++jF)) H2 Q E
def Km(C:ce)(sp:Sp)(jF:O V)(E:XK)(t:TA):TE:=λσ H Q=>t σ H λvs H1=>∀x dx,H1 x=bn->H1 dx=bn->dx≠x->
 sp (.ref x::(vs++jF)) (upd (upd H1 dx (.own x)) x (.ins C dx [])) (λv H2=>v=.a8/\Q (.ref x) H2) E
def Binds(K:Aa)(fd:sK)(ps:O Str)(ds:O ci):Prop:=
 ∀(s:db) (us:O ci),K.In s.heap->(us++ds).length=ps.length->BindsTo s fd ⟨us,[]⟩ (ps.zip (us++ds))
def Binds.all{K:Aa}(h:∀us:O ci,us.length=ps.length->bindArgs fd ⟨us,[]⟩=pure (ps.zip us)):Binds K fd ps []:=λs us _ hl=>by
 rw[AV]at hl ⊢;exact .of_eq (h us hl)
def Passes(CX:uY)(X:Cx)(E:XK):Prop:=∀(Z:O (ce×Obj)) (σ:St) (H:Hp) (s:db) (e:ci) (s':db),Inv X Z σ H s->CX X.stack H s E e s'->X.xe e s'
section
variable{CX:uY}{f C:ce}{sp:Sp}{jF:O V}{ds:O ci}{E:XK}{x m:Str}{p:Pos}{t:TA}
def jQ{s:db}(F:ba X.prog X.w X.K X.mg X.base CX k f fd ps sp)(hr:bf k X.A)(hb:Binds X.K fd ps ds)(hd:Vals jF ds)(hx:Passes CX X E)(I:Inv X Z σ H s)(r:Vals vs us)(h:sp (vs++jF) H Q E):f8 (gl X.prog X.w) X.A (call (.ref f) us) (EP X Z σ Q) X.xe s:=by
 have r2:Vals (vs++jF) (us++ds):=r.append hd;have hl:(us++ds).length=ps.length:=by rw[<- r2.length];exact F.len _ _ _ _ h
 refine B1 (tz (F.run X.A X.stack s H ⟨us,[]⟩ (us++ds) (vs++jF) Q E hr I.xK (hb s us I.cR hl) r2 h) λr s' hq=>?_);cases r with
 |error e=>exact hx Z σ H s e s' I hq
 |ok fl=>
  cases fl with
  |ret u=>exact I.after hq
  |next=>exact AD hq
  |brk=>exact AD hq
  |cont=>exact AD hq
def zw(F:ba X.prog X.w X.K X.mg X.base CX k f fd ps sp)(hr:bf k X.A)(hg:Gl X x)(hm:X.mg x=al (.ref f))(hk:AG X.K (.ref f)=true)(hb:Binds X.K fd ps ds)(hd:Vals jF ds)(hx:Passes CX X E)(ha:PA X (e::es) t)(cT: ~~~(dg x))(he:‹dZ X e es›)(bN:‹fb X pos es›):PE X (.Call (.Name x p) (e::es) [] pos) (F8 sp jF E t):=by
 intro Z s σ H Q I h;exact AW (dr I hg hm (Bq I.ok.mod.wW hk (bb (ha pos Z s σ H _ I h) λus s1 ⟨vs,H1,I1,r,q⟩=>⟨I1.cR,jQ F hr hb hd hx I1 r q⟩) he bN) cT)
def dn(he:PE X o ta)(c:tN X.K C)(hm:Meth X.K C m f)(F:ba X.prog X.w X.K X.mg X.base CX k f fd ps sp)(hr:bf k X.A)(hb:Binds X.K fd ps ds)(hd:Vals jF ds)(hx:Passes CX X E)(ha:PA X (e::es) t)(kW:‹dZ X e es›)(bN:‹fb X pos es›)(ht:‹jp (.Call (.Attribute o m À) (e::es) [] pos) X.env=(do
   let ov <- jp o X.env
   FB À.atName
   let (f,first) <- pi [ov] (getMethod ov m pl)
   callWith pos f first (Fk pos (gt (e::es) X.env)) (backToKw pos (GE [] X.env)))›):PE X (.Call (.Attribute o m À) (e::es) [] pos) (Kl C m sp jF E ta t):=by
 intro Z s σ H Q I h;refine C1 (pl:=pl) (bb (he Z s σ H _ I h) λu s1 ⟨x,H1,I1,rx,a,dx,fs,ex,ea,l,q⟩=>?_) ht;subst ex;obtain rfl:u=Ar a:=rx;refine ke I1 ea c hm l ?_;refine Bq (first:=[.ref a]) (h₀:=X.base) I.ok.mod.wW hm.kp (bb (ha pos Z s1 σ H1 _ I1 q) λus s2 ⟨vs,H2,I2,r,q2⟩=>⟨I2.cR,?_⟩) kW bN;exact jQ (us:=.ref a::us) (vs:=.ref a::vs) F hr hb hd hx I2 (.cons rfl r) q2
structure Mk(K:Aa)(C f:ce):Prop where
 makes:Ea K C=true
 init:Ao K (.ref C) "__init__"=al (al (.ref f))
 fn:B9 K (.ref f)=true
 kp:AG K (.ref C)=true
def vE{s:db}(M:Mk X.K C f)(F:ba X.prog X.w X.K X.mg X.base CX k f fd ps sp)(hr:bf (k+1) X.A)(hb:Binds X.K fd ps ds)(hd:Vals jF ds)(hx:Passes CX X E)(I:Inv X Z σ H s)(r:Vals vs us)(h:∀x dx,H x=bn->H dx=bn->dx≠x->sp (.ref x::(vs++jF)) (upd (upd H dx (.own x)) x (.ins C dx [])) (λv H2=>v=.a8/\Q (.ref x) H2) E):f8 (gl X.prog X.w) X.A (call (.ref C) us) (EP X Z σ Q) X.xe s:=by
 have hq:=h (s.heap.objs.size+1) s.heap.objs.size (I.aW.fresh (Et _)) (I.aW.fresh (Aj _)) (AI (BL _));have I2:=Inv.made (C:=C) I;have r2:Vals (V.ref (s.heap.objs.size+1)::(vs++jF)) (Ar (s.heap.objs.size+1)::(us++ds)):=.cons rfl (r.append hd);have hl:(Ar (s.heap.objs.size+1)::us++ds).length=ps.length:=by
  have e:=r2.length;rw[F.len _ _ _ _ hq]at e;exact e.symm
 refine B1 (wJ I.cR M.makes M.init (beq_iff_eq.mp M.fn) (tz (F.run _ X.stack _ _ ⟨Ar (s.heap.objs.size+1)::us,[]⟩ (Ar (s.heap.objs.size+1)::(us++ds)) _ _ E (hr.make C us [])
  (I2.xK.make C us []) (hb _ (Ar (s.heap.objs.size+1)::us) I2.cR hl) r2 hq) λr s' xc=>?_))
 cases r with
 |error e=>exact hx Z σ _ _ e s' I2 xc
 |ok fl=>
  cases fl with
  |ret u=>
   obtain⟨v,H',I3,rv,ev,q3⟩:=I2.after xc;subst ev;exact⟨rv,⟨V.ref (s.heap.objs.size+1),H',I3,rfl,q3⟩⟩
  |next=>exact AD xc
  |brk=>exact AD xc
  |cont=>exact AD xc
def zu(M:Mk X.K C f)(F:ba X.prog X.w X.K X.mg X.base CX k f fd ps sp)(hr:bf (k+1) X.A)(hg:Gl X x)(hm:X.mg x=al (.ref C))(hb:Binds X.K fd ps ds)(hd:Vals jF ds)(hx:Passes CX X E)(ha:PA X (e::es) t)(cT: ~~~(dg x))(he:‹dZ X e es›)(bN:‹fb X pos es›):PE X (.Call (.Name x p) (e::es) [] pos) (Km C sp jF E t):=by
 intro Z s σ H Q I h;exact AW (dr I hg hm (Bq I.ok.mod.wW M.kp (bb (ha pos Z s σ H _ I h) λus s1 ⟨vs,H1,I1,r,q⟩=>⟨I1.cR,vE M F hr hb hd hx I1 r q⟩) he bN) cT)
end
structure bI(N P:List Str)(sc:GM):Prop where
 kind:sc.kind=.function
 co:sc.isCoroutine=false
 gen:sc.isGenerator=false
 nd:N.Nodup
 pre:N.take P.length=P
 par:∀x∈P,sc.names.lookup x=al .local\/sc.names.lookup x=al .cell
 HV:∀y∈sc.names,y.2≠.free
theorem mh{kindOf:Str->Option wn}{x:Str}:∀{binds:O (Str×ci)}{m:Str->Option ci},(∀v,(x,v)∉binds)->bindL kindOf binds m x=m x
 |[],_,_=>rfl
 |(n,v)::r,m,h=>by
  unfold bindL;rw[mh λw hw=>h w (AH _ hw)]
  split
  .have:x≠n:=by rintro rfl;exact h v A9
   simp[this]
  .rfl
theorem mj{kindOf:Str->Option wn}{x:Str}:∀{binds:O (Str×ci)}{m:Str->Option ci},(∀v,(x,v)∉binds)->bindC kindOf binds m x=m x
 |[],_,_=>rfl
 |(n,v)::r,m,h=>by
  unfold bindC;rw[mj λw hw=>h w (AH _ hw)]
  split
  .rfl
  .have:x≠n:=by rintro rfl;exact h v A9
   simp[this]
theorem mi{kindOf:Str->Option wn}{x:Str}:∀{P:O Str}{vs:O ci}{i:Nat}{m:Str->Option ci},P.Nodup->P[i]?=al x->vs[i]?=al v->kindOf x=al .local->bindL kindOf (P.zip vs) m x=al v
 |[],_,_,_,_,h,_,_=>by simp at h
 |_::_,[],_,_,_,_,h,_=>by simp at h
 |p::P,w::vs,0,m,nd,h1,h2,hk=>by
  simp at h1 h2;subst h1;subst h2;show bindL kindOf ((p,w)::P.zip vs) m p=_;unfold bindL;rw[mh λv hv=>(BU.mp nd).1 (C5 hv).1,if_pos hk];simp
 |p::P,w::vs,i+1,m,nd,h1,h2,hk=>by
  unfold bindL;exact mi (BU.mp nd).2 (by simpa using h1) (by simpa using h2) hk
theorem ml{kindOf:Str->Option wn}{x:Str}:∀{P:O Str}{vs:O ci}{i:Nat}{m:Str->Option ci},P.Nodup->P[i]?=al x->vs[i]?=al v->kindOf x≠al .local->bindC kindOf (P.zip vs) m x=al v
 |[],_,_,_,_,h,_,_=>by simp at h
 |_::_,[],_,_,_,_,h,_=>by simp at h
 |p::P,w::vs,0,m,nd,h1,h2,hk=>by
  simp at h1 h2;subst h1;subst h2;show bindC kindOf ((p,w)::P.zip vs) m p=_;unfold bindC;rw[mj λv hv=>(BU.mp nd).1 (C5 hv).1,if_neg hk];simp
 |p::P,w::vs,i+1,m,nd,h1,h2,hk=>by
  unfold bindC;exact ml (BU.mp nd).2 (by simpa using h1) (by simpa using h2) hk
def start(N:O Str)(vs:O V):St:=vs.map al++An (N.length-vs.length) bn
def ic(CX:uY)(P:lm)(w:sw)(K:Aa)(mg:Str->Option ci)(base:io)(N:O Str)(qual:Str)(scope:GM)(f:ce)(cd:ci)(A:u8)(outer:O Env)(s:db)(H:Hp)(E:XK):Cx where
 prog:=P
 w:=w
 K:=K
 mg:=mg
 base:=base
 A:=A.deeper (wT qual scope s.heap.objs.size f cd)
 N:=N
 s₀:=s
 H₀:=H
 env:=wT qual scope s.heap.objs.size f cd
 outer:=outer
 stack:=wT qual scope s.heap.objs.size f cd::outer
 ex:=[]
 calm:=true
 fn:=λ_=>true
 pn:=[]
 xe:=λe s'=>f8 (gl P w) (A.deeper (wT qual scope s.heap.objs.size f cd)) (leaving (wT qual scope s.heap.objs.size f cd) e) (λ_ vD=>CX outer H s E e vD) (λe' vD=>CX outer H s E e' vD) s'
def pU{x:Str}(h:sc.names.lookup x=al .cell):∃c,(r6 n sc.names []).lookup x=al c:=by
 exact Option.isSome_iff_exists.mp (DU sc.names n [] (.inl h))
theorem uB{CX:uY}{K:Aa}{N:O Str}{f:ce}{s s1:db}{E:XK}(S:bI N ps scope)(hd:A.handled=bn)(e0:nX P w K mg base A outer s H)(hl:vs.length=ps.length)(r:Vals vs us)(x:InCallC s s.heap.objs.size (bindL (wT qual scope s.heap.objs.size f cd).kindOf (ps.zip us) λ_=>bn) (r6 (s.heap.objs.size+1) scope.names []) (bindC (wT qual scope s.heap.objs.size f cd).kindOf (ps.zip us) λ_=>bn) s1):Inv (ic CX P w K mg base N qual scope f cd A outer s H E) [] (start N vs) H s1:=by
 have bN:ps.length<=N.length:=by have:=congrArg DD S.pre;rw[Bc]at this;lia
 obtain⟨h1,tk,rfl,hk⟩:=x.done;have Ls:∀b:ce,b∉(ic CX P w K mg base N qual scope f cd A outer s H E).ex:=λb z=>absurd (show b∈([]) from z) (by simp);refine⟨⟨e0.mod,S.kind,rfl,rfl,Aj _,λy z c h1 h2=>?_,λy hy=>?_,λy c _ h=>?_,λ_=>hd,Ep e0.frames,.inr ⟨rfl,rfl⟩,λb z=>absurd z (Ls b),e0.bs,e0.ye,λb _ _=>Ls b,λb z=>absurd z (Ls b),e0.fD,e0.yM⟩,
  rfl,e0.bare,Un.kept hk,⟨_,x.toInCall.ns,λi y v h1 h2 h3=>?_⟩,λy c h=>⟨_,x.cell y c h⟩,e0.aW.fresh (Aj _),λy c h=>?_,λp hp=>absurd (show p∈([]) from hp) (by simp),e0.aW.kept hk,?_⟩
 .exact name_of_addr x.apart (A1 h1) (A1 h2)
 .rcases hy with hy|hy
  .exact pU hy
  .exact absurd rfl (S.HV _ (A1 hy))
 .exact D4 (x.above y c (A1 h))
 .have hi:i<vs.length:=by
   unfold start at h2;by_cases hi:i<vs.length
   .exact hi
   .rw[Ba (by simpa using hi)]at h2;rw[BF]at h2
    split at h2<;>cases h2
  have ha:vs[i]?=al v:=by
   unfold start at h2;rw[Bd (by simpa using hi),AE]at h2;cases e:vs[i]? with
   |none=>rw[e]at h2;cases h2
   |some a=>rw[e]at h2;cases h2;rfl
  obtain⟨u,hu,rv⟩:=r.get ha;have hp:ps[i]?=al y:=by
   rw[<- S.pre,List.getElem?_take_of_lt ∅];exact h1
  have SA:ps.Nodup:=by rw[<- S.pre];exact S.nd.sublist (List.take_sublist _ _)
  refine⟨u,rv,?_⟩;rcases S.par y (A8 hp) with k|k
  .exact .inl ⟨k,mi SA hp hu k⟩
  .obtain⟨c,e⟩:=pU k;refine .inr ⟨.inl k,c,e,?_⟩;have q:=x.cell y c e;rw[ml SA hp hu (by show scope.names.lookup y≠_;rw[k];decide)]at q;exact q
 .exact e0.aW.fresh (D4 (x.above y c (A1 h)))
 .unfold start;show _=N.length;rw[Ap,AB,BR];lia
def xv{CX:uY}{K:Aa}{f:ce}{name:Str}{params:Arguments}{dV kV:ci}{N:O Str}{sp:Sp}(lk:K.lookup f=al ⟨oc,od,.func (AY name qual params body scope dV kV Æ pm an bC ct),u7⟩)(df:Bx K bC qual=true)(S:bI N ps scope)(len:∀vs H Q E,sp vs H Q E->vs.length=ps.length)(kd:∀(A:u8) (outer:O Env) (s:db) (H:Hp) (vs:O V) (Q:VK) (E:XK),bf k (A.deeper (wT qual scope s.heap.objs.size f bC))->sp vs H Q E->
   ∃t,jb (ic CX P w K mg base N qual scope f bC A outer s H E) body t/\t {nx:=λ_ H'=>Q .a8 H',rt:=Q} (start N vs) H):ba P w K mg base CX (k+1) f (AY name qual params body scope dV kV Æ pm an bC ct) ps sp:=by
 refine⟨len,λA outer s H args us vs Q E hr e0 hb r qO=>?_⟩;have hl:=len _ _ _ _ qO;have KX:K.In s.heap:=e0.mod.wW.keeps λb o e=>(e0.bs b o e).1;have lim:s.heap.NoLimit:=e0.mod.nolimit.keeps λb o e=>(e0.bs b o e).1;have LV:∀y∈ps.zip us,scope.names.lookup y.1=al .local\/(scope.names.lookup y.1=al .cell/\((r6 (s.heap.objs.size+1) scope.names []).lookup y.1).isSome=true):=λ⟨n,v⟩ hy=>by
  rcases S.par n (C5 hy).1 with q|q
  .exact .inl q
  .exact .inr ⟨q,DU _ _ _ (.inl q)⟩
 refine codeAny_call_function hr.depth (KX _ _ lk) rfl S.co S.gen rfl (PySem.W.codeRec_of KX df) (hb _ _ _ _ ?_);refine wpAny_newFunctionEnv_cells S.kind LV λenv he s1 x=>?_;subst he;refine⟨lim.keeps x.toInCall.keep,codeAny_func ?_⟩;obtain⟨t,ht,hq⟩:=kd A outer s H vs Q E (hr.deeper _) qO;have I:Inv (ic CX P w K mg base N qual scope f bC A outer s H E) [] (start N vs) H s1:=uB S hr.hd e0 hl r x;refine Be (ht [] s1 (start N vs) H _ I hq) (λfl s' hs=>?_) λe s' hs=>hs;have fin:∀{σ':St}{H':Hp}{v:V}{u:ci},Inv (ic CX P w K mg base N qual scope f bC A outer s H E) [] σ' H' s'->RelV v u->Q v H'->CE outer P w H s Q u s':=
  λ{σ' H' v u} J rv q=>⟨v,H',J.os,J.bare,J.base,J.aW,rv,q⟩
 cases fl with
 |ret u=>
  obtain⟨v,σ',H',J,rv,q⟩:=hs;exact fin J rv q
 |next=>
  obtain⟨σ',H',J,q⟩:=hs;exact fin (v:=V.a8) (u:=A2) J rfl q
 |brk=>
  obtain⟨_,_,_,q⟩:=hs;exact AD q
 |cont=>
  obtain⟨_,_,_,q⟩:=hs;exact AD q
end L2
variable{T:String}
namespace L2
section
variable{x:Str}{p:Pos}{t:TA}{id:String}{r:O V->Hp->VK->Prop}
def R9(r:O V->Hp->VK->Prop)(t:TA):TE:=λσ H Q=>t σ H λvs H1=>r vs H1 Q
def bh(hc:bE X (.builtin id) r)(hg:Gl X x)(hm:X.mg x=bn)(hv:o0 x=al (.builtin id))(ha:PA X (e::es) t)(hn: ~~~(x≠"__name__"))(cT: ~~~(dg x))(he:‹dZ X e es›)(bN:‹fb X pos es›):PE X (.Call (.Name x p) (e::es) [] pos) (R9 r t):=by
 intro Z s σ H Q I h;refine AW (j7 I hg hm hv ?_ hn cT);exact PyProof.Rows.callWith_builtin1 (bb (ha pos Z s σ H _ I h) λus s1 ⟨vs,H1,I1,r1,q1⟩=>hc Z s1 σ H1 vs us Q I1 r1 q1) he bN
def lM(hc:bE X (.type T) r)(hg:Gl X x)(hm:X.mg x=bn)(hv:o0 x=al (.type T))(ha:PA X (e::es) t)(hn: ~~~(x≠"__name__"))(cT: ~~~(dg x))(he:‹dZ X e es›)(bN:‹fb X pos es›):PE X (.Call (.Name x p) (e::es) [] pos) (R9 r t):=by
 intro Z s σ H Q I h;refine AW (j7 I hg hm hv ?_ hn cT);exact Cm (bb (ha pos Z s σ H _ I h) λus s1 ⟨vs,H1,I1,r1,q1⟩=>hc Z s1 σ H1 vs us Q I1 r1 q1) he bN
end
end L2
namespace HT
open PySem PyProof.Rows
section
variable{s:db}
def FA{t:ce}{vs ws:O ci}{Q:ci->db->Prop}(ht:IsTup s.heap t vs.toArray)(hb:IsTup s.heap b ws.toArray)(hv:vs≠[])(h1:ws=[]->Q (.ref t) s)(h2:ws≠[]->Q (.ref s.heap.objs.size) {s with heap:=s.heap.push {cls:=.type "tuple",data:=.seq (vs++ws).toArray}})(E2:vs.length+ws.length<=sizeLine):f8 (gl prog w) A (r9 .Add (.ref t) (.ref b)) Q E s:=by
 obtain⟨⟨cls,dd,data,sl⟩,ho,hc,n,hd⟩:=id ht;obtain⟨⟨MY,MK,data2,JE⟩,yI,JO,n2,Ú⟩:=id hb;simp only at hc hd JO Ú;subst hc hd JO Ú;have e:vs.toArray++ws.toArray=(vs++ws).toArray:=by simp
 by_cases hw:ws=[]
 .exact concat_meets ⟨_,ho,rfl⟩ ⟨_,yI,rfl⟩ noFill_tuple_add seq_tuple_add CO CJ (CC _ _)
   (tuple_addW1 t b vs.toArray ws.toArray n n2 dd MK sl JE (by simpa using hv) (by simp[hw])) ⟨ho,yI,h1 hw⟩
 .refine concat_meets ⟨_,ho,rfl⟩ ⟨_,yI,rfl⟩ noFill_tuple_add seq_tuple_add CO CJ (CC _ _)
   (tuple_addW2 t b vs.toArray ws.toArray n n2 dd MK sl JE (by simpa using hv) (by simpa using hw) (by rw[Al,Al];exact E2)) ⟨ho,yI,?_⟩
  rw[e];exact h2 hw
def kQ(n d:Nat):Option Int->Nat
 |none=>d
 |some v=>if v<0 then (v+(n:Int)).toNat else min v.toNat n
theorem oz(n d:Nat):kQ n d bn=d:=rfl
theorem rT(n d k:Nat):kQ n d (al (k:Int))=min k n:=by
 show(if k<0 then ((k:Int)+n).toNat else min (k:Int).toNat n)=min k n;rw[if_neg ∅,Cn]
end
end HT
variable{r:L2.V->Option Int->Option Int->L2.Hp->L2.VK->Prop}{p2:Cs}
namespace L2
abbrev TO:=St->Hp->(Option Int->Hp->Prop)->Prop
def PO(X:Cx)(e:Option im)(t:TO):Prop:=
 ∀(Z:O (ce×Obj)) (s:db) (σ:St) (H:Hp) (Q:Option Int->Hp->Prop),Inv X Z σ H s->t σ H Q->
  f8 (gl X.prog X.w) X.A (evalPart e X.env) (λu s'=>∃o H',Inv X Z σ H' s'/\IsPart u o/\Q o H') X.xe s
def y7:TO:=λ_ H Q=>Q bn H
def Kh(t:TE):TO:=λσ H Q=>t σ H λx H1=>∃i,x=.int i/\Q (al i) H1
section
variable{lo hi:Option im}{tl th:TO}
def zm:PO X bn y7:=by
 intro Z s σ H Q I h;exact Ae ⟨bn,H,I,.none,h⟩
def zl(h:PE X e te):PO X (al e) (Kh te):=by
 intro Z s σ H Q I hw;refine bb (h Z s σ H _ I hw) λu s1 ⟨x,H1,I1,r1,q1⟩=>?_;obtain⟨i,rfl,q⟩:=q1;obtain⟨t,rfl⟩:=r1;exact⟨al i,H1,I1,.int i t,q⟩
def GY(X:Cx)(r:V->Option Int->Option Int->Hp->VK->Prop):Prop:=
 ∀(Z:O (ce×Obj)) (s:db) (σ:St) (H:Hp) (x:V) (v vl vu:ci) (lo hi:Option Int) (sl:ce) (Q:VK),Inv X Z σ H s->RelV x v->s.heap.IsSliceOf sl vl vu .none->IsPart vl lo->IsPart vu hi->r x lo hi H Q->
  ∃T id,typeLookup (.type T) "__getitem__"=pure (al (.builtin id))/\s.TypeIs v T/\f8 (gl X.prog X.w) X.A (getItem v (.ref sl)) (EP X Z σ Q) X.xe s
def UU(r:V->Option Int->Option Int->Hp->VK->Prop)(te:TE)(tl th:TO):TE:=λσ H Q=>te σ H λx H1=>tl σ H1 λl H2=>th σ H2 λu H3=>r x l u H3 Q
def oO(hr:GY X r)(he:PE X e te)(hl:PO X lo tl)(hu:PO X hi th):PE X (.Subscript e (.Slice lo hi bn p2) pos) (UU r te tl th):=by
 intro Z s σ H Q I h;refine Subscript_ (bb (he Z s σ H _ I h) λv s1 ⟨x,H1,I1,r1,q1⟩=>?_);refine wpAny_Slice (bb (hl Z s1 σ H1 _ I1 q1) λvl s2 ⟨l,H2,I2,pl,q2⟩=>bb (hu Z s2 σ H2 _ I2 q2) λvu s3 ⟨u,H3,I3,pu,q3⟩=>?_);rw[evalPart_none];refine Ae ?_;have I4:Inv X Z σ H3 {s3 with heap:=s3.heap.push {cls:=.type "slice",data:=.fields #[vl,vu,.none]}}:=I3.kept (t':=s3.toks) λb ob q=>Ad _ q;obtain⟨T,id,hT,ht,hg⟩:=hr Z {s3 with heap:=s3.heap.push {cls:=.type "slice",data:=.fields #[vl,vu,.none]}} σ H3 x v vl vu l u s3.heap.objs.size Q I4 r1 (Heap.IsSliceOf.new ..) pl pu q3;show f8 (gl X.prog X.w) X.A (subscriptTail e (.Slice lo hi bn p2) v (.ref s3.heap.objs.size)) (EP X Z σ Q) X.xe {s3 with heap:=s3.heap.push {cls:=.type "slice",data:=.fields #[vl,vu,.none]}};exact tail_any (ops:=[.ref s3.heap.objs.size,v]) ht hT hg (by with_unfolding_all rfl)
def uK(xs:O V)(lo hi:Option Int):O V:=(xs.drop (HT.kQ xs.length 0 lo)).take (HT.kQ xs.length xs.length hi-HT.kQ xs.length 0 lo)
theorem pS(xs:O V)(lo hi:Option Int):(uK xs lo hi).length<=xs.length:=by
 unfold uK;rw[Bc,Cv];lia
def Gn(K:Aa):R2:=λx y H Q=>∃a b xs ys,x=.ref a/\y=.ref b/\dP K H a xs/\dP K H b ys/\xs≠[]/\xs.length+ys.length<=sizeLine/\
 (ys=[]->Q (.ref a) H)/\(ys≠[]->∀p,H p=bn->Q (.ref p) (upd H p (.tup (xs++ys))))
def Vals.eH(r:Vals xs us):us=[]↔xs=[]:=by
 cases r with
 |nil=>simp
 |cons _ _=>simp
def sj:dQ X (r9 .Add) (Gn X.K):=by
 intro Z s σ H x y v u Q I rx ry h;obtain⟨a,b,xs,ys,rfl,rfl,ha,hb,hx,hz,q1,q2⟩:=h;cases rx;cases ry;obtain⟨aw,r1,p1,_⟩:=I.tuple ha;obtain⟨cx,r2,p2,_⟩:=I.tuple hb;refine HT.FA p1 p2 (λz=>hx (r1.eH.mp z)) (λz=>⟨.ref a,H,I,rfl,q1 (r2.eH.mp z)⟩) (λz=>?_) (by rw[<- r1.length,<- r2.length];exact hz);refine⟨.ref s.heap.objs.size,_,I.laid (λb ob q=>Ad _ q) (Aj _) ?_,rfl,q2 (λw=>z (r2.eH.mpr w)) _ (I.aW.fresh (Aj _))⟩;exact⟨by rw[Ap];exact hz,_,r1.append r2,IsTup.new _ _,_,Am _ rfl,rfl⟩
end
end L2
variable{r':L2.R2}{its':O AO}
namespace L2
def pd(n:Nat)(i:Int):Option Nat:=if 0<=i then (if i<n then al i.toNat else bn) else if -(n:Int)<=i then al (i+n).toNat else bn
def eV(xs:List α)(i:Int):Option α:=(pd xs.length i).bind λj=>xs[j]?
theorem sI(h:pd n i=al j):seqIndex? i n=al j/\j<n/\-(n:Int)<=i/\i<n:=by
 unfold pd at h;by_cases h0:0<=i
 .rw[if_pos h0]at h;by_cases h1:i<n
  .rw[if_pos h1]at h;have e:=Option.some.inj h;exact⟨by rw[seqIndex_of h0 h1,e],by lia,by lia,h1⟩
  .rw[if_neg h1]at h;cases h
 .rw[if_neg h0]at h;by_cases h1:-n<=i
  .rw[if_pos h1]at h;have e:=Option.some.inj h;exact⟨by rw[seqIndex_neg ∅ h1,e],by lia,h1,by lia⟩
  .rw[if_neg h1]at h;cases h
def nN{xs:List α}{v:α}(h:eV xs i=al v):∃j,seqIndex? i xs.length=al j/\xs[j]?=al v/\j<xs.length/\-(xs.length:Int)<=i/\i<xs.length:=by
 unfold eV at h;cases e:pd xs.length i with
 |none=>rw[e]at h;cases h
 |some j=>
  rw[e]at h;obtain⟨h1,h2,h3,h4⟩:=sI e;exact⟨j,h1,h,h2,h3,h4⟩
theorem nM{xs:List α}{v:α}(h:xs[j]?=al v):eV xs (j:Int)=al v:=by
 have hj:=(Ag.mp h).1;have e:pd xs.length j=al j:=by
  unfold pd;rw[if_pos ∅,if_pos ∅];simp
 unfold eV;rw[e];exact h
theorem kD(xs:List α)(v:α):eV (xs++[v]) (-1)=al v:=by
 have hl:(xs++[v]).length=xs.length+1:=by simp
 have e:pd (xs++[v]).length (-1)=al xs.length:=by
  unfold pd;rw[hl,if_neg ⋯,if_pos ∅];congr 1;lia
 unfold eV;rw[e];simp
def nV(b:im):Prop:=∀o i,subscripted b false o i=operate [o,i] (getItem o i)
def yO(X:Cx)(r:R2):Prop:=
 ∀(Á slice:im) (Z:O (ce×Obj)) (s:db) (σ:St) (H:Hp) (x y:V) (v u:ci) (Q:VK),Inv X Z σ H s->RelV x v->RelV y u->r x y H Q->
  subscripted slice false v u=operate [v,u] (getItem v u)->f8 (gl X.prog X.w) X.A (subscriptTail Á slice v u) (EP X Z σ Q) X.xe s
def OH(X:Cx)(id:String)(r:V->O V->Hp->VK->Prop):Prop:=
 ∀(Z:O (ce×Obj)) (s:db) (σ:St) (H:Hp) (x:V) (xs:O V) (v:ci) (us:O ci) (Q:VK),Inv X Z σ H s->RelV x v->Vals xs us->r x xs H Q->
  f8 (gl X.prog X.w) X.A (call (.builtin id) (v::us)) (EP X Z σ Q) X.xe s
section
variable{X:Cx}{a b:im}{ta tb:TE}{pos:Pos}
def yO.or{r:R2}(h:yO X r)(h':yO X r'):yO X (λx y H Q=>r x y H Q\/r' x y H Q):=by
 intro Á slice Z s σ H x y v u Q I rx ry q hs;rcases q with q|q
 .exact h Á slice Z s σ H x y v u Q I rx ry q hs
 .exact h' Á slice Z s σ H x y v u Q I rx ry q hs
def fu{r:R2}(hr:yO X r)(ha:PE X a ta)(hb:PE X b tb)(hs:nV b):PE X (.Subscript a b pos) (JD r ta tb):=by
 intro Z s σ H Q I h;exact Subscript_ (Jn ha hb I h λv u s2 x y H2 I2 rx ry q=>hr a b Z s2 σ H2 x y v u Q I2 rx ry q (hs _ _))
def KY(K:Aa):R2:=λx y H Q=>∃p xs i v,x=.ref p/\y=.int i/\cX K H p xs/\eV xs i=al v/\Q v H
def KW(K:Aa):R2:=λx y H Q=>∃p xs i v,x=.ref p/\y=.int i/\dP K H p xs/\eV xs i=al v/\Q v H
def Hv:R2:=λx y H Q=>∃z i c,x=.str z/\y=.int i/\z.length<=sizeLine/\eV z.cps.toList i=al c/\Q (.str ⟨#[c]⟩) H
theorem E1:yO X (KY X.K):=by
 intro Á slice Z s σ H x y v u Q I rx ry h hs;obtain⟨p,xs,i,z,rfl,rfl,hq,he,q⟩:=h;cases rx;obtain⟨t,rfl⟩:=ry;obtain⟨aw,r,pl,hz⟩:=I.list hq;obtain⟨j,h1,h2,h3,h4,h5⟩:=nN he;obtain⟨w,ew,ub⟩:=r.get h2;have hl:=r.length;have hn:=mZ;have fin:EP X Z σ Q w s:=⟨z,H,I,ub,q⟩;by_cases h0:0<=i
 .have hj:i.toNat=j:=by
   rw[seqIndex_of h0 h5]at h1;exact Option.some.inj h1
  exact item_listR pl.isList h0 ∅ (by rw[hj];simpa using ew) fin hs
 .have hj:(i+aw.toArray.size).toNat=j:=by
   rw[seqIndex_neg ∅ h4]at h1;rw[Al,<- hl];exact Option.some.inj h1
  exact subscriptTail_builtinR pl.isList.typeIs slot_list_getitem.lookup
   (wpAny_getItem_list_neg pl.isList ∅ (by rw[Al]<;>lia) ∅ (by rw[hj];simpa using ew) ⟨rfl,fin⟩) hs
theorem Iu:yO X (KW X.K):=by
 intro Á slice Z s σ H x y v u Q I rx ry h hs;obtain⟨p,xs,i,z,rfl,rfl,hq,he,q⟩:=h;cases rx;obtain⟨t,rfl⟩:=ry;obtain⟨aw,r,pl,hz⟩:=I.tuple hq;obtain⟨j,h1,h2,h3,h4,h5⟩:=nN he;obtain⟨w,ew,ub⟩:=r.get h2;have hn:=mZ;have fin:EP X Z σ Q w s:=⟨z,H,I,ub,q⟩;exact subscriptTail_builtinR pl.typeIs slot_tuple_getitem.lookup
  (getItem_tuple pl ∅ ∅ (by rw[Al,<- r.length];exact h1) (by simpa using ew) ⟨rfl,fin⟩) hs
theorem wZ:yO X Hv:=by
 intro Á slice Z s σ H x y v u Q I rx ry h hs;obtain⟨z,i,c,rfl,rfl,hz,he,q⟩:=h;obtain⟨t,rfl⟩:=rx;obtain⟨t',rfl⟩:=ry;obtain⟨j,h1,h2,h3,h4,h5⟩:=nN he;have hl:z.cps.toList.length=z.length:=by simp[BM]
 rw[hl]at h1 h4 h5;have hn:=mZ;exact tail_any (typeIs_str s z t) slot_str_getitem.lookup (getItem_str (by
  rw[(decide_eq_false ∅),(decide_eq_false ∅),Bool.or_false]) (by rw[h1];simpa using h2) ⟨.str ⟨#[c]⟩,H,I.tok _,⟨_,rfl⟩,q⟩) hs
def Sj(K:Aa):R2:=λx y H Q=>KY K x y H Q\/KW K x y H Q\/Hv x y H Q
def Iv:yO X (Sj X.K):=E1.or (Iu.or wZ)
def qG(aw:O ci)(n j:Nat)(u:ci):DY (·.setIfInBounds j u) {cls:=.type "list",data:=.seq aw.toArray n}={cls:=.type "list",data:=.seq (aw.set j u).toArray n}:=by
 simp[DY]
def Inv.lst{Z:O (ce×Obj)}{σ:St}{H:Hp}{s:db}{p:ce}{xs:O V}(I:Inv X Z σ H s)(h:H p=al (.lst xs)):∃(aw:O ci) (n:Nat),Vals xs aw/\s.heap.get? p=al {cls:=.type "list",data:=.seq aw.toArray n}/\xs.length<=sizeLine:=by
 obtain⟨z,aw,n,r,e⟩:=I.aW p _ h;exact⟨aw,n,r,e,z⟩
def Inv.Ie{s:db}{p:ce}{n':Nat}{f:Obj->Obj}(I:Inv X Z σ H s)(h:H p=al (.lst xs))(ho:s.heap.get? p=al {cls:=.type "list",data:=.seq aw.toArray n})(hf:f {cls:=.type "list",data:=.seq aw.toArray n}={cls:=.type "list",data:=.seq its'.toArray n'})(r:Vals ys its')(hz:ys.length<=sizeLine)(t:Nat):Inv X Z σ (upd H p (.lst ys)) {s with heap:=s.heap.update p f,toks:=t}:=by
 have e:(s.heap.update p f).get? p=al {cls:=.type "list",data:=.seq its'.toArray n'}:=by
  rw[Cj f ho (by rw[hf]<;>rfl),hf]
 refine I.write (x:=p) (e:=p) (by rw[h];trivial) (.inl rfl) (λb u hb q=>(DZ _ _ (BO hb)).trans q) ⟨_,e⟩ ?_;exact⟨hz,its',n',r,e⟩
def KS:V->V->V->Hp->(Hp->Prop)->Prop:=λo i v H Q=>∃p xs k j,o=.ref p/\i=.int k/\H p=al (.lst xs)/\pd xs.length k=al j/\Q (upd H p (.lst (xs.set j v)))
theorem set_list:uT X KS:=by
 intro Z s σ H o i v ov iv u Q I ro ri rv h;obtain⟨p,xs,k,j,rfl,rfl,hp,hj,q⟩:=h;cases ro;obtain⟨t,rfl⟩:=ri;obtain⟨aw,n,r,ho,hz⟩:=I.lst hp;obtain⟨h1,h2,h3,h4⟩:=sI hj;have hl:=r.length;have hn:=mZ;have I':=
  I.Ie hp ho (qG aw n j u) (r.set rv j) (by rw[Ee];exact hz) s.toks
 by_cases h0:0<=k
 .have hk:k.toNat=j:=by
   rw[seqIndex_of h0 h4]at h1;exact Option.some.inj h1
  exact PySem.W.ki_setAt ho h0 ∅ (by rw[Al,<- hl];exact h4) (by rw[hk];exact⟨_,I',q⟩)
 .have hk:(k+aw.toArray.size).toNat=j:=by
   rw[seqIndex_neg ∅ h3]at h1;rw[Al,<- hl];exact Option.some.inj h1
  exact PySem.W.ki_setBack ho ∅ (by rw[Al,<- hl];exact h3) ∅ (by rw[hk];exact⟨_,I',q⟩)
theorem mF(lo hi:Option Int)(n:Nat):(wP lo hi bn n).1=((HT.kQ n 0 lo:Nat):Int)/\(wP lo hi bn n).2.1=((HT.kQ n n hi:Nat):Int)/\(wP lo hi bn n).2.2=1:=by
 refine⟨?_,?_,rfl⟩
 .cases lo with
  |none=>simp[wP,HT.kQ]
  |some i=>
   simp only[wP,HT.kQ,DN];by_cases h:i<0
   .simp only[h,if_true]<;>lia
   .simp only[h,if_false]<;>lia
 .cases hi with
  |none=>simp[wP,HT.kQ]
  |some i=>
   simp only[wP,HT.kQ,DN,if_true];by_cases h:i<0
   .simp only[h,if_true]<;>lia
   .simp only[h,if_false]<;>lia
def kN(aw:O ci)(lo hi:Option Int):slicePick aw.toArray lo hi bn=((aw.drop (HT.kQ aw.length 0 lo)).take (HT.kQ aw.length aw.length hi-HT.kQ aw.length 0 lo)).toArray:=by
 obtain⟨h1,h2,h3⟩:=mF lo hi aw.toArray.size;unfold slicePick;rw[h1,h2,h3];simp only[sliceRange_one,pick_run]<;>rfl
def PQ(K:Aa):V->Option Int->Option Int->Hp->VK->Prop:=λx lo hi H Q=>∃a xs,x=.ref a/\cX K H a xs/\∀p,H p=bn->Q (.ref p) (upd H p (.lst (uK xs lo hi)))
theorem y9:GY X (PQ X.K):=by
 intro Z s σ H x v vl vu lo hi sl Q I rx hs pl pu h;obtain⟨a,xs,rfl,hx,q⟩:=h;cases rx;obtain⟨aw,r,ht,hz⟩:=I.list hx;have Ä:=r.length;refine⟨"list",_,slot_list_getitem.lookup,ht.isList.typeIs,?_⟩;refine wpAny_getItem_list_slice ht.isList hs pl pu .none (by simp) ?_ (by rw[Al] <;> lia);rw[kN,<- Ä];refine⟨.ref s.heap.objs.size,_,I.laid (λb ob q=>Ad _ q) (Aj _) ?_,rfl,q _ (I.aW.fresh (Aj _))⟩;exact⟨Av (pS xs lo hi) hz,_,0,(r.drop (HT.kQ xs.length 0 lo)).take (HT.kQ xs.length xs.length hi-HT.kQ xs.length 0 lo),Am _ rfl⟩
theorem nJ:bE X (.type "list") (λxs H Q=>∃p ys,xs=[.ref p]/\(cX X.K H p ys\/dP X.K H p ys)/\∀l,H l=bn->Q (.ref l) (upd H l (.lst ys))):=by
 intro Z s σ H xs us Q I r h;obtain⟨p,ys,rfl,hq,q⟩:=h;obtain⟨u,rfl,rx⟩:=vals1 r;cases rx;have fin:∀aw,Vals ys aw->ys.length<=sizeLine->∀(h':io) c',(∀b o',s.heap.get? b=al o'->h'.get? b=al o')->
   h'.get? s.heap.objs.size=al {cls:=.type "list",dict:=bn,data:=.seq aw.toArray c',slots:=#[]}->EP X Z σ Q (.ref s.heap.objs.size) {s with heap:=h'}:=λaw r' hz h' c' kp e=>
  ⟨.ref s.heap.objs.size,_,I.laid (t':=s.toks) kp (Aj _) (show bM X.prog X.w _ h' _ (.lst ys) from⟨hz,aw,c',r',e⟩),rfl,q _ (I.aW.fresh (Aj _))⟩
 rcases hq with hq|hq
 .obtain⟨aw,r',pl,hz⟩:=I.list hq;have Ä:=r'.length;obtain⟨o,ho,hc,n,hd⟩:=pl.isList;exact call_list_seq p (.inl rfl) ho hc hd (λh' c' kp e=>fin aw r' hz h' c' kp e) (by simp only[Al]<;>lia)
 .obtain⟨aw,r',pl,hz⟩:=I.tuple hq;have Ä:=r'.length;obtain⟨o,ho,hc,n,hd⟩:=pl;exact call_list_seq p (.inr rfl) ho hc hd (λh' c' kp e=>fin aw r' hz h' c' kp e) (by simp only[Al]<;>lia)
def Nm(K:Aa)(T:String)(x:V)(H:Hp):Prop:=match x with
 |.str _=>T="str"
 |.int _=>T="int"
 |.ref p=>(T="list"/\∃xs,cX K H p xs)\/(T="tuple"/\∃o,K.lookup p=al o/\o.cls=.type "tuple"/\o.dict=bn)\/
   (T="dict"/\((∃aZ,H p=al (.dK aZ))\/∃aZ,H p=al (.dT aZ)))\/(T="set"/\∃S n,H p=al (.set S n))
 |_=>False
def vg{s:db}{x:V}(I:Inv X Z σ H s)(r:RelV x v)(ty:Nm X.K T x H):s.TypeIs v T/\∀a,v=.ref a->∃ob,s.heap.get? a=al ob/\ob.dict=bn:=by
 cases x with
 |str z=>
  obtain⟨t,rfl⟩:=r;cases (ty);exact⟨typeIs_str s z t,λ_ e=>nomatch e⟩
 |int i=>
  obtain⟨t,rfl⟩:=r;cases (ty);exact⟨typeIs_int s i t,λ_ e=>nomatch e⟩
 |ref p=>
  cases r;rcases ty with⟨rfl,xs,hq⟩|⟨rfl,o,hk,hc,hd⟩|⟨rfl,hk⟩|⟨rfl,S,n,hk⟩
  .obtain⟨aw,_,pl,_⟩:=I.list hq;refine⟨pl.isList.typeIs,λa e=>?_⟩;cases e;obtain⟨o,n,e,c,hd,_⟩:=pl;exact⟨o,e,hd⟩
  .refine⟨⟨o,I.cR p o hk,hc⟩,λa e=>?_⟩;cases e;exact⟨o,I.cR _ o hk,hd⟩
  .have z:∃o,s.heap.get? p=al o/\o.ExactDict:=by
    rcases hk with⟨aZ,hk⟩|⟨aZ,hk⟩
    .obtain⟨_,_,_,_,o,_,_,e,ex,_⟩:=I.aW p _ hk;exact⟨o,e,ex⟩
    .obtain⟨_,_,_,_,o,_,_,e,ex,_⟩:=I.aW p _ hk;exact⟨o,e,ex⟩
   obtain⟨o,e,ex⟩:=z;refine⟨⟨o,e,ex.1⟩,λa e2=>?_⟩;cases e2;exact⟨o,e,ex.2.1⟩
  .obtain⟨o,_,_,_,e,ex,_⟩:=I.aW p _ hk;refine⟨⟨o,e,ex.1⟩,λa e2=>?_⟩;cases e2;exact⟨o,e,ex.2.1⟩
 |_=>exact AD ty
def Ku(K:Aa)(T:String)(r:V->O V->Hp->VK->Prop)(to:TE):TE:=λσ H Q=>to σ H λx H1=>Nm K T x H1/\r x [] H1 Q
def Sa(K:Aa)(T:String)(r:V->O V->Hp->VK->Prop)(to:TE)(t:TA):TE:=λσ H Q=>to σ H λx H1=>Nm K T x H1/\t σ H1 λxs H2=>r x xs H2 Q
variable{o e:im}{es:O im}{to:TE}{t:TA}{name:Str}{À bS:Pos}{T id:String}{r:V->O V->Hp->VK->Prop}
def HD(pa:PlainAttrs T)(slot:Slot T name id)(IA:typeOf (.builtin id)=pure (.type "method_descriptor"))(hm:OH X id r)(ho:PE X o to)(cL:‹re o name X.env (jp o X.env)=jp o X.env›)(fy:‹J2 À bS›):PE X (.Call (.Attribute o name À) [] [] bS) (Ku X.K T r to):=by
 intro Z s σ H Q I h;refine wpAny_Call_method0_late cL fy (bb (ho Z s σ H _ I h) λv s1 ⟨x,H1,I1,r1,ty,q1⟩=>?_);obtain⟨h1,h2⟩:=vg I1 r1 ty;exact⟨T,id,pa,slot,IA,h1,h2,CT rfl (PySem.evalArgs_none (hm Z s1 σ H1 x [] v [] Q I1 r1 .nil q1))⟩
def K9(pa:PlainAttrs T)(slot:Slot T name id)(IA:typeOf (.builtin id)=pure (.type "method_descriptor"))(hm:OH X id r)(ho:PE X o to)(ha:PA X (e::es) t)(cL:‹re o name X.env (jp o X.env)=jp o X.env›)(qQ:‹OJ X bS (e::es)›)(fy:‹J2 À bS›)(hs:‹dZ X e es›)(gy:‹fb X bS es›):PE X (.Call (.Attribute o name À) (e::es) [] bS) (Sa X.K T r to t):=by
 intro Z s σ H Q I h;refine wpAny_Call_method_late cL qQ fy rfl (bb (ho Z s σ H _ I h) λv s1 ⟨x,H1,I1,r1,ty,q1⟩=>?_);obtain⟨h1,h2⟩:=vg I1 r1 ty;refine⟨T,id,pa,slot,IA,h1,h2,?_⟩;have hA:=ha bS Z s1 σ H1 _ I1 q1;rw[hs]at hA ⊢;exact CT (by show(false||(Fk bS (gt es X.env)).any (·.1))=false;rw[gy]<;>rfl) (Eo (bb hA λus s2 ⟨vs,H2,I2,r2,q2⟩=>hm Z s2 σ H2 x vs v us Q I2 r1 r2 q2))
end
end L2
variable{l:AN}
namespace L2
def FP(X:Cx)(id:String)(r:V->O V->Hp->VK->Prop):Prop:=
 ∀(Z:O (ce×Obj)) (s:db) (σ:St) (H:Hp) (x:V) (xs:O V) (v:ci) (us:O ci) (Q:VK),Inv X Z σ H s->RelV x v->Vals xs us->r x xs H Q->
  f8 (gl X.prog X.w) X.A (call (.builtin id) (v::us)) (EP X Z σ Q) X.xe s
def Vals.one:∀{x:V}{us:O ci},Vals [x] us->∃u,us=[u]/\RelV x u
 |_,_,.cons r .nil=>⟨_,rfl,r⟩
def Vals.zero:∀{us:O ci},Vals [] us->us=[]
 |_,.nil=>rfl
def Vals.dropLast(h:Vals xs us):Vals xs.dropLast us.dropLast:=by
 induction h with
 |nil=>exact .nil
 |cons r t ih=>
  cases t with
  |nil=>exact .nil
  |cons q t'=>exact .cons r ih
theorem Vals.rep(h:Vals xs us):∀k:Nat,Vals (An k xs).flatten (An k us).flatten
 |0=>.nil
 |k+1=>by
  exact Vals.append h (Vals.rep h k)
theorem qW(l:List α):l.eraseIdx (l.length-1)=l.dropLast:=by
 induction l with
 |nil=>rfl
 |cons a r ih=>
  cases r with
  |nil=>rfl
  |cons b r=>
   have e:(a::b::r).length-1=((b::r).length-1)+1:=by
    have h1:(a::b::r).length=r.length+2:=rfl;have h2:(b::r).length=r.length+1:=rfl;lia
   rw[e,List.eraseIdx_cons_succ,ih]
   all_goals rfl
theorem foldl_rep(aw:O ci):∀(k:Nat) (Â:O ci),List.foldl (λx1 x2=>x1++x2) Â.toArray (An k aw.toArray)=(Â++(An k aw).flatten).toArray
 |0,Â=>by simp
 |k+1,Â=>by
  have e:Â.toArray++aw.toArray=(Â++aw).toArray:=by simp
  have e2:(Â++aw)++(An k aw).flatten=Â++(An (k+1) aw).flatten:=by
   rw[Dc,List.flatten_cons,List.append_assoc]
  rw[<- e2,<- foldl_rep aw k (Â++aw),<- e,Dc,List.foldl_cons]
section
variable{s:db}
def Inv.zU{f:Array ci->Array ci}{t':Nat}(I:Inv X Z σ H s)(hH:H l=al (.lst xs))(e:s.heap.get? l=al {cls:=.type "list",data:=.seq aw.toArray n})(hf:f aw.toArray=its'.toArray)(hv:Vals ys its')(hz:ys.length<=sizeLine):Inv X Z σ (upd H l (.lst ys)) {s with heap:=s.heap.update l (DY f),toks:=t'}:=by
 have q:=PySem.IsL.update e f;rw[hf]at q;refine I.write (by rw[hH];exact trivial) (.inl rfl) (λb' u hb hu=>(DZ s.heap (DY f) (BO hb)).trans hu) ⟨_,q⟩ ?_;exact⟨hz,its',_,hv,q⟩
def Inv.Ig{t':Nat}(I:Inv X Z σ H s)(hv:Vals ys aw)(hz:ys.length<=sizeLine):Inv X Z σ (upd H s.heap.objs.size (.lst ys)) {s with heap:=s.heap.push {cls:=.type "list",data:=.seq aw.toArray},toks:=t'}:=
 I.laid (λ_ _ q=>Ad _ q) (Aj _) ⟨hz,aw,0,hv,Am _ rfl⟩
def Inv.fresh(I:Inv X Z σ H s):H s.heap.objs.size=bn:=I.aW.fresh (Aj _)
def Inv.j3(I:Inv X Z σ H s)(hH:H l=al (.lst xs)):xs.length<=sizeLine/\∃(aw:O ci) (n:Nat),Vals xs aw/\xs.length=aw.length/\s.heap.get? l=al {cls:=.type "list",data:=.seq aw.toArray n}:=by
 obtain⟨z,aw,n,r,e⟩:=I.aW l _ hH;exact⟨z,aw,n,r,r.length,e⟩
theorem gU(h:n<=sizeLine):Builtin.List.listTooLong n=false:=by
 exact decide_eq_false ∅
end
section
def zj:V->O V->Hp->VK->Prop:=λx vs H Q=>∃l xs y,x=.ref l/\vs=[y]/\H l=al (.lst xs)/\xs.length<sizeLine/\Q .a8 (upd H l (.lst (xs++[y])))
theorem uo:FP X "list.append" zj:=by
 intro Z s σ H x vs v us Q I rx rv h;obtain⟨l,xs,y,rfl,rfl,hH,hz,q⟩:=h;cases rx;obtain⟨u,rfl,ru⟩:=rv.one;obtain⟨z,aw,n,r,hl,e⟩:=I.j3 hH;refine IR F.slot_list_append ⟨_,e,rfl⟩ F.entry_list_append (F.args_list_append_2 _ _) (PySem.list_append l aw.toArray n u (by rw[Al];lia)) ⟨e,?_⟩;refine⟨.a8,_,I.zU hH e (by simp) (r.append (.cons ru .nil)) ?_,rfl,q⟩;rw[Ap,Ei];lia
def zh:V->O V->Hp->VK->Prop:=λx vs H Q=>∃l b xs zs,x=.ref l/\vs=[.ref b]/\H l=al (.lst xs)/\H b=al (.lst zs)/\xs.length+zs.length<=sizeLine/\Q .a8 (upd H l (.lst (xs++zs)))
theorem JI:FP X "list.extend" zh:=by
 intro Z s σ H x vs v us Q I rx rv h;obtain⟨l,b,xs,zs,rfl,rfl,hH,hB,hz,q⟩:=h;cases rx;obtain⟨u,rfl,ru⟩:=rv.one;cases ru;obtain⟨z,aw,n,r,hl,e⟩:=I.j3 hH;obtain⟨z2,cx,n2,r2,QN,e2⟩:=I.j3 hB;have E2:aw.toArray.size+cx.toArray.size<=sizeLine:=by rw[Al,Al];lia
 have xg:¬(!aw.toArray.isEmpty&&Builtin.List.listTooLong (aw.toArray.size+cx.toArray.size))=true:=by
  rw[gU E2,Bool.and_false];exact AL
 refine IR F.slot_list_extend ⟨_,e,rfl⟩ F.entry_list_extend (F.args_list_extend_2 _ _)
  (AutoSeq1.list_extend_list_list_0 l aw.toArray n b cx.toArray n2 xg (by rw[Al];lia) ∅) ⟨e,e2,?_⟩
 refine⟨.a8,_,I.zU hH e (by simp) (r.append r2) ?_,rfl,q⟩;rw[Ap];lia
def PX:V->O V->Hp->VK->Prop:=λx vs H Q=>∃l xs y,x=.ref l/\vs=[]/\H l=al (.lst xs)/\xs[xs.length-1]?=al y/\Q y (upd H l (.lst xs.dropLast))
theorem H9:FP X "list.pop" PX:=by
 intro Z s σ H x vs v us Q I rx rv h;obtain⟨l,xs,y,rfl,rfl,hH,hy,q⟩:=h;cases rx;have Wz:=rv.zero;subst Wz;obtain⟨z,aw,n,r,hl,e⟩:=I.j3 hH;obtain⟨u,hu,ru⟩:=r.get hy;have Ww:aw.toArray[aw.toArray.size-1]?=al u:=by
  show aw.toArray[aw.length-1]?=al u;rw[<- Array.getElem?_toList,<- hl];exact hu
 refine IR F.slot_list_pop ⟨_,e,rfl⟩ F.entry_list_pop (F.args_list_pop_1 _) (MeetsSeq.list_pop_last l aw.toArray n u Ww (by rw[Al];lia)) ⟨e,?_⟩;refine⟨y,_,I.zU hH e ?_ r.dropLast ?_,ru,q⟩
 .rw[Al,List.eraseIdxIfInBounds_toArray,qW]
 .rw[List.length_dropLast];lia
def PY:R2:=λx y H Q=>∃l b xs zs,x=.ref l/\y=.ref b/\H l=al (.lst xs)/\H b=al (.lst zs)/\xs.length+zs.length<=sizeLine/\∀p,H p=bn->Q (.ref p) (upd H p (.lst (xs++zs)))
theorem HK:dQ X (r9 .Add) PY:=by
 intro Z s σ H x y v u Q I rx ry h;obtain⟨l,b,xs,zs,rfl,rfl,hH,hB,hz,q⟩:=h;cases rx;cases ry;obtain⟨z,aw,n,r,hl,e⟩:=I.j3 hH;obtain⟨z2,cx,n2,r2,QN,e2⟩:=I.j3 hB;refine PySem.P.add_list e e2 ?_ (by rw[Al,Al];lia);have ea:aw.toArray++cx.toArray=(aw++cx).toArray:=by simp
 rw[ea];exact⟨.ref _,_,I.Ig (r.append r2) (by rw[Ap];lia),rfl,q _ I.fresh⟩
def PU:R2:=λx y H Q=>∃l k xs,x=.ref l/\y=.int k/\H l=al (.lst xs)/\-(2 ^ 63)<=k/\k<2 ^ 63/\xs.length*k.toNat<=sizeLine/\
 ∀p,H p=bn->Q (.ref p) (upd H p (.lst (An k.toNat xs).flatten))
def len_rep(xs:List α)(k:Nat):(An k xs).flatten.length=k*xs.length:=by
 induction k with
 |zero=>simp
 |succ k ih=>rw[Dc,List.flatten_cons,Ap,ih,Nat.succ_mul,Nat.add_comm]
theorem HF:dQ X (r9 .Mult) PU:=by
 intro Z s σ H x y v u Q I rx ry h;obtain⟨l,k,xs,rfl,rfl,hH,h1,h2,hz,q⟩:=h;cases rx;obtain⟨t,rfl⟩:=ry;obtain⟨z,aw,n,r,hl,e⟩:=I.j3 hH;have Ä:aw.toArray.size*k.toNat<=sizeLine:=by rw[Al,<- hl];exact hz
 have xn:¬aw.toArray.size*k.toNat > (2 ^ 63-1) / 8:=by
  have:(sizeLine:Nat)<=(2 ^ 63-1) / 8:=by decide
  lia
 have QW:¬(!Builtin.List.listFitsIndex k)=true:=by
  rw[fitsIndex_both h1 h2];exact AL
 have xg:¬Builtin.List.listTooLong (aw.toArray.size*k.toNat)=true:=by
  rw[gU Ä];exact AL
 have QJ:List.foldl (λx1 x2=>x1++x2) #[] (An (if aw.toArray.isEmpty=true then 0 else k.toNat) aw.toArray)=(An k.toNat aw).flatten.toArray:=by
  have f0:∀m:Nat,List.foldl (λx1 x2=>x1++x2) #[] (An m aw.toArray)=(An m aw).flatten.toArray:=λm=>by
   have:=foldl_rep aw m [];exact this
  rw[f0];cases aw with
  |nil=>simp
  |cons a r'=>rw[if_neg (by simp)]
 refine wpAny_binaryOp_repeat_ref (T:="list") ⋯ ⟨_,e,rfl⟩ (λs'=>typeIs_int s' k t) noFill_list_mul F.fills_int_mul F.slot_int_rmul repeat_list F.slot_int_index.lookup
  (IR F.slot_int_rmul (typeIs_int s k t) F.entry_int_rmul (F.args_int_rmul_2 _ _) (int___rmul___int_list k t l aw.toArray n)
   ⟨e,rfl,⟨_,e,rfl⟩,IR F.slot_list_mul ⟨_,e,rfl⟩ F.entry_list_mul (F.args_list_mul_2 _ _) (AutoListH.list___mul___list_int_3 l aw.toArray n k t QW xn xg) ⟨e,?_⟩⟩)
 rw[QJ];exact⟨.ref _,_,I.Ig (r.rep k.toNat) (by rw[len_rep,Nat.mul_comm];exact hz),rfl,q _ I.fresh⟩
end
section
variable{s:db}
def tU(aw cx:O ci)(a c:Nat):aw.toArray.extract 0 a++cx.toArray++aw.toArray.extract c aw.toArray.size=(aw.take a++cx++aw.drop c).toArray:=by
 apply Array.toList_inj.mp
 first
  |(
    simp;exact Cb (by simp))
  |simp
  |simp
theorem rj{a c:Nat}(JP:a<=c)(hc:c<=n):wP (al (a:Int)) (al (c:Int)) bn n=((a:Int),(c:Int),1):=by
 simp only[wP,DN];have h1:¬(a<0):=by lia
 congr 1
 .omega
 .congr 1;lia
set_option maxRecDepth 100000 in
theorem kO{l b sl:ce}{items new:Array ci}{n n2:Nat}{vl vu:ci}{a c:Nat}{Q:Unit->db->Prop}(e:s.heap.get? l=al {cls:=.type "list",data:=.seq items n})(e2:s.heap.get? b=al {cls:=.type "list",data:=.seq new n2})(LQ:l≠b)(hs:s.heap.IsSliceOf sl vl vu .none)(pl:IsPart vl (al (a:Int)))(pu:IsPart vu (al (c:Int)))(JP:a<=c)(hc:c<=items.size)(E2:items.size+new.size<=sizeLine)(h:Q () {s with heap:=s.heap.update l (DY λxs=>xs.extract 0 a++new++xs.extract c xs.size)}):f8 (gl prog w) A (setItem (.ref l) (.ref sl) (.ref b)) Q E s:=by
 have hl:s.heap.IsList l items:=ES e;have hb:s.heap.IsList b new:=ES e2;obtain⟨os,E4,JN,GH⟩:=id hs;have S8:s.TypeIs (.ref sl) "slice":=⟨os,E4,JN⟩;have LO:¬((rawPart bn==lf 0)=true):=AL;have xb:Builtin.List.listSameRef (.ref l) (.ref b)=false:=by
  unfold Builtin.List.listSameRef;exact beq_eq_false_iff_ne.mpr LQ
 have QL:(max (a:Int) (c:Int)).toNat=c:=by lia
 have LN:((λxs:Array ci=>xs.extract 0 a++new++xs.extract c xs.size) items).size<=sizeLine+1:=by
  simp only[Array.size_append,Array.size_extract];lia
 unfold setItem
 try with_reducible refine A4 ?_
 first|refine Ab (Ae ?_)|skip
 refine Ab (wpAny_sequenceKey hl.typeIs ⋯ ?_);refine Ab (BE (name:=DV "__setitem__") hl.typeIs slot_list_setitem
  (Ct slot_list_setitem hl.typeIs entry_list_setitem ?_ (args_list_setitem _ _ _)))
 show f8 _ _ (Builtin.List.listSubscript? (.ref sl) >>= _) _ _ s;refine Ab ?_;unfold Builtin.List.listSubscript?;refine Ab (wpAny_specialOf S8 slice_no_index ?_);simp only[Option.isNone_none,if_true];refine Ae ?_;show f8 _ _ (typeOf (.ref sl) >>= _) _ _ s;refine Ab (wpAny_typeOf S8 ?_)
 first
  |rw[if_neg ⋯]
  |refine PySem.W.KFB.if_not ⋯ ?_
 rw[listSliceParts_eq];refine Ab (Ab (A6 E4 GH (x:=.none) rfl (Ab (Er .none ?_))));rw[if_neg LO];refine Ab (A6 E4 GH (x:=vl) rfl (Ab (Er pl ?_)));refine Ab (A6 E4 GH (x:=vu) rfl (Ab (Er pu (Ae ?_))))
 first
  |simp only[xb,AX,if_false]
  |refine PySem.W.KFB.if_not xb ?_
  |(
    dsimp only;rw[if_neg (by rw[xb];exact AL)])
 refine Ab (m:=Builtin.List.listAllItems (.ref b) "must assign iterable to extended slice") ?_;unfold Builtin.List.listAllItems;refine Ab (wpAny_typeOf hb.typeIs ?_)
 first
  |refine PySem.W.KFB.if_so ⋯ ?_
  |rw[if_pos ⋯]
  |simp only[beq_self_eq_true,Bool.true_or,if_true]
 unfold Builtin.List.listItems;refine Ab (wpAny_seqItems e2 rfl (Ae ?_));refine Ab (Ab (wpAny_seqItems e rfl (Ae ?_)));refine Ab (C4 ((sliceIndices_raw (al (a:Int)) (al (c:Int)) bn items.size (by simp)).trans (congrArg (pure:Int×Int×Int->Sem (Int×Int×Int)) (rj JP hc))) ?_);show f8 _ _ (if ((1:Int)==1)=true then _ else _) _ _ s;rw[if_pos ⋯];refine Ab (D2 ?_)
 first
  |simp only[gU E2,AX,if_false]
  |refine PySem.W.KFB.if_not (gU E2) ?_
 first|refine Ab (Ae ?_)|skip
 show f8 _ _ (updateSeq l (λxs=>xs.extract 0 ((a:Int)).toNat++new++xs.extract (max (a:Int) (c:Int)).toNat xs.size) >>= _) _ _ s;rw[QL,Cn];refine Ab (wpAny_updateSeq (hz:=Av (DP _ _) E2) (_hz':=LN) e rfl ?_);refine Ab (Es ?_)
 first
  |exact Ab (Ae (Ae ⟨.none,rfl,Ae h⟩))
  |exact Ae ⟨.none,rfl,Ae h⟩
end
section
theorem tX{s:db}{sl:ce}{a c:Int}{vl vu:ci}{Q:Unit->db->Prop}(I:Inv X Z σ H s)(hH:H l=al (.lst xs))(hB:H b=al (.lst ys))(LQ:l≠b)(hs:s.heap.IsSliceOf sl vl vu .none)(ra:RelV (.int a) vl)(rc:RelV (.int c) vu)(h0:0<=a)(JP:a<=c)(hc:c<=xs.length)(hz:xs.length+ys.length<=sizeLine)(h:∀s',Inv X Z σ (upd H l (.lst (xs.take a.toNat++ys++xs.drop c.toNat))) s'->Q () s'):f8 (gl X.prog X.w) X.A (setItem (.ref l) (.ref sl) (.ref b)) Q X.xe s:=by
 obtain⟨ta,rfl⟩:=ra;obtain⟨tc,rfl⟩:=rc;obtain⟨z,aw,n,r,hl,e⟩:=I.j3 hH;obtain⟨z2,cx,n2,r2,QN,e2⟩:=I.j3 hB;obtain⟨a',rfl⟩:=DS h0;obtain⟨c',rfl⟩:=DS (Int.le_trans h0 JP);simp only[Cn]at h;refine kO (a:=a') (c:=c') e e2 LQ hs (.int _ _) (.int _ _) ∅ (by rw[Al];lia) (by rw[Al,Al];lia) (h _ ?_);refine I.zU (its':=aw.take a'++cx++aw.drop c') (t':=s.toks) hH e ?_ (Vals.append (Vals.append (r.take _) r2) (r.drop _)) ?_
 .exact tU aw cx a' c'
 .rw[Ap,Ap,Bc,Cv];lia
end
end L2
variable{v:L2.V}{aZ:O (O L2.Key×L2.V)}
namespace L2
def LH{k:Key}(r:RelV (kV k) u):(cq P w).is k u=true:=by
 cases k with
 |inl i=>obtain⟨t,e⟩:=(r);subst e;exact oW P w i t
 |inr x=>obtain⟨t,e⟩:=(r);subst e;exact oV P w x t
theorem l7:∀{ks:O Key}{us:O ci},Vals (ks.map kV) us->ItemsAre (cq P w) ks us
 |[],_,r=>by rw[EL]at r;cases r;exact .nil
 |k::ks,_,r=>by
  cases r with
  |cons h t=>exact .cons (LH h) (l7 t)
abbrev KT(H:Hp):O (O Key×V)->O (O Key×ce×ci)->Prop:=Paired λp q=>p.1=q.1/\H q.2.1=al (.tup (p.1.map kV))/\RelV p.2 q.2.2
def KT.keeps{xs:O (O Key×ce×ci)}(r:KT H aZ xs)(ht:∀b ys,H b=al (.tup ys)->H' b=al (.tup ys)):KT H' aZ xs:=
 Paired.Ic r λ_ _ z=>⟨z.1,ht _ _ z.2.1,z.2.2⟩
section
def Gg{u:HO}(ok:fR P w H h)(e:Rd H a u):bM P w H h a u:=e.ok ok
def xY{aZ:O (Key×V)}(ok:fR P w H h)(e:Rd H a (.dK aZ)):aZ.length<=sizeLine/\(a==FS)=false/\∃vs,KV aZ vs/\h.DictOf (cq P w) a vs:=
 show bM P w H h a (.dK aZ) from Gg ok e
def Io{ks:O Key}(ok:fR P w H h)(e:H a=al (.tup (ks.map kV))):(tupleKind (cq P w)).is h ks a:=by
 obtain⟨_,aw,r,⟨o,h1,h2,n,h3⟩,_⟩:=(show bM P w H h a (.tup (ks.map kV)) from ok a _ e);exact⟨o,aw.toArray,n,h1,h2,h3,by simpa using l7 r⟩
def xX(ok:fR P w H h)(e:Rd H a (.dT aZ)):aZ.length<=sizeLine/\(a==FS)=false/\ ∃xs,KT H aZ xs/\h.DictOfH (tupleKind (cq P w)) a xs:=by
 obtain⟨z,y,xs,r,o,es,ep,h1,h2,h3,h4,h5⟩:=(Gg ok e);refine⟨z,y,xs,r,o,es,ep,h1,h2,h3,h4,λx hx=>?_,h5⟩;have all:∀{l:O (O Key×V)}{m:O (O Key×ce×ci)},KT H l m->∀x∈m,(tupleKind (cq P w)).is h x.1 x.2.1:=by
  intro l m q
  induction q with
  |nil=>intro x hx;exact nomatch hx
  | @cons p q ps qs hq t ih=>
   intro x hx;rcases Au.mp hx with e|hx
   .subst e;exact Io ok (by rw[<- hq.1];exact hq.2.1)
   .exact ih x hx
 exact all r x hx
end
section
variable{s:db}
def Inv.big(I:Inv X Z σ H s):FS<s.heap.objs.size:=by
 exact Nat.lt_trans ⋯ ((I.mod.glob.keeps I.bk).lt)
end
def xZ(h:io)(hb:FS < h.objs.size):bM P w H (h.push {cls:=.type "dict",data:=.dict #[]}) h.objs.size (.dK []):=
 ⟨Bz _,beq_eq_false_iff_ne.mpr (BO (AI hb)),[],.nil,Heap.DictOf.new h⟩
def Hg:TE:=λ_ H Q=>∀p,H p=bn->Q (.ref p) (upd H p (.dK []))
section
def v8:PE X (.Dict [] [] pos) Hg:=λZ s σ H Q I h=>
 wpAny_Dict_empty ⟨.ref s.heap.objs.size,_,I.laid (λ_ _ q=>Ad _ q) (Aj _) (xZ s.heap I.big),rfl,h _ (I.aW.fresh (Aj _))⟩
end
structure M2(X:Cx)(o:im)(m:Str)(À:Pos)(e f:im)(bS:Pos):Prop where
 base:re o m X.env (jp o X.env)=jp o X.env
 Yi:((Fk bS (gt [e,f] X.env)).all (λx=>!x.1)&&(backToKw bS (GE [] X.env)).all (λx=>x.1.isSome)
  && decide (([e,f]:List im).length+([]:List Keyword).length+(if ([]:List Keyword).isEmpty then 0 else 1)<30))=true
 line:(À.endLine==bS.line)=true
 trees:Fk bS (gt [e,f] X.env)=[(false,jp e X.env),(false,jp f X.env)]
def X5(H:Hp)(a:ce):Prop:=(∃aZ,Rd H a (.dK aZ))\/∃aZ,Rd H a (.dT aZ)
end L2
variable{Ñ:O Bt}{XP:(Bt->Option AO)->Ds->Prop}{YP:PySem.World->Ds->Prop}
namespace Att
open PySem PySem.W PySem.Calls PyProof.Rows
def jm{P:Params}:∀(ns:O Int) (vs:O ci),WellAll P h vs (ns.map WData.int)->IntsAre vs ns:=by
 intro ns
 induction ns with
 |nil=>
  intro vs w;cases w;exact .nil
 |cons n ns ih=>
  intro vs w;cases w with
  |cons a b=>
   cases a;exact .cons _ _ (ih _ b)
theorem tZ{l:OpenLaw}(hn:l.most=al n){P:Params}{args:O WData}{Õ:O ci}(E3:l.row.toRowW.claim.pre args=true)(Qz:WellAll P h Õ args):∃a vs ns,Õ=[Ar a]/\args=[WData.list (ns.map WData.int)]/\h.get? a=al {cls:=.type "list",data:=.seq vs.toArray}/\IntsAre vs ns/\ns.length<=n:=by
 have hc:l.pre.holds [] {args:=args}=true:=(pre_splitW E3).2;obtain⟨d,r,rfl,h1,h2⟩:=hasAllW_cons ((pre_splitW E3).1);obtain rfl:=hasAllW_nil h2;obtain⟨xs,rfl,h3⟩:=hasW_list h1;obtain⟨ns,rfl⟩:=items_int h3;have Ä:ns.length<=n:=by
  unfold OpenLaw.pre at hc;have h4:(WTm.not (.lt (.lit (.int (n:Int))) (.len (.arg 0)))).holds [] {args:=[.list (ns.map .int)]}=true:=by
   have h4:=(holds_andW hc).1;rw[hn]at h4;exact h4
  have h5:=condW_of h4 (w_not (w_lt w_lit (w_len_list (w_arg rfl))));refine Nat.le_of_not_lt λq=>?_
  first
   |(rw[decide_eq_true q']at h5;exact absurd h5 ⋯)
   |(simp at h5;lia)
 cases Qz with
 |cons w1 w2=>
  cases w2;cases w1 with
  |list ho Q7=>exact⟨_,_,ns,rfl,rfl,ho,jm ns _ Q7,Ä⟩
def uc(l:OpenLaw)(args:O WData):l.row.toRowW.claim.post args (.bool true) args=true:=
 postW_of
  (show WShape.has [] (.bool true) .bool=true by first|rfl|decide|simp[WShape.has,WShape.arms])
  (w_eq_bool (w_res rfl) w_lit) rfl
def p3{l:OpenLaw}{q:lm}{d:DefRec}(hn:l.most=al n)(QX:d.params.defaults=[])(call:∀(w:sw) (s₀ s₁:db) (mg mb:Str->Option ci) (fa:ce) (o:Obj) (pm cd Æ:ci) (a:ce) (vs:O ci) (ns:O Int),
   Ground q Ñ [] XP w s₀ mg mb s₁.heap->YP w s₁.heap->
   s₁.heap.get? fa=al o->o.data=.func (docDef d.name d.params d.body d.scope pm cd Æ)->s₁.heap.CodeRec cd d.name->mg d.name=al (.ref fa)->
   s₁.heap.get? a=al {cls:=.type "list",data:=.seq vs.toArray}->IntsAre vs ns->ns.length<=n->s₁.gens=#[]->
   FM (gl l.prog w) callerA (.call (.ref fa) ⟨[.ref a],[]⟩) (λr s'=>r=.ok (.ret (.bool true))/\OldK s₁.heap s'.heap/\s'.os=s₁.os/\GT s'.gens) s₁):WalkO q Ñ XP YP l.row.toRowW d [] (λf vs=>PySem.call f vs):=by
 intro w s₀ s₁ mg mb G Y fa o pm cd Æ dV kV ho hd df hD hmg hg args Õ as E3 WT Yc Qz Yd;obtain rfl:dV=.none:=Dflts.none hD QX;obtain rfl:kV=.none:=Dflts.noKw hD;obtain⟨a,vs,ns,rfl,rfl,IC,Ò,Ä⟩:=tZ hn E3 Qz;refine enter_call (tz (call w s₀ s₁ mg mb fa o pm cd Æ a vs ns G Y ho (fd_plain hd) df hmg IC Ò Ä hg) λr s' hq=>?_);obtain⟨rfl,h2,h3,h4⟩:=hq;exact⟨.inl ⟨.bool true,.bool true,[],rfl,λ_=>rfl,.bool true,uc l _,λ_=>⟨List.Pairwise.nil,λ_ hm=>(nomatch hm)⟩⟩,h2,h3,h4⟩
end Att
namespace L2
theorem lx:∀{vs:O ci}{ns:O Int},IntsAre vs ns->Vals (ns.map V.int) vs
 |_,_,.nil=>.nil
 |_,_,.cons n t h=>.cons ⟨t,rfl⟩ (lx h)
end L2
variable{sp:L2.Sp}{B:Prop}
namespace L2
def bA(s:nn):Arguments:=match s with
 |.FunctionDef _ a _ _ _ _ _ _ _ _=>a
 |_=>{posonlyargs:=[],args:=[],vararg:=bn,kwonlyargs:=[],kw_defaults:=[],kwarg:=bn,defaults:=[]}
def aY(s:nn):O nn:=match s with
 |.FunctionDef _ _ b _ _ _ _ _ _ _=>b
 |_=>[]
def aj(s:nn):GM:=match s with
 |.FunctionDef _ _ _ _ _ _ sc _ _ _=>sc
 |_=>{kind:=.function,names:=[],isGenerator:=false,isCoroutine:=false}
abbrev iz:uY:=λ_ _ _ _ _ _=>False
abbrev E0:XK:=λ_ _ _=>False
def sd:Passes iz X E0:=λ_ _ _ _ _ _ _ h=>h.elim
structure gD(K:Aa)(x qual:Str)(st:nn)(f:ce)(fd:sK):Prop where
 ex:∃(oc:ci) (od:Option ce) (kV Æ pm:ci) (an:Option ce) (bC ct:ci) (u7:Array (Option ci)),
  fd=AY x qual (bA st) (aY st) (aj st) .none kV Æ pm an bC ct/\K.lookup f=al ⟨oc,od,.func fd,u7⟩/\Bx K bC qual=true
 kp:AG K (.ref f)=true
section
variable{K:Aa}
def gD.ok{x:Str}{st:nn}{f:ce}{N:O Str}(F:gD K x qual st f fd)(S:bI N ps (aj st))(len:∀vs H Q E,sp vs H Q E->vs.length=ps.length)(kd:∀(bC:ci) (A:u8) (outer:O Env) (s:db) (H:Hp) (vs:O V) (Q:VK) (E:XK),bf k (A.deeper (wT qual (aj st) s.heap.objs.size f bC))->sp vs H Q E->
   ∃t,jb (ic iz P w K mg base N qual (aj st) f bC A outer s H E).yG (aY st) t/\t {nx:=λ_ H'=>Q .a8 H',rt:=Q} (start N vs) H):ba P w K mg base iz (k+1) f fd ps sp:=by
 obtain⟨oc,od,kV,Æ,pm,an,bC,ct,u7,rfl,lk,df⟩:=F.ex;refine xv lk df S len λA outer s H vs Q E hr qO=>?_;obtain⟨t,h,q⟩:=kd bC A outer s H vs Q E hr qO;exact⟨t,h.yG,q⟩
def gD.binds{x:Str}{st:nn}{f:ce}(F:gD K x qual st f fd)(h:∀(kV Æ pm:ci) (an:Option ce) (bC ct:ci) (us:O ci),us.length=ps.length->bindArgs (AY x qual (bA st) (aY st) (aj st) .none kV Æ pm an bC ct) ⟨us,[]⟩=pure (ps.zip us)):Binds K fd ps []:=by
 obtain⟨oc,od,kV,Æ,pm,an,bC,ct,u7,rfl,lk,df⟩:=F.ex;exact .all (h kV Æ pm an bC ct)
def iR{x:Str}{st:nn}{f:ce}{kV:ci}(l:K.lookup f=al ⟨oc,od,.func (AY x qual (bA st) (aY st) (aj st) .none kV Æ pm an bC ct),u7⟩)(c:Bx K bC qual=true)(k:AG K (.ref f)=true):gD K x qual st f (AY x qual (bA st) (aY st) (aj st) .none kV Æ pm an bC ct):=⟨⟨oc,od,kV,Æ,pm,an,bC,ct,u7,rfl,l,c⟩,k⟩
end
def tV(h:n<=1000):n<sizeLine:=Nat.lt_of_le_of_lt h ⋯
section
def pv(i:Nat){x:Str}(hN:‹X.N[i]?=al x›)(hv:rp X.env.scope x:=by first|exact Bj rfl|exact Bo (Bj rfl)|exact Bo (Bo rfl))(hd: ~~~(dg x))(df: ~~~(rA x)):PE X (.Name x pos) (Kf i):=c7 hN hv hd df
end
def cS{A:Prop}(h:B):if false=true then A else B:=by
 exact h
def eZ{A:Prop}(h:A):if true=true then A else B:=by
 exact h
def cI(H H':Hp):Prop:=∀b o,H b=al o->H' b=al o
def cI.refl(H:Hp):cI H H:=λ_ _ h=>h
def cI.free(e:cI H H')(h:H' l=Option.none):H l=Option.none:=by
 cases q:H l with
 |none=>rfl
 |some o=>
  rw[e l o q]at h;cases h
end L2
variable{b:Nat}{H2:L2.Hp}{Xs:PySem.Scope}{N':O Bt}{ix:O (Option Nat)}{cl:O (Bt×AN)}{Ð:Bu}{Ï:O Bu}
namespace L2
def Qg{o:Obj}(e:h.get? b=al o):b<h.objs.size:=Ai e
def neN{a:Nat}(h:a≠b):a≠b:=h
def ltN{a:Nat}(h:a<b):a<b:=h
def GV{c:Nat}{v:Option ci}(q:h.IsCell c v):c<h.objs.size:=q.lt
structure cw(Xs:GM)(N:List Str)(sc:GM)(N':List Str)(ix:List (Option Nat)):Prop where
 kind:sc.kind=.function
 nc:∀y∈sc.names,y.2=.cell->sc.names.lookup y.1=al .cell
 loc:∀y∈sc.names,y.2=.local->sc.names.lookup y.1=al .local
 fr:∀y∈sc.names,y.2=.free->(Xs.names.lookup y.1=al .cell\/Xs.names.lookup y.1=al .free)
 nd:N'.Nodup
 len:ix.length=N'.length
 map:((ix.zip N').all λp=>match p.1 with|none=>true|some j=>decide (N[j]?=al p.2)&&decide (sc.names.lookup p.2=al .free))=true
def cw.at{N:O Str}(S:cw Xs N sc N' ix){i:Nat}{x:Str}(h1:ix[i]?=al (al j))(h2:N'[i]?=al x):N[j]?=al x/\sc.names.lookup x=al .free:=by
 have hm:((al j,x):Option Nat×Str)∈ix.zip N':=by
  refine A8 (i:=i) ?_;rw[Dv];exact⟨h1,h2⟩
 have q:=DR.mp S.map _ hm;simp at q;exact q
def ig(ix:O (Option Nat))(σ:St):St:=ix.map λo=>match o with|some j=>(σ[j]?).getD bn|none=>bn
def il(X:Cx)(sc:GM)(N':O Str)(cl:O (Str×ce))(C:ce)(s2:db)(H2:Hp)(fp:O ce):Cx where
 prog:=X.prog
 w:=X.w
 K:=X.K
 mg:=X.mg
 base:=X.base
 A:=X.A
 N:=N'
 s₀:=s2
 H₀:=H2
 env:=compEnvC sc cl C X.env
 outer:=X.stack
 stack:=X.stack
 ex:=fp
 calm:=X.calm
 fn:=λx=>sc.names.lookup x==al .cell
 pn:=[]
 xe:=λ_ _=>False
theorem gB:∀(names:O (Str×wn)) (cs:O (Str×ce)),(∀y∈names,y.2=.free->∃c,env.cells.lookup y.1=al c)->
  ∃cl,(forIn names cs λ(x:Str×wn) (c:O (Str×ce))=>(match x with|(name,kind)=>do
    let c <- if (kind==A3)=true then do let a <- cellOf env name;pure ((name,a)::c) else pure c
    pure (BV c):Sem (ForInStep (O (Str×ce)))))=pure cl/\(∀x c,cl.lookup x=al c->cs.lookup x=al c\/(env.cells.lookup x=al c/\(x,A3)∈names))/\(∀x,((x,A3)∈names\/(∃c,cs.lookup x=al c))->∃c,cl.lookup x=al c)
 |[],cs,_=>⟨cs,rfl,λ_ _ h=>.inl h,λx h=>h.elim (λz=>nomatch z) λz=>z⟩
 |(n,k)::r,cs,h=>by
  by_cases hk:k=.free
  .subst hk;obtain⟨c,hc⟩:=h (n,.free) A9 rfl;obtain⟨cl,e,h1,h2⟩:=gB r ((n,c)::cs) λy hy=>h y (AH _ hy);refine⟨cl,?_,λx d hd=>?_,λx hx=>?_⟩
   .rw[Ef,<- e];simp only[beq_self_eq_true,if_true,cellOf,hc,pure_bind]
   .rcases h1 x d hd with z|⟨z1,z2⟩
    .rw[AA]at z;by_cases hx:(x==n)=true
     .rw[hx]at z;have pf:x=n:=eq_of_beq hx;subst pf;cases z;exact .inr ⟨hc,A9⟩
     .have pf:(x==n)=false:=by simpa using hx
      rw[pf]at z;exact .inl z
    .exact .inr ⟨z1,AH _ z2⟩
   .refine h2 x ?_;rcases hx with hx|⟨d,hd⟩
    .rcases Au.mp hx with z|z
     .injection z with z1 _;subst z1;exact .inr ⟨c,by rw[AA];simp⟩
     .exact .inl z
    .by_cases hx:(x==n)=true
     .exact .inr ⟨c,by rw[AA,hx]⟩
     .have pf:(x==n)=false:=by simpa using hx
      exact .inr ⟨d,by rw[AA,pf];exact hd⟩
  .obtain⟨cl,e,h1,h2⟩:=gB r cs λy hy=>h y (AH _ hy);refine⟨cl,?_,λx d hd=>?_,λx hx=>?_⟩
   .have hb:(k==A3)=false:=by simpa using hk
    rw[Ef,<- e];simp only[hb,AX,if_false,pure_bind]
   .rcases h1 x d hd with z|⟨z1,z2⟩
    .exact .inl z
    .exact .inr ⟨z1,AH _ z2⟩
   .refine h2 x ?_;rcases hx with hx|hx
    .rcases Au.mp hx with z|z
     .injection z with _ z2;exact absurd z2.symm hk
     .exact .inl z
    .exact .inr hx
def gp(h:∀y∈sc.names,y.2=.free->∃c,env.cells.lookup y.1=al c):∃cl,closureFor sc env=pure cl/\(∀x c,cl.lookup x=al c->env.cells.lookup x=al c/\(x,A3)∈sc.names)/\(∀x,(x,A3)∈sc.names->∃c,cl.lookup x=al c):=by
 obtain⟨cl,e,h1,h2⟩:=gB sc.names [] h;refine⟨cl,?_,λx c hc=>(h1 x c hc).resolve_left (λz=>nomatch z),λx hx=>h2 x (.inl hx)⟩;unfold closureFor;have e':(forIn sc.names ([]) λx r=>(match x with|(name,kind)=>if (kind==A3)=true then do let a <- cellOf env name;pure (BV ((name,a)::r)) else pure (BV r):Sem (ForInStep (O (Str×ce)))))=pure cl:=by
  rw[<- e]
  first
   |rfl
   |(
     congr 1;funext x r;by_cases hk)
   |simp
 simpa using e'
theorem nH:∀(names:O (Str×wn)) (n:Nat) (Â:O (Str×ce)) (x:Str) (c:ce),(r6 n names Â).lookup x=al c->(Â.lookup x=al c/\(x,Ci)∉names)\/((x,Ci)∈names/\n<=c)
 |[],_,_,_,_,e=>.inl ⟨e,λh=>nomatch h⟩
 |(y,k)::r,n,Â,x,c,e=>by
  unfold r6 at e
  split at e
  .rename_i hk;have WX:k=.cell:=eq_of_beq hk;subst WX;rcases nH r _ _ x c e with⟨a,b⟩|⟨a,b⟩
   .rw[AA]at a;cases hx:x==y with
    |true=>
     rw[hx]at a;cases a;exact .inr ⟨by rw[eq_of_beq hx];exact A9,Aj _⟩
    |false=>
     rw[hx]at a;refine .inl ⟨a,λh=>?_⟩;rcases Au.mp h with z|z
     .cases z;simp at hx
     .exact b z
   .exact .inr ⟨AH _ a,Nat.le_of_succ_le b⟩
  .rename_i hk;rcases nH r _ _ x c e with⟨a,b⟩|⟨a,b⟩
   .refine .inl ⟨a,λh=>?_⟩;rcases Au.mp h with z|z
    .cases z;simp at hk
    .exact b z
   .exact .inr ⟨AH _ a,b⟩
theorem q8:∀(names:O (Str×wn)) (n:Nat) (Â:O (Str×ce)) (x:Str),((x,Ci)∈names\/∃c,Â.lookup x=al c)->∃c,(r6 n names Â).lookup x=al c
 |[],_,_,_,h=>h.elim (λz=>nomatch z) id
 |(y,k)::r,n,Â,x,h=>by
  unfold r6
  split
  .refine q8 r _ _ x ?_;cases hx:x==y with
   |true=>exact .inr ⟨n,by rw[AA,hx]⟩
   |false=>
    rcases h with h|⟨c,h⟩
    .rcases Au.mp h with z|z
     .cases z;simp at hx
     .exact .inl z
    .exact .inr ⟨c,by rw[AA,hx];exact h⟩
  .rename_i hk;refine q8 r _ _ x ?_;rcases h with h|h
   .rcases Au.mp h with z|z
    .cases z;simp at hk
    .exact .inl z
   .exact .inr h
theorem qZ:∀(names:O (Str×wn)) (n:Nat) (Â:O (Str×ce)),(∀x y c,Â.lookup x=al c->Â.lookup y=al c->x=y)->(∀x c,Â.lookup x=al c->c<n)->∀x y c,(r6 n names Â).lookup x=al c->(r6 n names Â).lookup y=al c->x=y
 |[],_,_,h,_=>h
 |(z,k)::r,n,Â,h,hl=>by
  unfold r6
  split
  .refine qZ r _ _ (λx y c e1 e2=>?_) λx c e=>?_
   .rw[AA]at e1 e2;cases hx:x==z<;>cases hy:y==z<;>rw[hx]at e1<;>rw[hy]at e2
    .exact h x y c e1 e2
    .cases e2;exact absurd (hl _ _ e1) (Bl _)
    .cases e1;exact absurd (hl _ _ e2) (Bl _)
    .rw[eq_of_beq hx,eq_of_beq hy]
   .rw[AA]at e;cases hx:x==z<;>rw[hx]at e
    .exact DC (hl _ _ e)
    .cases e;exact BL _
  .exact qZ r _ _ h hl
theorem nI:∀(names:O (Str×wn)) (h:io) (Â:O (Str×ce)) (x:Str) (c:ce),(r6 h.objs.size names Â).lookup x=al c->Â.lookup x=al c\/(pushCells h names).IsCell c bn
 |[],_,_,_,_,e=>.inl e
 |(y,k)::r,h,Â,x,c,e=>by
  unfold r6 at e;unfold pushCells
  split at e
  .rename_i hk;rw[if_pos hk];rw[<- Bm h {cls:=.type "cell",data:=.cell bn}]at e;rcases nI r _ _ x c e with a | a
   .rw[AA]at a;cases hx:x==y<;>rw[hx]at a
    .exact .inl a
    .cases a;exact .inr ⟨_,pushCells_keeps _ _ _ _ (by rw[Bm]at *;exact Am _ rfl),rfl⟩
   .exact .inr a
  .rename_i hk;rw[if_neg hk];exact nI r h Â x c e
def jH{s:db}{globals:ce}{builtins:ce}{Q:Env->db->Prop}(hQ:∀h',h'.Ns s.heap.objs.size (λ_=>bn)->(∀b o,s.heap.get? b=al o->h'.get? b=al o)->(∀x c,(r6 (s.heap.objs.size+1) sc.names cl).lookup x=al c->cl.lookup x=al c\/h'.IsCell c bn)->
   Q (newEnv sc s.heap.objs.size globals (r6 (s.heap.objs.size+1) sc.names cl) qual bn .none (al env) builtins) {s with heap:=h'}):f8 M A (newFunctionEnv sc globals cl [] qual bn .none (al env) builtins) Q E s:=by
 simp only[newFunctionEnv,Option.isSome_some,if_true];refine Ab (wpAny_alloc ?_);refine Ab (wpAny_layCells _ (λname kind cells=>by cases WW:kind==Ci <;> simp[WW]) _ _ _ _ ?_);rw[List.forIn_nil,show({s with heap:=s.heap.push {cls:=.type "dict",data:=.dict #[]}}:db).heap.objs.size=s.heap.objs.size+1 from Bm ..];refine Ab (Ae (Ae (hQ _ ((Heap.Ns.new s.heap (.type "dict")).keeps (pushCells_keeps _ _)) (λb o e=>pushCells_keeps _ _ b o (Ad _ e)) λx c e=>?_)));rw[<- Bm s.heap {cls:=.type "dict",data:=.dict #[]}]at e;exact nI _ _ _ _ _ e
theorem da{env:Env}:∀{names:O (Str×wn)}{x:Str},(names.map λ(n,k)=>if (k==A3&&env.scope.kind==.function&&env.kindOf n==al .cell) then (n,Ci) else (n,k)).lookup x = (names.lookup x).map λk=>if (k==A3&&env.scope.kind==.function&&env.kindOf x==al .cell) then Ci else k
 |[],_=>rfl
 |(n,k)::r,x=>by
  have ih:=@da env r x;show B7 x ((if (k==A3&&env.scope.kind==.function&&env.kindOf n==al .cell)=true then (n,Ci) else (n,k))::_)=_;cases hx:x==n with
  |true=>
   have e:=eq_of_beq hx;subst e;by_cases hc:(k==A3&&env.scope.kind==.function&&env.kindOf x==al .cell)=true
   .rw[if_pos hc,AA,AA,hx];simp only[CD,hc,if_true]
   .rw[if_neg hc,AA,AA,hx];simp only[CD,hc];simp
  |false=>
   by_cases hc:(k==A3&&env.scope.kind==.function&&env.kindOf n==al .cell)=true
   .rw[if_pos hc,AA,AA,hx];exact ih
   .rw[if_neg hc,AA,AA,hx];exact ih
def OB(X:Cx)(Ï:O im)(t:TT):Prop:=
 ∀(Z:O (ce×Obj)) (s:db) (σ:St) (H:Hp) (Q:Bool->Hp->Prop),Inv X Z σ H s->t σ H Q->
  f8 (gl X.prog X.w) X.A (forIn Ï true λc r=>if r=true then do let ok <- isTrue c X.env (jp c X.env);pure (BV ok) else pure (BV r)) (TP X Z σ Q) X.xe s
def Po:TT:=λ_ H Q=>Q true H
def zt:OB X [] Po:=λZ s σ H Q I h=>by
 exact Ae ⟨H,I,h⟩
def R8(ix:O (Option Nat))(wi:TI)(g:TG)(tf:TT)(te:TE):TE:=λσ H Q=>wi σ H λJ H1=>∀D,H1 D=bn->∃W:Nat->Nat->St->O V->Hp->Prop,
 (∃m,W 0 m (ig ix σ) [] (upd H1 D (.lst [])))/\∀i m σ' ys H,W i m σ' ys H->H D=al (.lst ys)/\
  ((J.stop i H/\Q (.ref D) H)\/(J.go i H/\∀x H',J.JA i H x H'->g x σ' H' λσ2 H2=>tf σ2 H2 λb H3=>
   if b=true then te σ2 H3 λy H4=>H4 D=al (.lst ys)/\ys.length+1<=sizeLine/\∃m',m'<m/\W (i+1) m' σ2 (ys++[y]) (upd H4 D (.lst (ys++[y]))) else ∃m',m'<m/\W (i+1) m' σ2 ys H3))
def gc{s:db}{Ê:im}{it Â:ci}(I:Nat->db->Prop)(Í:∀n s,I n s->f8 (gl prog w) A (pyNext it) (λr s₁=>match r with
   |none=>R (.ok .next) s₁
   |some v=>f8 (gl prog w) A (KF Ê it v) (λ_ F9=>f8 (gl prog w) A (assign Ê env v) (λ_ s₂=>
     f8 (gl prog w) A (forIn Ï true λc r=>if r=true then do let ok <- isTrue c env (jp c env);pure (BV ok) else pure (BV r)) (λok s₃=>
      if ok=true then f8 (gl prog w) A (jp Ð env) (λx s₄=>
       f8 (gl prog w) A (call (.builtin "list.append") [Â,x]) (λ_ s₅=>∃m,m < n/\I m s₅) (λ_ _=>False) s₄) (λ_ _=>False) s₃
      else ∃m,m<n/\I m s₃) (λ_ _=>False) s₂) (λ_ _=>False) F9) (λ_ _=>False) s₁) (λ_ _=>False) s) n(h:I n s):FM (gl prog w) A (.compLoop (.ListComp Ð [⟨Ê,iter,Ï,0⟩] scope pos) 0 it Â env) R s:=by
 refine codeAny_loop rfl I (λn s hI=>?_) n h;refine wpAny_noted ?_;refine Ab (BK (Ab (Be (Í n s hI) (λr s₁ h₁=>?_) λ_ _ h'=>h'.elim)));cases r with
 |none=>exact Ae h₁
 |some v=>
  refine Ab (Be h₁ (λ_ F9 LM=>?_) λ_ _ h'=>h'.elim);refine Ab (Be LM (λ_ s₂ h₂=>Ab (Be h₂ (λok s₃ h₃=>?_) λ_ _ h'=>h'.elim)) λ_ _ h'=>h'.elim);cases ok with
  |false=>exact Ae ⟨rfl,h₃⟩
  |true=>
   exact Ab (Ab (Be h₃ (λx s₄ h₄=>Ab (Be h₄ (λ_ s₅ h₅=>Ae (Ae ⟨rfl,h₅⟩)) λ_ _ h'=>h'.elim)) λ_ _ h'=>h'.elim))
section
variable{wi:TI}{g:TG}{tf:TT}
structure Ng(X:Cx)(Z:List (ce×Obj))(H:Hp)(C:ce):Prop where
 hn:H C=bn
 hL:C≠X.env.locals
 ab:X.s₀.heap.objs.size<=C
 cl:∀x c,X.env.cells.lookup x=al c->c≠C
 pn:∀p∈X.pn++Z,p.1≠C
theorem zW(hc:X.calm=true)(S:cw X.env.scope X.N sc N' ix)(hg:∀cl C s2 H2 fp,PG (il X sc N' cl C s2 H2 fp) tg g)(hf:∀cl C s2 H2 fp,OB (il X sc N' cl C s2 H2 fp) Ï tf)(he:∀cl C s2 H2 fp,PE (il X sc N' cl C s2 H2 fp) Ð te){s2:db}(kb:∀x c,cl.lookup x=al c->X.env.cells.lookup x=al c/\(x,A3)∈sc.names)(qR:∀x,(x,A3)∈sc.names->∃c,cl.lookup x=al c){tn:Nat->io->Prop}{J:It}(I2:Inv X Z σ H2 s2)(T:Turn X.prog X.w X.K tg J fp it tn)(mz:tn 0 s2.heap)(f2:∀b∈fp,ll X Z H2 b)(hW:∀D,H2 D=bn->∃W:Nat->Nat->St->O V->Hp->Prop,
   (∃m,W 0 m (ig ix σ) [] (upd H2 D (.lst [])))/\∀i m σ' ys H,W i m σ' ys H->H D=al (.lst ys)/\
    ((J.stop i H/\Q (.ref D) H)\/(J.go i H/\∀x H',J.JA i H x H'->g x σ' H' λσ2 H2=>tf σ2 H2 λb H3=>
     if b=true then te σ2 H3 λy H4=>H4 D=al (.lst ys)/\ys.length+1<=sizeLine/\∃m',m'<m/\W (i+1) m' σ2 (ys++[y]) (upd H4 D (.lst (ys++[y]))) else ∃m',m'<m/\W (i+1) m' σ2 ys H3))){RR:ci->ce->Result->db->Prop}{E:ci->db->Prop}(Xf:∀D C m s' H',Inv X Z σ H' s'->Q (.ref D) H'->s'.heap.Ns C m->Ng X Z H' C->RR (.ref D) C (.ok .next) s'):f8 (gl X.prog X.w) X.A (newList []) (λÂ s₃=>f8 (gl X.prog X.w) X.A (newFunctionEnv sc X.env.globals cl [] X.env.qual bn .none (al X.env)) (λM3 s₄=>
   FM (gl X.prog X.w) X.A (.compStart (.ListComp Ð [⟨tg,iter,Ï,0⟩] sc pos) 0 (.ref it) Â {M3 with scope:=relabel sc X.env}) (RR Â M3.locals) s₄) E s₃) E s2:=by
 refine BD (jH λh₁ qP nh E8=>?_);generalize Ra:s2.heap.push {cls:=.type "list",dict:=bn,data:=.seq ([]).toArray}=G2 at qP nh E8 ⊢;have hC:G2.objs.size=s2.heap.objs.size+1:=by rw[<- Ra,Bm]
 obtain⟨D,hD⟩:∃D:Nat,s2.heap.objs.size=D:=⟨_,rfl⟩;obtain⟨C,Xi⟩:∃C:Nat,G2.objs.size=C:=⟨_,rfl⟩;simp only[hD,Xi]at qP nh E8 hC ⊢;have Xh:D≠C:=by lia
 have k1:=nH sc.names (C+1) cl;have k2:=q8 sc.names (C+1) cl;have k3:=qZ sc.names (C+1) cl;generalize r6 (C+1) sc.names cl=yb at E8 k1 k2 k3 ⊢;have Î:∀b o,s2.heap.get? b=al o->h₁.get? b=al o:=λb o e=>nh b o (Ra▸Ad _ e);have L1:h₁.get? D=al {cls:=.type "list",data:=.seq ([]:O ci).toArray}:=by
  refine nh D _ ?_;rw[<- Ra,<- hD];exact Am _ rfl
 have Tc:H2 D=bn:=I2.aW.fresh ∅;obtain⟨W,⟨m0,w0⟩,Í⟩:=hW D Tc;have GU:∀x c,cl.lookup x=al c->∃v,s2.heap.IsCell c v:=λx c e=>I2.cell x c (kb x c e).1;have MX:∀x c,cl.lookup x=al c->c<D:=λx c e=>by
  obtain⟨v,q⟩:=GU x c e;have:=GV q;exact ltN ∅
 have N0:∀b∈fp,b<D:=λb hb=>by
  obtain⟨o,e,_⟩:=T.obj 0 _ mz b hb;have:=Qg e;exact ltN ∅
 have Tf:∀b∈fp,∀x c,yb.lookup x=al c->c≠b:=λb hb x c e=>by
  rcases k1 x c e with⟨z,_⟩|⟨_,z⟩
  .exact(f2 b hb).2.2.2.2.1 x c (kb x c z).1
  .have:=ltN (N0 b hb);exact neN (a:=c) (b:=b) ∅
 have TL:(il X sc N' yb C s2 H2 fp).Ok:=by
  refine⟨I2.ok.mod,S.kind,I2.ok.glob,I2.ok.blt,?_,?_,?_,?_,I2.ok.hd,I2.ok.frames,.inl rfl,?_,I2.bs,?_,?_,?_,I2.stack,I2.gK⟩
  .show s2.heap.objs.size<=C;lia
  .exact k3 (λx y c e1 e2=>I2.ok.inj x y c (kb x c e1).1 (kb y c e2).1) λx c e=>by
    have h1:C=D+1:=by lia
    exact h1▸DC (DC (MX x c e))
  .intro x hx;have pf:(relabel sc X.env).names.lookup x=al .cell\/(relabel sc X.env).names.lookup x=al .free:=hx;unfold relabel at pf;rw[da]at pf;cases q:sc.names.lookup x with
   |none=>rw[q]at pf;simp at pf
   |some k=>
    have hm:=A1 q;refine k2 x ?_;by_cases hk:k=.free
    .subst hk;exact .inr (qR x hm)
    .rw[q]at pf;have hb:(k==A3)=false:=by simpa using hk
     simp only[CD,hb,Bool.false_and,AX,if_false]at pf;rcases pf with z|z
     .rw[Option.some.inj z]at hm;exact .inl hm
     .exact absurd (Option.some.inj z) hk
  .intro x c LX e;have QU:sc.names.lookup x=al .cell:=eq_of_beq LX;rcases k1 x c e with⟨_,z⟩|⟨_,z⟩
   .exact absurd (A1 QU) z
   .show s2.heap.objs.size<=c;lia
  .intro b hb;refine⟨?_,λx c e z=>Tf b hb x c e z⟩;show b≠C;have:=ltN (N0 b hb);exact neN ∅
  .exact Av I2.ok.ye I2.sz
  .intro b o e hb;rcases (f2 b hb).2.2.2.1 with z|z
   .exact I2.ok.um b o e z
   .have h1:=Qg (h:=X.base) e;have h2:=I2.ok.ye;lia
  .intro b hb z;rcases Au.mp (I2.jN b z) with q|q
   .exact(f2 b hb).2.1 q
   .exact(f2 b hb).2.2.1 q
 have UL:Un (jo X.stack) fp H2 (upd H2 D (.lst [])) s2.heap h₁:=Un.laid Î ∅ Tc;have IY:∀tk,Inv (il X sc N' yb C s2 H2 fp) [] (ig ix σ) (upd H2 D (.lst [])) {s2 with heap:=h₁,toks:=tk}:=λtk=>by
  refine⟨TL,rfl,I2.bare,UL,⟨_,qP,λi x v e1 e2 e3=>?_⟩,λx c e=>?_,?_,λx c e=>?_,λp hp=>absurd (show p∈([]) from hp) (by simp),(I2.aW.laid Î ∅ ⟨Bz _,[],0,.nil,L1⟩),?_⟩
  .have yN:=e1;unfold ig at e2;rw[AE]at e2;cases q:ix[i]? with
   |none=>rw[q]at e2;cases e2
   |some o=>
    cases o with
    |none=>rw[q]at e2;cases e2
    |some j=>
     rw[q]at e2;have Oy:(σ[j]?).getD bn=al v:=Option.some.inj e2;have e4:σ[j]?=al (al v):=by
      cases z:σ[j]? with
      |none=>rw[z]at Oy;cases Oy
      |some y=>rw[z]at Oy;exact congrArg al Oy
     obtain⟨a1,a2⟩:=S.at q yN;have LU:=A1 a2;have hk:=S.fr _ LU rfl;obtain⟨m,_,hl⟩:=I2.loc;obtain⟨u,r,l⟩:=hl j x v a1 e4 (.inr hk);refine⟨u,r,.inr ⟨?_,?_⟩⟩
     .show(relabel sc X.env).names.lookup x=al .cell\/(relabel sc X.env).names.lookup x=al .free;unfold relabel;rw[da,a2];by_cases hb:(X.env.scope.kind==.function&&X.env.kindOf x==al .cell)=true
      .left
       simp only[CD,beq_self_eq_true,Bool.true_and,hb,if_true]
      .right
       simp only[CD,beq_self_eq_true,Bool.true_and,hb,if_false,AX]
     .obtain⟨c,Q2⟩:=qR x LU;have W7:yb.lookup x=al c:=by
       obtain⟨c',q'⟩:=k2 x (.inr ⟨c,Q2⟩);rcases k1 x c' q' with⟨z,_⟩|⟨z,_⟩
       .rw[Q2]at z;cases z;exact q'
       .rw[S.nc _ z rfl]at a2;cases a2
      refine⟨c,W7,?_⟩;rcases l with⟨k,_⟩|⟨k,c',e',z⟩
      .have k':X.env.scope.names.lookup x=al .local:=k;rcases hk with y|y<;>rw[k']at y<;>cases y
      .rw[((kb x c Q2).1)]at e';cases e';obtain⟨o,ho,hd⟩:=z;exact⟨o,Î _ _ ho,hd⟩
  .rcases E8 x c e with z|z
   .obtain⟨v,o,ho,hd⟩:=GU x c z;exact⟨v,o,Î _ _ ho,hd⟩
   .exact⟨_,z⟩
  .show upd H2 D (.lst []) C=bn;rw[ag (BO Xh)];exact(I2.aW.fresh ∅)
  .rcases k1 x c e with⟨z,_⟩|⟨_,z⟩
   .have ka:=ltN (MX x c z);rw[ag (neN ∅)];exact I2.dA x c (kb x c z).1
   .rw[ag (neN (a:=c) (b:=D) ∅)];exact I2.aW.fresh ∅
  .unfold ig;rw[AB];exact S.len
 have Rk:∀{oJ:O (ce×Obj)}{H':Hp},(∀b∈fp,H' b=bn)->(∀p∈oJ,p.1∉fp)->∀b∈fp,ll (il X sc N' yb C s2 H2 fp) oJ H' b:=λhn hp b hb=>by
  refine⟨hn b hb,?_,?_,.inl hb,λx c e z=>Tf b hb x c e z,λp WK z=>?_⟩
  .show b≠C;have:=ltN (N0 b hb);exact neN ∅
  .exact TL.uH b hb
  .exact hp p WK (z▸hb)
 have Ü:∀s₃:db,s₃={s2 with heap:=h₁}->
   FM (gl X.prog X.w) X.A (.compLoop (.ListComp Ð [⟨tg,iter,Ï,0⟩] sc pos) 0 (.ref it) (.ref D) (compEnvC sc yb C X.env)) (RR (.ref D) C) s₃:=by
  rintro s₃ rfl;refine gc (λn s'=>∃i σ' ys H',Inv (il X sc N' yb C s2 H2 fp) [] σ' H' s'/\tn i s'.heap/\(∀b∈fp,H' b=bn)/\W i n σ' ys H') ?_ m0
   ⟨0,_,[],_,IY _,T.keep _ _ _ mz (λb _ o e=>Î b o e),λb hb=>by rw[ag (AI (N0 b hb))];exact(f2 b hb).1,w0⟩
  rintro n s3 ⟨i,σ3,ys,H3,I3,KA,L9,w3⟩;obtain⟨Yf,w3⟩:=Í i n σ3 ys H3 w3;rcases w3 with⟨stop,qn⟩|⟨go,step⟩
  .refine bb (T.done (il X sc N' yb C s2 H2 fp) rfl rfl rfl hc i [] s3 σ3 H3 _ I3 (Rk L9 (by simp)) KA stop) λr s4 ⟨hr,I4⟩=>?_;subst hr;obtain⟨m,hn,_⟩:=I4.loc;refine Xf D C m s4 H3 (I2.M6 I4.os I4.base I4.aW I4.bare λb hb=>?_) qn hn ?_
   .obtain⟨a0,a1,a2,a3,a4,a5⟩:=f2 b hb;exact⟨a3,a1,a4,a5⟩
   .refine⟨I4.free,?_,?_,λx c e z=>?_,λp hp z=>?_⟩
    .have:=ltN I2.lt;exact neN ∅
    .have:=I2.sz;lia
    .obtain⟨v,q⟩:=I2.cell x c e;have:=GV q;exact neN (a:=c) (b:=C) ∅ z
    .have:=Qg (I2.pin p hp).1;exact neN (b:=C) ∅ z
  .refine bb (T.item (il X sc N' yb C s2 H2 fp) rfl rfl rfl hc i [] s3 σ3 H3 (λ_ _=>False) I3 (Rk L9 (by simp)) KA go) λr s4 ⟨u,hr,h4⟩=>?_;subst hr;refine bb h4 λ_ s5 ⟨x,H5,I5,r5,y5,Hk,Rj⟩=>?_;refine bb (hg _ _ _ _ _ _ s5 σ3 H5 x u _ (I5.pinned (Rk Rj (by simp)) (T.obj _ _ Hk)) r5 (step x H5 y5)) λ_ s6 ⟨σ6,H6,I6,q6⟩=>?_;refine bb (hf _ _ _ _ _ _ s6 σ6 H6 _ I6 q6) λb s7 ⟨H7,I7,q7⟩=>?_;have wX:∀{s8:db}{σ8:St}{H8:Hp},Inv (il X sc N' yb C s2 H2 fp) ([]++iH fp s5.heap) σ8 H8 s8->tn (i+1) s8.heap/\∀b∈fp,H8 b=bn:=λ{s8 σ8 H8} I8=>by
    refine⟨T.keep _ _ _ Hk λb hb o e=>(I8.pin (b,o) (AJ _ (AJ _ (eI hb e)))).1,λb hb=>?_⟩;obtain⟨o,e,d⟩:=T.obj _ _ Hk b hb;exact(I8.pin (b,o) (AJ _ (AJ _ (eI hb e)))).2.1
   cases b with
   |false=>
    obtain⟨m',hm,w7⟩:=q7;obtain⟨t7,Xq⟩:=wX I7;exact⟨m',hm,i+1,σ6,ys,H7,I7.fe,t7,Xq,w7⟩
   |true=>
    refine bb (he _ _ _ _ _ _ s7 σ6 H7 _ I7 q7) λyv s8 ⟨y,H8,I8,r8,Tb,Wu,m',hm,w8⟩=>?_;obtain⟨z,aw,k,rv,Ye,e8⟩:=I8.j3 Tb;obtain⟨t8,Yh⟩:=wX I8;refine wpAny_list_append_plain (s:=s8) ⟨_,e8⟩ λh9 WU WI=>?_;obtain⟨k9,e9⟩:=WU;have I9:Inv (il X sc N' yb C s2 H2 fp) ([]++iH fp s5.heap) σ6 (upd H8 D (.lst (ys++[y]))) {s8 with heap:=h9,toks:=s8.toks}:=by
     refine I8.write (x:=D) (e:=D) (by rw[Tb];exact trivial) (.inl rfl) (λb u hb hu=>(WI.2 b hb).trans hu) ⟨_,e9⟩ ?_;refine⟨by rw[Ap,Ei];exact Wu,aw++[yv],k9,(Vals.append rv (.cons r8 .nil)),?_⟩;rw[e9];simp
    obtain⟨t9,Xp⟩:=wX I9;exact⟨m',hm,i+1,σ6,_,_,I9.fe,t9,Xp,w8⟩
 exact codeAny_compStart_list (Ü _ rfl) (T.self _ 0 _ _ _ (T.keep _ _ _ mz λb _ o e=>Î b o e) (Ü _ rfl))
def K7(hc:X.calm=true)(S:cw X.env.scope X.N sc N' ix)(hi:PI X tg iter wi)(hg:∀cl C s2 H2 fp,PG (il X sc N' cl C s2 H2 fp) tg g)(hf:∀cl C s2 H2 fp,OB (il X sc N' cl C s2 H2 fp) Ï tf)(he:∀cl C s2 H2 fp,PE (il X sc N' cl C s2 H2 fp) Ð te)(hs:uV X iter:=by intro _;rfl):PE X (.ListComp Ð [⟨tg,iter,Ï,0⟩] sc pos) (R8 ix wi g tf te):=by
 intro Z s σ H Q I h;obtain⟨cl,sM,kb,qR⟩:=gp (λy hy hk=>I.ok.has y.1 (S.fr y hy hk));refine wpAny_comprehension_free rfl hs sM S.kind S.loc (bb (hi Z s σ H _ I h) λv s1 h1=>bb h1 λQv s2 h2=>?_);obtain⟨it,fp,tn,J,H2,rfl,I2,T,mz,f2,hW⟩:=h2;exact zW hc S hg hf he kb qR I2 T mz f2 hW λD C m s' H' I' q hn F=>⟨m,hn,λh' WJ=>⟨.ref D,H',I'.turned (λb o hb e=>(WJ.2 b hb).trans e) F.hn F.hL (.inr F.ab) F.cl F.pn,rfl,q⟩⟩
end
end L2
variable{b:Bu}
namespace L2
section
def dD:bE X (.builtin "isinstance") (λxs H Q=>∃x c t b,xs=[x,.ty c]/\fN X.K H x t/\Ay X.K t (.type c)=al b/\Q (.bl b) H):=by
 intro Z s σ H xs us Q I r h;obtain⟨x,c,t,b,rfl,ty,hk,q⟩:=h;obtain⟨u,w',rfl,ru,ub⟩:=vals2 r;cases (ub);exact uz I ru ty hk λtk=>⟨.bl b,H,I.tok _,rfl,q⟩
def ue(hu:X.A.units<cLine):dQ X (mo .NotEq) (λx y H Q=>∃p q xs,x=.ref p/\y=.ref q/\cX X.K H p xs/\cX X.K H q []/\Q (.bl (!xs.isEmpty)) H):=by
 intro Z s σ H x y v u Q I rx ry h;obtain⟨p,q,xs,rfl,rfl,hp,hq,k⟩:=h;cases rx;cases ry;obtain⟨aw,r,pl,hz⟩:=I.list hp;obtain⟨cx,r2,K5,Wv⟩:=I.list hq;cases r2;cases xs with
 |nil=>
  cases r;exact DB (EE (e:=λ_=>true) pl.isList K5.isList rfl hu λj h1=>absurd h1 (by simp)) ⟨.bl false,H,I,rfl,k⟩
 |cons y ys=>
  have hl:=r.length;exact DB (Dl pl.isList K5.isList (by simp at hl ⊢;intro z;subst z;simp at hl) hu) ⟨.bl true,H,I,rfl,k⟩
def yf{bs:O Bool}:∀{us:O ci},Vals (bs.map V.bl) us->us=bs.map CG:=by
 induction bs with
 |nil=>intro us r;rw[EL]at r;cases r;rfl
 |cons n ns ih=>
  intro us r;cases r with
  |cons r1 r2=>
   cases r1;rw[ih r2];rfl
def rh(hc:X.calm=true):bE X (.builtin "all") (λxs H Q=>∃(p:ce) (bs:O Bool),xs=[.ref p]/\cX X.K H p (bs.map V.bl)/\Q (.bl (bs.all id)) H):=by
 intro Z s σ H xs us Q I r h;obtain⟨p,bs,rfl,hp,q⟩:=h;obtain⟨u,rfl,ru⟩:=vals1 r;cases ru;obtain⟨aw,rv,pl,hz⟩:=I.list hp;have eb:=yf rv;subst eb;have hl:=pl.isList;have ka:p<s.heap.objs.size:=by obtain⟨_,e,_⟩:=hl;exact Ai e
 refine call_all_walk (wpAny_pyIter_list hl ?_);refine⟨s.heap.objs.size,[s.heap.objs.size,p],[s.heap.objs.size],(bs.map CG).toArray.size,_,_,λi=>(bs[i]?).getD true,rfl,Walks.list (A:=X.A.in1) (I.ok.hd hc) _ p (AI ka) (bs.map CG).toArray,
  ⟨⟨_,Am _ rfl,rfl,rfl⟩,hl.push _⟩,λi v s' Q' E' hP hQ=>?_,λh' tk hk=>?_⟩
 .have L4:(bs.map CG)[i]?=al v:=by simpa using hP
  rw[AE]at L4;cases e:bs[i]? with
  |none=>rw[e]at L4;cases L4
  |some b=>
   rw[e]at L4;cases L4;simp only[e]at hQ;exact A7 hQ
 .have e:((Cc (bs.map CG).toArray.size).all λi=>(bs[i]?).getD true)=bs.all id:=by
   rw[Al,AB];exact LSm.range_all bs
  rw[e];exact⟨.bl (bs.all id),H,I.kept (LSm.kept_iter hk),rfl,q⟩
end
section
variable{CX:uY}{f:ce}{jF:O V}{ds:O ci}{E:XK}{x:Str}{p:Pos}{t:TA}
def Hh(f:ce)(sp:Sp)(jF:O V)(E:XK)(ta:TE)(t:TA):TE:=λσ H Q=>ta σ H λx H1=>x=.ref f/\t σ H1 λvs H2=>sp (vs++jF) H2 Q E
def v9(F:ba X.prog X.w X.K X.mg X.base CX k f fd ps sp)(hr:bf k X.A)(hf:PE X (.Name x p) ta)(hk:AG X.K (.ref f)=true)(hb:Binds X.K fd ps ds)(hd:Vals jF ds)(hx:Passes CX X E)(ha:PA X (e::es) t)(he:‹dZ X e es›)(bN:‹fb X pos es›):PE X (.Call (.Name x p) (e::es) [] pos) (Hh f sp jF E ta t):=by
 intro Z s σ H Q I h;refine AW (bb (hf Z s σ H _ I h) λv s1 ⟨y,H1,I1,r1,ey,q1⟩=>?_);subst ey;cases r1;exact Bq I.ok.mod.wW hk (bb (ha pos Z s1 σ H1 _ I1 q1) λus s2 ⟨vs,H2,I2,r,q⟩=>⟨I2.cR,jQ F hr hb hd hx I2 r q⟩) he bN
end
section
variable{lo hi:im}{tl th:TE}
def II(to tl th:TE):TG:=λv σ H Q=>to σ H λx H1=>tl σ H1 λi H2=>th σ H2 λj H3=>∃l b xs ys a c,x=.ref l/\v=.ref b/\i=.int a/\j=.int c/\H3 l=al (.lst xs)/\H3 b=al (.lst ys)/\l≠b/\0<=a/\a<=c/\c<=xs.length/\xs.length+ys.length<=sizeLine/\
 Q σ (upd H3 l (.lst (xs.take a.toNat++ys++xs.drop c.toNat)))
def vX(ho:PE X o to)(hl:PE X lo tl)(hh:PE X hi th)(ha:∀v,assign (.Subscript o (.Slice (al lo) (al hi) bn p2) pos) X.env v=(do
   let ov <- pi [v] (jp o X.env)
   let iv <- pi [v,ov] (jp (.Slice (al lo) (al hi) bn p2) X.env)
   FB pos
   pi [v,ov,iv] (setItem ov iv v)
   release [iv,v,ov] []):=by intro _;rfl):PG X (.Subscript o (.Slice (al lo) (al hi) bn p2) pos) (II to tl th):=by
 intro Z s σ H v u Q I r h;refine Ab (A4 (bb (ho Z s σ H _ I h) λov s1 ⟨x,H1,I1,r1,q1⟩=>?_));refine Ab (A4 (wpAny_Slice ?_));refine bb (hl Z s1 σ H1 _ I1 q1) λvl s2 ⟨i,H2,I2,r2,q2⟩=>bb (hh Z s2 σ H2 _ I2 q2) λvu s3 ⟨j,H3,I3,r3,q3⟩=>Ae ?_;obtain⟨l,b,xs,ys,a,c,rfl,rfl,rfl,rfl,hH,hB,LQ,h0,JP,hc,hz,q⟩:=q3;cases r;cases r1;refine Ab (BK (Ab (A4 (tX (I3.kept λb ob q=>Ad _ q) hH hB LQ (Heap.IsSliceOf.new ..) r2 r3 h0 JP hc hz λs' I'=>?_))));exact wpAny_release ⟨σ,_,I',q⟩
end
end L2
variable{k':Nat}{bS:Cs}
namespace L2
def iy(l:ce)(H H':Hp):Prop:=∀b u,b≠l->H b=al u->H' b=al u
def dU{p:ce}(h:H p=bn)(o:HO):cI H (upd H p o):=λb u q=>by rw[ag (a9 q h)];exact q
def ua{p:ce}(o:HO):iy p H (upd H p o):=λb u n q=>by rw[ag n];exact q
def jY(H:Hp)(o:HO)(Q:VK):Prop:=∀p H',cI H H'->H' p=al o->H p=bn->Q (.ref p) H'
def jY.at{o:HO}(h:jY H o Q)(p:ce)(hp:H p=bn):Q (.ref p) (upd H p o):=h p _ (dU hp o) ao hp
def vd(H:Hp)(l:ce)(o:HO)(Q:Hp->Prop):Prop:=∀H',iy l H H'->H' l=al o->Q H'
def vd.at{o:HO}{Q:Hp->Prop}(h:vd H l o Q):Q (upd H l o):=h _ (ua o) ao
def dQ.mono{f:ci->ci->Sem ci}{r:R2}(h:dQ X f r)(hr:∀x y H Q,r' x y H Q->r x y H Q):dQ X f r':=λZ s σ H x y v u Q I rx ry q=>h Z s σ H x y v u Q I rx ry (hr _ _ _ _ q)
def bE.mono{f:ci}{r r':O V->Hp->VK->Prop}(h:bE X f r)(hr:∀xs H Q,r' xs H Q->r xs H Q):bE X f r':=λZ s σ H xs us Q I rx q=>h Z s σ H xs us Q I rx (hr _ _ _ q)
def FP.mono{id:String}{r r':V->O V->Hp->VK->Prop}(h:FP X id r)(hr:∀x xs H Q,r' x xs H Q->r x xs H Q):FP X id r':=λZ s σ H x xs v us Q I rx rv q=>h Z s σ H x xs v us Q I rx rv (hr _ _ _ _ q)
def uT.mono{r r':yq}(h:uT X r)(hr:∀o i v H Q,r' o i v H Q->r o i v H Q):uT X r':=λZ s σ H o i v ov iv u Q I ro ri rv q=>h Z s σ H o i v ov iv u Q I ro ri rv (hr _ _ _ _ _ q)
def GY.mono{r':V->Option Int->Option Int->Hp->VK->Prop}(h:GY X r)(hr:∀x lo hi H Q,r' x lo hi H Q->r x lo hi H Q):GY X r':=λZ s σ H x v vl vu lo hi sl Q I rx hs pl pu q=>h Z s σ H x v vl vu lo hi sl Q I rx hs pl pu (hr _ _ _ _ _ q)
section
variable{t:TA}
def Kg(t:TA):TE:=λσ H Q=>t σ H λxs H1=>xs.length<=sizeLine/\jY H1 (.tup xs) Q
def Kn(t:TA):TE:=λσ H Q=>t σ H λxs H1=>xs.length<=sizeLine/\jY H1 (.lst xs) Q
def fY{x1}(h:PA X es t):PE X (.Tuple es x1 pos) (Kg t):=by
 intro Z s σ H Q I hq;refine wpAny_Tuple_spliced (bb (h pos Z s σ H _ I hq) λus s1 ⟨xs,H1,I1,r,z,q⟩=>⟨by rw[<- r.length];exact z,?_⟩);have hf:=I1.aW.fresh (Aj _);refine⟨.ref s1.heap.objs.size,upd H1 s1.heap.objs.size (.tup xs),I1.laid (λb u e=>Ad _ e) (Aj _) ?_,rfl,q.at _ hf⟩;exact⟨z,us,r,⟨_,Am _ rfl,rfl,_,rfl⟩,_,Am _ rfl,rfl⟩
def mO(h:PA X es t):PE X (.List es pos) (Kn t):=by
 intro Z s σ H Q I hq;refine wpAny_List_spliced (bb (h pos Z s σ H _ I hq) λus s1 ⟨xs,H1,I1,r,z,q⟩=>⟨by rw[<- r.length];exact z,?_⟩);have hf:=I1.aW.fresh (Aj _);refine⟨.ref s1.heap.objs.size,upd H1 s1.heap.objs.size (.lst xs),I1.laid (λb u e=>Ad _ e) (Aj _) ?_,rfl,q.at _ hf⟩;exact⟨z,us,0,r,Am _ rfl⟩
def Gk(K:Aa):R2:=λx y H Q=>match x with
 |.int i=>∃j,y=.int j/\Q (.int (i+j)) H
 |.str i=>∃j,y=.str j/\i.length+j.length<=sizeLine/\Q (.str (i++j)) H
 |.ref a=>(∃b xs zs,y=.ref b/\H a=al (.lst xs)/\H b=al (.lst zs)/\xs.length+zs.length<=sizeLine/\jY H (.lst (xs++zs)) Q)\/Gn K x y H Q
 |_=>False
def zE:dQ X (r9 .Add) (Gk X.K):=by
 refine((wu.or qD).or (HK.or sj)).mono λx y H Q h=>?_;cases x with
 |int i=>obtain⟨j,rfl,q⟩:=h;exact .inl (.inl ⟨i,j,rfl,rfl,q⟩)
 |str i=>obtain⟨j,rfl,hl,q⟩:=h;exact .inl (.inr ⟨i,j,rfl,rfl,hl,q⟩)
 |ref a=>
  rcases h with⟨b,xs,zs,rfl,h1,h2,hz,q⟩|h
  .exact .inr (.inl ⟨a,b,xs,zs,rfl,rfl,h1,h2,hz,λp hp=>q.at p hp⟩)
  .exact .inr (.inr h)
 |_=>exact h.elim
def zB:dQ X (r9 .Mult) (rI xz λi j=>.int (i*j)):=NC λ_ _ _ _ _ _ _ hc q=>mul_int q hc
def Gj(K:Aa):V->Option Int->Option Int->Hp->VK->Prop:=λx lo hi H Q=>∃a xs,x=.ref a/\cX K H a xs/\jY H (.lst (uK xs lo hi)) Q
def vA:GY X (Gj X.K):=y9.mono λx lo hi H Q ⟨a,xs,e,h,q⟩=>⟨a,xs,e,h,λp hp=>q.at p hp⟩
def rf:bE X (.type "list") (λxs H Q=>∃p ys,xs=[.ref p]/\(cX X.K H p ys\/dP X.K H p ys)/\jY H (.lst ys) Q):=nJ.mono λxs H Q ⟨p,ys,e,h,q⟩=>⟨p,ys,e,h,λl hl=>q.at l hl⟩
def vM:V->O V->Hp->VK->Prop:=λx vs H Q=>∃l xs y,x=.ref l/\vs=[y]/\H l=al (.lst xs)/\xs.length<sizeLine/\vd H l (.lst (xs++[y])) (Q .a8)
def gw:FP X "list.append" vM:=uo.mono λx xs H Q ⟨l,ys,y,e1,e2,h,hz,q⟩=>⟨l,ys,y,e1,e2,h,hz,q.at⟩
def KU:V->O V->Hp->VK->Prop:=λx vs H Q=>∃l xs y,x=.ref l/\vs=[]/\H l=al (.lst (xs++[y]))/\vd H l (.lst xs) (Q y)
def zR:FP X "list.pop" KU:=H9.mono λx xs H Q ⟨l,ys,y,e1,e2,h,q⟩=>⟨l,ys++[y],y,e1,e2,h,by simp,by rw[List.dropLast_concat];exact q.at⟩
def Hr:yq:=λo i v H Q=>∃p xs k j,o=.ref p/\i=.int k/\H p=al (.lst xs)/\pd xs.length k=al j/\vd H p (.lst (xs.set j v)) Q
def tY:uT X Hr:=set_list.mono λo i v H Q ⟨p,xs,k,j,e1,e2,h,hj,q⟩=>⟨p,xs,k,j,e1,e2,h,hj,q.at⟩
end
section
variable(K:Aa)(hK:X.K=K){a:im}{t:TA}{name:Str}{JJ:String}{r:V->O V->Hp->VK->Prop}
include hK
def cB:yO X (Sj K):=hK▸Iv
def so:dQ X (r9 .Add) (Gk K):=hK▸zE
def vz:GY X (Gj K):=hK▸vA
def Ht(K:Aa):O V->Hp->VK->Prop:=λxs H Q=>∃x n,xs=[x]/\Na K x H n/\Q (.int n) H
def cY:bE X (.builtin "len") (Ht K):=hK▸yc
def vL(K:Aa):O V->Hp->VK->Prop:=λxs H Q=>∃p ys,xs=[.ref p]/\(cX K H p ys\/dP K H p ys)/\jY H (.lst ys) Q
def q9:bE X (.type "list") (vL K):=hK▸rf
def K2(K:Aa):O V->Hp->VK->Prop:=λxs H Q=>∃(p:ce) (bs:O Bool),xs=[.ref p]/\cX K H p (bs.map V.bl)/\Q (.bl (bs.all id)) H
def uQ(hc:X.calm=true):bE X (.builtin "all") (K2 K):=hK▸rh hc
def Hs(K:Aa):R2:=λx y H Q=>∃p q xs,x=.ref p/\y=.ref q/\cX K H p xs/\cX K H q []/\Q (.bl (!xs.isEmpty)) H
def qC(hu:X.A.units<cLine):dQ X (mo .NotEq) (Hs K):=hK▸ue hu
def Pc(K:Aa)(ta:TE):TT:=λσ H Q=>ta σ H λx H'=>∃k,FN K x H' k/\Q k H'
def fX(ha:PE X a ta)(he:∀Ã,isTrue a X.env Ã=(do let v <- Ã;FB a.pos;pi [v] (truthy v))):PT X a (Pc K ta):=hK▸vP ha he
def zx(pa:PlainAttrs T)(slot:Slot T name JJ)(IA:typeOf (.builtin JJ)=pure (.type "method_descriptor"))(hm:OH X JJ r)(ho:PE X o to)(cL:‹re o name X.env (jp o X.env)=jp o X.env›)(fy:‹J2 À bS›):PE X (.Call (.Attribute o name À) [] [] bS) (Ku K T r to):=hK▸HD pa slot IA hm ho cL fy
def mR(pa:PlainAttrs T)(slot:Slot T name JJ)(IA:typeOf (.builtin JJ)=pure (.type "method_descriptor"))(hm:OH X JJ r)(ho:PE X o to)(ha:PA X (e::es) t)(cL:‹re o name X.env (jp o X.env)=jp o X.env›)(qQ:‹OJ X bS (e::es)›)(fy:‹J2 À bS›)(hs:‹dZ X e es›)(gy:‹fb X bS es›):PE X (.Call (.Attribute o name À) (e::es) [] bS) (Sa K T r to t):=hK▸K9 pa slot IA hm ho ha cL qQ fy hs gy
omit hK
end
structure uX(P:lm)(w:sw)(K:Aa)(mg:Str->Option ci)(base:io)(x:Str)(k:Nat)(ps:List Str)(sp:Sp) where
 f:ce
 fd:sK
 ok:ba P w K mg base iz k f fd ps sp
 bi:Binds K fd ps []
 kp:AG K (.ref f)=true
 at':mg x=al (.ref f)
section
variable{x:Str}{p:Pos}{t:TA}
def Kt(sp:Sp)(t:TA):TE:=λσ H Q=>t σ H λvs H1=>sp vs H1 Q E0
def mQ(G:uX X.prog X.w X.K X.mg X.base x k ps sp)(hr:bf k' X.A)(hk:k<=k')(hg:Gl X x)(ha:PA X (e::es) t)(cT: ~~~(dg x))(he:‹dZ X e es›)(bN:‹fb X pos es›):PE X (.Call (.Name x p) (e::es) [] pos) (Kt sp t):=by
 intro Z s σ H Q I h;refine AW (dr I hg G.at' ?_ cT);refine Bq I.ok.mod.wW G.kp (bb (ha pos Z s σ H _ I h) λus s1 ⟨vs,H1,I1,r,q⟩=>⟨I1.cR,?_⟩) he bN;refine jQ G.ok (hr.mono hk) G.bi .nil sd I1 r ?_;rw[AV];exact q
end
section
theorem rm{xs:List α}(h0:0<=i)(h1:i<xs.length):∃v,eV xs i=al v/\xs[i.toNat]?=al v:=by
 have hk:i.toNat<xs.length:=by lia
 have q:=nM (by rw[Ak hk]);have e:i.toNat=i:=by lia
 rw[e]at q;exact⟨_,q,by rw[Ak hk]⟩
def qt{K:Aa}(h:H l=al (.lst xs)):Nm K "list" (.ref l) H:=.inl ⟨rfl,_,cX.of h⟩
def wG{j:Int}(h1:-18446744073709551616<i)(h2:i<18446744073709551616):xz i j:=FZ.ok (.inl ⟨h1,h2⟩)
def mul_r{j:Int}(h1:-18446744073709551616<j)(h2:j<18446744073709551616):xz i j:=FZ.ok (.inr ⟨h1,h2⟩)
end
def cf(h:n<=1000):n<=sizeLine:=D4 (tV h)
section
variable(K:Aa)(hK:X.K=K)
include hK
def PN:V->Option Int->Option Int->Hp->VK->Prop:=λx lo hi H Q=>∃z,x=.str z/\z.length<=sizeLine/\Q (.str (Di z lo hi)) H
omit hK in
def Hn:GY X PN:=by
 intro Z s σ H x v vl vu lo hi sl Q I rx hs pl pu h;obtain⟨z,rfl,hz,q⟩:=h;obtain⟨t,rfl⟩:=rx;refine⟨"str",_,F.slot_str_getitem.lookup,typeIs_str _ _ _,?_⟩;obtain⟨os,E4,JN,GH⟩:=hs;have fin:∀t' k,EP X Z σ Q (.str (Di z lo hi) t') {s with toks:=k}:=λt' k=>⟨.str (Di z lo hi),H,I.tok _,⟨_,rfl⟩,q⟩;cases pl with
 |none=>
  cases pu with
  |none=>exact B6 (l:=bn) (u:=bn) (st:=bn) ⟨os,E4,JN,GH⟩ rfl (KB ⟨Av (Df z _ _) hz,fin⟩)
  |int j uj=>exact B6 (l:=bn) (u:=al (j,uj)) (st:=bn) ⟨os,E4,JN,GH⟩ rfl (KB ⟨Av (Df z _ _) hz,fin⟩)
 |int i ui=>
  cases pu with
  |none=>exact B6 (l:=al (i,ui)) (u:=bn) (st:=bn) ⟨os,E4,JN,GH⟩ rfl (KB ⟨Av (Df z _ _) hz,fin⟩)
  |int j uj=>exact B6 (l:=al (i,ui)) (u:=al (j,uj)) (st:=bn) ⟨os,E4,JN,GH⟩ rfl (KB ⟨Av (Df z _ _) hz,fin⟩)
end
section
variable(K:Aa)(hK:X.K=K)
include hK
def Hw(K:Aa):R2:=λx y H Q=>∃p q xs,x=.ref p/\y=.ref q/\cX K H p xs/\cX K H q []/\Q (.bl xs.isEmpty) H
def jV(hu:X.A.units<cLine):dQ X (mo .Eq) (Hw K):=by
 subst hK;intro Z s σ H x y v u Q I rx ry h;obtain⟨p,q,xs,rfl,rfl,hp,hq,k⟩:=h;cases rx;cases ry;obtain⟨aw,r,pl,hz⟩:=I.list hp;obtain⟨cx,r2,K5,Wv⟩:=I.list hq;cases r2;cases xs with
 |nil=>
  cases r;refine Eb (ER (e:=λ_=>true) pl.isList K5.isList rfl hu λj h1=>absurd h1 (by simp)) ?_;exact⟨.bl true,H,I,rfl,k⟩
 |cons y ys=>
  have hl:=r.length;refine Eb (DG pl.isList K5.isList (by simp at hl ⊢;intro z;subst z;simp at hl) hu) ?_;exact⟨.bl false,H,I,rfl,k⟩
omit hK
end
end L2
variable{y:Bt}
namespace My
def Wd(x:Str):Prop:=1<=x.length/\x.length<=8/\∀c∈x.cps.toList,97<=c/\c<123
def Part(x:Str)(n:Nat):Prop:=x.length<=n/\∀c∈x.cps.toList,97<=c/\c<123
theorem Part.append{x:Str}{m:Nat}(a:Part x m)(b:Part y n):Part (x++y) (m+n):=by
 refine⟨?_,λc hc=>?_⟩
 .rw[Af];have:=a.1;have:=b.1;lia
 .rw[AR,Bp]at hc;rcases Cf.mp hc with h|h
  .exact a.2 c h
  .exact b.2 c h
theorem kS{d st:Int}(h:st=1\/st=3\/st=5\/st=7\/st=9\/st=11)(hn:n<=26):((Cc n).map λk:Nat=>al (97+((d+st*(0+(k:Int))) % 26).toNat)).Nodup:=by
 unfold List.Nodup;rw[List.pairwise_map];refine List.Pairwise.imp_of_mem ?_ List.pairwise_lt_range;intro a b ha hb L3 hz;have Q6:=Eu.mp hb;have LN:=Option.some.inj hz;rcases h with rfl|rfl|rfl|rfl|rfl|rfl<;>lia
def mX{g:α->β}{l:List α}(h:(l.map g).Nodup):l.Nodup:=(List.pairwise_map.mp h).imp λh e=>h (congrArg g e)
def tP(x y:Str)(c:Nat):(x++⟨#[c]⟩++y).cps[x.length]?=al c:=by
 show((x.cps++#[c])++y.cps)[x.cps.size]?=al c;rw[Array.getElem?_append_left (by simp),Array.getElem?_append_right (Aj _)];simp
def qJ:∀k:_root_.Fin 26,eV ("abcdefghijklmnopqrstuvwxyz":Str).cps.toList (k.val:Int)=al (97+k.val):=by decide +kernel
theorem uu{n:Int}(h0:0<=n)(h1:n < 26):eV ("abcdefghijklmnopqrstuvwxyz":Str).cps.toList n=al (97+n.toNat):=by
 have e:=qJ ⟨n.toNat,by lia⟩;have e2:n.toNat=n:=by lia
 rw[e2]at e;exact e
def wx{c:Nat}(h0:97<=c)(h1:c<123):Part ⟨#[c]⟩ 1:=by
 refine⟨Aj _,λd hd=>?_⟩;have:d=c:=by simpa using hd
 subst this;exact⟨h0,h1⟩
theorem yV{x:Str}{c:Nat}(a:Part x 2)(b:Part y 5)(h0:97<=c)(h1:c<123):Wd (x++⟨#[c]⟩++y):=by
 have q:=(a.append (wx h0 h1)).append b;refine⟨?_,q.1,q.2⟩;rw[Af,Af];show 1<=x.length+1+y.length;lia
inductive Tr where
 |leaf (x:Str)
 |node (l r:Tr)
def Tr.bB:Tr->O Str
 |.leaf x=>[x]
 |.node l r=>l.bB++r.bB
def Tr.depth:Tr->Nat
 |.leaf _=>0
 |.node l r=>max l.depth r.depth+1
def Tr.Ws(t:Tr):Prop:=∀x∈t.bB,Wd x
theorem Tr.j6:∀t:Tr,1<=t.bB.length
 |.leaf _=>Aj _
 |.node l r=>by have:=l.j6;show 1<=(l.bB++r.bB).length;rw[Ap];lia
theorem Tr.kq:∀t:Tr,t.depth<t.bB.length
 |.leaf _=>BL 0
 |.node l r=>by
  have h1:=l.kq;have h2:=r.kq;have h4:=r.j6;show max l.depth r.depth+1<(l.bB++r.bB).length;rw[Ap];lia
end My
variable{p1:Cs}{e1:Bu}
namespace L2
section
variable(K:Aa)(hK:X.K=K)
def Hu:V->O V->Hp->VK->Prop:=λx vs H Q=>∃Ì l a b,x=.str Ì/\vs=[.ref l]/\H l=al (.lst [.str a,.str b])/\Ì.length+a.length+b.length<=3000/\Ì.length<=100/\Q (.str (a++Ì++b)) H
theorem wH:FP X "str.join" Hu:=by
 intro Z s σ H x vs v us Q I rx rv h;obtain⟨Ì,l,a,b,rfl,rfl,hH,hz,hs,q⟩:=h;obtain⟨t,rfl⟩:=rx;obtain⟨u,rfl,ru⟩:=rv.one;cases ru;have big:4000<=sizeLine:=by rw[pc];decide
 obtain⟨z,aw,n,r,hl,e⟩:=I.j3 hH;obtain⟨u0,u1,rfl,r0,r1⟩:=vals2 r;obtain⟨ta,rfl⟩:=r0;obtain⟨tb,rfl⟩:=r1;refine IR F.slot_str_join (typeIs_str _ _ _) F.entry_str_join (F.args_str_join_2 _ _) (meets_str_join_list Ì t l [(a,ta),(b,tb)] ?_) ⟨⟨_,e,rfl,_,rfl⟩,?_⟩
 .unfold Builtin.Str.tooLong;simp;lia
 .show(Made.str (Builtin.Str.glued Ì [a,b])).post _ s;have eg:Builtin.Str.glued Ì [a,b]=a++Ì++b:=rfl;rw[eg];have lg:(a++Ì++b).length<=sizeLine:=by rw[Af,Af];lia
  exact⟨lg,⟨.str _,H,I.tok _,⟨_,rfl⟩,q⟩⟩
include hK
end
end L2
variable{σ:L2.St}
namespace L2
def y8{s:db}{Q:α->db->Prop}(hA:A.handled=bn)(q:∀(h':io) (e:ce),(∀b o,s.heap.get? b=al o->h'.get? b=al o)->(∃o,h'.get? e=al o/\o.cls=.type "StopIteration")->E (.ref e) {s with heap:=h'}):f8 (gl prog w) A (Builtin.SmallTypes.stopIteration (α:=α)) Q E s:=by
 refine Ab ?_;refine Ab (wpAny_newTuple ?_ ⋯);refine Ab (C4 rfl ?_);refine BD ?_ (sizeOk_excFields ..);unfold raiseNew;refine Ab (wpAny_handled ?_);rw[hA];refine wpAny_throw (q _ _ (λb o e=>Ad _ (Ad _ e)) ⟨_,Am _ rfl,rfl⟩)
def Inv.vm{s:db}{t':Nat}{o:HO}(I:Inv X Z σ H s)(hf:∀b∈ch,ll X Z H b)(k:∀b u,b∉ch->s.heap.get? b=al u->h'.get? b=al u)(hp:s.heap.objs.size<=a)(new:bM X.prog X.w (upd H a o) h' a o):Inv X Z σ (upd H a o) {s with heap:=h',toks:=t'}:=by
 have hn:=I.aW.fresh hp;have Gs:∀b u,H b=al u->b∉ch:=λb u e z=>by rw[(hf b z).1]at e;cases e
 refine I.step (λb hb=>⟨(hf b hb).2.2.2.1,(hf b hb).2.1,(hf b hb).2.2.2.2.1,(hf b hb).2.2.2.2.2⟩) (λb u _ _ hc e _=>k b u hc e) (λb u _ _ hc e _=>⟨u.slots,k b u hc e⟩)
  (λb u _ e n=>by rw[ag (AI (Aq (Ai e) hp))];exact n) (λb u hc e=>⟨u,k b u hc e⟩) (λb xs e=>by rw[ag (a9 e hn)];exact e) (λb u xs e=>by rw[ag (a9 e hn)];exact e)
  (λb ps e=>⟨#[],by rw[ag (a9 e hn),e];simp⟩) (λm hm=>?_) (λb u e=>?_) I.bare
 .obtain⟨o',es,ep,ho,r⟩:=hm;exact⟨o',es,ep,k _ o' (λz=>(hf _ z).2.1 rfl) ho,r⟩
 .by_cases hb:b=a
  .subst hb;rw[ao]at e;cases e;exact new
  .rw[ag hb]at e;refine(I.aW b u e).jP (λc v hc q=>k c v ?_ q) (λc q=>by rw[ag (a9 q hn)];exact q) λc xs q=>by rw[ag (a9 q hn)];exact q
   rcases hc with z|z
   .rw[z];exact Gs b u e
   .exact Gs c _ z
def Inv.yW{s:db}{t':Nat}(I:Inv X Z σ H s)(hf:∀b∈ch,ll X Z H b)(k:∀b u,b∉ch->s.heap.get? b=al u->h'.get? b=al u):Inv X Z σ H {s with heap:=h',toks:=t'}:=by
 have Gs:∀b u,H b=al u->b∉ch:=λb u e z=>by rw[(hf b z).1]at e;cases e
 refine I.step (λb hb=>⟨(hf b hb).2.2.2.1,(hf b hb).2.1,(hf b hb).2.2.2.2.1,(hf b hb).2.2.2.2.2⟩) (λb u _ _ hc e _=>k b u hc e) (λb u _ _ hc e _=>⟨u.slots,k b u hc e⟩)
  (λ_ _ _ _ n=>n) (λb u hc e=>⟨u,k b u hc e⟩) (λ_ _ e=>e) (λ_ _ _ e=>e) (λb ps e=>⟨#[],by rw[e];simp⟩) (λm hm=>?_) (λb u e=>?_) I.bare
 .obtain⟨o',es,ep,ho,r⟩:=hm;exact⟨o',es,ep,k _ o' (λz=>(hf _ z).2.1 rfl) ho,r⟩
 .refine(I.aW b u e).jP (λc v hc q=>k c v ?_ q) (λ_ q=>q) λ_ _ q=>q;rcases hc with z|z
  .rw[z];exact Gs b u e
  .exact Gs c _ z
end L2
namespace My
def Tr.post:Tr->O Tr
 |.leaf x=>[.leaf x]
 |.node l r=>l.post++r.post++[.node l r]
def Tr.text:Tr->Str
 |.leaf x=>x
 |.node l r=>Cg++"("++l.text++","++r.text++")"
theorem Tr.text_len:∀t:Tr,t.Ws->t.text.length+3<=11*t.bB.length
 |.leaf x,h=>by have:=(h x (CH.mpr rfl)).2.1;show x.length+3<=11*1;lia
 |.node l r,h=>by
  have h1:=l.text_len λx hx=>h x (BX _ hx);have h2:=r.text_len λx hx=>h x (AJ _ hx);show(Cg++"("++l.text++","++r.text++")").length+3<=11*(l.bB++r.bB).length;rw[Af,Af,Af,Af,Af,Ap];have e1:Cg.length=0:=rfl;have e2:("(":Str).length=1:=by decide +kernel
  have e3:(",":Str).length=1:=by decide +kernel
  have e4:(")":Str).length=1:=by decide +kernel
  lia
def Tr.tl(t:Tr):O Nat:=t.text.cps.toList
def MP:("(":Str).cps.toList=[40]:=by decide +kernel
def MR:(",":Str).cps.toList=[44]:=by decide +kernel
def MN:(")":Str).cps.toList=[41]:=by decide +kernel
def yZ(l r:Tr)(k:O Nat):(Tr.node l r).tl++k=40::(l.tl++(44::(r.tl++(41::k)))):=by
 show(Cg++"("++l.text++","++r.text++")").cps.toList++k=_;rw[AR,AR,AR,AR,AR,Bp,Bp,Bp,Bp,Bp,MP,MR,MN];have:Cg.cps.toList=[]:=rfl;rw[this];simp[Tr.tl]
def rD{x:Str}(h:x.cps.toList=y.cps.toList):x=y:=by
 cases x;cases y;congr 1;exact Array.toList_inj.mp h
end My
variable{H1:L2.Hp}{ι:O AN}
namespace PL
section
variable{K:Aa}
def yx(K:Aa)(H:Hp)(a:ce)(xs:O V):Prop:=(∃o,H a=al (.b8 o (.lst xs)))\/
  ∃(o:Obj) (aw:Array ci) (n:Nat),K.lookup a=al o/\o.cls=.type "list"/\o.dict=bn/\o.data=.seq aw n/\aw.size<=sizeLine/\Vals xs aw.toList
def yx.sq(h:yx K H a xs):cX K H a xs:=h.elim (λh=>.inl (.inr h)) .inr
def RV(b:ce)(h:io):Prop:=∃(ns:O Int) (aw:O ci) (n:Nat),ns.length<=sizeLine/\Vals (ns.map V.int) aw/\h.get? b=al {cls:=.type "list",data:=.seq aw.toArray n}
def d6(H:Hp)(b:ce):Prop:=H b=al (.ext (RV b))
def xk(h:∀p φ,H p=al (.ext φ)->H' p=al (.ext φ)):∀b,d6 H b->d6 H' b:=λ_ e=>h _ _ e
structure aQ(K:Aa)(H H':Hp):Prop where
 t:∀p vs,H p=al (.tup vs)->H' p=al (.tup vs)
 z:∀p o u,H p=al (.b8 o u)->H' p=al (.b8 o u)
 x:∀b,d6 H b->d6 H' b
def aQ.f{H H':Hp}(t:aQ K H H')(p:ce)(vs:O V)(h:yx K H p vs):yx K H' p vs:=h.elim (λ⟨o,h⟩=>.inl ⟨o,t.z _ _ _ h⟩) .inr
def aQ.refl(H:Hp):aQ K H H:=⟨λ_ _ h=>h,λ_ _ _ h=>h,λ_ h=>h⟩
def aQ.trans(a:aQ K H H1)(b:aQ K H1 H2):aQ K H H2:=⟨λp vs h=>b.t p vs (a.t p vs h),λp o w h=>b.z p o w (a.z p o w h),λp h=>b.x p (a.x p h)⟩
def _root_.L2.cI.cK(s:cI H H'):aQ K H H':=⟨λp vs h=>s _ _ h,λp o u h=>s _ _ h,xk λp φ h=>s _ _ h⟩
inductive PV where
 |a8|bl (b:Bool)|int (i:Int)|str (x:Str)|tup (l:List PV)|ref (n:Nat)|ty (n:String)|cl (l:List PV)|dv (ks vs:List PV)|ob (ns:List Str) (l:List PV)|hand
def kP:Key->PV
 |.inl i=>.int i
 |.inr x=>.str x
inductive PO where
 |lst (xs:List PV)|dk (aZ:List (Key×PV))|dt (aZ:List (List Key×PV))|Vb (φ:List V->Prop)
abbrev PH:=O PO
abbrev n9:=O (Option PV)
mutual
inductive VR(K:Aa)(ι:List ce)(H:Hp):V->PV->Prop
 |a8:VR K ι H .a8 .a8
 |bl (b:Bool):VR K ι H (.bl b) (.bl b)
 |int (i:Int):VR K ι H (.int i) (.int i)
 |str (x:Str):VR K ι H (.str x) (.str x)
 |ty (n:String):VR K ι H (.ty n) (.ty n)
 |tup {p:ce}{vs:List V}{l:List PV} (h:H p=al (.tup vs)) (r:aL K ι H vs l):VR K ι H (.ref p) (.tup l)
 |ref {n:Nat}{a:ce} (h:ι[n]?=al a):VR K ι H (.ref a) (.ref n)
 |cl {a:ce}{vs:List V}{l:List PV} (h:yx K H a vs) (r:aL K ι H vs l):VR K ι H (.ref a) (.cl l)
 |dk {a:ce}{o:Obj}{aZ:List (Key×V)}{ks l:List PV} (h:H a=al (.b8 o (.dK aZ))) (e:ks=aZ.map λkv=>kP kv.1) (r:aL K ι H (aZ.map (·.2)) l):VR K ι H (.ref a) (.dv ks l)
 |dt {a:ce}{o:Obj}{aZ:List (List Key×V)}{ks l:List PV} (h:H a=al (.b8 o (.dT aZ))) (e:ks=aZ.map λkv=>.tup (kv.1.map kP)) (r:aL K ι H (aZ.map (·.2)) l):VR K ι H (.ref a) (.dv ks l)
 |ob {a C dx:ce}{o:Obj}{fs:List (Str×V)}{ns:List Str}{l:List PV} (h:H a=al (.b8 o (.ins C dx fs))) (c:tN K C) (na:∀f∈ns,cJ K C f) (e:ns=fs.map (·.1)) (r:aL K ι H (fs.map (·.2)) l):VR K ι H (.ref a) (.ob ns l)
 |hand {a:ce} (h:d6 H a):VR K ι H (.ref a) .hand
inductive aL(K:Aa)(ι:List ce)(H:Hp):List V->List PV->Prop
 |nil:aL K ι H [] []
 |cons {v:V}{p:PV}{vs:List V}{ps:List PV} (r:VR K ι H v p) (t:aL K ι H vs ps):aL K ι H (v::vs) (p::ps)
end
section
variable{ι':O ce}
mutual
theorem VR.mono(ht:aQ K H H')(hi:∀(n:Nat) (a:ce),ι[n]?=al a->ι'[n]?=al a):∀{v:V}{p:PV},VR K ι H v p->VR K ι' H' v p
 |_,_,.a8=>.a8
 |_,_,.bl b=>.bl b
 |_,_,.int i=>.int i
 |_,_,.str x=>.str x
 |_,_,.ty n=>.ty n
 |_,_,.tup h r=>.tup (ht.t _ _ h) (aL.mono ht hi r)
 |_,_,.cl h r=>.cl (ht.f _ _ h) (aL.mono ht hi r)
 |_,_,.dk h e r=>.dk (ht.z _ _ _ h) e (aL.mono ht hi r)
 |_,_,.dt h e r=>.dt (ht.z _ _ _ h) e (aL.mono ht hi r)
 |_,_,.ob h c na e r=>.ob (ht.z _ _ _ h) c na e (aL.mono ht hi r)
 |_,_,.ref h=>.ref (hi _ _ h)
 |_,_,.hand h=>.hand (ht.x _ h)
theorem aL.mono(ht:aQ K H H')(hi:∀(n:Nat) (a:ce),ι[n]?=al a->ι'[n]?=al a):∀{vs:O V}{ps:O PV},aL K ι H vs ps->aL K ι' H' vs ps
 |_,_,.nil=>.nil
 |_,_,.cons r t=>.cons (VR.mono ht hi r) (aL.mono ht hi t)
end
theorem aL.length:∀{vs:O V}{ps:O PV},aL K ι H vs ps->vs.length=ps.length
 |_,_,.nil=>rfl
 |_,_,.cons _ t=>by rw[Ah,Ah,aL.length t]
theorem aL.get:∀{vs:O V}{ps:O PV}{i:Nat}{p:PV},aL K ι H vs ps->ps[i]?=al p->∃v,vs[i]?=al v/\VR K ι H v p
 |_,_,_,_,.nil,e=>by simp at e
 |_,_,0,_,.cons r _,e=>by simp at e;subst e;exact⟨_,rfl,r⟩
 |_,_,i+1,p,.cons _ t,e=>by
  obtain⟨v,h1,h2⟩:=aL.get t (by simpa using e);exact⟨v,by simpa using h1,h2⟩
theorem aL.set{p:PV}(r:VR K ι H v p):∀{vs:O V}{ps:O PV} (i:Nat),aL K ι H vs ps->aL K ι H (vs.set i v) (ps.set i p)
 |_,_,_,.nil=>.nil
 |_,_,0,.cons _ t=>.cons r t
 |_,_,i+1,.cons q t=>.cons q (aL.set r i t)
theorem aL.append:∀{xs ys:O V}{us ws:O PV},aL K ι H xs us->aL K ι H ys ws->aL K ι H (xs++ys) (us++ws)
 |_,_,_,_,.nil,s=>s
 |_,_,_,_,.cons r t,s=>.cons r (aL.append t s)
theorem aL.take:∀{xs:O V}{us:O PV} (n:Nat),aL K ι H xs us->aL K ι H (xs.take n) (us.take n)
 |_,_,0,_=>.nil
 |_,_,_+1,.nil=>.nil
 |_,_,n+1,.cons r t=>.cons r (aL.take n t)
theorem aL.drop:∀{xs:O V}{us:O PV} (n:Nat),aL K ι H xs us->aL K ι H (xs.drop n) (us.drop n)
 |_,_,0,r=>r
 |_,_,_+1,.nil=>.nil
 |_,_,n+1,.cons _ t=>aL.drop n t
def aL.one{p:PV}(r:VR K ι H v p):aL K ι H [v] [p]:=.cons r .nil
end
structure Go(ι ι':List ce)(H H':Hp):Prop where
 ext:∃m,ι'=ι++m
 new:∀a,a∈ι'->a∉ι->H a=bn
 keep:∀a o,a∉ι->H a=al o->H' a=al o
def Go.refl(ι:O ce)(H:Hp):Go ι ι H H:=⟨⟨[],by simp⟩,λa h n=>absurd h n,λ_ _ _ h=>h⟩
def OR(K:Aa)(ι:O ce)(H:Hp)(a:ce):PO->Prop
 |.lst xs=>∃vs,H a=al (.lst vs)/\aL K ι H vs xs
 |.dk aZ=>∃vs:O (Key×V),H a=al (.dK vs)/\vs.map (·.1)=aZ.map (·.1)/\aL K ι H (vs.map (·.2)) (aZ.map (·.2))
 |.dt aZ=>∃vs:O (O Key×V),H a=al (.dT vs)/\vs.map (·.1)=aZ.map (·.1)/\aL K ι H (vs.map (·.2)) (aZ.map (·.2))
 |.Vb φ=>∃vs,H a=al (.lst vs)/\φ vs
structure HR(K:Aa)(ι:List ce)(H:Hp)(h:PH):Prop where
 nd:ι.Nodup
 len:ι.length=h.length
 obj:∀(n:Nat) (a:ce) (o:PO),ι[n]?=al a->h[n]?=al o->OR K ι H a o
end
end PL
variable{a:Bu}
namespace PL
section
variable{K:Aa}
abbrev QV:=PV->PH->Prop
structure ME where
 run:n9->PH->QV->Prop
 mono:∀{ps h}{Q Q':QV},(∀v h',Q v h'->Q' v h')->run ps h Q->run ps h Q'
structure MT where
 run:n9->PH->(Bool->PH->Prop)->Prop
 mono:∀{ps h}{Q Q':Bool->PH->Prop},(∀v h',Q v h'->Q' v h')->run ps h Q->run ps h Q'
structure MA where
 run:n9->PH->(List PV->PH->Prop)->Prop
 mono:∀{ps h}{Q Q':List PV->PH->Prop},(∀v h',Q v h'->Q' v h')->run ps h Q->run ps h Q'
structure ML where
 run:n9->PH->(List PV->PH->Prop)->Prop
 mono:∀{ps h}{Q Q':List PV->PH->Prop},(∀v h',Q v h'->Q' v h')->run ps h Q->run ps h Q'
structure Src where
 items:List PV
 ok:PH->Prop
 fz:Bool
structure MI where
 run:n9->PH->(Src->PH->Prop)->Prop
 mono:∀{ps h}{Q Q':Src->PH->Prop},(∀v h',Q v h'->Q' v h')->run ps h Q->run ps h Q'
structure PD where
 nx:n9->PH->Prop
 rt:QV
 bk:n9->PH->Prop
 ct:n9->PH->Prop
structure PD.Le(D D':PD):Prop where
 nx:∀ps h,D.nx ps h->D'.nx ps h
 rt:∀v h,D.rt v h->D'.rt v h
 bk:∀ps h,D.bk ps h->D'.bk ps h
 ct:∀ps h,D.ct ps h->D'.ct ps h
structure MS where
 run:PD->n9->PH->Prop
 mono:∀{D D' ps h},PD.Le D D'->run D ps h->run D' ps h
structure MG where
 run:PV->n9->PH->(n9->PH->Prop)->Prop
 mono:∀{v ps h}{Q Q':n9->PH->Prop},(∀ps h,Q ps h->Q' ps h)->run v ps h Q->run v ps h Q'
def pQ(K:Aa)(ι:O ce)(H:Hp)(Q:VK):QV:=λp h'=>∀ι' v H',Go ι ι' H H'->HR K ι' H' h'->VR K ι' H' v p->Q v H'
def PE.imp{t t':TE}(h:PE X e t)(f:∀σ H Q,t' σ H Q->t σ H Q):PE X e t':=λZ s σ H Q I q=>h Z s σ H Q I (f _ _ _ q)
def PT.imp{t t':TT}(h:PT X e t)(f:∀σ H Q,t' σ H Q->t σ H Q):PT X e t':=λZ s σ H Q I q=>h Z s σ H Q I (f _ _ _ q)
def PW.imp{t t':TT}(h:PW X e t)(f:∀σ H Q,t' σ H Q->t σ H Q):PW X e t':=λw Z s σ H Q I q=>h w Z s σ H Q I (f _ _ _ q)
def PA.imp{e:O im}{t t':TA}(h:PA X e t)(f:∀σ H Q,t' σ H Q->t σ H Q):PA X e t':=λpos Z s σ H Q I q=>h pos Z s σ H Q I (f _ _ _ q)
def jb.imp{e:O nn}{t t':TS}(h:jb X e t)(f:∀D σ H,t' D σ H->t D σ H):jb X e t':=λZ s σ H D I q=>h Z s σ H D I (f _ _ _ q)
def PG.imp{t t':TG}(h:PG X e t)(f:∀v σ H Q,t' v σ H Q->t v σ H Q):PG X e t':=λZ s σ H v u Q I r q=>h Z s σ H v u Q I r (f _ _ _ _ q)
def PI.imp{t t':TI}(h:PI X tg e t)(f:∀σ H Q,t' σ H Q->t σ H Q):PI X tg e t':=λZ s σ H R I q=>h Z s σ H R I (f _ _ _ q)
section
abbrev P2:=PV->PV->PH->QV->Prop
structure M2 where
 f:P2
 mono:∀{x y h}{Q Q':QV},(∀v h',Q v h'->Q' v h')->f x y h Q->f x y h Q'
def M2.Ok(K:Aa)(r:R2)(m:M2):Prop:=∀{ι H h u v x y Q},HR K ι H h->VR K ι H u x->VR K ι H v y->m.f x y h (pQ K ι H Q)->r u v H Q
end
end
section
variable{K:Aa}
section
def i7:∀{vs:O V}{l:O PV},aL K ι H vs l->(!l.isEmpty)=!vs.isEmpty
 |_,_,.nil=>rfl
 |_,_,.cons _ _=>rfl
structure MQ where
 run:n9->PH->(Src->PH->Prop)->Prop
 mono:∀{ps h}{Q Q':Src->PH->Prop},(∀v h',Q v h'->Q' v h')->run ps h Q->run ps h Q'
end
end
section
structure Yk where
 run:List PV->n9->PH->(n9->PH->Prop)->Prop
 mono:∀{v ps h}{Q Q':n9->PH->Prop},(∀ps h,Q ps h->Q' ps h)->run v ps h Q->run v ps h Q'
end
section
variable{K:Aa}
section
structure mm where
 f:List PV->PH->QV->Prop
 mono:∀{l h}{Q Q':QV},(∀v h',Q v h'->Q' v h')->f l h Q->f l h Q'
def mm.Ok(K:Aa)(r:O V->Hp->VK->Prop)(m:mm):Prop:=∀{ι H h vs l Q},HR K ι H h->aL K ι H vs l->m.f l h (pQ K ι H Q)->r vs H Q
end
end
end PL
variable{g':Int->Int->L2.V}{g:Int->Int->PL.PV}
namespace PL
section
variable{K:Aa}
def aI(g:Int->Int->PV):M2:=⟨λx y h Q=>match x,y with|.int i,.int j=>Q (g i j) h|_,_=>False,λf q=>by
 revert q
 split
 .exact f _ _
 .exact λz=>z⟩
def Jt(C:Int->Int->Prop)(g:Int->Int->PV):M2:=⟨λx y h Q=>match x,y with|.int i,.int j=>C i j/\Q (g i j) h|_,_=>False,λf q=>by
 revert q
 split
 .exact λq=>⟨q.1,f _ _ q.2⟩
 .exact λz=>z⟩
def tK(hg:∀ι H i j,VR K ι H (g' i j) (g i j)):M2.Ok K (Gm g') (aI g):=by
 intro ι H h u v x y Q hr hu hv q;unfold aI at q;dsimp only at q;revert q
 split
 .intro q;cases hu;cases hv;exact⟨_,_,rfl,rfl,q ι _ H (Go.refl _ _) hr (hg _ _ _ _)⟩
 .exact AD
def nP{C:Int->Int->Prop}(hg:∀ι H i j,VR K ι H (g' i j) (g i j)):M2.Ok K (rI C g') (Jt C g):=by
 intro ι H h u v x y Q hr hu hv q;unfold Jt at q;dsimp only at q;revert q
 split
 .intro q;cases hu;cases hv;exact⟨_,_,rfl,rfl,q.1,q.2 ι _ H (Go.refl _ _) hr (hg _ _ _ _)⟩
 .exact AD
def zK:=aI λi j=>.int (i-j)
def c9:=Jt xz λi j=>.int (i*j)
def oDiv:=Jt yD λi j=>.int (i / j)
def oMod:=Jt (λ_ j=>0<j) λi j=>.int (i % j)
def gS:=Jt yC λi j=>.int (i ^ j.toNat)
def oLt:=aI λi j=>.bl (decide (i<j))
def HS:=aI λi j=>.bl (decide (j<i))
def Lq:=aI λi j=>.bl (decide (j<=i))
section
def aL.eH:∀{vs:O V}{l:O PV},aL K ι H vs l->(vs=[]↔l=[])
 |_,_,.nil=>by simp
 |_,_,.cons _ _=>by simp
end
end
section
variable{K:Aa}
section
def PV.l8:PV->Bool
 |.a8=>true
 |_=>false
def sA:M2:=⟨λx y h Q=>match y with|.a8=>Q (.bl (!x.l8)) h|_=>False,λf q=>by
 revert q
 split
 .exact f _ _
 .exact λz=>z⟩
def uA{x:PV}(h:VR K ι H v x):decide (v=.a8)=x.l8:=by cases h<;>simp[PV.l8]
def wB:M2.Ok K (λx y H Q=>y=.a8/\Q (.bl (!decide (x=.a8))) H) sA:=by
 intro ι H h u v x y Q hr hu hv q;cases hv with
 |a8=>exact⟨rfl,q ι _ H (Go.refl _ _) hr (by rw[uA hu];exact .bl _)⟩
 |_=>exact q.elim
end
end
end PL
variable{l:O PL.PV}
namespace PL
section
variable{K:Aa}
section
variable{c:im}
def Ya(a:MQ)(b:ME):ME:=⟨λps h Q=>a.run ps h λS h1=>b.run ps h1 λy h2=>match y with
 |.int k=>S.ok h2/\match eV S.items k with|some v=>Q v h2|none=>False
 |_=>False,λf q=>a.mono (λ_ _ q=>b.mono (λ_ _ q=>by
  revert q
  split
  .rintro⟨q0,q⟩;refine⟨q0,?_⟩;revert q
   split
   .exact f _ _
   .exact λz=>z
  .exact λz=>z) q) q⟩
def aL.eV(r:aL K ι H vs l){k:Int}{p:PV}(e:L2.eV l k=al p):∃v,L2.eV vs k=al v/\VR K ι H v p:=by
 unfold L2.eV at e ⊢;rw[r.length];cases z:pd l.length k with
 |none=>rw[z]at e;cases e
 |some j=>
  rw[z]at e;exact r.get e
def wC:M2:=⟨λx y h Q=>match x,y with
 |.str z,.int k=>z.length<=sizeLine/\match L2.eV z.cps.toList k with|some c=>Q (.str ⟨#[c]⟩) h|none=>False
 |_,_=>False,λf q=>by
  revert q
  split
  .rintro⟨q0,q⟩;refine⟨q0,?_⟩;revert q
   split
   .exact f _ _
   .exact λz=>z
  .exact λz=>z⟩
def zM:M2.Ok K Hv wC:=by
 intro ι H h u v x y Q hr hu hv q;unfold wC at q;dsimp only at q;revert q
 split
 .rename_i z k;rintro⟨q0,q⟩;cases hu;cases hv;cases e:L2.eV z.cps.toList k with
  |none=>rw[e]at q;exact q.elim
  |some c=>rw[e]at q;exact⟨z,k,c,rfl,rfl,q0,e,q ι _ H (Go.refl _ _) hr (.str _)⟩
 .exact AD
def iq:mm:=⟨λl h Q=>match l with
 |[.str y]=>y.length<=sizeLine/\Q (.int y.length) h
 |[.tup l]=>Q (.int l.length) h
 |[.cl l]=>Q (.int l.length) h
 |[.ref n]=>match h[n]? with
  |some (.lst xs)=>Q (.int xs.length) h
  |_=>False
 |_=>False,λf q=>by
  revert q
  split
  .exact λq=>⟨q.1,f _ _ q.2⟩
  .exact f _ _
  .exact f _ _
  .split
   .exact f _ _
   .exact λz=>z
  .exact λz=>z⟩
def FG(K:Aa):mm.Ok K (Ht K) iq:=by
 intro ι H h vs l Q hr hv q;unfold iq at q;dsimp only at q;revert q
 split
 .intro q;cases hv with
  |cons x t=>cases t;cases x;exact⟨_,_,rfl,⟨q.1,rfl⟩,q.2 ι _ H (Go.refl _ _) hr (.int _)⟩
 .intro q;cases hv with
  |cons x t=>
   cases t;cases x with
   |tup e r=>exact⟨_,_,rfl,.inr ⟨_,dP.of e,r.length.symm⟩,q ι _ H (Go.refl _ _) hr (.int _)⟩
 .intro q;cases hv with
  |cons x t=>
   cases t;cases x with
   |cl e r=>exact⟨_,_,rfl,.inl ⟨_,e.sq,r.length.symm⟩,q ι _ H (Go.refl _ _) hr (.int _)⟩
 .rename_i n;cases hv with
  |cons x t=>
   cases t;cases x with
   | @ref _ a e=>
   split
   .rename_i xs hn;intro q;obtain⟨ws,e1,e2⟩:=hr.obj n a _ e hn;exact⟨_,_,rfl,.inl ⟨ws,cX.of e1,e2.length.symm⟩,q ι _ H (Go.refl _ _) hr (.int _)⟩
   .exact AD
 .exact AD
inductive Kd where
 |str|tup|int|bool
def Kd.name:Kd->String
 |.str=>"str" | .tup=>"tuple" | .int=>"int" | .bool=>"bool"
def Kd.is:Kd->PV->Bool
 |.str,.str _=>true
 |.tup,.tup _=>true
 |.int,.int _=>true
 |.int,.bl _=>true
 |.bool,.bl _=>true
 |_,_=>false
def KZ(K:Aa):O V->Hp->VK->Prop:=λxs H Q=>∃x c t b,xs=[x,.ty c]/\(fN K H x t\/(t=.type "tuple"/\∃a vs,x=.ref a/\dP K H a vs))/\Ay K t (.type c)=al b/\Q (.bl b) H
def uO(K:Aa)(hK:X.K=K):bE X (.builtin "isinstance") (KZ K):=by
 subst hK;intro Z s σ H xs us Q I r h;obtain⟨x,c,t,b,rfl,ty|⟨rfl,a,vs,rfl,hT⟩,e,q⟩:=h
 .exact dD Z s σ H _ us Q I r ⟨x,c,t,b,rfl,ty,e,q⟩
 .obtain⟨u,w,rfl,r1,r2⟩:=vals2 r;cases r1;cases r2;obtain⟨aw,_,⟨o,h1,h2,_⟩,_⟩:=I.tuple hT;exact AQ EC I.cR ⟨o,h1,h2⟩ e (λz=>nomatch z) λtk=>⟨.bl b,H,I.tok _,rfl,q⟩
def du(K:Aa):(∀k:Kd,Ay K (.type "NoneType") (.type k.name)=al false)/\(∀k:Kd,Ay K (.type "list") (.type k.name)=al false)/\(∀k:Kd,Ay K (.type "dict") (.type k.name)=al false):=
 ⟨λk=>by cases k<;>kernel_rfl,λk=>by cases k<;>kernel_rfl,λk=>by cases k<;>kernel_rfl⟩
def wV(K:Aa)(b:Bool)(k:Kd):Ay K (.type "bool") (.type k.name)=al (k.is (.bl b)):=by cases k <;> kernel_rfl
def jy(K:Aa)(b:Int)(k:Kd):Ay K (.type "int") (.type k.name)=al (k.is (.int b)):=by cases k <;> kernel_rfl
def sG(K:Aa)(b:Str)(k:Kd):Ay K (.type "str") (.type k.name)=al (k.is (.str b)):=by cases k <;> kernel_rfl
def sF(K:Aa)(b:O PV)(k:Kd):Ay K (.type "tuple") (.type k.name)=al (k.is (.tup b)):=by cases k <;> kernel_rfl
def k8:mm:=⟨λl h Q=>match l with|[.int i]=>Q (.int (if i<0 then -i else i)) h|_=>False,λf q=>by
 revert q
 split
 .exact f _ _
 .exact λz=>z⟩
def FI:mm.Ok K (λxs H Q=>∃i,xs=[.int i]/\Q (.int (if i<0 then -i else i)) H) k8:=by
 intro ι H h vs l Q hr hv q;unfold k8 at q;dsimp only at q;revert q
 split
 .intro q;cases hv with
  |cons x t=>cases t;cases x;exact⟨_,rfl,q ι _ H (Go.refl _ _) hr (.int _)⟩
 .exact AD
def kC:mm:=⟨λl h Q=>match l with|[.int i]=>Q (.int i) h|[.bl k]=>Q (.int (if k then 1 else 0)) h|_=>False,λf q=>by
 revert q
 split
 .exact f _ _
 .exact f _ _
 .exact λz=>z⟩
def FH:mm.Ok K (λxs H Q=>(∃i,xs=[.int i]/\Q (.int i) H)\/∃k,xs=[.bl k]/\Q (.int (if k then 1 else 0)) H) kC:=by
 intro ι H h vs l Q hr hv q;unfold kC at q;dsimp only at q;revert q
 split
 .intro q;cases hv with
  |cons x t=>cases t;cases x;exact .inl ⟨_,rfl,q ι _ H (Go.refl _ _) hr (.int _)⟩
 .intro q;cases hv with
  |cons x t=>cases t;cases x;exact .inr ⟨_,rfl,q ι _ H (Go.refl _ _) hr (.int _)⟩
 .exact AD
def yk:mm:=⟨λl h Q=>match l with|[.int i,.int j]=>Q (.int (if j > i then j else i)) h|_=>False,λf q=>by
 revert q
 split
 .exact f _ _
 .exact λz=>z⟩
def yj:mm:=⟨λl h Q=>match l with|[.int i,.int j]=>Q (.int (if j<i then j else i)) h|_=>False,λf q=>by
 revert q
 split
 .exact f _ _
 .exact λz=>z⟩
def FE:mm.Ok K (λxs H Q=>∃i j,xs=[.int i,.int j]/\Q (.int (if j > i then j else i)) H) yk:=by
 intro ι H h vs l Q hr hv q;unfold yk at q;dsimp only at q;revert q
 split
 .intro q;cases hv with
  |cons x t=>cases t with
   |cons y t=>cases t;cases x;cases y;exact⟨_,_,rfl,q ι _ H (Go.refl _ _) hr (.int _)⟩
 .exact AD
def FC:mm.Ok K (λxs H Q=>∃i j,xs=[.int i,.int j]/\Q (.int (if j<i then j else i)) H) yj:=by
 intro ι H h vs l Q hr hv q;unfold yj at q;dsimp only at q;revert q
 split
 .intro q;cases hv with
  |cons x t=>cases t with
   |cons y t=>cases t;cases x;cases y;exact⟨_,_,rfl,q ι _ H (Go.refl _ _) hr (.int _)⟩
 .exact AD
end
end
section
variable{K:Aa}
section
theorem mf:∀{bs:O Bool}{vs:O V},aL K ι H vs (bs.map PV.bl)->vs=bs.map V.bl
 |[],_,h=>by cases h;rfl
 |b::bs,_,h=>by
  cases h with
  |cons x t=>cases x;rw[mf t];rfl
structure Yj where
 run:n9->PH->(Src->PH->Prop)->Prop
 mono:∀{ps h}{Q Q':Src->PH->Prop},(∀v h',Q v h'->Q' v h')->run ps h Q->run ps h Q'
structure MO where
 run:n9->PH->(Option Int->PH->Prop)->Prop
 mono:∀{ps h}{Q Q':Option Int->PH->Prop},(∀v h',Q v h'->Q' v h')->run ps h Q->run ps h Q'
def PO.imp{e:Option im}{t t':TO}(h:L2.PO X e t)(f:∀σ H Q,t' σ H Q->t σ H Q):L2.PO X e t':=λZ s σ H Q I q=>h Z s σ H Q I (f _ _ _ q)
def iU(xs:O PV)(lo hi:Option Int):O PV:=(xs.drop (HT.kQ xs.length 0 lo)).take (HT.kQ xs.length xs.length hi-HT.kQ xs.length 0 lo)
def aL.cut(r:aL K ι H vs l)(lo hi:Option Int):aL K ι H (uK vs lo hi) (iU l lo hi):=by
 unfold uK iU;rw[r.length];exact(r.drop _).take _
end
end
end PL
variable{i:Nat}
namespace PL
section
variable{p:Pos}
def gZ(lo:Int)(n:Nat):O PV:=(Cc n).map λ(i:Nat)=>.int (lo+(i:Int))
def f6(lo:Int)(n:Nat):(gZ lo n).length=n:=by unfold gZ;simp
def iP{lo:Int}{p:PV}(h:(gZ lo n)[i]?=al p):i<n/\p=.int (lo+i):=by
 unfold gZ at h;rw[AE]at h;cases z:(Cc n)[i]? with
 |none=>rw[z]at h;cases h
 |some k=>
  rw[z]at h;obtain⟨h1,h2⟩:=Ag.mp z;simp at h1 h2;subst h2;exact⟨h1,(Option.some.inj h).symm⟩
def gm(k:Nat):O PV->O PV
 |[]=>[]
 |x::l=>.tup [.int (k:Int),x]::gm (k+1) l
theorem iT:∀(k:Nat) (l:O PV),(gm k l).length=l.length
 |_,[]=>rfl
 |k,x::l=>by rw[gm,Ah,Ah,iT]
theorem ma:∀{k:Nat}{l:O PV}{i:Nat}{p:PV},(gm k l)[i]?=al p->∃x,l[i]?=al x/\p=.tup [.int ((k+i:Nat):Int),x]
 |_,[],_,_,h=>by simp[gm]at h
 |k,x::l,0,p,h=>by simp[gm]at h;subst h;exact⟨x,rfl,by simp⟩
 |k,x::l,i+1,p,h=>by
  obtain⟨y,h1,h2⟩:=ma (by simpa[gm]using h);exact⟨y,by simpa using h1,by rw[h2,show k+1+i=k+(i+1) by lia]⟩
end
section
variable{K:Aa}{p:Pos}
section
structure JC(X:Cx)(K:Aa)(op:CmpOp)(b:im)(m:M2):Prop where
 p:∃r,dQ X (mo op) r/\M2.Ok K r m
 k:pr op b=false
def GB:JC X K .Lt b oLt:=⟨⟨_,si,tK λ_ _ _ _=>.bl _⟩,cH _⟩
def GC:JC X K .Gt b HS:=⟨⟨_,Lg,tK λ_ _ _ _=>.bl _⟩,cH _⟩
def LI:JC X K .GtE b Lq:=⟨⟨_,Lh,tK λ_ _ _ _=>.bl _⟩,cH _⟩
def z9:JC X K .IsNot b sA:=⟨⟨_,zA,wB⟩,cH _⟩
def Vh:M2:=⟨λx y h Q=>match x,y with|.str i,.str j=>Q (.bl (decide (i.cps.toList<j.cps.toList))) h|_,_=>False,λf q=>by
 revert q
 split
 .exact f _ _
 .exact λz=>z⟩
def zN:M2:=⟨λx y h Q=>match x,y with|.str i,.str j=>Q (.bl (!(Builtin.Str.occurrences j i 0 j.length 1).isEmpty)) h|_,_=>False,λf q=>by
 revert q
 split
 .exact f _ _
 .exact λz=>z⟩
def Ir(hk:pr .In b=false):JC X K .In b zN:=⟨⟨_,lQ,by
 intro ι H h u v x y Q hr hu hv q;unfold zN at q;dsimp only at q;revert q
 split
 .intro q;cases hu;cases hv;exact⟨_,_,rfl,rfl,q ι _ H (Go.refl _ _) hr (.bl _)⟩
 .exact AD⟩,hk⟩
end
end
section
variable{K:Aa}
section
def xO(h:aL K ι H vs l):vs.isEmpty=l.isEmpty:=by cases h<;>rfl
def aL.rep(h:aL K ι H vs l):∀k:Nat,aL K ι H (An k vs).flatten (An k l).flatten
 |0=>.nil
 |k+1=>by
  exact h.append (h.rep k)
theorem m9:∀{ns:O Int}{vs:O V},aL K ι H vs (ns.map PV.int)->vs=ns.map V.int
 |[],_,h=>by cases h;rfl
 |b::bs,_,h=>by
  cases h with
  |cons x t=>cases x;rw[m9 t];rfl
theorem ng(ι:O ce)(H:Hp):∀ns:O Int,aL K ι H (ns.map V.int) (ns.map PV.int)
 |[]=>.nil
 |n::ns=>.cons (.int n) (ng ι H ns)
end
end
end PL
variable{a:AN}
namespace L2
section
variable{σ:St}{s:db}
def Inv.freeze(I:Inv X Z σ H s)(e:H a=al (.dT aZ)):∃o,Inv X Z σ (upd H a (.b8 o (.dT aZ))) s:=by
 obtain⟨z,hs,xs,r,o,es,ep,h1,h2,h3,h4,h5⟩:=(show bM X.prog X.w H s.heap a (.dT aZ) from I.aW a _ e);refine⟨o,?_⟩;have q:=I.write (x:=a) (e:=a) (o:=.b8 o (.dT aZ)) (h':=s.heap) (t':=s.toks) (by rw[e];exact B8) (.inl rfl) (λb u _ z=>z) ⟨o,h1⟩
  ⟨h1,z,hs,xs,KT.keeps r λb ys eb=>by rw[ag (sD eb e (λz=>nomatch z))];exact eb,o,es,ep,h1,h2,h3,h4,h5⟩
 exact q
end
end L2
variable{o:L2.HO}{v:PL.PV}{ws:O (Bt×L2.V)}{fz:O (AN×EU)}{ψ:Nat->O L2.V->Prop}{φ:Ds->Prop}
noncomputable section
namespace FL
section
variable{K:Aa}
structure W(α:Type) where
 run:(α->Prop)->Prop
 mono:∀{Q Q':α->Prop},(∀a,Q a->Q' a)->run Q->run Q'
namespace W
variable{α β γ:Type}
def ext'{a b:W α}(h:∀Q,a.run Q↔b.run Q):a=b:=by
 cases a;cases b;congr;funext Q;exact propext (h Q)
noncomputable def ret(a:α):W α:=⟨λQ=>Q a,λh q=>h _ q⟩
noncomputable def bind(w:W α)(k:α->W β):W β:=⟨λQ=>w.run λa=>(k a).run Q,λh q=>w.mono (λa q=>(k a).mono h q) q⟩
def fail:W α:=⟨λ_=>False,λ_ q=>q⟩
def gh(p:Prop)(w:W α):W α:=⟨λQ=>p/\w.run Q,λh q=>⟨q.1,w.mono h q.2⟩⟩
def any(p:α->Prop):W α:=⟨λQ=>∀a,p a->Q a,λh q a pa=>h a (q a pa)⟩
def JG:Option α->W α
 |some a=>ret a
 |none=>fail
@[simp] theorem ak(a:α)(k:α->W β):bind (ret a) k=k a:=(rfl)
@[simp] theorem bind_assoc(w:W α)(f:α->W β)(g:β->W γ):bind (bind w f) g=bind w λa=>bind (f a) g:=(rfl)
@[simp] theorem M8(w:W α):bind w ret=w:=(rfl)
@[simp] theorem JT(k:α->W β):bind fail k=fail:=(rfl)
@[simp] theorem ay(a:α)(Q:α->Prop):(ret a).run Q=Q a:=(rfl)
@[simp] theorem run_bind(w:W α)(k:α->W β)(Q:β->Prop):(bind w k).run Q=w.run λa=>(k a).run Q:=(rfl)
@[simp] theorem KO(Q:α->Prop):(fail:W α).run Q=False:=(rfl)
@[simp] theorem Nx(p Q:α->Prop):(any p).run Q=∀a,p a->Q a:=(rfl)
@[simp] theorem mJ(p:Prop)(w:W α)(Q:α->Prop):(gh p w).run Q=(p/\w.run Q):=(rfl)
@[simp] theorem ku(p:Prop)(w:W α)(k:α->W β):bind (gh p w) k=gh p (bind w k):=(rfl)
def aH{p:Prop}{w:W α}(h:p):gh p w=w:=ext' λQ=>⟨λq=>q.2,λq=>⟨h,q⟩⟩
@[simp] theorem MZ{w:W α}:gh True w=w:=aH trivial
@[simp] theorem cm(a:α):JG (al a)=ret a:=(rfl)
@[simp] theorem Lo:JG (bn:Option α)=fail:=(rfl)
end W
inductive FD where
 |v (p:PV)|o (b:ce) (l:List PV)
def IP:O (Str×FD)->O ce
 |[]=>[]
 |(_,.v _)::l=>IP l
 |(_,.o b _)::l=>b::IP l
inductive yz(K:Aa)(H:Hp):List (Str×V)->List (Str×FD)->Prop
 |nil:yz K H [] []
 |v {n:Str}{u:V}{p:PV}{ws:List (Str×V)}{fd:List (Str×FD)} (r:VR K [] H u p) (t:yz K H ws fd):yz K H ((n,u)::ws) ((n,.v p)::fd)
 |o {n:Str}{b:ce}{vs:List V}{l:List PV}{ws:List (Str×V)}{fd:List (Str×FD)} (e:H b=al (.lst vs)) (r:aL K [] H vs l) (t:yz K H ws fd):yz K H ((n,.ref b)::ws) ((n,.o b l)::fd)
inductive SL where
 |val (v:PV)|adr (b:ce) (us:List V) (ps:List PV) (fz:List (ce×Obj))|ol (q:Option ce) (l:List PV)|ND (bs:List ce) (ls:List (List PV))|od (aZ:List (Key×PV))|ot (aZ:List (List Key×PV))|cj (ψ:Nat->List V->Prop) (n m:Nat)|ob (q C:ce) (fd:List (Str×FD))
abbrev aX:=O (Option SL)
def mq(H:Hp)(fz:O (ce×Obj)):Prop:=∀p∈fz,∃u,H p.1=al (.b8 p.2 u)
def mq.tk(h:mq H fz)(t:aQ K H H'):mq H' fz:=λp hp=>let ⟨u,e⟩:=h p hp;⟨u,t.z _ _ _ e⟩
def mq.nil:mq H []:=λ_ h=>nomatch h
def _root_.L2.HO.nt:HO->Bool
 |.jd _=>false
 |_=>true
def _root_.L2.HO.ow:HO->Bool
 |.lst _=>true
 |.dK _=>true
 |.dT _=>true
 |.ins _ _ _=>true
 |_=>false
def wj(h:o.ow=true):o.nt=true:=by cases o<;>first|rfl|cases h
class bu where
 ts:List (ce×Str)
def RX(H:Hp)(c:ci)(q:Str):Prop:=∃a o u vs t,c=.ref a/\H a=al (.b8 o u)/\o.data=.fields vs/\vs[1]?=al (.str q t)
variable[bu]
def TB(H:Hp):Prop:=∀p∈bu.ts,∃ps,H p.1=al (.jd ps)/\TriplesOk ps.toList/\∀pos c,Ix pos ps.toList=al c->RX H c p.2
def TB.mono(h:TB H)(h1:∀a ps,H a=al (.jd ps)->H' a=al (.jd ps))(h2:∀a o u vs,H a=al (.b8 o u)->o.data=.fields vs->∃u,H' a=al (.b8 o u)):TB H':=λp hp=>by
 obtain⟨ps,e,q,k⟩:=h p hp;refine⟨ps,h1 _ _ e,q,λpos c z=>?_⟩;obtain⟨a,o,u,vs,t,e1,e2,e3,e4⟩:=k pos c z;obtain⟨u',e5⟩:=h2 a o u vs e2 e3;exact⟨a,o,u',vs,t,e1,e5,e3,e4⟩
def TB.same(h:TB H)(s:cI H H'):TB H':=h.mono (λa _ z=>s a _ z) λa _ _ _ z _=>⟨_,s a _ z⟩
def TB.rP{ob:HO}(h:TB H)(s:iy a H H')(e:H a=al ob)(n1:ob.nt=true)(n2:∀o u,ob≠.b8 o u):TB H':=
 h.mono (λb _ z=>s b _ (λy=>by subst y;rw[e]at z;cases z;cases n1) z) λb _ _ _ z _=>⟨_,s b _ (λy=>by subst y;rw[e]at z;cases z;exact n2 _ _ rfl) z⟩
def SL.own:SL->Bool
 |.val _=>false
 |.adr _ _ _ _=>false
 |_=>true
def SL.w9:SL->O ce
 |.ND bs _=>bs
 |.ob _ _ fd=>IP fd
 |_=>[]
def SL.has(s:SL)(x a:ce):Prop:=a=x\/a∈s.w9
def mL:Nat:=2 ^ 250
def p8(H:Hp)(a:ce)(ψ:Nat->O V->Prop)(n:Nat):Prop:=∃j vs,j<=n/\H a=al (.lst vs)/\ψ j vs/\∀b,V.ref b∈vs->d6 H b
def dH(K:Aa)(H:Hp)(a:ce):SL->Prop
 |.val _=>False
 |.adr b us ps fz=>a=b/\aL K [] H us ps/\mq H fz
 |.ND bs ls=>H a=al (.lst (bs.map V.ref))/\a∉bs/\bs.Nodup/\bs.length=ls.length/\∀(j:Nat) (b:ce) (l:O PV),bs[j]?=al b->ls[j]?=al l->∃ws,H b=al (.lst ws)/\aL K [] H ws l
 |.ol q l=>(∀b,q=al b->a=b)/\∃vs,H a=al (.lst vs)/\aL K [] H vs l
 |.od aZ=>∃vs:O (Key×V),H a=al (.dK vs)/\vs.map (·.1)=aZ.map (·.1)/\aL K [] H (vs.map (·.2)) (aZ.map (·.2))
 |.ot aZ=>∃vs:O (O Key×V),H a=al (.dT vs)/\vs.map (·.1)=aZ.map (·.1)/\aL K [] H (vs.map (·.2)) (aZ.map (·.2))
 |.cj ψ n m=>p8 H a ψ n/\n<=m/\m<=mL
 |.ob q C fd=>a=q/\tN K C/\(∀p∈fd,cJ K C p.1)/\a∉IP fd/\(IP fd).Nodup/\∃dx ws,H a=al (.ins C dx ws)/\yz K H ws fd
def ja(K:Aa)(H:Hp)(u:V)(s:SL):Prop:=(∃v,s=.val v/\VR K [] H u v)\/∃a,u=.ref a/\dH K H a s
def bx(σ:L2.St)(fs:aX)(a:ce):Prop:=∃(i:Nat) (s:SL) (x:ce),fs[i]?=al (al s)/\s.own=true/\σ[i]?=al (al (.ref x))/\s.has x a
def eW(σ:L2.St)(fs:aX)(ψ:Nat->O V->Prop)(m:Nat)(a:ce):Prop:=∃i n:Nat,fs[i]?=al (al (.cj ψ n m))/\σ[i]?=al (al (.ref a))
structure Ev(fs aK:aX):Prop where
 len:fs.length=aK.length
 at':∀i:Nat,fs[i]?=aK[i]?\/∃ψ n n' m,fs[i]?=al (al (.cj ψ n m))/\aK[i]?=al (al (.cj ψ n' m))
structure aR(K:Aa)(H:Hp)(σ:L2.St)(fs:aX):Prop where
 len:σ.length=fs.length
 at':∀(i:Nat) (s:SL),fs[i]?=al (al s)->∃u,σ[i]?=al (al u)/\ja K H u s
 nd:∀(i j:Nat) (s t:SL) (x y a:ce),fs[i]?=al (al s)->fs[j]?=al (al t)->s.own=true->t.own=true->σ[i]?=al (al (.ref x))->σ[j]?=al (al (.ref y))->s.has x a->t.has y a->i=j
 tb:TB H
structure bT(σ:L2.St)(fs:aX)(H:Hp)(σ':L2.St)(aK:aX)(H':Hp):Prop where
 keep:∀a o,H a=al o->¬bx σ fs a->(o.nt=true->H' a=al o)/\¬bx σ' aK a
 there:∀a,H' a=bn->H a=bn
 pk:∀a ψ m,eW σ fs ψ m a->eW σ' aK ψ m a\/(¬bx σ' aK a/\p8 H' a ψ m)
 x:∀b,d6 H b->d6 H' b
structure bP(σ:L2.St)(fs:aX)(H H':Hp)(aK:aX:=fs):Prop where
 keep:∀a o,H a=al o->(∀ψ m,¬eW σ fs ψ m a)->(nt:‹o.nt=true›)->H' a=al o
 there:∀a,H' a=bn->H a=bn
 ev:Ev fs aK
 x:∀b,d6 H b->d6 H' b
section
variable{σ σ' σ1 σ2:L2.St}{fs aK au fs2:aX}{H H' H1 H2:Hp}
def eW.c8{m:Nat}(p:eW σ fs ψ m a):bx σ fs a:=let ⟨i,n,e1,e2⟩:=p;⟨i,_,_,e1,rfl,e2,.inl rfl⟩
def Ev.refl(fs:aX):Ev fs fs:=⟨rfl,λ_=>.inl rfl⟩
def Ev.symm(e:Ev fs aK):Ev aK fs:=⟨e.len.symm,λi=>(e.at' i).imp Eq.symm λ⟨ψ,n,n',m,a,b⟩=>⟨ψ,n',n,m,b,a⟩⟩
def Ev.trans(e:Ev fs au)(k:Ev au fs2):Ev fs fs2:=⟨e.len.trans k.len,λi=>by
 rcases e.at' i with h|⟨ψ,n,n',m,h1,h2⟩
 .rw[h];exact k.at' i
 .rcases k.at' i with h|⟨ψ',j,j',m',h3,h4⟩
  .exact .inr ⟨ψ,n,n',m,h1,h▸h2⟩
  .rw[h2]at h3;cases h3;exact .inr ⟨ψ,n,j',m,h1,h4⟩⟩
def Ev.get(e:Ev fs aK){t:SL}(h:aK[i]?=al (al t)):(fs[i]?=al (al t))\/∃ψ n n' m,t=.cj ψ n' m/\fs[i]?=al (al (.cj ψ n m)):=by
 rcases e.at' i with h2|⟨ψ,n,n',m,h1,h2⟩
 .exact .inl (h2.trans h)
 .rw[h]at h2;cases h2;exact .inr ⟨ψ,n,n',m,rfl,h1⟩
def Ev.same(e:Ev fs aK){t:SL}(h:fs[i]?=al (al t))(n:∀ψ j m,t≠.cj ψ j m):aK[i]?=al (al t):=(e.symm.get h).resolve_right λ⟨_,_,_,_,z,_⟩=>n _ _ _ z
def Ev.cj(e:Ev fs aK){m:Nat}(p:eW σ aK ψ m a):eW σ fs ψ m a:=by
 obtain⟨i,n,h1,h2⟩:=p;rcases e.get h1 with h|⟨_,j,_,_,h,k⟩
 .exact⟨i,n,h,h2⟩
 .cases h;exact⟨i,j,k,h2⟩
def Ev.c8(e:Ev fs aK)(p:bx σ aK a):bx σ fs a:=by
 obtain⟨i,t,x,h1,h2,h3,h4⟩:=p;rcases e.get h1 with h|⟨_,j,_,_,rfl,k⟩
 .exact⟨i,t,x,h,h2,h3,h4⟩
 .exact⟨i,_,x,k,rfl,h3,h4⟩
def bP.refl:bP σ fs H H:=⟨λ_ _ h _ _=>h,λ_ h=>h,.refl _,λ_ h=>h⟩
def bP.trans(a:bP σ fs H H1 au)(b:bP σ au H1 H2 fs2):bP σ fs H H2 fs2:=⟨λx o h n t=>b.keep x o (a.keep x o h n t) (λψ m p=>n ψ m (a.ev.cj p)) t,λx h=>a.there x (b.there x h),a.ev.trans b.ev,λx h=>b.x x (a.x x h)⟩
def bP.f(g:bP σ fs H H' aK):bT σ fs H σ aK H':=⟨λa o h n=>⟨λt=>g.keep a o h (λ_ _ p=>n p.c8) t,λz=>n (g.ev.c8 z)⟩,g.there,λa ψ m p=>.inl (g.ev.symm.cj p),g.x⟩
def bP.gY(g:bP σ fs H H' aK)(h:H a=al o)(n:¬bx σ fs a)(t:‹o.nt=true›):H' a=al o:=g.keep a o h (λ_ _ p=>n p.c8) t
def bP.same(h:cI H H'):bP σ fs H H':=⟨λa o e _ _=>h a o e,λa e=>(by
 cases z:H a with
 |none=>rfl
 |some o=>rw[h a o z]at e;cases e),.refl _,λ_ z=>h _ _ z⟩
def yz.ex{fd:O (Str×FD)}(h:yz K H ws fd){c:ce}(hc:c∈IP fd):∃vs,H c=al (.lst vs):=by
 induction h with
 |nil=>cases hc
 |v r t ih=>exact ih hc
 | @o n b vs l ws fd e r t ih=>
  rcases Au.mp (hc) with rfl|hc
  .exact⟨vs,e⟩
  .exact ih hc
def dH.ex{c:ce}{s:SL}(h:dH K H a s)(ho:s.own=true)(hc:s.has a c):∃o,H c=al o/\(∀vs,o≠.tup vs)/\(∀ob u,o≠.b8 ob u)/\o.ow=true:=by
 cases s with
 |val _=>exact h.elim
 |adr _ _ _ _=>cases ho
 |ol q l=>obtain⟨_,vs,e,_⟩:=h;rcases hc with rfl|hc;exact⟨_,e,by simp,by simp,rfl⟩;cases hc
 |ND bs ls=>
  obtain⟨e,_,_,hl,hb⟩:=h;rcases hc with rfl|hc
  .exact⟨_,e,by simp,by simp,rfl⟩
  .obtain⟨j,hj⟩:=List.getElem?_of_mem (hc);obtain⟨ws,e,_⟩:=hb j c _ hj (Ak (by rw[<- hl];exact((Ag.mp hj).1)));exact⟨_,e,by simp,by simp,rfl⟩
 |od l=>obtain⟨vs,e,_⟩:=h;rcases hc with rfl|hc;exact⟨_,e,by simp,by simp,rfl⟩;cases hc
 |ot l=>obtain⟨vs,e,_⟩:=h;rcases hc with rfl|hc;exact⟨_,e,by simp,by simp,rfl⟩;cases hc
 |cj ψ n m=>obtain⟨⟨_,vs,_,e,_⟩,_⟩:=h;rcases hc with rfl|hc;exact⟨_,e,by simp,by simp,rfl⟩;cases hc
 |ob q C fd=>
  obtain⟨_,_,_,_,_,dx,ws,e,r⟩:=h;rcases hc with rfl|hc
  .exact⟨_,e,by simp,by simp,rfl⟩
  .obtain⟨vs,e⟩:=r.ex hc;exact⟨_,e,by simp,by simp,rfl⟩
def aR.ownAt(s:aR K H σ fs){t:SL}(h1:fs[i]?=al (al t))(h2:t.own=true)(h3:σ[i]?=al (al (.ref a))):dH K H a t:=by
 obtain⟨u,e,r⟩:=s.at' i t h1;rw[h3]at e;cases e;rcases r with⟨v,rfl,_⟩|⟨b,e,r⟩
 .cases h2
 .cases e;exact r
def aR.c8(s:aR K H σ fs)(h:bx σ fs a):∃o,H a=al o/\(∀vs,o≠.tup vs)/\(∀ob u,o≠.b8 ob u)/\o.ow=true:=by
 obtain⟨i,t,x,h1,h2,h3,h4⟩:=h;exact(s.ownAt h1 h2 h3).ex h2 h4
def aR.noOwn(s:aR K H σ fs)(h:H a=bn):¬bx σ fs a:=λz=>by
 obtain⟨o,e,_⟩:=s.c8 z;rw[h]at e;cases e
def aR.HX(s:aR K H σ fs)(h:H a=al (.tup vs)):¬bx σ fs a:=λz=>by
 obtain⟨o,e,n,_⟩:=s.c8 z;rw[h]at e;cases e;exact n vs rfl
def aR.HY(s:aR K H σ fs){ob:Obj}{u:HO}(h:H a=al (.b8 ob u)):¬bx σ fs a:=λz=>by
 obtain⟨o,e,_,n,_⟩:=s.c8 z;rw[h]at e;cases e;exact n ob u rfl
def aR.HW(s:aR K H σ fs)(h:H a=al (.ext φ)):¬bx σ fs a:=λz=>by
 obtain⟨o,e,_,_,n⟩:=s.c8 z;rw[h]at e;cases e;cases n
def bT.refl:bT σ fs H σ fs H:=⟨λ_ _ h n=>⟨λ_=>h,n⟩,λ_ h=>h,λ_ _ _ h=>.inl h,λ_ h=>h⟩
def bT.zP(a:bT σ fs H σ1 au H1)(b:bT σ1 au H1 σ2 fs2 H2){x:ce}(h:H x=al o)(n:¬bx σ fs x):¬bx σ2 fs2 x:=by
 cases z:H1 x with
 |none=>rw[a.there x z]at h;cases h
 |some o1=>exact(b.keep x o1 z ((a.keep x o h n).2)).2
def bT.trans(a:bT σ fs H σ1 au H1)(b:bT σ1 au H1 σ2 fs2 H2):bT σ fs H σ2 fs2 H2:=
 ⟨λx o h n=>⟨λt=>let ⟨h1,n1⟩:=a.keep x o h n;(b.keep x o (h1 t) n1).1 t,a.zP b h n⟩,λx h=>a.there x (b.there x h),λx ψ m h=>(a.pk x ψ m h).elim (b.pk x ψ m) λ⟨n,j,vs,hj,e,p,q⟩=>.inr (let ⟨h1,n1⟩:=b.keep x _ e n;⟨n1,j,vs,hj,h1 rfl,p,λc hc=>b.x c (q c hc)⟩),λc h=>b.x c (a.x c h)⟩
def bT.bW(g:bT σ fs H σ' aK H')(s:aR K H σ fs):aQ K H H':=
 ⟨λa vs h=>(g.keep a _ h (s.HX h)).1 rfl,λa o u h=>(g.keep a _ h (s.HY h)).1 rfl,g.x⟩
def VR.tk{u:V}(t:aQ K H H')(r:VR K [] H u v):VR K [] H' u v:=r.mono t λ_ _ e=>e
def aL.tk{u:O V}{v:O PV}(t:aQ K H H')(r:aL K [] H u v):aL K [] H' u v:=r.mono t λ_ _ e=>e
def bP.bW(g:bP σ fs H H' aK)(s:aR K H σ fs):aQ K H H':=g.f.bW s
def bP.vr(g:bP σ fs H H' aK)(s:aR K H σ fs){u:V}(r:VR K [] H u v):VR K [] H' u v:=VR.tk (g.bW s) r
def bP.rC(g:bP σ fs H H' aK)(s:aR K H σ fs){u:O V}{v:O PV}(r:aL K [] H u v):aL K [] H' u v:=aL.tk (g.bW s) r
def yz.mono{fd:O (Str×FD)}(t:aQ K H H')(h:yz K H ws fd)(e:∀c vs,c∈IP fd->H c=al (.lst vs)->H' c=al (.lst vs)):yz K H' ws fd:=by
 induction h with
 |nil=>exact .nil
 |v r _ ih=>exact .v (VR.tk t r) (ih e)
 | @o n b vs l ws fd q r _ ih=>exact .o (e b vs (.head _) q) (aL.tk t r) (ih λc vs hc=>e c vs (.tail _ hc))
def dH.mono{s:SL}(t:aQ K H H')(e:∀c o,s.own=true->s.has a c->H c=al o->o.nt=true->H' c=al o)(h:dH K H a s):dH K H' a s:=by
 cases s with
 |val _=>exact h
 |adr _ _ _ _=>exact⟨h.1,aL.tk t h.2.1,h.2.2.tk t⟩
 |ol _ l=>obtain⟨z,vs,q,r⟩:=h;exact⟨z,vs,e _ _ rfl (.inl rfl) q rfl,aL.tk t r⟩
 |ND bs ls=>
  obtain⟨z,h1,h2,h3,h4⟩:=h;refine⟨e _ _ rfl (.inl rfl) z rfl,h1,h2,h3,λj b l hb hl=>?_⟩;obtain⟨ws,q,r⟩:=h4 j b l hb hl;exact⟨ws,e _ _ rfl (.inr (A8 hb)) q rfl,aL.tk t r⟩
 |od l=>obtain⟨vs,q,k,r⟩:=h;exact⟨vs,e _ _ rfl (.inl rfl) q rfl,k,aL.tk t r⟩
 |ot l=>obtain⟨vs,q,k,r⟩:=h;exact⟨vs,e _ _ rfl (.inl rfl) q rfl,k,aL.tk t r⟩
 |cj ψ n m=>obtain⟨⟨j,vs,hj,q,k,z⟩,r⟩:=h;exact⟨⟨j,vs,hj,e _ _ rfl (.inl rfl) q rfl,k,λb hb=>t.x b (z b hb)⟩,r⟩
 |ob q C fd=>obtain⟨h0,h1,h2,h3,h4,dx,ws,q,r⟩:=h;exact⟨h0,h1,h2,h3,h4,dx,ws,e _ _ rfl (.inl rfl) q rfl,r.mono t λc vs hc q=>e c _ rfl (.inr hc) q rfl⟩
def ja.mono{u:V}{s:SL}(t:aQ K H H')(e:∀x a o,u=.ref x->s.own=true->s.has x a->H a=al o->o.nt=true->H' a=al o)(h:ja K H u s):ja K H' u s:=by
 rcases h with⟨v,q,r⟩|⟨a,q,r⟩
 .exact .inl ⟨v,q,VR.tk t r⟩
 .exact .inr ⟨a,q,r.mono t (λc o z y w nt=>e a c o q z y w nt)⟩
def aR.same(s:aR K H σ fs)(h:cI H H'):aR K H' σ fs:=⟨s.len,λi t e=>let ⟨u,h1,h2⟩:=s.at' i t e;⟨u,h1,h2.mono h.cK (λ_ a o _ _ _ z _=>h a o z)⟩,s.nd,s.tb.same h⟩
def bT.same(h:cI H H')(s:aR K H σ fs):bT σ fs H σ fs H':=⟨λa o e n=>⟨λ_=>h a o e,n⟩,λa e=>(by
 cases z:H a with
 |none=>rfl
 |some o=>rw[h a o z]at e;cases e),λa ψ m p=>.inl p,λ_ z=>h _ _ z⟩
inductive dR:aX->aX->Prop
 |nil:dR [] []
 |drop {s:Option SL}{a b:aX} (h:dR a b):dR (s::a) (bn::b)
 |keep {s:Option SL}{a b:aX} (h:dR a b):dR (s::a) (s::b)
 |bump {ψ:Nat->List V->Prop}{n n' m:Nat}{a b:aX} (h:dR a b) (k:n<=n'/\n'<=m):dR (al (.cj ψ n m)::a) (al (.cj ψ n' m)::b)
def Jv(s t:SL):Prop:=s=t\/∃ψ n n' m,s=.cj ψ n m/\t=.cj ψ n' m/\n<=n'/\n'<=m
theorem dR.at{a b:aX}(h:dR a b):∀(i:Nat) (s:SL),b[i]?=al (al s)->∃t,a[i]?=al (al t)/\Jv t s:=by
 induction h with
 |nil=>intro i s e;simp at e
 |drop h ih=>intro i s e;cases i with|zero=>simp at e|succ i=>simp at e ⊢;exact ih i s e
 |keep h ih=>intro i s e;cases i with|zero=>exact⟨s,by simpa using e,.inl rfl⟩|succ i=>simp at e ⊢;exact ih i s e
 | @bump ψ n n' m a b h k ih=>intro i s e;cases i with|zero=>(simp at e;subst e;exact⟨_,rfl,.inr ⟨ψ,n,n',m,rfl,rfl,k⟩⟩)|succ i=>simp at e ⊢;exact ih i s e
theorem dR.length{a b:aX}(h:dR a b):a.length=b.length:=by induction h<;>simp_all
theorem dR.refl:∀a:aX,dR a a
 |[]=>.nil
 |_::a=>.keep (dR.refl a)
def Jv.own{s t:SL}(h:Jv s t):s.own=t.own:=by rcases h with rfl|⟨_,_,_,_,rfl,rfl,_⟩<;>rfl
def Jv.has{s t:SL}(h:Jv s t){x:ce}(k:t.has x a):s.has x a:=by
 rcases h with rfl|⟨_,_,_,_,rfl,rfl,_⟩
 .exact k
 .exact k
def Jv.slot{s t:SL}(h:Jv s t){u:V}(k:ja K H u s):ja K H u t:=by
 rcases h with rfl|⟨ψ,n,n',m,rfl,rfl,h1,h2⟩
 .exact k
 .rcases k with⟨v,e,_⟩|⟨a,e,⟨j,vs,hj,q⟩,_,hm⟩
  .cases e
  .exact .inr ⟨a,e,⟨j,vs,Av hj h1,q⟩,h2,hm⟩
def aR.le(s:aR K H σ fs)(h:dR fs aK):aR K H σ aK:=⟨s.len.trans h.length,λi t e=>let ⟨_,e2,l⟩:=h.at i t e;let ⟨u,h1,h2⟩:=s.at' i _ e2;⟨u,h1,l.slot h2⟩,λi j t u x y a e1 e2 o1 o2 q1 q2 z1 z2=>let ⟨_,f1,l1⟩:=h.at i t e1;let ⟨_,f2,l2⟩:=h.at j u e2;s.nd i j _ _ x y a f1 f2 (l1.own▸o1) (l2.own▸o2) q1 q2 (l1.has z1) (l2.has z2),s.tb⟩
def bx.le(h:dR fs aK)(o:bx σ aK a):bx σ fs a:=let ⟨i,t,x,e1,e2,e3,e4⟩:=o;let ⟨t',f1,l⟩:=h.at i t e1;⟨i,t',x,f1,l.own▸e2,e3,l.has e4⟩
def aR.free(s:aR K H σ fs){m:Nat}(p:eW σ fs ψ m a):p8 H a ψ m:=by
 obtain⟨i,n,e1,e2⟩:=p;obtain⟨⟨j,vs,hj,q⟩,h1,_⟩:=s.ownAt e1 rfl e2;exact⟨j,vs,Av hj h1,q⟩
def bT.le(s:aR K H σ fs)(h:dR fs aK):bT σ fs H σ aK H:=⟨λa o e n=>⟨λ_=>e,λz=>n (z.le h)⟩,λ_ e=>e,λa ψ m p=>by
 have fr:=s.free p;obtain⟨i,n,e1,e2⟩:=p;by_cases c:bx σ aK a
 .obtain⟨j,t,x,c1,c2,c3,c4⟩:=c;obtain⟨t',f1,l⟩:=h.at j t c1;have ij:=s.nd i j _ t' a x a e1 f1 rfl (l.own▸c2) e2 c3 (.inl rfl) (l.has c4);subst ij;rw[e1]at f1;cases f1;rcases l with rfl|⟨_,_,n',_,l1,rfl,_⟩
  .exact .inl ⟨i,n,c1,e2⟩
  .cases l1;exact .inl ⟨i,n',c1,e2⟩
 .exact .inr ⟨c,fr⟩,λ_ h=>h⟩
def bL{l:O (Option α)}{x y:α}(h:(l.set i (al x))[j]?=al (al y)):(j=i/\y=x)\/(j≠i/\l[j]?=al (al y)):=by
 by_cases c:j=i
 .subst c;rw[DE]at h;simp at h;exact .inl ⟨rfl,h.2.symm⟩
 .rw[BZ (λz=>c z.symm)]at h;exact .inr ⟨c,h⟩
def bq{l:List α}{x:α}(h:i<l.length):(l.set i x)[i]?=al x:=by rw[DE];simp[h]
def aM{l:List α}{x:α}(h:j≠i):(l.set i x)[j]?=l[j]?:=BZ (λz=>h z.symm)
def aR.put(s:aR K H σ fs){u:V}{t:SL}(hr:ja K H u t)(hf:∀x a,u=.ref x->t.own=true->t.has x a->∀(j:Nat) (w:SL) (y:ce),j≠i->fs[j]?=al (al w)->w.own=true->σ[j]?=al (al (.ref y))->¬w.has y a):aR K H (σ.set i (al u)) (fs.set i (al t)):=by
 refine⟨by simp[s.len],λj w e=>?_,λj k w x b1 b2 a e1 e2 o1 o2 q1 q2 z1 z2=>?_,s.tb⟩
 .rcases bL e with⟨rfl,rfl⟩|⟨n,e⟩
  .have hl:j < σ.length:=by
    have:=(Ag.mp e).1;rw[Ee]at this;rw[s.len];exact this
   exact⟨u,bq hl,hr⟩
  .obtain⟨v,h1,h2⟩:=s.at' j w e;exact⟨v,by rw[aM n];exact h1,h2⟩
 .rcases bL e1 with⟨y1,y2⟩|⟨n1,f1⟩<;>rcases bL e2 with⟨y3,y4⟩|⟨n2,f2⟩
  .exact y1.trans y3.symm
  .subst y1;subst y2;rw[aM n2]at q2;have hl:j < σ.length:=by have:=(Ag.mp q1).1;simpa using this
   rw[bq hl]at q1;cases q1;exact absurd z2 (hf _ a rfl o1 z1 k x b2 n2 f2 o2 q2)
  .subst y3;subst y4;rw[aM n1]at q1;have hl:k < σ.length:=by have:=(Ag.mp q2).1;simpa using this
   rw[bq hl]at q2;cases q2;exact absurd z1 (hf _ a rfl o2 z2 j w b1 n1 f1 o1 q1)
  .rw[aM n1]at q1;rw[aM n2]at q2;exact s.nd j k w x b1 b2 a f1 f2 o1 o2 q1 q2 z1 z2
def aR.dW(s:aR K H σ fs){u:V}(hr:VR K [] H u v)(i:Nat):aR K H (σ.set i (al u)) (fs.set i (al (.val v))):=s.put (.inl ⟨v,rfl,hr⟩) λ_ _ _ z=>by cases z
def oP{u:V}{t:SL}(o:bx (σ.set i (al u)) (fs.set i (al t)) a)(hl:σ.length=fs.length):bx σ fs a\/∃x,u=.ref x/\t.own=true/\t.has x a:=by
 obtain⟨j,w,x,e1,e2,e3,e4⟩:=o;rcases bL e1 with⟨rfl,rfl⟩|⟨n,e1⟩
 .have h2:j < σ.length:=by have:=(Ag.mp e3).1;simpa using this
  rw[bq h2]at e3;cases e3;exact .inr ⟨x,rfl,e2,e4⟩
 .rw[aM n]at e3;exact .inl ⟨j,w,x,e1,e2,e3,e4⟩
def rY(s:aR K H σ fs){u:V}{t:SL}{m:Nat}(p:eW σ fs ψ m a)(hu:∀x,u=.ref x->t.own=true->t.has x a->∃n,t=.cj ψ n m):eW (σ.set i (al u)) (fs.set i (al t)) ψ m a\/¬bx (σ.set i (al u)) (fs.set i (al t)) a:=by
 obtain⟨j,n,e1,e2⟩:=p;by_cases c:j=i
 .subst c;by_cases c2:∃x,u=.ref x/\t.own=true/\t.has x a
  .obtain⟨x,c3,c4,c5⟩:=c2;obtain⟨n',rfl⟩:=hu x c3 c4 c5;rcases c5 with rfl|c5
   .exact .inl ⟨j,n',by rw[bq ((Ag.mp e1).1)],by rw[bq ((Ag.mp e2).1),c3]⟩
   .cases c5
  .refine .inr λo=>?_;obtain⟨k,w,y,q1,q2,q3,q4⟩:=o;rcases bL q1 with⟨rfl,rfl⟩|⟨n,q1⟩
   .rw[bq ((Ag.mp e2).1)]at q3;cases q3;exact c2 ⟨y,rfl,q2,q4⟩
   .rw[aM n]at q3;exact n (s.nd k j w _ y a a q1 e1 q2 rfl q3 e2 q4 (.inl rfl))
 .exact .inl ⟨j,n,by rw[aM c];exact e1,by rw[aM c];exact e2⟩
def bT.dW(s:aR K H σ fs)(u:V)(v:PV)(i:Nat):bT σ fs H (σ.set i (al u)) (fs.set i (al (.val v))) H:=
 ⟨λa o e n=>⟨λ_=>e,λz=>(oP z s.len).elim n λ⟨_,_,z,_⟩=>by cases z⟩,λ_ e=>e,λa ψ m p=>(rY s p (λ_ _ z=>by cases z)).imp id λn=>⟨n,s.free p⟩,λ_ h=>h⟩
def aR.vO(s:aR K H σ fs){t:SL}(hr:dH K H a t)(hn:∀c,t.has a c->¬bx σ fs c)(i:Nat):aR K H (σ.set i (al (.ref a))) (fs.set i (al t)):=s.put (.inr ⟨a,rfl,hr⟩) λx c e _ hc j w y n e1 e2 e3 z=>by
 cases e;exact hn c hc ⟨j,w,y,e1,e2,e3,z⟩
def nj{t:SL}(hi:t.w9=[]){c:ce}(h:t.has a c):c=a:=by
 rcases h with h|h
 .exact h
 .rw[hi]at h;cases h
def aR.qx(s:aR K H σ fs){t:SL}(hr:dH K H a t)(hn:¬bx σ fs a)(i:Nat)(hi:‹t.w9=[]›):aR K H (σ.set i (al (.ref a))) (fs.set i (al t)):=s.vO hr (λc hc=>by rw[nj hi hc];exact hn) i
def bT.vO(s:aR K H1 σ au)(g:bP σ fs H H1 au){t:SL}(hn:∀c,t.has a c->¬bx σ au c)(h0:∀c,t.has a c->H c=bn)(i:Nat):bT σ fs H (σ.set i (al (.ref a))) (au.set i (al t)) H1:=by
 refine⟨λb o e n=>⟨(g.f.keep b o e n).1,λz=>(oP z s.len).elim (g.f.keep b o e n).2 λ⟨x,z,_,y⟩=>?_⟩,g.there,λb ψ m p=>?_,g.x⟩
 .cases z;rw[h0 b y]at e;cases e
 .have p:=g.ev.symm.cj p;refine(rY s p (λx z o y=>?_)).imp id λn=>⟨n,s.free p⟩;cases z;exact absurd p.c8 (hn b y)
def bT.qx(s:aR K H1 σ au)(g:bP σ fs H H1 au){t:SL}(hn:¬bx σ au a)(h0:H a=bn)(i:Nat)(hi:‹t.w9=[]›):bT σ fs H (σ.set i (al (.ref a))) (au.set i (al t)) H1:=bT.vO s g (λc hc=>by rw[nj hi hc];exact hn) (λc hc=>by rw[nj hi hc];exact h0) i
inductive qb:aX->aX->Prop
 |refl (a:aX):qb a a
 |keep {s:Option SL}{a b:aX} (h:qb a b):qb (s::a) (s::b)
 |bump {ψ:Nat->List V->Prop}{n n' m:Nat}{a b:aX} (k:n<=n'/\n'<=m) (h:qb a b):qb (al (.cj ψ n m)::a) (al (.cj ψ n' m)::b)
def qb.f{a b:aX}(h:qb a b):dR a b:=by
 induction h with
 |refl a=>exact .refl a
 |keep _ ih=>exact .keep ih
 |bump k _ ih=>exact .bump ih k
def Ev.cons{a b:aX}(e:Ev a b){s t:Option SL}(h:s=t\/∃ψ n n' m,s=al (.cj ψ n m)/\t=al (.cj ψ n' m)):Ev (s::a) (t::b):=⟨by simp[e.len],λi=>by
 cases i with
 |zero=>exact h.imp (λz=>by rw[z];rfl) λ⟨ψ,n,n',m,z,y⟩=>⟨ψ,n,n',m,by rw[z];rfl,by rw[y];rfl⟩
 |succ i=>simpa using e.at' i⟩
def qb.ev{a b:aX}(h:qb a b):Ev a b:=by
 induction h with
 |refl a=>exact .refl a
 |keep _ ih=>exact ih.cons (.inl rfl)
 | @bump ψ n n' m _ _ _ _ ih=>exact ih.cons (.inr ⟨ψ,n,n',m,rfl,rfl⟩)
def Ev.nd(ev:Ev fs aK)(s:aR K H σ fs)(i j:Nat)(t u:SL)(x y a:ce)(e1:aK[i]?=al (al t))(e2:aK[j]?=al (al u))(o1:t.own=true)(o2:u.own=true)(q1:σ[i]?=al (al (.ref x)))(q2:σ[j]?=al (al (.ref y)))(z1:t.has x a)(z2:u.has y a):i=j:=by
 have f:∀{j:Nat}{t:SL}{x:ce},aK[j]?=al (al t)->t.own=true->t.has x a->∃t',fs[j]?=al (al t')/\t'.own=true/\t'.has x a:=λ{j t x} e o z=>by
  rcases ev.get e with k|⟨_,_,_,_,rfl,k⟩
  .exact⟨t,k,o,z⟩
  .exact⟨_,k,rfl,z⟩
 obtain⟨t',a1,a2,a3⟩:=f e1 o1 z1;obtain⟨u',b1,b2,b3⟩:=f e2 o2 z2;exact s.nd i j t' u' x y a a1 b1 a2 b2 q1 q2 a3 b3
def bP.le{a b:aX}(g:bP σ fs H H' a)(h:qb a b):bP σ fs H H' b:=⟨λc o e n t=>g.keep c o e n t,g.there,g.ev.trans h.ev,g.x⟩
def oQ(s:aR K H σ fs){t t':SL}{c:ce}(e1:fs[i]?=al (al t))(o:t.own=true)(np:∀ψ n m,t≠.cj ψ n m)(e2:σ[i]?=al (al (.ref a)))(hc:t.has a c)(yL:t'.has a c)(yJ:∀b,t'.has a b->t.has a b)(o':t'.own=true)(sx:iy c H H')(ht:aQ K H H'->dH K H' a t'):aR K H' σ (fs.set i (al t'))/\bT σ fs H σ (fs.set i (al t')) H':=by
 have oa:=s.ownAt e1 o e2;obtain⟨ob,q,n1,n2,n3⟩:=oa.ex o hc;have tk:aQ K H H':=⟨λb vs z=>sx b _ (λy=>by subst y;rw[q]at z;cases z;exact n1 _ rfl) z,λb o u z=>sx b _ (λy=>by subst y;rw[q]at z;cases z;exact n2 _ _ rfl) z,xk λb φ z=>sx b _ (λy=>by subst y;rw[q]at z;cases z;cases n3) z⟩;have Ss:=ht tk;have hi:i<fs.length:=(Ag.mp e1).1;have zy:∀b,bx σ (fs.set i (al t')) b->bx σ fs b:=λb z=>by
  obtain⟨j,w,x,z1,z2,z3,z4⟩:=z;rcases bL z1 with⟨rfl,rfl⟩|⟨n,z1⟩
  .rw[e2]at z3;cases z3;exact⟨j,t,a,e1,o,e2,yJ b z4⟩
  .exact⟨j,w,x,z1,z2,z3,z4⟩
 refine⟨⟨by simp[s.len],λj w e=>?_,λj k w x b1 b2 b z1 z2 o1 o2 q1 q2 y1 y2=>?_,s.tb.rP sx q (wj n3) n2⟩,⟨λb ob e n=>⟨λ_=>sx b ob (λz=>by subst z;exact n ⟨i,t,a,e1,o,e2,hc⟩) e,λz=>n (zy b z)⟩,λb e=>?_,λb ψ m p=>?_,tk.x⟩⟩
 .rcases bL e with⟨rfl,rfl⟩|⟨n,e⟩
  .exact⟨_,e2,.inr ⟨a,rfl,Ss⟩⟩
  .obtain⟨u,h1,h2⟩:=s.at' j w e;refine⟨u,h1,h2.mono tk (λx b ob eb ow hb z _=>sx b ob (λy=>?_) z)⟩;subst y;subst eb;exact n (s.nd j i w t x a b e e1 ow o h1 e2 hb hc)
 .have f:∀{j:Nat}{w:SL}{y:ce},(fs.set i (al t'))[j]?=al (al w)->w.own=true->σ[j]?=al (al (.ref y))->w.has y b->∃w',fs[j]?=al (al w')/\w'.own=true/\w'.has y b:=λ{j w y} z ow qy hy=>by
   rcases bL z with⟨rfl,rfl⟩|⟨n,z⟩
   .rw[e2]at qy;cases qy;exact⟨t,e1,o,yJ b hy⟩
   .exact⟨w,z,ow,hy⟩
  obtain⟨w',a1,a2,a3⟩:=f z1 o1 q1 y1;obtain⟨x',c1,c2,c3⟩:=f z2 o2 q2 y2;exact s.nd j k w' x' b1 b2 b a1 c1 a2 c2 q1 q2 a3 c3
 .cases z:H b with
  |none=>rfl
  |some ob=>
   by_cases cc:b=c
   .subst cc;obtain⟨o2,y,_⟩:=Ss.ex o' yL;rw[e]at y;cases y
   .rw[sx b ob cc z]at e;cases e
 .obtain⟨j,k,p1,p2⟩:=p;have ji:j≠i:=λz=>by subst z;rw[e1]at p1;cases p1;exact np ψ k m rfl
  exact .inl ⟨j,k,by rw[aM ji];exact p1,p2⟩
def jT(s:aR K H σ fs){t t':SL}(e1:fs[i]?=al (al t))(o:t.own=true)(np:∀ψ n m,t≠.cj ψ n m)(e2:σ[i]?=al (al (.ref a)))(sx:iy a H H')(ht:aQ K H H'->dH K H' a t')(hi:‹t'.w9=t.w9›)(o':‹t'.own=true›):aR K H' σ (fs.set i (al t'))/\bT σ fs H σ (fs.set i (al t')) H':=
 oQ s e1 o np e2 (.inl rfl) (.inl rfl) (λb h=>by unfold SL.has at h ⊢;rw[hi]at h;exact h) o' sx ht
end
end
end FL
open FL.W renaming bind→am,ret→ap,run_bind→ii,ak→sB,ay→wE,aH→xL,ext'→zn
local macro_rules | `($a\$b)=>`(am (ap $a) $b)
variable{u:L2.V}{fs aK au fs2 fs3:FL.aX}{r:L2.R2}{σ':L2.St}{wa wb wc:FL.W PL.PV}
namespace FL
section
variable[bu]
variable{K:Aa}
def fE(K:Aa)(fs:aX)(w:W PV)(aK:aX:=fs):TE:=λσ H Q=>aR K H σ fs/\w.run λv=>∀u H',bP σ fs H H' aK->aR K H' σ aK->VR K [] H' u v->Q u H'
def fT(K:Aa)(fs:aX)(w:W Bool)(aK:aX:=fs):TT:=λσ H Q=>aR K H σ fs/\w.run λb=>∀H',bP σ fs H H' aK->aR K H' σ aK->Q b H'
def fO(K:Aa)(fs:aX)(w:W (Option Int))(aK:aX:=fs):TO:=λσ H Q=>aR K H σ fs/\w.run λb=>∀H',bP σ fs H H' aK->aR K H' σ aK->Q b H'
def fL(K:Aa)(fs:aX)(w:W (O PV))(aK:aX:=fs):TE:=λσ H Q=>aR K H σ fs/\w.run λl=>∀a vs H',bP σ fs H H' aK->aR K H' σ aK->H a=bn->H' a=al (.lst vs)->aL K [] H' vs l->Q (.ref a) H'
def JW(K:Aa)(H:Hp)(u:V)(l:O PV):Prop:=∃a vs,u=.ref a/\(yx K H a vs\/H a=al (.tup vs))/\aL K [] H vs l
def FO(K:Aa)(σ:L2.St)(fs:aX)(H:Hp)(u:V)(l:O PV):Prop:=JW K H u l\/∃a,u=.ref a/\((¬bx σ fs a/\∃vs,H a=al (.lst vs)/\aL K [] H vs l)\/∃(i:Nat) (q:Option ce),fs[i]?=al (al (.ol q l))/\σ[i]?=al (al (.ref a)))
def fQ(K:Aa)(fs:aX)(w:W (O PV))(aK:aX:=fs):TE:=λσ H Q=>aR K H σ fs/\w.run λl=>∀u H',bP σ fs H H' aK->aR K H' σ aK->FO K σ aK H' u l->Q u H'
def fI(K:Aa)(fs:aX)(w:W (O PV))(aK:aX:=fs):TE:=λσ H Q=>aR K H σ fs/\w.run λl=>∀u H',bP σ fs H H' aK->aR K H' σ aK->JW K H' u l->Q u H'
inductive AK where
 |v|p (ψ:Nat->List V->Prop) (d:Nat)|f (a:ce) (us:List V) (ps:List PV) (fz:List (ce×Obj))
inductive cO(K:Aa)(H:Hp):List V->List AK->List PV->Prop
 |nil:cO K H [] [] []
 |v {u:V}{x:PV}{vs:List V}{ks:List AK}{l:List PV} (r:VR K [] H u x) (t:cO K H vs ks l):cO K H (u::vs) (.v::ks) (x::l)
 |f {a:ce}{us vs:List V}{ps:List PV}{fz:List (ce×Obj)}{ks:List AK}{l:List PV} (r:aL K [] H us ps) (z:mq H fz) (t:cO K H vs ks l):cO K H (.ref a::vs) (.f a us ps fz::ks) l
def fA(K:Aa)(fs:aX)(ks:O AK)(w:W (O PV))(aK:aX:=fs):TA:=λσ H Q=>aR K H σ fs/\w.run λl=>∀vs H',bP σ fs H H' aK->aR K H' σ aK->cO K H' vs ks l->Q vs H'
structure EF(X:Cx)(K:Aa)(fs:aX)(e:im)(w:W PV)(aK:aX:=fs):Prop where p:PE X e (fE K fs w aK)
structure LF(X:Cx)(K:Aa)(fs:aX)(e:im)(w:W (List PV))(aK:aX:=fs):Prop where p:PE X e (fL K fs w aK)
structure QF(X:Cx)(K:Aa)(fs:aX)(e:im)(w:W (List PV))(aK:aX:=fs):Prop where p:PE X e (fQ K fs w aK)
structure IF(X:Cx)(K:Aa)(fs:aX)(e:im)(w:W (List PV))(aK:aX:=fs):Prop where p:PE X e (fI K fs w aK)
structure TF(X:Cx)(K:Aa)(fs:aX)(e:im)(w:W Bool)(aK:aX:=fs):Prop where p:PT X e (fT K fs w aK)
structure rq(X:Cx)(K:Aa)(fs:aX)(e:im)(w:W Bool)(aK:aX:=fs):Prop where p:PW X e (fT K fs w aK)
structure OF(X:Cx)(K:Aa)(fs:aX)(e:Option im)(w:W (Option Int))(aK:aX:=fs):Prop where p:L2.PO X e (fO K fs w aK)
structure AF(X:Cx)(K:Aa)(fs:aX)(es:List im)(ks:List AK){R:Type}(B:(List PV->W R)->W R)(aK:aX:=fs):Prop where
 p:∃w:W (List PV),PA X es (fA K fs ks w aK)/\∀k,B k=am w k
section
def JW.tk(t:aQ K H H')(h:JW K H u l):JW K H' u l:=by
 obtain⟨a,vs,e,q,r⟩:=h;exact⟨a,vs,e,q.imp (t.f _ _) (t.t _ _),aL.tk t r⟩
def FO.go(h:FO K σ fs H u l)(s:aR K H σ fs)(g:bP σ fs H H' aK):FO K σ aK H' u l:=by
 rcases h with h|⟨a,e,⟨n,vs,q,r⟩|q⟩
 .exact .inl (h.tk (g.bW s))
 .exact .inr ⟨a,e,.inl ⟨λz=>n (g.ev.c8 z),vs,(g.gY q n),g.rC s r⟩⟩
 .obtain⟨i,q0,h1,h2⟩:=q;exact .inr ⟨a,e,.inr ⟨i,q0,g.ev.same h1 (by simp),h2⟩⟩
def FO.sq(h:FO K σ fs H u l)(s:aR K H σ fs):∃a vs,u=.ref a/\(cX K H a vs\/dP K H a vs)/\aL K [] H vs l:=by
 rcases h with⟨a,vs,e,q,r⟩|⟨a,e,⟨n,vs,q,r⟩|⟨i,_,q1,q2⟩⟩
 .exact⟨a,vs,e,q.elim (λq=>.inl q.sq) λq=>.inr (dP.of q),r⟩
 .exact⟨a,vs,e,.inl (cX.of q),r⟩
 .obtain⟨_,vs,q,r⟩:=s.ownAt q1 rfl q2;exact⟨a,vs,e,.inl (cX.of q),r⟩
end
section
variable{a c o:im}{rest:O im}{w:W PV}
def af(i:Nat){x:Str}(hs:‹fs[i]?=al (al (.val v))›)(hN:‹X.N[i]?=al x›)(hv:rp X.env.scope x:=by first|exact Bj rfl|exact Bo (Bj rfl)|exact Bo (Bo rfl))(hd: ~~~(dg x))(df: ~~~(rA x)):EF X K fs (.Name x pos) (.ret v):=
 ⟨PE.imp (c7 hN hv hd df) λσ H Q ⟨sr,q⟩=>by
  obtain⟨u,e1,r⟩:=sr.at' i _ hs;rcases r with⟨w,e,r⟩|⟨a,_,r⟩
  .cases e;exact⟨u,e1,q u H .refl sr r⟩
  .exact r.elim⟩
def N7{v:V}{p:PV}(hv:∀H,VR K [] H v p)(h:PE X e (tC v)):EF X K fs e (.ret p):=⟨PE.imp h λσ H Q ⟨sr,q⟩=>q v H .refl sr (hv _)⟩
def aq{i j}:EF X K fs (.Constant (.int i) j pos) (.ret (.int i)):=N7 (λ_=>.int i) bZ
def xW{b j}:EF X K fs (.Constant (.bool b) j pos) (.ret (.bl b)):=N7 (λ_=>.bl b) wg
def xR{j}:EF X K fs (.Constant .none j pos) (.ret .a8):=N7 (λ_=>.a8) gv
def aN{x j}:EF X K fs (.Constant (.str x) j pos) (.ret (.str x)):=N7 (λ_=>.str x) iI
def of2(m:M2)(x y:PV):W PV:=⟨λQ=>m.f x y [] λz h=>h=[]/\Q z,λf q=>m.mono (λ_ _ q=>⟨q.1,f _ q.2⟩) q⟩
def SY(H:Hp):HR K [] H []:=⟨List.nodup_nil,rfl,λn a o e _=>by simp at e⟩
def Sl{z:PV}{h:PH}(sr:aR K H σ fs)(q:h=[]/\∀u H',bP σ fs H H'->aR K H' σ fs->VR K [] H' u z->Q u H'):pQ K [] H Q z h:=λι' v H' g r x=>by
 obtain⟨e,q⟩:=q;subst e;have:ι'=[]:=Bg r.len;subst this;have sm:cI H H':=λa o z=>g.keep a o (by simp) z;exact q v H' (bP.same sm) (sr.same sm) x
def qE{m:M2}(hm:M2.Ok K r m){v:V}{x y:PV}(sr:aR K H σ fs)(hu:VR K [] H u x)(hv:VR K [] H v y)(q:(of2 m x y).run λz=>∀u H',bP σ fs H H'->aR K H' σ fs->VR K [] H' u z->Q u H'):r u v H Q:=
 hm (SY H) hu hv (m.mono (λz h q=>Sl sr q) q)
def sX{m:M2}(hm:M2.Ok K r m):∀σ H Q,fE K fs (.bind wa λx=>.bind wb λy=>of2 m x y) fs2 σ H Q->JD r (fE K fs wa au) (fE K au wb fs2) σ H Q:=λσ H Q ⟨sr,q⟩=>
 ⟨sr,wa.mono (λx q1 u1 H1 g1 s1 v1=>⟨s1,wb.mono (λy q2 u2 H2 g2 s2 v2=>qE hm s2 (g2.vr s1 v1) v2 ((of2 m x y).mono (λz q u3 H3 g3 s3 v3=>q u3 H3 ((g1.trans g2).trans g3) s3 v3) q2)) q1⟩) q⟩
def xQ{op:Operator}{m:M2}(ho:dQ X (r9 op) r)(hm:M2.Ok K r m)(ha:EF X K fs a wa au)(hb:EF X K au b wb fs2):EF X K fs (.BinOp a op b pos) (.bind wa λx=>.bind wb λy=>of2 m x y) fs2:=⟨PE.imp (iY ho ha.p hb.p) (sX hm)⟩
def GP(ha:EF X K fs a wa au)(hb:EF X K au b wb fs2):EF X K fs (.BinOp a .Sub b pos) (.bind wa λx=>.bind wb λy=>of2 zK x y) fs2:=xQ wo (tK λ_ _ _ _=>.int _) ha hb
def ia(ha:EF X K fs a wa au)(hb:EF X K au b wb fs2):EF X K fs (.BinOp a .Mult b pos) (.bind wa λx=>.bind wb λy=>of2 c9 x y) fs2:=xQ zB (nP λ_ _ _ _=>.int _) ha hb
def xT(ha:EF X K fs a wa au)(hb:EF X K au b wb fs2):EF X K fs (.BinOp a .FloorDiv b pos) (.bind wa λx=>.bind wb λy=>of2 oDiv x y) fs2:=xQ zC (nP λ_ _ _ _=>.int _) ha hb
def gn(ha:EF X K fs a wa au)(hb:EF X K au b wb fs2):EF X K fs (.BinOp a .Mod b pos) (.bind wa λx=>.bind wb λy=>of2 oMod x y) fs2:=xQ HI (nP λ_ _ _ _=>.int _) ha hb
def tq(ha:EF X K fs a wa au)(hb:EF X K au b wb fs2):EF X K fs (.BinOp a .Pow b pos) (.bind wa λx=>.bind wb λy=>of2 gS x y) fs2:=xQ HG (nP λ_ _ _ _=>.int _) ha hb
def zQ:PV->W PV
 |.int i=>.ret (.int (-i))
 |_=>.fail
def GQ(ha:EF X K fs a wa au):EF X K fs (.UnaryOp .USub a pos) (.bind wa zQ) au:=⟨PE.imp (oM jI ha.p) λσ H Q ⟨sr,q⟩=>⟨sr,wa.mono (λx q1 u1 H1 g1 s1 v1=>by
 cases v1 with
 |int i=>exact⟨_,rfl,q1 _ H1 g1 s1 (.int _)⟩
 |_=>exact q1.elim) q⟩⟩
def va:PV->W Bool
 |.bl b=>.ret b
 |_=>.fail
def ko{m:M2}(hc:JC X K op b m)(ha:EF X K fs a wa au)(hb:EF X K au b wb fs2):EF X K fs (.Compare a [op] [b] pos) (.bind wa λx=>.bind wb λy=>of2 m x y) fs2:=let ⟨_,h1,h2⟩:=hc.p;⟨PE.imp (jv h1 ha.p hb.p hc.k) (sX h2)⟩
def Fg{w:W PV}:∀σ H Q,fT K fs (.bind w va) au σ H Q->(fE K fs w au) σ H λx H'=>∃k,x=.bl k/\Q k H':=λσ H Q ⟨sr,q⟩=>⟨sr,w.mono (λx q1 u1 H1 g1 s1 v1=>by
 cases v1 with
 |bl b=>exact⟨b,rfl,q1 H1 g1 s1⟩
 |_=>exact q1.elim) q⟩
def iX{m:M2}(hc:JC X K op b m)(ha:EF X K fs a wa au)(hb:EF X K au b wb fs2):TF X K fs (.Compare a [op] [b] pos) (.bind wa λx=>.bind wb λy=>.bind (of2 m x y) va) fs2:=let ⟨_,h1,h2⟩:=hc.p
 ⟨PT.imp (dj h1 ha.p hb.p hc.k) λσ H Q q=>sX h2 σ H _ (Fg σ H Q q)⟩
def iV(z:PV)(w:W PV):W PV:=match z with
 |.bl true=>w
 |.bl false=>.ret (.bl false)
 |_=>.fail
def xB{m m':M2}(hm:M2.Ok K r m)(WR:M2.Ok K r' m'):∀σ H Q,fE K fs (.bind wa λx=>.bind wb λy=>.bind (of2 m x y) λz=>iV z (.bind wc λw=>of2 m' y w)) fs σ H Q->vp r r' (fE K fs wa) (fE K fs wb) (fE K fs wc) σ H Q:=λσ H Q ⟨sr,q⟩=>
 ⟨sr,wa.mono (λx q1 u1 H1 g1 s1 v1=>⟨s1,wb.mono (λy q2 u2 H2 g2 s2 v2=>qE hm s2 (g2.vr s1 v1) v2 ((of2 m x y).mono (λz q3 u3 H3 g3 s3 v3=>by
  have gg:=(g1.trans g2).trans g3;cases v3 with
  |bl k=>
   cases k with
   |true=>exact⟨true,rfl,by rw[if_pos rfl];exact⟨s3,wc.mono (λw q4 u4 H4 g4 s4 v4=>qE WR s4 ((g3.trans g4).vr s2 v2) v4 ((of2 m' y w).mono (λz q u5 H5 g5 s5 v5=>q u5 H5 ((gg.trans g4).trans g5) s5 v5) q4)) q3⟩⟩
   |false=>exact⟨false,rfl,by rw[if_neg AL];exact q3 _ H3 gg s3 (.bl _)⟩
  |_=>exact q3.elim) q2)) q1⟩) q⟩
def y6{m m':M2}(hc:JC X K op b m)(yL:JC X K kR c m')(ha:EF X K fs a wa)(hb:EF X K fs b wb)(hd:EF X K fs c wc)(hk:lastMarks [op,kR] [b,c]=false:=by with_unfolding_all rfl):TF X K fs (.Compare a [op,kR] [b,c] pos) (.bind wa λx=>.bind wb λy=>.bind (of2 m x y) λz=>.bind (iV z (.bind wc λw=>of2 m' y w)) va):=
 let ⟨_,h1,h2⟩:=hc.p;let ⟨_,h3,h4⟩:=yL.p;⟨PT.imp (vQ h1 h3 ha.p hb.p hd.p hk) λσ H Q q=>xB h2 h4 σ H _ (Fg σ H Q q)⟩
def NA(x:PV)(w:W PV):W PV:=match x with
 |.bl true=>.ret (.bl true)
 |.bl false=>w
 |_=>.fail
def RF(ha:EF X K fs a wa au)(hb:EF X K au (.BoolOp .Or (b::rest) pos) wb fs2)(hl:qb au fs2:=by exact .refl _):EF X K fs (.BoolOp .Or (a::b::rest) pos) (.bind wa λx=>NA x wb) fs2:=⟨PE.imp (Gp ha.p hb.p) λσ H Q ⟨sr,q⟩=>⟨sr,wa.mono (λx q1 u1 H1 g1 s1 v1=>by
 cases v1 with
 |bl k=>
  cases k with
  |true=>exact⟨true,rfl,by rw[if_pos rfl];exact q1 _ H1 (g1.le hl) (s1.le hl.f) (.bl _)⟩
  |false=>exact⟨false,rfl,by rw[if_neg AL];exact⟨s1,wb.mono (λ_ q u H' g s v=>q u H' (g1.trans g) s v) q1⟩⟩
 |_=>exact q1.elim) q⟩⟩
def Mu{op}(h:EF X K fs a wa au):EF X K fs (.BoolOp op [a] pos) wa au:=⟨qB h.p⟩
variable{ta tb tc:W Bool}
def gH(h:TF X K fs a ta au):rq X K fs (.BoolOp .And [a] pos) ta au:=⟨mK h.p⟩
def vh(h:TF X K fs a ta au):rq X K fs (.BoolOp .Or [a] pos) ta au:=⟨qv h.p⟩
def jJ(ha:TF X K fs a ta au)(hb:rq X K au (.BoolOp .And (b::rest) pos) tb fs2)(hl:qb au fs2:=by exact .refl _):rq X K fs (.BoolOp .And (a::b::rest) pos) (.bind ta λk=>if k=true then tb else .ret false) fs2:=⟨PW.imp (qw ha.p hb.p) λσ H Q ⟨sr,q⟩=>⟨sr,ta.mono (λk q1 H1 g1 s1=>by
 cases k with
 |true=>exact eZ ⟨s1,tb.mono (λ_ q H' g s=>q H' (g1.trans g) s) q1⟩
 |false=>exact cS (q1 H1 (g1.le hl) (s1.le hl.f))) q⟩⟩
def F5(ha:TF X K fs a ta au)(hb:rq X K au (.BoolOp .Or (b::rest) pos) tb fs2)(hl:qb au fs2:=by exact .refl _):rq X K fs (.BoolOp .Or (a::b::rest) pos) (.bind ta λk=>if k=true then .ret true else tb) fs2:=⟨PW.imp (vN ha.p hb.p) λσ H Q ⟨sr,q⟩=>⟨sr,ta.mono (λk q1 H1 g1 s1=>by
 cases k with
 |true=>exact eZ (q1 H1 (g1.le hl) (s1.le hl.f))
 |false=>exact cS ⟨s1,tb.mono (λ_ q H' g s=>q H' (g1.trans g) s) q1⟩) q⟩⟩
def rq.t(h:rq X K fs a ta au):TF X K fs a ta au:=⟨PW.pt h.p⟩
def vo(ha:TF X K fs a ta au):TF X K fs (.UnaryOp .Not a pos) (.bind ta λk=>.ret (!k)) au:=⟨PT.imp (iG ha.p) λσ H Q ⟨sr,q⟩=>⟨sr,q⟩⟩
def MD(hc:TF X K fs c tc au)(ha:EF X K au a wa fs2)(hb:EF X K au b wb fs2):EF X K fs (.IfExp c a b pos) (.bind tc λk=>if k=true then wa else wb) fs2:=⟨PE.imp (vZ hc.p ha.p hb.p) λσ H Q ⟨sr,q⟩=>⟨sr,tc.mono (λk q1 H1 g1 s1=>by
 cases k with
 |true=>exact eZ ⟨s1,wa.mono (λ_ q u H' g s v=>q u H' (g1.trans g) s v) q1⟩
 |false=>exact cS ⟨s1,wb.mono (λ_ q u H' g s v=>q u H' (g1.trans g) s v) q1⟩) q⟩⟩
def fg:PV->W Bool
 |.a8=>.ret false
 |.bl b=>.ret b
 |.int i=>.ret (i != 0)
 |.str y=>.gh (y.length<=sizeLine) (.ret ((y.length:Int) != 0))
 |.tup l=>.ret (!l.isEmpty)
 |.cl l=>.ret (!l.isEmpty)
 |_=>.fail
def lz(hK:X.K=K)(ha:EF X K fs a wa au)(he:∀Ã,isTrue a X.env Ã=(do let v <- Ã;FB a.pos;pi [v] (truthy v))):TF X K fs a (.bind wa fg) au:=⟨PT.imp (fX K hK ha.p he) λσ H Q ⟨sr,q⟩=>⟨sr,wa.mono (λx q1 u1 H1 g1 s1 v1=>by
 cases v1 with
 |a8=>exact⟨false,rfl,q1 H1 g1 s1⟩
 |bl b=>exact⟨b,rfl,q1 H1 g1 s1⟩
 |int i=>exact⟨_,rfl,q1 H1 g1 s1⟩
 |str y=>exact⟨_,⟨q1.1,rfl⟩,q1.2 H1 g1 s1⟩
 |ty _=>exact q1.elim
 |dk _ _ _=>exact q1.elim
 |dt _ _ _=>exact q1.elim
 |ob _ _ _ _ _=>exact q1.elim
 |hand _=>exact q1.elim
 |ref _=>exact q1.elim
 | @tup p vs l e rs=>
  refine⟨!vs.isEmpty,.inr (.inl ⟨_,dP.of e,rfl⟩),?_⟩;rw[<- i7 rs];exact q1 H1 g1 s1
 | @cl p vs l e rs=>
  refine⟨!vs.isEmpty,.inl ⟨_,e.sq,rfl⟩,?_⟩;rw[<- i7 rs];exact q1 H1 g1 s1) q⟩⟩
variable{R:Type}{ks:O AK}{B:(O PV->W R)->W R}
def aJ:AF X K fs [] [] (R:=R) (λk=>k []):=⟨.ret [],PA.imp ax λσ H Q ⟨sr,q⟩=>q [] H .refl sr .nil,λk=>rfl⟩
def ae(ha:EF X K fs e w au)(hr:AF X K au es ks B fs2)(hs:‹dZ X e es›):AF X K fs (e::es) (.v::ks) (λk=>.bind w λx=>B λl=>k (x::l)) fs2:=by
 obtain⟨wr,hp,hB⟩:=hr.p;refine⟨.bind w λx=>.bind wr λl=>.ret (x::l),PA.imp (ah ha.p hp hs) λσ H Q ⟨sr,q⟩=>?_,λk=>?_⟩
 .exact⟨sr,w.mono (λx q1 u1 H1 g1 s1 v1=>⟨s1,wr.mono (λl q2 vs H2 g2 s2 v2=>q2 _ H2 (g1.trans g2) s2 (.v (g2.vr s1 v1) v2)) q1⟩) q⟩
 .have:(λx=>B λl=>k (x::l))=λx=>am wr λl=>k (x::l):=funext λx=>hB _;rw[this];rfl
theorem cO.rC:∀{vs:O V}{n:Nat}{l:O PV},cO K H vs (An n .v) l->aL K [] H vs l/\l.length=n
 |_,0,_,.nil=>⟨.nil,rfl⟩
 |_,n+1,_,.v r t=>⟨.cons r (cO.rC t).1,by rw[Ah,(cO.rC t).2]⟩
def Mr{x1}{B:(O PV->W PV)->W PV}(h:AF X K fs es (An n .v) B au)(hn: ~~~(n<=1000)):EF X K fs (.Tuple es x1 pos) (B λl=>.ret (.tup l)) au:=by
 obtain⟨w,hp,hB⟩:=h.p;rw[hB];refine⟨PE.imp (fY hp) λσ H Q ⟨sr,q⟩=>⟨sr,w.mono (λl q1 vs H1 g1 s1 v1=>?_) q⟩⟩;obtain⟨v2,hl⟩:=v1.rC;exact⟨by rw[v2.length,hl];exact cf hn,λp H2 s2 e2 n2=>q1 _ H2 (g1.trans (bP.same s2)) (s1.same s2) (.tup e2 (aL.tk s2.cK v2))⟩
def Gy{B:(O PV->W (O PV))->W (O PV)}(h:AF X K fs es (An n .v) B au)(hn: ~~~(n<=1000)):LF X K fs (.List es pos) (B λl=>.ret l) au:=by
 obtain⟨w,hp,hB⟩:=h.p;rw[hB];refine⟨PE.imp (mO hp) λσ H Q ⟨sr,q⟩=>⟨sr,w.mono (λl q1 vs H1 g1 s1 v1=>?_) q⟩⟩;obtain⟨v2,hl⟩:=v1.rC;exact⟨by rw[v2.length,hl];exact cf hn,λp H2 s2 e2 n2=>q1 _ _ H2 (g1.trans (bP.same s2)) (s1.same s2) (g1.there p n2) e2 (aL.tk s2.cK v2)⟩
end
end
end FL
namespace L2
def Inv.sS{σ:St}{s:db}(I:Inv X Z σ H s)(e:H a=al (.lst vs)):∃o,Inv X Z σ (upd H a (.b8 o (.lst vs))) s:=by
 obtain⟨z,aw,n,r,h1⟩:=(I.aW a _ e);exact⟨_,I.write (by rw[e];exact B8) (.inl rfl) (λb u _ z=>z) ⟨_,h1⟩ ⟨h1,z,aw,n,r,h1⟩⟩
def Inv.sT{σ:St}{s:db}{aZ:O (Key×V)}(I:Inv X Z σ H s)(e:H a=al (.dK aZ)):∃o,Inv X Z σ (upd H a (.b8 o (.dK aZ))) s:=by
 obtain⟨z,hs,vs,r,o,es,ep,h1,h2⟩:=(I.aW a _ e);exact⟨o,I.write (by rw[e];exact B8) (.inl rfl) (λb u _ z=>z) ⟨o,h1⟩ ⟨h1,z,hs,vs,r,o,es,ep,h1,h2⟩⟩
end L2
variable{t:FL.SL}{ks:O FL.AK}{B:(O PL.PV->FL.W PL.PV)->FL.W PL.PV}{wl wm:FL.W (O PL.PV)}{q0:Option AN}
namespace FL
section
variable[bu]
variable{K:Aa}
section
def ju(o':HO)(e:H a=al (.lst vs)):aQ K H (upd H a o'):=⟨λb ws q=>by rw[ag (sD q e (by intro z;cases z))];exact q,λb o u q=>by rw[ag (sD q e (by intro z;cases z))];exact q,xk λb φ q=>by rw[ag (sD q e (by intro z;cases z))];exact q⟩
def Oz(aZ:O (Key×PV)):PV:=.dv (aZ.map λkv=>kP kv.1) (aZ.map (·.2))
def Tt(aZ:O (O Key×PV)):PV:=.dv (aZ.map λkv=>.tup (kv.1.map kP)) (aZ.map (·.2))
def Lc(h:o.ow=true):∀φ,o≠.ext φ:=λφ e=>by subst e;cases h
def c6{oh:HO}(o':HO)(e:H a=al oh)(n1:∀vs,oh≠.tup vs)(n2:∀o u,oh≠.b8 o u)(n3:∀φ,oh≠.ext φ:=by first|(intro φ z;cases z;done)|exact Lc (by assumption)):aQ K H (upd H a o'):=⟨λb ws q=>by rw[ag (λz=>by subst z;rw[e]at q;cases q;exact n1 _ rfl)];exact q,λb o u q=>by rw[ag (λz=>by subst z;rw[e]at q;cases q;exact n2 _ _ rfl)];exact q,xk λb φ q=>by rw[ag (λz=>by subst z;rw[e]at q;cases q;exact n3 _ rfl)];exact q⟩
def Gz{vs:O (O Key×V)}{aZ:O (O Key×PV)}(h:vs.map (·.1)=aZ.map (·.1)):(aZ.map λkv=>PV.tup (kv.1.map kP))=vs.map λkv=>PV.tup (kv.1.map kP):=by
 have:=congrArg (List.map λk:O Key=>PV.tup (k.map kP)) h;rw[D5,D5]at this;exact this.symm
def GA{vs:O (Key×V)}{aZ:O (Key×PV)}(h:vs.map (·.1)=aZ.map (·.1)):(aZ.map λkv=>kP kv.1)=vs.map λkv=>kP kv.1:=by
 have:=congrArg (List.map kP) h;rw[D5,D5]at this;exact this.symm
def SL.bw:SL->Bool
 |.ol _ _=>true
 |.od _=>true
 |.ot _=>true
 |_=>false
def SL.bv:SL->PV
 |.ol _ l=>.cl l
 |.od aZ=>Oz aZ
 |.ot aZ=>Tt aZ
 |_=>.a8
def SL.Jl(h:t.bw=true):t.own=true:=by cases t<;>first|rfl|cases h
def Ri{s:db}(I:Inv X Z σ' H s)(oa:dH K H a t)(hb:t.bw=true):∃ob o,H a=al o/\(∀vs,o≠.tup vs)/\(∀ob u,o≠.b8 ob u)/\Inv X Z σ' (upd H a (.b8 ob o)) s/\VR K [] (upd H a (.b8 ob o)) (.ref a) t.bv:=by
 cases t with
 |ol q l=>
  obtain⟨_,vs,e,r⟩:=oa;obtain⟨ob,I2⟩:=I.sS e;exact⟨ob,_,e,by simp,by simp,I2,.cl (.inl ⟨ob,ao⟩) (aL.tk (c6 _ e (by simp) (by simp)) r)⟩
 |od l=>
  obtain⟨vs,e,k,r⟩:=oa;obtain⟨ob,I2⟩:=I.sT e;exact⟨ob,_,e,by simp,by simp,I2,.dk ao (GA k) (aL.tk (c6 _ e (by simp) (by simp)) r)⟩
 |ot l=>
  obtain⟨vs,e,k,r⟩:=oa;obtain⟨ob,I2⟩:=I.freeze e;exact⟨ob,_,e,by simp,by simp,I2,.dt ao (Gz k) (aL.tk (c6 _ e (by simp) (by simp)) r)⟩
 |_=>cases hb
def aR.Rh{u:HO}(sr:aR K H σ fs)(hs:fs[i]?=al (al t))(ho:t.own=true)(e1:σ[i]?=al (al (.ref a)))(h1:H a=al o)(n1:∀vs,o≠.tup vs)(n2:∀ob u,o≠.b8 ob u)(vr:VR K [] (upd H a u) (.ref a) v):aR K (upd H a u) σ (fs.set i (al (.val v))):=by
 have ow:o.ow=true:=by
  obtain⟨o',z1,_,_,z2⟩:=(sr.ownAt hs ho e1).ex ho (.inl rfl);rw[h1]at z1;cases z1;exact z2
 have nt:o.nt=true:=wj ow;refine⟨by simp[sr.len],λj t' z=>?_,λj k t' u b1 b2 b z1 z2 o1 o2=>?_,sr.tb.rP (λb o n z=>by rw[ag n];exact z) h1 nt n2⟩
 .rcases bL z with⟨rfl,rfl⟩|⟨n,z⟩
  .exact⟨_,e1,.inl ⟨_,rfl,vr⟩⟩
  .obtain⟨u,k1,k2⟩:=sr.at' j t' z;exact⟨u,k1,k2.mono (c6 _ h1 n1 n2) (λx b o eb ow hb zz _=>by
    subst eb;rw[ag (λy=>by subst y;exact n (sr.nd j i t' _ x b b z hs ow ho k1 e1 hb (.inl rfl)))];exact zz)⟩
 .rcases bL z1 with⟨rfl,rfl⟩|⟨n1,z1⟩
  .cases o1
  .rcases bL z2 with⟨rfl,rfl⟩|⟨n2,z2⟩
   .cases o2
   .exact sr.nd j k t' u b1 b2 b z1 z2 o1 o2
def aR.side(s:aR K H σ fs)(n:¬bx σ fs a)(e:H a=al (.lst vs))(o':HO):aR K (upd H a o') σ fs:=⟨s.len,λi t q=>by
 obtain⟨u,h1,h2⟩:=s.at' i t q;exact⟨u,h1,h2.mono (ju o' e) (λx b o eb ow hb z _=>by subst eb;rw[ag (λy:b=a=>n ⟨i,t,x,q,ow,h1,y▸hb⟩)];exact z)⟩,s.nd,s.tb.rP (λb o n z=>by rw[ag n];exact z) e rfl (by simp)⟩
def bP.side(g:bP σ fs H H1 aK)(h0:H a=bn)(e0:∀φ,H1 a≠al (.ext φ))(o':HO):bP σ fs H (upd H1 a o') aK:=⟨λb o e n t=>by rw[ag (a9 e h0)];exact g.keep b o e n t,λb e=>by
 by_cases c:b=a
 .subst c;exact h0
 .rw[ag c]at e;exact g.there b e,g.ev,λb z=>by
 have z:=g.x b z;unfold d6 at z ⊢;rw[ag (λy=>by subst y;exact e0 _ z)];exact z⟩
end
section
variable{a:im}{p:Pos}{w:W PV}
def xS(h:LF X K fs e wl au):EF X K fs e (.bind wl λl=>.ret (.cl l)) au:=⟨λZ s σ H Q I ⟨sr,q⟩=>by
 refine bb (h.p Z s σ H (λu H1=>∃a vs l,u=.ref a/\bP σ fs H H1 au/\aR K H1 σ au/\H a=bn/\H1 a=al (.lst vs)/\aL K [] H1 vs l/\∀u H',bP σ fs H H' au->aR K H' σ au->VR K [] H' u (.cl l)->Q u H') I ⟨sr,wl.mono (λl q1 a vs H1 g1 s1 n e v=>⟨a,vs,l,rfl,g1,s1,n,e,v,q1⟩) q⟩) λu s1 ⟨v,H1,I1,r1,a,vs,l,e,g1,Pz,n,ea,vr,q1⟩=>?_;subst e;obtain⟨ob,I2⟩:=I1.sS ea;exact⟨.ref a,_,I2,r1,q1 _ _ (g1.side n (λφ=>by rw[ea];simp) _) (Pz.side (λz=>sr.noOwn n (g1.ev.c8 z)) ea _) (.cl (.inl ⟨ob,ao⟩) (aL.tk (ju _ ea) vr))⟩⟩
def je:PV->W (O PV)
 |.tup l=>.ret l
 |.cl l=>.ret l
 |_=>.fail
def sJ(h:EF X K fs e w au):IF X K fs e (.bind w je) au:=⟨PE.imp h.p λσ H Q ⟨sr,q⟩=>⟨sr,w.mono (λx q1 u1 H1 g1 s1 v1=>by
 cases v1 with
 |tup e r=>exact q1 _ H1 g1 s1 ⟨_,_,rfl,.inr e,r⟩
 |cl e r=>exact q1 _ H1 g1 s1 ⟨_,_,rfl,.inl e,r⟩
 |_=>exact q1.elim) q⟩⟩
theorem IF.q(h:IF X K fs e wl au):QF X K fs e wl au:=⟨PE.imp h.p λσ H Q ⟨sr,q⟩=>⟨sr,wl.mono (λl q1 u1 H1 g1 s1 v1=>q1 u1 H1 g1 s1 (.inl v1)) q⟩⟩
def rX(h:EF X K fs e w au):QF X K fs e (.bind w je) au:=(sJ h).q
def lK(h:LF X K fs e wl au):QF X K fs e wl au:=⟨PE.imp h.p λσ H Q ⟨sr,q⟩=>⟨sr,wl.mono (λl q1 a vs H1 g1 s1 n e v=>q1 _ H1 g1 s1 (.inr ⟨a,rfl,.inl ⟨λz=>sr.noOwn n (g1.ev.c8 z),vs,e,v⟩⟩)) q⟩⟩
def fk(i:Nat){x:Str}(hs:‹fs[i]?=al (al (.ol q0 l))›)(hN:‹X.N[i]?=al x›)(hv:rp X.env.scope x:=by first|exact Bj rfl|exact Bo (Bj rfl)|exact Bo (Bo rfl))(hd: ~~~(dg x))(df: ~~~(rA x)):QF X K fs (.Name x pos) (.ret l):=
 ⟨PE.imp (c7 hN hv hd df) λσ H Q ⟨sr,q⟩=>by
  obtain⟨u,e1,r⟩:=sr.at' i _ hs;rcases r with⟨w,e,r⟩|⟨a,e,r⟩
  .cases e
  .subst e;exact⟨_,e1,q _ H .refl sr (.inr ⟨a,rfl,.inr ⟨i,q0,hs,e1⟩⟩)⟩⟩
def Qt(l:O PV):PV->W PV
 |.int i=>.JG (eV l i)
 |_=>.fail
def fH(hK:X.K=K)(ha:QF X K fs a wl au)(hb:EF X K au b wb fs2)(hs:nV b:=by exact λ_ _=>rfl):EF X K fs (.Subscript a b pos) (.bind wl λl=>.bind wb λy=>Qt l y) fs2:=⟨PE.imp (fu (cB K hK) ha.p hb.p hs) λσ H Q ⟨sr,q⟩=>⟨sr,wl.mono (λl q1 u1 H1 g1 s1 v1=>⟨s1,wb.mono (λy q2 u2 H2 g2 s2 v2=>by
 cases v2 with
 |int i=>
  have q2:(W.JG (eV l i)).run _:=q2;cases z:eV l i with
  |none=>rw[z]at q2;exact q2.elim
  |some x=>
   rw[z]at q2;obtain⟨ad,vs,rfl,h,rs⟩:=(v1.go s1 g2).sq s2;obtain⟨v,e1,e2⟩:=aL.eV rs z;have q3:=q2 v H2 (g1.trans g2) s2 e2;exact h.elim (λh=>.inl ⟨ad,vs,i,v,rfl,rfl,h,e1,q3⟩) λh=>.inr (.inl ⟨ad,vs,i,v,rfl,rfl,h,e1,q3⟩)
 |_=>exact q2.elim) q1⟩) q⟩⟩
def MB(ha:EF X K fs a wa au)(hb:EF X K au b wb fs2)(hs:nV b):EF X K fs (.Subscript a b pos) (.bind wa λx=>.bind wb λy=>of2 wC x y) fs2:=⟨PE.imp (fu wZ ha.p hb.p hs) (sX zM)⟩
def kL(m:mm)(l:O PV):W PV:=⟨λQ=>m.f l [] λz h=>h=[]/\Q z,λf q=>m.mono (λ_ _ q=>⟨q.1,f _ q.2⟩) q⟩
section
variable{x:Str}{id:String}{r:O V->Hp->VK->Prop}
def wA{m:mm}(hm:mm.Ok K r m){us:O V}(sr:aR K H σ fs)(hu:aL K [] H us l)(q:(kL m l).run λz=>∀u H',bP σ fs H H'->aR K H' σ fs->VR K [] H' u z->Q u H'):r us H Q:=hm (SY H) hu (m.mono (λz h q=>Sl sr q) q)
def jE{m:mm}(hc:bE X (.builtin id) r)(hB:mm.Ok K r m)(hg:Gl X x)(hm:X.mg x=bn)(hv:o0 x=al (.builtin id))(ha:AF X K fs (e::es) (An n .v) B au)(hn: ~~~(x≠"__name__"))(cT: ~~~(dg x))(he:‹dZ X e es›)(bN:‹fb X pos es›):EF X K fs (.Call (.Name x p) (e::es) [] pos) (B (kL m)) au:=by
 obtain⟨w,hp,Rb⟩:=ha.p;rw[Rb];exact⟨PE.imp (bh hc hg hm hv hp hn cT he bN) λσ H Q ⟨sr,q⟩=>⟨sr,w.mono (λl q1 vs H1 g1 s1 v1=>wA hB s1 v1.rC.1 ((kL m l).mono (λz q u H' g s v=>q u H' (g1.trans g) s v) q1)) q⟩⟩
def xU{m:mm}(hc:bE X (.type id) r)(hB:mm.Ok K r m)(hg:Gl X x)(hm:X.mg x=bn)(hv:o0 x=al (.type id))(ha:AF X K fs (e::es) (An n .v) B au)(hn: ~~~(x≠"__name__"))(cT: ~~~(dg x))(he:‹dZ X e es›)(bN:‹fb X pos es›):EF X K fs (.Call (.Name x p) (e::es) [] pos) (B (kL m)) au:=by
 obtain⟨w,hp,Rb⟩:=ha.p;rw[Rb];exact⟨PE.imp (lM hc hg hm hv hp hn cT he bN) λσ H Q ⟨sr,q⟩=>⟨sr,w.mono (λl q1 vs H1 g1 s1 v1=>wA hB s1 v1.rC.1 ((kL m l).mono (λz q u H' g s v=>q u H' (g1.trans g) s v) q1)) q⟩⟩
def CQ(K:Aa)(r:O V->Hp->VK->Prop)(m:O PV->W PV):Prop:=∀{fs:aX}{σ:L2.St}{H:Hp}{Q:VK}{u:V}{l:O PV},aR K H σ fs->FO K σ fs H u l->((m l).run λz=>∀u H',bP σ fs H H'->aR K H' σ fs->VR K [] H' u z->Q u H')->r [u] H Q
def CL(K:Aa)(r:O V->Hp->VK->Prop)(m:O PV->W (O PV)):Prop:=∀{fs:aX}{σ:L2.St}{H:Hp}{Q:VK}{u:V}{l:O PV},aR K H σ fs->FO K σ fs H u l->((m l).run λz=>∀a vs H',bP σ fs H H'->aR K H' σ fs->H a=bn->H' a=al (.lst vs)->aL K [] H' vs z->Q (.ref a) H')->r [u] H Q
def xV{m:O PV->W PV}(hc:bE X (.builtin id) r)(hB:CQ K r m)(hg:Gl X x)(hm:X.mg x=bn)(hv:o0 x=al (.builtin id))(ha:QF X K fs e wl au)(hn: ~~~(x≠"__name__"))(cT: ~~~(dg x))(he:‹dZ X e []›)(bN:‹fb X pos []›):EF X K fs (.Call (.Name x p) [e] [] pos) (.bind wl m) au:=⟨PE.imp (bh hc hg hm hv (ah ha.p ax he) hn cT he bN) λσ H Q ⟨sr,q⟩=>⟨sr,wl.mono (λl q1 u H1 g1 s1 v1=>hB s1 v1 ((m l).mono (λz q u H' g s v=>q u H' (g1.trans g) s v) q1)) q⟩⟩
def NI{m:O PV->W (O PV)}(hc:bE X (.builtin id) r)(hB:CL K r m)(hg:Gl X x)(hm:X.mg x=bn)(hv:o0 x=al (.builtin id))(ha:QF X K fs e wl au)(hn: ~~~(x≠"__name__"))(cT: ~~~(dg x))(he:‹dZ X e []›)(bN:‹fb X pos []›):LF X K fs (.Call (.Name x p) [e] [] pos) (.bind wl m) au:=⟨PE.imp (bh hc hg hm hv (ah ha.p ax he) hn cT he bN) λσ H Q ⟨sr,q⟩=>⟨sr,wl.mono (λl q1 u H1 g1 s1 v1=>hB s1 v1 ((m l).mono (λz q a vs H' g s n e v=>q a vs H' (g1.trans g) s (g1.there a n) e v) q1)) q⟩⟩
def wU{m:O PV->W (O PV)}(hc:bE X (.type id) r)(hB:CL K r m)(hg:Gl X x)(hm:X.mg x=bn)(hv:o0 x=al (.type id))(ha:QF X K fs e wl au)(hn: ~~~(x≠"__name__"))(cT: ~~~(dg x))(he:‹dZ X e []›)(bN:‹fb X pos []›):LF X K fs (.Call (.Name x p) [e] [] pos) (.bind wl m) au:=⟨PE.imp (lM hc hg hm hv (ah ha.p ax he) hn cT he bN) λσ H Q ⟨sr,q⟩=>⟨sr,wl.mono (λl q1 u H1 g1 s1 v1=>hB s1 v1 ((m l).mono (λz q a vs H' g s n e v=>q a vs H' (g1.trans g) s (g1.there a n) e v) q1)) q⟩⟩
end
def uv(l:O PV):W PV:=.ret (.int l.length)
def zV(K:Aa):CQ K (Ht K) uv:=λ{fs σ H Q u l} s v q=>by
 obtain⟨a,vs,rfl,h,rs⟩:=v.sq s;refine⟨_,vs.length,rfl,?_,?_⟩
 .exact h.elim (λh=>.inl ⟨_,h,rfl⟩) λh=>.inr ⟨_,h,rfl⟩
 .rw[rs.length];exact q _ H .refl s (.int _)
end
end
end FL
variable{R:Type}{d:Nat}
namespace FL
section
variable[bu]
variable{K:Aa}
def nU(vs:O V)(ks:O AK)(ψ:Nat->O V->Prop)(d:Nat)(a:ce):Prop:=∃i:Nat,ks[i]?=al (.p ψ d)/\vs[i]?=al (.ref a)
structure G1(n:Nat)(vs:List V)(ks:List AK)(H H':Hp):Prop where
 keep:∀a o,H a=al o->(∀ψ d,¬nU vs ks ψ d a)->(nt:‹o.nt=true›)->H' a=al o
 tb:TB H'
 there:∀a,H' a=bn->H a=bn
 Hy:∀a ψ d,nU vs ks ψ d a->p8 H' a ψ (n+d)
 x:∀b,d6 H b->d6 H' b
inductive dS(K:Aa)(H:Hp)(n:Nat):List V->List AK->List PV->Prop
 |nil:dS K H n [] [] []
 |v {u:V}{x:PV}{vs:List V}{ks:List AK}{l:List PV} (r:VR K [] H u x) (t:dS K H n vs ks l):dS K H n (u::vs) (.v::ks) (x::l)
 |p {a:ce}{ψ:Nat->List V->Prop}{d:Nat}{vs:List V}{ks:List AK}{l:List PV} (e:p8 H a ψ n) (r:n+d<=mL) (t:dS K H n vs ks l):dS K H n (.ref a::vs) (.p ψ d::ks) l
 |f {a:ce}{us vs:List V}{ps:List PV}{fz:List (ce×Obj)}{ks:List AK}{l:List PV} (r:aL K [] H us ps) (z:mq H fz) (t:dS K H n vs ks l):dS K H n (.ref a::vs) (.f a us ps fz::ks) l
def nZ(K:Aa)(ks:O AK)(m:O PV->W PV):Sp:=λvs H Q _=>TB H/\∃n l,dS K H n vs ks l/\(m l).run λv=>∀u H',G1 n vs ks H H'->VR K [] H' u v->Q u H'
def mD(K:Aa)(ks:O AK)(m:O PV->W (O PV)):Sp:=λvs H Q _=>TB H/\∃n l,dS K H n vs ks l/\(m l).run λz=>∀a ws H',G1 n vs ks H H'->H a=bn->H' a=al (.lst ws)->aL K [] H' ws z->Q (.ref a) H'
def og(R:Type):Nat->Type
 |0=>W R
 |n+1=>PV->og R n
def gG:(n:Nat)->og R n->O PV->W R
 |0,m,[]=>m
 |n+1,m,x::l=>gG n (m x) l
 |0,_,_::_=>.fail
 |_+1,_,[]=>.fail
section
def cO.P8(h:cO K H vs ks l):¬nU vs ks ψ d a:=by
 rintro⟨i,e1,e2⟩
 induction h generalizing i with
 |nil=>simp at e1
 |v r t ih=>cases i with|zero=>simp at e1|succ i=>exact ih i (by simpa using e1) (by simpa using e2)
 |f r z t ih=>cases i with|zero=>simp at e1|succ i=>exact ih i (by simpa using e1) (by simpa using e2)
def cO.c(h:cO K H vs ks l):dS K H n vs ks l:=by
 induction h with
 |nil=>exact .nil
 |v r t ih=>exact .v r ih
 |f r z t ih=>exact .f r z ih
def G1.caller(g:G1 n vs ks H H')(h:cO K H vs ks l)(s:aR K H σ fs):aR K H' σ fs/\bP σ fs H H':=by
 have gf:bP σ fs H H':=⟨λa o e _ t=>g.keep a o e (λ_ _=>h.P8) t,g.there,.refl _,g.x⟩;refine⟨⟨s.len,λi t e=>?_,s.nd,g.tb⟩,gf⟩;obtain⟨u,h1,h2⟩:=s.at' i t e;exact⟨u,h1,h2.mono (gf.bW s) λx a o _ _ _ z nt=>g.keep a o z (λ_ _=>h.P8) nt⟩
def G1.tE{m:Nat}(g:G1 n (.ref a::vs) (.p ψ d::ks) H H')(h:cO K H vs ks l)(s:aR K H σ fs)(e1:fs[i]?=al (al (.cj ψ n m)))(e2:σ[i]?=al (al (.ref a)))(hd:n+d<=m):aR K H' σ (fs.set i (al (.cj ψ (n+d) m)))/\bP σ fs H H' (fs.set i (al (.cj ψ (n+d) m))):=by
 have pa:∀{b ψ' d'},nU (.ref a::vs) (.p ψ d::ks) ψ' d' b->b=a:=λ{b ψ' d'} ⟨j,z1,z2⟩=>by
  cases j with
  |zero=>simp at z2;exact z2.symm
  |succ j=>exact(h.P8 ⟨j,by simpa using z1,by simpa using z2⟩).elim
 have hi:i<fs.length:=(Ag.mp e1).1;have ev:Ev fs (fs.set i (al (.cj ψ (n+d) m))):=⟨by simp,λj=>by
  by_cases c:j=i
  .subst c;exact .inr ⟨ψ,n,n+d,m,e1,bq hi⟩
  .exact .inl (aM c).symm⟩
 have gf:bP σ fs H H' (fs.set i (al (.cj ψ (n+d) m))):=⟨λb o e q t=>g.keep b o e (λψ' d' p=>q ψ m ⟨i,n,e1,by rw[pa p];exact e2⟩) t,g.there,ev,g.x⟩;have tk:=gf.bW s;obtain⟨_,_,hm⟩:=s.ownAt e1 rfl e2;refine⟨⟨by simp[s.len],λj t e=>?_,ev.nd s,g.tb⟩,gf⟩
 .rcases bL e with⟨rfl,rfl⟩|⟨c,e⟩
  .exact⟨_,e2,.inr ⟨a,rfl,g.Hy a ψ d ⟨0,rfl,rfl⟩,hd,hm⟩⟩
  .obtain⟨u,h1,h2⟩:=s.at' j t e;refine⟨u,h1,h2.mono tk λx b o eb ow hb z nt=>g.keep b o z (λψ' d' p=>?_) nt⟩;subst eb;exact c (s.nd j i t _ x a b e e1 ow rfl h1 e2 hb (.inl (pa p)))
end
section
variable{p:Pos}{x:Str}{n0 mx:Nat}
def Jh{m:O PV->W PV}(G:uX X.prog X.w X.K X.mg X.base x k ps (nZ K ks m))(hr:bf k' X.A)(hk:k<=k')(hg:Gl X x)(ha:AF X K fs (e::es) ks B au)(cT: ~~~(dg x))(he:‹dZ X e es›)(bN:‹fb X pos es›):EF X K fs (.Call (.Name x p) (e::es) [] pos) (B m) au:=by
 obtain⟨w,hp,hB⟩:=ha.p;rw[hB];exact⟨PE.imp (mQ G hr hk hg hp cT he bN) λσ H Q ⟨sr,q⟩=>⟨sr,w.mono (λl q1 vs H1 g1 s1 v1=>⟨s1.tb,0,l,v1.c,(m l).mono (λz q2 u H2 g2 r2=>let ⟨s2,g3⟩:=g2.caller v1 s1;q2 u H2 (g1.trans g3) s2 r2) q1⟩) q⟩⟩
def Ik{m:O PV->W (O PV)}{B:(O PV->W (O PV))->W (O PV)}(G:uX X.prog X.w X.K X.mg X.base x k ps (mD K ks m))(hr:bf k' X.A)(hk:k<=k')(hg:Gl X x)(ha:AF X K fs (e::es) ks B au)(cT: ~~~(dg x))(he:‹dZ X e es›)(bN:‹fb X pos es›):LF X K fs (.Call (.Name x p) (e::es) [] pos) (B m) au:=by
 obtain⟨w,hp,hB⟩:=ha.p;rw[hB];exact⟨PE.imp (mQ G hr hk hg hp cT he bN) λσ H Q ⟨sr,q⟩=>⟨sr,w.mono (λl q1 vs H1 g1 s1 v1=>⟨s1.tb,0,l,v1.c,(m l).mono (λz q2 a ws H2 g2 n2 e2 r2=>let ⟨s2,g3⟩:=g2.caller v1 s1;q2 a ws H2 (g1.trans g3) s2 (g1.there a n2) e2 r2) q1⟩) q⟩⟩
def xF{m:Nat}(s:aR K H σ fs)(e:Ev fs au)(h:au[i]?=al (al (.cj ψ n m))):∃a,σ[i]?=al (al (.ref a))/\au[i]?=al (al (.cj ψ n m)):=by
 rcases e.get h with z|⟨_,j,_,_,z,y⟩
 .obtain⟨u,e1,r⟩:=s.at' i _ z;rcases r with⟨v,e,_⟩|⟨a,rfl,_⟩
  .cases e
  .exact⟨a,e1,h⟩
 .cases z;obtain⟨u,e1,r⟩:=s.at' i _ y;rcases r with⟨v,e,_⟩|⟨a,rfl,_⟩
  .cases e
  .exact⟨a,e1,h⟩
def Fq(i:Nat){m:O PV->W PV}(G:uX X.prog X.w X.K X.mg X.base x k ps (nZ K (.p ψ d::ks) m))(hr:bf k' X.A)(hk:k<=k')(hg:Gl X x)(hs:fs[i]?=al (al (.cj ψ n0 mx)))(ha:AF X K fs es ks B au)(sL:au[i]?=al (al (.cj ψ n mx)))(hd:n+d<=mx)(cT: ~~~(dg x))(hN:‹X.N[i]?=al y›)(hv:rp X.env.scope y:=by first|exact Bj rfl|exact Bo (Bj rfl)|exact Bo (Bo rfl))(Iz: ~~~(dg y))(df: ~~~(rA y))(he:‹gt (.Name y py::es) X.env=(false,jp (.Name y py) X.env)::gt es X.env›)(bN:‹fb X pos es›):EF X K fs (.Call (.Name x p) (.Name y py::es) [] pos) (B m) (au.set i (al (.cj ψ (n+d) mx))):=by
 obtain⟨w,hp,hB⟩:=ha.p;rw[hB];refine⟨PE.imp (mQ G hr hk hg (ah (c7 hN hv Iz df) hp he) cT he bN) λσ H Q ⟨sr,q⟩=>?_⟩;obtain⟨a,e1,_⟩:=xF sr (.refl _) hs;refine⟨_,e1,sr,w.mono (λl q1 vs H1 g1 s1 v1=>?_) q⟩;obtain⟨pt,h1,h2⟩:=s1.ownAt sL rfl e1;exact⟨s1.tb,n,l,.p pt (Av hd h2) v1.c,(m l).mono (λz q2 u H2 g2 r2=>let ⟨s2,g3⟩:=g2.tE v1 s1 sL e1 hd;q2 u H2 (g1.trans g3) s2 r2) q1⟩
def zZ(i:Nat){m:O PV->W (O PV)}{B:(O PV->W (O PV))->W (O PV)}(G:uX X.prog X.w X.K X.mg X.base x k ps (mD K (.p ψ d::ks) m))(hr:bf k' X.A)(hk:k<=k')(hg:Gl X x)(hs:fs[i]?=al (al (.cj ψ n0 mx)))(ha:AF X K fs es ks B au)(sL:au[i]?=al (al (.cj ψ n mx)))(hd:n+d<=mx)(cT: ~~~(dg x))(hN:‹X.N[i]?=al y›)(hv:rp X.env.scope y:=by first|exact Bj rfl|exact Bo (Bj rfl)|exact Bo (Bo rfl))(Iz: ~~~(dg y))(df: ~~~(rA y))(he:‹gt (.Name y py::es) X.env=(false,jp (.Name y py) X.env)::gt es X.env›)(bN:‹fb X pos es›):LF X K fs (.Call (.Name x p) (.Name y py::es) [] pos) (B m) (au.set i (al (.cj ψ (n+d) mx))):=by
 obtain⟨w,hp,hB⟩:=ha.p;rw[hB];refine⟨PE.imp (mQ G hr hk hg (ah (c7 hN hv Iz df) hp he) cT he bN) λσ H Q ⟨sr,q⟩=>?_⟩;obtain⟨a,e1,_⟩:=xF sr (.refl _) hs;refine⟨_,e1,sr,w.mono (λl q1 vs H1 g1 s1 v1=>?_) q⟩;obtain⟨pt,h1,h2⟩:=s1.ownAt sL rfl e1;exact⟨s1.tb,n,l,.p pt (Av hd h2) v1.c,(m l).mono (λz q2 b ws H2 g2 n2 e2 r2=>let ⟨s2,g3⟩:=g2.tE v1 s1 sL e1 hd;q2 b ws H2 (g1.trans g3) s2 (g1.there b n2) e2 r2) q1⟩
end
end
end FL
variable{t:L2.TS}{T:Type}{p':Cs}
namespace FL
section
variable[bu]
variable{K:Aa}
inductive End where
 |nx (fs:aX)|nc (fs:aX)|ct (fs:aX)|rt (v:PV)|rl (l:List PV)|bk (fs:aX)|ro (v:PV) (a:ce) (l:List PV)
def nW(σ:L2.St)(fs:aX)(H:Hp)(a:ce):Prop:=H a=bn\/∃(i:Nat) (s:SL) (x:ce),fs[i]?=al (al s)/\s.own=true/\(∀ψ n m,s≠.cj ψ n m)/\σ[i]?=al (al (.ref x))/\s.has x a
def cb(K:Aa)(x:Bool)(σ:L2.St)(fs:aX)(H:Hp)(D:Ends):End->Prop
 |.nx aK=>x=false->∀σ' H',bT σ fs H σ' aK H'->aR K H' σ' aK->D.nx σ' H'
 |.nc aK=>∀σ' H',bT σ fs H σ' aK H'->aR K H' σ' aK->(x=false->D.nx σ' H')/\D.ct σ' H'
 |.ct aK=>∀σ' H',bT σ fs H σ' aK H'->aR K H' σ' aK->D.ct σ' H'
 |.bk aK=>∀σ' H',bT σ fs H σ' aK H'->aR K H' σ' aK->D.bk σ' H'
 |.rt v=>∀u σ' aK H',bT σ fs H σ' aK H'->aR K H' σ' aK->VR K [] H' u v->D.rt u H'
 |.ro v a l=>∀u σ' aK H',bT σ fs H σ' aK H'->aR K H' σ' aK->(∃i:Nat,aK[i]?=al (al (.ol (al a) l)))->VR K [] H' u v->D.rt u H'
 |.rl l=>∀a ws σ' aK H',bT σ fs H σ' aK H'->aR K H' σ' aK->nW σ fs H a->H' a=al (.lst ws)->aL K [] H' ws l->D.rt (.ref a) H'
def fS(K:Aa)(x:Bool)(fs:aX)(w:W T)(out:T->End):TS:=λD σ H=>aR K H σ fs/\w.run λt=>cb K x σ fs H D (out t)
structure SF(X:Cx)(K:Aa)(x:Bool)(fs:aX)(Hi:List nn){T:Type}(w:W T)(out:T->End):Prop where p:jb X Hi (fS K x fs w out)
section
variable{σ1:L2.St}{x:Bool}
def nW.go(g:bT σ fs H σ1 au H1)(s:aR K H σ fs)(s1:aR K H1 σ1 au)(h:nW σ1 au H1 a):nW σ fs H a:=by
 rcases h with h|⟨i,t,x,e1,e2,np,e3,e4⟩
 .exact .inl (g.there a h)
 .cases z:H a with
  |none=>exact .inl z
  |some o=>
   by_cases c:bx σ fs a
   .obtain⟨j,t',y,c1,c2,c3,c4⟩:=c;by_cases d:∃ψ n m,t'=.cj ψ n m
    .obtain⟨ψ,n,m,rfl⟩:=d;rcases c4 with rfl|c4
     .rcases g.pk a ψ m ⟨j,n,c1,c3⟩ with⟨k,_,k1,k2⟩|⟨n,_⟩
      .have:=s1.nd i k t _ x a a e1 k1 e2 rfl e3 k2 e4 (.inl rfl);subst this;rw[e1]at k1;cases k1;exact absurd rfl (np _ _ _)
      .exact absurd ⟨i,t,x,e1,e2,e3,e4⟩ n
     .cases c4
    .exact .inr ⟨j,t',y,c1,c2,λψ n m e=>d ⟨ψ,n,m,e⟩,c3,c4⟩
   .exact absurd ⟨i,t,x,e1,e2,e3,e4⟩ (g.keep a o z c).2
def cb.go(g:bT σ fs H σ1 au H1)(s:aR K H σ fs)(s1:aR K H1 σ1 au){E:End}(h:cb K x σ fs H D E):cb K x σ1 au H1 D E:=by
 cases E with
 |nx aK=>exact λhx σ' H' g' s'=>h hx σ' H' (g.trans g') s'
 |nc aK=>exact λσ' H' g' s'=>h σ' H' (g.trans g') s'
 |bk aK=>exact λσ' H' g' s'=>h σ' H' (g.trans g') s'
 |ct aK=>exact λσ' H' g' s'=>h σ' H' (g.trans g') s'
 |rt v=>exact λu σ' aK H' g' s' r=>h u σ' aK H' (g.trans g') s' r
 |ro v a l=>exact λu σ' aK H' g' s' o r=>h u σ' aK H' (g.trans g') s' o r
 |rl l=>exact λa ws σ' aK H' g' s' f e r=>h a ws σ' aK H' (g.trans g') s' (f.go g s s1) e r
def cb.exit{D':Ends}(h1:D'.rt=D.rt)(h2:D'.ct=D.ct)(h3:D'.bk=D.bk){E:End}(h:cb K x σ fs H D E):cb K true σ fs H D' E:=by
 cases E with
 |nx aK=>exact λhx=>nomatch hx
 |nc aK=>exact λσ' H' g' s'=>⟨λhx=>(nomatch hx),h2▸(h σ' H' g' s').2⟩
 |bk aK=>exact λσ' H' g' s'=>h3▸h σ' H' g' s'
 |ct aK=>exact λσ' H' g' s'=>h2▸h σ' H' g' s'
 |rt v=>exact λu σ' aK H' g' s' r=>h1▸h u σ' aK H' g' s' r
 |ro v a l=>exact λu σ' aK H' g' s' o r=>h1▸h u σ' aK H' g' s' o r
 |rl l=>exact λa ws σ' aK H' g' s' f e r=>h1▸h a ws σ' aK H' g' s' f e r
end
section
variable{X:Cx}{a b c e o:im}{pos p:Pos}{fs aK au:aX}{st:nn}{Hi rest sa sb:O nn}{T:Type}{w wk:W T}{out:T->End}{we:W PV}{wl:W (O PV)}{x:Bool}
def End.pe:End->Prop
 |.rt _=>True
 |.rl _=>True
 |.ro _ _ _=>True
 |_=>False
def cb.P1{D':Ends}{y:Bool}{E:End}(ho:E.pe)(e:D'.rt=D.rt)(h:cb K x σ fs H D E):cb K y σ fs H D' E:=by
 cases E with
 |rt v=>exact λu σ' aK H' g s r=>e▸h u σ' aK H' g s r
 |rl v=>exact λa ws σ' aK H' g s f ea r=>e▸h a ws σ' aK H' g s f ea r
 |ro v a l=>exact λu σ' aK H' g s o r=>e▸h u σ' aK H' g s o r
 |_=>exact ho.elim
def vf(X:Cx)(K:Aa)(x:Bool)(rest:O nn){T:Type}(out:T->End):TS:=λD σ H=>∃aK w',SF X K x aK rest w' out/\fS K x aK w' out D σ H
def zg:jb X rest (vf X K x rest out):=λZ s σ H D I ⟨aK,w',h,q⟩=>h.p Z s σ H D I q
def wF:jb X rest Hf:=λ_ _ _ _ _ _ h=>h.elim
def SF.step(h:PS X st t)(hq:∀D σ H,fS K x fs w out D σ H->t {D with nx:=vf X K x rest out D} σ H):SF X K x fs (st::rest) w out:=⟨jb.imp (az h zg) λD σ H q=>hq D σ H q⟩
def SF.last(h:PS X st t)(hq:∀D σ H,fS K x fs w out D σ H->t {D with nx:=λ_ _=>False} σ H):SF X K x fs (st::rest) w out:=⟨jb.imp (az h wF) λD σ H q=>hq D σ H q⟩
def SF.nil{t:T}(h:out t=.nx aK)(hl:dR fs aK):SF X K false fs [] (.ret t) out:=⟨jb.imp cg λD σ H ⟨sr,q⟩=>by
 have q:cb K false σ fs H D (out t):=q;rw[h]at q;exact q rfl σ H (bT.le sr hl) (sr.le hl)⟩
def SF.oU{t:T}(h:out t=.nc aK)(hl:dR fs aK):SF X K false fs [] (.ret t) out:=⟨jb.imp cg λD σ H ⟨sr,q⟩=>by
 have q:cb K false σ fs H D (out t):=q;rw[h]at q;exact(q σ H (bT.le sr hl) (sr.le hl)).1 rfl⟩
def SF.cont{t:T}(h:out t=.nc aK\/out t=.ct aK)(hl:dR fs aK):SF X K x fs (.Continue pos::rest) (.ret t) out:=SF.last oG λD σ H ⟨sr,q⟩=>by
 have q:cb K x σ fs H D (out t):=q;rcases h with h|h
 .rw[h]at q;exact(q σ H (bT.le sr hl) (sr.le hl)).2
 .rw[h]at q;exact q σ H (bT.le sr hl) (sr.le hl)
def SF.ret{k:PV->T}(he:EF X K fs e we au)(h:∀v,out (k v)=.rt v):SF X K x fs (.Return (al e) pos::rest) (.bind we λv=>.ret (k v)) out:=SF.last (bJ he.p) λD σ H ⟨sr,q⟩=>⟨sr,we.mono (λv q1 u H1 g1 s1 v1=>by
 have q1:cb K x σ fs H D (out (k v)):=q1;rw[h]at q1;exact q1 u σ au H1 g1.f s1 v1) q⟩
def SF.oB{out:PV->End}(he:EF X K fs e we au)(h:∀v,out v=.rt v):SF X K x fs (.Return (al e) pos::rest) we out:=SF.ret (k:=λv=>v) he h
def SF.PK{k:O PV->T}(he:LF X K fs e wl au)(h:∀l,out (k l)=.rl l):SF X K x fs (.Return (al e) pos::rest) (.bind wl λl=>.ret (k l)) out:=SF.last (bJ he.p) λD σ H ⟨sr,q⟩=>⟨sr,wl.mono (λl q1 a ws H1 g1 s1 n e v1=>by
 have q1:cb K x σ fs H D (out (k l)):=q1;rw[h]at q1;exact q1 a ws σ au H1 g1.f s1 (.inl n) e v1) q⟩
def SF.KQ{out:O PV->End}(he:LF X K fs e wl au)(h:∀v,out v=.rl v):SF X K x fs (.Return (al e) pos::rest) wl out:=SF.PK he h
def SF.PJ(i:Nat){t:T}(hs:fs[i]?=al (al (.ol q0 l)))(h:out t=.rl l)(hN:‹X.N[i]?=al y›)(hv:rp X.env.scope y:=by first|exact Bj rfl|exact Bo (Bj rfl)|exact Bo (Bo rfl))(hd: ~~~(dg y))(df: ~~~(rA y)):SF X K x fs (.Return (al (.Name y p)) pos::rest) (.ret t) out:=SF.last (bJ (c7 hN hv hd df)) λD σ H ⟨sr,q⟩=>by
 have q:cb K x σ fs H D (out t):=q;rw[h]at q;obtain⟨u,e1,r⟩:=sr.at' i _ hs;rcases r with⟨v,e,_⟩|⟨a,e,r⟩
 .cases e
 .subst e;obtain⟨_,ws,q1,q2⟩:=r;exact⟨_,e1,q a ws σ fs H .refl sr (.inr ⟨i,_,_,hs,rfl,by simp,e1,.inl rfl⟩) q1 q2⟩
def SF.KR(i:Nat){ad:ce}{k:PV->T}(hs:fs[i]?=al (al (.ol (al ad) l)))(he:EF X K fs e we au)(h:∀v,out (k v)=.ro v ad l):SF X K x fs (.Return (al e) pos::rest) (.bind we λv=>.ret (k v)) out:=SF.last (bJ he.p) λD σ H ⟨sr,q⟩=>⟨sr,we.mono (λv q1 u H1 g1 s1 v1=>by
 have q1:cb K x σ fs H D (out (k v)):=q1;rw[h]at q1;exact q1 u σ au H1 g1.f s1 ⟨i,g1.ev.same hs (by simp)⟩ v1) q⟩
def SF.expr{k:PV->W T}(he:EF X K fs e we au)(hr:∀v,SF X K x au rest (k v) out)(hs:‹wv e bn pos.line X.env=pure false›):SF X K x fs (.Expr e pos::rest) (.bind we k) out:=SF.step (dm he.p hs) λD σ H ⟨sr,q⟩=>
 ⟨sr,we.mono (λv q1 u H1 g1 s1 v1=>⟨au,k v,hr v,s1,(k v).mono (λt q2=>q2.go g1.f sr s1) q1⟩) q⟩
def SF.set{k:PV->W T}(hN:X.N.Nodup)(hi:X.N[i]?=al y)(hx:Loc X.env.scope y)(he:EF X K fs e we au)(hr:∀v,SF X K x (au.set i (al (.val v))) rest (k v) out)(hs:‹wv e (al (.Name y p')) pos.line X.env=pure false›)(hf:FT X y:=by first|exact .inl rfl|exact .inr rfl|assumption):SF X K x fs (.Assign [.Name y p'] e pos::rest) (.bind we k) out:=SF.step (bX hN hi hx he.p hs hf) λD σ H ⟨sr,q⟩=>
 ⟨sr,we.mono (λv q1 u H1 g1 s1 v1=>⟨_,k v,hr v,s1.dW v1 i,(k v).mono (λt q2=>q2.go (g1.f.trans (bT.dW s1 u v i)) sr (s1.dW v1 i)) q1⟩) q⟩
def SF.Pu{k:O PV->W T}(hN:X.N.Nodup)(hi:X.N[i]?=al y)(hx:Loc X.env.scope y)(he:LF X K fs e wl au)(hr:∀l,SF X K x (au.set i (al (.ol bn l))) rest (k l) out)(hs:‹wv e (al (.Name y p')) pos.line X.env=pure false›)(hf:FT X y:=by first|exact .inl rfl|exact .inr rfl|assumption):SF X K x fs (.Assign [.Name y p'] e pos::rest) (.bind wl k) out:=SF.step (bX hN hi hx he.p hs hf) λD σ H ⟨sr,q⟩=>by
 refine⟨sr,wl.mono (λl q1 a ws H1 g1 s1 n e v1=>?_) q⟩;have no:¬bx σ au a:=λz=>sr.noOwn n (g1.ev.c8 z);have s2:=s1.qx (t:=.ol bn l) ⟨by simp,ws,e,v1⟩ no i;exact⟨_,k l,hr l,s2,(k l).mono (λt q2=>q2.go (bT.qx s1 g1 no n i) sr s2) q1⟩
def SF.b8(i:Nat){t:SL}(hs:fs[i]?=al (al t))(hr:SF X K x (fs.set i (al (.val t.bv))) Hi w out)(hb:‹t.bw=true›):SF X K x fs Hi w out:=⟨λZ s σ H D I ⟨sr,q⟩=>by
 obtain⟨u,e1,r⟩:=sr.at' i _ hs;have ho:=SL.Jl hb;rcases r with⟨v,e,_⟩|⟨a,e,oa⟩
 .subst e;cases hb
 .subst e;obtain⟨ob,o,h1,n1,n2,I2,vr⟩:=Ri I oa hb;have ow:∀b,bx σ (fs.set i (al (.val t.bv))) b->bx σ fs b:=λb z=>by
   obtain⟨j,t,x,z1,z2,z3,z4⟩:=z;rcases bL z1 with⟨rfl,rfl⟩|⟨n,z1⟩
   .cases z2
   .exact⟨j,t,x,z1,z2,z3,z4⟩
  have s2:=sr.Rh hs ho e1 h1 n1 n2 vr;have g2:bT σ fs H σ (fs.set i (al (.val t.bv))) (upd H a (.b8 ob o)):=by
   refine⟨λb o z n=>⟨?_,λy=>n (ow b y)⟩,λb z=>?_,λb ψ m z=>?_,λb z=>?_⟩
   .intro _;rw[ag (λy=>by subst y;exact n ⟨i,_,_,hs,ho,e1,.inl rfl⟩)];exact z
   .by_cases c:b=a
    .subst c;rw[ao]at z;cases z
    .rw[ag c]at z;exact z
   .obtain⟨j,k,z1,z2⟩:=z;have:j≠i:=λy=>by subst y;rw[hs]at z1;cases z1;cases hb
    exact .inl ⟨j,k,by rw[aM this];exact z1,z2⟩
   .have z':H b=_:=z;show upd H a _ b=_;rw[ag (λy=>by subst y;exact sr.HW z' ⟨i,_,_,hs,ho,e1,.inl rfl⟩)];exact z'
  exact hr.p Z s σ _ D I2 ⟨s2,w.mono (λt q3=>q3.go g2 sr s2) q⟩⟩
variable{tc:W Bool}
def SF.LJ(hc:TF X K fs c tc au)(ha:SF X K x au sa w out)(hb:SF X K x au sb wk out):SF X K x fs [.If c sa sb pos] (.bind tc λb=>if b=true then w else wk) out:=⟨jb.imp (aV (fq hc.p ha.p hb.p)) λD σ H ⟨sr,q⟩=>⟨sr,tc.mono (λk q1 H1 g1 s1=>by
 cases k with
 |true=>exact eZ ⟨s1,w.mono (λt q2=>q2.go g1.f sr s1) q1⟩
 |false=>exact cS ⟨s1,wk.mono (λt q2=>q2.go g1.f sr s1) q1⟩) q⟩⟩
def SF.NJ(hc:TF X K fs c tc au)(ha:SF X K true au sa w out)(hb:SF X K x au rest wk out):SF X K x fs (.If c sa [] pos::rest) (.bind tc λb=>if b=true then w else wk) out:=SF.step (fq hc.p ha.p cg) λD σ H ⟨sr,q⟩=>⟨sr,tc.mono (λk q1 H1 g1 s1=>by
 cases k with
 |true=>exact eZ ⟨s1,w.mono (λt q2=>cb.exit (D:=D) (D':={D with nx:=vf X K x rest out D}) rfl rfl rfl (q2.go g1.f sr s1)) q1⟩
 |false=>exact cS ⟨au,wk,hb,s1,wk.mono (λt q2=>q2.go g1.f sr s1) q1⟩) q⟩
end
end
section
variable[bu]
variable{K:Aa}
def JF(K:Aa)(H:Hp)(J:It)(l:O PV):Prop:=l.length<=sizeLine/\∀H',aQ K H H'->(∀(i:Nat) (p:PV),l[i]?=al p->J.go i H'/\∀x H2,J.JA i H' x H2->cI H' H2/\VR K [] H2 x p)/\J.stop l.length H'
def JF.tk{J:It}(t:aQ K H H')(h:JF K H J l):JF K H' J l:=⟨h.1,λH2 t2=>h.2 H2 (aQ.trans t t2)⟩
def Tn(K:Aa)(fs:aX)(w:W (O PV))(aK:aX:=fs):TI:=λσ H R=>aR K H σ fs/\w.run λl=>∀J H',bP σ fs H H' aK->aR K H' σ aK->JF K H' J l->R J H'
structure tL(X:Cx)(K:Aa)(fs:aX)(tg e:im)(w:W (List PV))(aK:aX:=fs):Prop where p:PI X tg e (Tn K fs w aK)
section
variable{a:im}{p:Pos}
def FR{ad:ce}(h:yx K H ad vs)(r:aL K [] H vs l)(hz:l.length<=sizeLine):JF K H (TU K ad) l:=⟨hz,λH' t=>by
 have e1:=(t.f _ _ h).sq;have e2:=aL.tk t r;refine⟨λi p hp=>?_,vs,e1,by rw[e2.length];exact Aj _⟩;obtain⟨v,h3,h4⟩:=e2.get hp;refine⟨⟨vs,v,e1,h3⟩,λx H3 y=>?_⟩;obtain⟨rfl,y⟩:=y;have:=y vs e1;rw[h3]at this;cases this;exact⟨cI.refl _,h4⟩⟩
def Jw{ad:ce}(h:H ad=al (.tup vs))(r:aL K [] H vs l)(hz:l.length<=sizeLine):JF K H (TR K ad) l:=⟨hz,λH' t=>by
 have e1:=dP.of (K:=K) (t.t _ _ h);have e2:=aL.tk t r;refine⟨λi p hp=>?_,vs,e1,by rw[e2.length];exact Aj _⟩;obtain⟨v,h3,h4⟩:=e2.get hp;refine⟨⟨vs,v,e1,h3⟩,λx H3 y=>?_⟩;obtain⟨rfl,y⟩:=y;have:=y vs e1;rw[h3]at this;cases this;exact⟨cI.refl _,h4⟩⟩
def qL(hK:X.K=K)(h:IF X K fs e wl au):tL X K fs tg e wl au:=⟨by
 subst hK;intro Z s σ H R I ⟨sr,q⟩;refine bb (h.p Z s σ H (λu H1=>∃l,JW X.K H1 u l/\∀J,JF X.K H1 J l->R J H1) I ⟨sr,wl.mono (λl q1 u H1 g1 s1 v1=>⟨l,v1,λJ j=>q1 J H1 g1 s1 j⟩) q⟩) λv s1 ⟨x,H1,I1,r1,l,⟨ad,vs,e,hh,rs⟩,q1⟩=>?_;subst e;cases r1;rcases hh with hh|hh
 .obtain⟨aw,rv,pl,hz⟩:=I1.list hh.sq;refine wpAny_pyIter_list pl.isList ?_;refine⟨s1.heap.objs.size,[s1.heap.objs.size],_,_,H1,rfl,I1.kept λb o e=>Ad _ e,tQ ad _,⟨_,Am _ rfl,rfl,rfl⟩,λb hb=>?_,q1 _ (FR hh rs (by rw[<- rs.length];exact hz))⟩;have e:b=s1.heap.objs.size:=by simpa using hb
  subst e;exact I1.Fd (Aj _) (I1.aW.fresh (Aj _))
 .obtain⟨aw,rv,pl,hz⟩:=I1.tuple (dP.of hh);refine wpAny_pyIter_tuple (pl) ?_;refine⟨s1.heap.objs.size,[s1.heap.objs.size],_,_,H1,rfl,I1.kept (t':=s1.toks) λb o e=>Ad _ e,qf ad _,⟨_,Am _ rfl,rfl,rfl⟩,λb hb=>?_,q1 _ (Jw hh rs (by rw[<- rs.length];exact hz))⟩;have e:b=s1.heap.objs.size:=by simpa using hb
  subst e;exact I1.Fd (Aj _) (I1.aW.fresh (Aj _))⟩
def okN(i j:Int):Prop:=-(2 ^ 62)<=i/\i<2 ^ 62/\-(2 ^ 62)<=j/\j<2 ^ 62/\(j-i).toNat<=sizeLine
def lI:PV->W (O PV)
 |.int j=>.gh (okN 0 j) (.ret (gZ 0 j.toNat))
 |_=>.fail
def Jx(lo:Int)(n:Nat)(hz:n<=sizeLine):JF K H (OI lo n) (gZ lo n):=⟨by rw[f6];exact hz,λH' t=>⟨λi p hp=>by
  obtain⟨h1,rfl⟩:=iP hp;refine⟨h1,λx H2 y=>?_⟩;obtain⟨rfl,rfl⟩:=y;exact⟨cI.refl _,.int _⟩,by rw[f6];exact Aj _⟩⟩
theorem jz(hg:Gl X "range")(hm:X.mg "range"=bn)(ha:EF X K fs a wa au)(hs:‹gt [a] X.env=[(false,jp a X.env)]›):tL X K fs tg (.Call (.Name "range" p) [a] [] pos) (.bind wa lI) au:=
 ⟨PI.imp (ud hg hm (ah ha.p ax hs) hs) λσ H R ⟨sr,q⟩=>⟨sr,wa.mono (λx q1 u1 H1 g1 s1 v1=>by
  cases v1 with
  |int j=>exact⟨_,rfl,q1.1.2.2.1,q1.1.2.2.2.1,q1.2 _ H1 g1 s1 (Jx _ _ (by have:=q1.1.2.2.2.2;lia))⟩
  |_=>exact q1.elim) q⟩⟩
end
def mG:O Nat->O V->L2.St->L2.St
 |i::is,u::us,σ=>mG is us (σ.set i (al u))
 |_,_,σ=>σ
def fG(K:Aa)(fs:aX)(is:O Nat)(wt:PV->W T)(fs2:T->aX):TG:=λv σ H Q=>∃p,aR K H σ fs/\VR K [] H v p/\(wt p).run λt=>∀us,bT σ fs H (mG is us σ) (fs2 t) H->aR K H (mG is us σ) (fs2 t)->Q (mG is us σ) H
structure GF(X:Cx)(K:Aa)(fs:aX)(tg:im)(is:List Nat){T:Type}(wt:PV->W T)(fs2:T->aX):Prop where p:PG X tg (fG K fs is wt fs2)
def Nl:PV->W (PV×PV)
 |.tup [a,b]=>.ret (a,b)
 |_=>.fail
section
def Rc(h:PG X tg (hJ i)):GF X K fs tg [i] .ret (λp=>fs.set i (al (.val p))):=⟨PG.imp h λv σ H Q ⟨p,sr,r,q⟩=>q [v] (bT.dW sr v p i) (sr.dW r i)⟩
def Xk(hK:X.K=K)(h:PG X tg (L7 X.K 2 (xr (hJ i) (xr (hJ j) L8)))):GF X K fs tg [i,j] Nl (λt=>(fs.set i (al (.val t.1))).set j (al (.val t.2))):=⟨PG.imp h λv σ H Q ⟨p,sr,r,q⟩=>by
 unfold Nl at q
 split at q
 .cases r with
  |tup e rs=>
   cases rs with
   |cons ra t=>
   cases t with
   |cons rb t=>
   cases t;have s1:=sr.dW ra i;exact⟨_,_,rfl,dP.of e,rfl,_,_,rfl,_,_,rfl,rfl,q [_,_] ((bT.dW sr _ _ i).trans (bT.dW s1 _ _ j)) (s1.dW rb j)⟩
 .exact q.elim⟩
end
section
variable{S T:Type}
def gb:O PV->S->(PV->S->W S)->W S
 |[],s,_=>.ret s
 |x::r,s,f=>.bind (f x s) λs'=>gb r s' f
inductive Lp(S T:Type) where
 |go (s:S)|out (t:T)
def eK:O PV->S->(PV->S->W (Lp S T))->W (Lp S T)
 |[],s,_=>.ret (.go s)
 |x::r,s,f=>.bind (f x s) λo=>match o with
  |.go s'=>eK r s' f
  |.out t=>.ret (.out t)
def sQ(k:S->W T)(inj:R->T):Lp S R->W T
 |.go s=>k s
 |.out r=>.ret (inj r)
@[simp] theorem qT(k:S->W T)(inj:R->T)(s:S):sQ k inj (.go s)=k s:=(rfl)
@[simp] theorem NZ(k:S->W T)(inj:R->T)(r:R):sQ k inj (.out r)=.ret (inj r):=(rfl)
def Lx(hd:S->aX)(out:R->End):Lp S R->End
 |.go s=>.nc (hd s)
 |.out r=>out r
end
section
variable{rest:O nn}{S T T2:Type}{hd:S->aX}{s0:S}{wt:PV->W T2}{is:O Nat}{fs2:S->T2->aX}{k:S->W T}{out:T->End}{x:Bool}{R:Type}{inj:R->T}
theorem SF.Rl{hd:Nat->S->aX}{hE:S->aX}{fs2:Nat->S->T2->aX}{f:PV->S->W S}{wb:T2->S->W S}(hp:Da (gl X.prog X.w) X.A X.env X.xe)(hc:X.calm=true)(hi:tL X K fs tg iter wl au)(hl:dR au (hd 0 s0))(hg:∀i s,GF X K (hd i s) tg is wt (fs2 i s))(hf:∀p s,f p s=.bind (wt p) λt=>wb t s)(hb:∀i s t,i<sizeLine->SF X K false (fs2 i s t) body (wb t s) λs'=>.nc (hd (i+1) s'))(hx:∀i s,i<=sizeLine->dR (hd i s) (hE s))(hr:∀s,SF X K x (hE s) rest (k s) out)(hs:uV X iter:=by intro _;rfl):SF X K x fs (.For tg iter body [] pos::rest) (.bind wl λl=>.bind (gb l s0 f) k) out:=by
 refine SF.step (vS (g:=λv σ H Q=>∃i s,fG K (hd i s) is wt (fs2 i s) v σ H Q) (tb:=λD σ H=>∃i s t,i<sizeLine/\fS K false (fs2 i s t) (wb t s) (λs'=>.nc (hd (i+1) s')) D σ H) hp hc hi.p (λZ s σ H v u Q I r ⟨i1,s1,q⟩=>(hg i1 s1).p Z s σ H v u Q I r q) (λZ s σ H D I ⟨i1,s1,t1,h1,q⟩=>(hb i1 s1 t1 h1).p Z s σ H D I q) hs) λD σ H ⟨sr,q⟩=>?_;refine⟨sr,wl.mono (λl q1 J H1 g1 s1 jf=>?_) q⟩;have hz:=jf.1;refine⟨λi m σ' H'=>∃s,aR K H' σ' (hd i s)/\bT σ fs H σ' (hd i s) H'/\JF K H' J l/\m=l.length-i/\i<=l.length/\(gb (l.drop i) s f).run λs'=>(k s').run λt=>cb K x σ fs H D (out t),⟨l.length,s0,s1.le hl,g1.f.trans (bT.le s1 hl),jf,by simp,Bz _,by simpa using q1⟩,?_⟩;rintro i m σ2 H2 ⟨s,s2,g2,z8,rfl,hi,q2⟩;obtain⟨j1,j2⟩:=z8.2 H2 (aQ.refl H2);by_cases ka:i<l.length
 .obtain⟨go,yl⟩:=j1 i _ (Ak ka);rw[(A5 ka)]at q2;refine .inr ⟨go,λσ3 H3=>∃s',aR K H3 σ3 (hd (i+1) s')/\bT σ fs H σ3 (hd (i+1) s') H3/\JF K H3 J l/\(gb (l.drop (i+1)) s' f).run λs'=>(k s').run λt=>cb K x σ fs H D (out t),λσ3 H3 ⟨s',a1,a2,a3,a4⟩=>⟨l.length-(i+1),by lia,s',a1,a2,a3,rfl,ka,a4⟩,λv H3 y=>?_⟩;obtain⟨sm,vx⟩:=yl v H3 y;have q2:(f l[i] s).run λs'=>(gb (l.drop (i+1)) s' f).run λs'=>(k s').run λt=>cb K x σ fs H D (out t):=q2;rw[hf]at q2;have s3:=s2.same sm;refine⟨i,s,_,s3,vx,(wt l[i]).mono (λt q4 us g4 s4=>?_) q2⟩;refine⟨i,s,t,by lia,s4,(wb t s).mono (λs' q5 σ5 H5 g5 s5=>?_) q4⟩;have fin:∃s',aR K H5 σ5 (hd (i+1) s')/\bT σ fs H σ5 (hd (i+1) s') H5/\JF K H5 J l/\(gb (l.drop (i+1)) s' f).run λs'=>(k s').run λt=>cb K x σ fs H D (out t):=⟨s',s5,((g2.trans (bT.same sm s2)).trans g4).trans g5,z8.tk (aQ.trans sm.cK (aQ.trans (g4.bW s3) (g5.bW s4))),q5⟩;exact⟨λ_=>fin,fin⟩
 .have e:i=l.length:=by lia
  subst e;rw[DQ]at q2;have le:=hx l.length s hz;exact .inl ⟨j2,hE s,k s,hr s,s2.le le,(k s).mono (λt q3=>q3.go (g2.trans (bT.le s2 le)) sr (s2.le le)) q2⟩
def SF.for{f:PV->S->W S}{wb:T2->S->W S}(hp:Da (gl X.prog X.w) X.A X.env X.xe)(hc:X.calm=true)(hi:tL X K fs tg iter wl au)(hl:dR au (hd s0))(hg:∀s,GF X K (hd s) tg is wt (fs2 s))(hf:∀p s,f p s=.bind (wt p) λt=>wb t s)(hb:∀s t,SF X K false (fs2 s t) body (wb t s) λs'=>.nc (hd s'))(hr:∀s,SF X K x (hd s) rest (k s) out)(hs:uV X iter:=by intro _;rfl):SF X K x fs (.For tg iter body [] pos::rest) (.bind wl λl=>.bind (gb l s0 f) k) out:=SF.Rl (hd:=λ_=>hd) (fs2:=λ_=>fs2) hp hc hi hl (λ_=>hg) hf (λ_ s t _=>hb s t) (λ_ s _=>.refl _) hr hs
theorem SF.Mc{hd:Nat->S->aX}{hE:S->aX}{fs2:Nat->S->T2->aX}{f:PV->S->W (Lp S R)}{wb:T2->S->W (Lp S R)}(hp:Da (gl X.prog X.w) X.A X.env X.xe)(hc:X.calm=true)(hi:tL X K fs tg iter wl au)(hl:dR au (hd 0 s0))(hg:∀i s,GF X K (hd i s) tg is wt (fs2 i s))(hf:∀p s,f p s=.bind (wt p) λt=>wb t s)(ho:∀t,(out (inj t)).pe)(hb:∀i s t,i<sizeLine->SF X K false (fs2 i s t) body (wb t s) (Lx (hd (i+1)) λr=>out (inj r)))(hx:∀i s,i<=sizeLine->dR (hd i s) (hE s))(hr:∀s,SF X K x (hE s) rest (k s) out)(hs:uV X iter:=by intro _;rfl):SF X K x fs (.For tg iter body [] pos::rest) (.bind wl λl=>.bind (FL.eK l s0 f) (sQ k inj)) out:=by
 refine SF.step (vS (g:=λv σ H Q=>∃i s,fG K (hd i s) is wt (fs2 i s) v σ H Q) (tb:=λD σ H=>∃i s t,i<sizeLine/\fS K false (fs2 i s t) (wb t s) (Lx (hd (i+1)) λr=>out (inj r)) D σ H) hp hc hi.p (λZ s σ H v u Q I r ⟨i1,s1,q⟩=>(hg i1 s1).p Z s σ H v u Q I r q) (λZ s σ H D I ⟨i1,s1,t1,h1,q⟩=>(hb i1 s1 t1 h1).p Z s σ H D I q) hs) λD σ H ⟨sr,q⟩=>?_;refine⟨sr,wl.mono (λl q1 J H1 g1 s1 jf=>?_) q⟩;have hz:=jf.1;have lo:∀D' y t,D'.rt=D.rt->cb K x σ fs H D (out (inj t))->cb K y σ fs H D' (out (inj t)):=λD' y t e h=>cb.P1 (ho t) e h;refine⟨λi m σ' H'=>∃s,aR K H' σ' (hd i s)/\bT σ fs H σ' (hd i s) H'/\JF K H' J l/\m=l.length-i/\i<=l.length/\(FL.eK (l.drop i) s f).run λo=>(sQ k inj o).run λt=>cb K x σ fs H D (out t),⟨l.length,s0,s1.le hl,g1.f.trans (bT.le s1 hl),jf,by simp,Bz _,by simpa using q1⟩,?_⟩;rintro i m σ2 H2 ⟨s,s2,g2,z8,rfl,hi,q2⟩;obtain⟨j1,j2⟩:=z8.2 H2 (aQ.refl H2);by_cases ka:i<l.length
 .obtain⟨go,yl⟩:=j1 i _ (Ak ka);rw[(A5 ka)]at q2;refine .inr ⟨go,λσ3 H3=>∃s',aR K H3 σ3 (hd (i+1) s')/\bT σ fs H σ3 (hd (i+1) s') H3/\JF K H3 J l/\(FL.eK (l.drop (i+1)) s' f).run λo=>(sQ k inj o).run λt=>cb K x σ fs H D (out t),λσ3 H3 ⟨s',a1,a2,a3,a4⟩=>⟨l.length-(i+1),by lia,s',a1,a2,a3,rfl,ka,a4⟩,λv H3 y=>?_⟩;obtain⟨sm,vx⟩:=yl v H3 y;have q2:(f l[i] s).run λo=>(match o with|.go s'=>FL.eK (l.drop (i+1)) s' f|.out t=>ap (.out t)).run λo=>(sQ k inj o).run λt=>cb K x σ fs H D (out t):=q2;rw[hf]at q2;have s3:=s2.same sm;have g3:=g2.trans (bT.same sm s2);refine⟨i,s,_,s3,vx,(wt l[i]).mono (λt q4 us g4 s4=>?_) q2⟩;refine⟨i,s,t,by lia,s4,(wb t s).mono (λo q5=>?_) q4⟩;cases o with
  |out t5=>
   refine cb.go (g3.trans g4) sr s4 (lo _ false t5 ?_ q5);rfl
  |go s'=>
   intro σ5 H5 g5 s5;have fin:∃s',aR K H5 σ5 (hd (i+1) s')/\bT σ fs H σ5 (hd (i+1) s') H5/\JF K H5 J l/\(FL.eK (l.drop (i+1)) s' f).run λo=>(sQ k inj o).run λt=>cb K x σ fs H D (out t):=⟨s',s5,(g3.trans g4).trans g5,z8.tk (aQ.trans sm.cK (aQ.trans (g4.bW s3) (g5.bW s4))),q5⟩;exact⟨λ_=>fin,fin⟩
 .have e:i=l.length:=by lia
  subst e;rw[DQ]at q2;have le:=hx l.length s hz;exact .inl ⟨j2,hE s,k s,hr s,s2.le le,(k s).mono (λt q3=>q3.go (g2.trans (bT.le s2 le)) sr (s2.le le)) q2⟩
def SF.eK{f:PV->S->W (Lp S R)}{wb:T2->S->W (Lp S R)}(hp:Da (gl X.prog X.w) X.A X.env X.xe)(hc:X.calm=true)(hi:tL X K fs tg iter wl au)(hl:dR au (hd s0))(hg:∀s,GF X K (hd s) tg is wt (fs2 s))(hf:∀p s,f p s=.bind (wt p) λt=>wb t s)(ho:∀t,(out (inj t)).pe)(hb:∀s t,SF X K false (fs2 s t) body (wb t s) (Lx hd λr=>out (inj r)))(hr:∀s,SF X K x (hd s) rest (k s) out)(hs:uV X iter:=by intro _;rfl):SF X K x fs (.For tg iter body [] pos::rest) (.bind wl λl=>.bind (FL.eK l s0 f) (sQ k inj)) out:=SF.Mc (hd:=λ_=>hd) (fs2:=λ_=>fs2) hp hc hi hl (λ_=>hg) hf ho (λ_ s t _=>hb s t) (λ_ s _=>.refl _) hr hs
end
end
end FL
variable{f:PL.PV->FL.W (Option PL.PV)}{nr GK:FL.aX}{hd:Nat->FL.aX}
namespace FL
section
variable[bu]
variable{K:Aa}
def yH:O PV->(PV->W (Option PV))->W (O PV)
 |[],_=>.ret []
 |x::r,f=>.bind (f x) λo=>.bind (yH r f) λl=>.ret (o.toList++l)
def jZ:O PV->(PV->W PV)->W (O PV)
 |[],_=>.ret []
 |x::r,f=>.bind (f x) λy=>.bind (jZ r f) λl=>.ret (y::l)
theorem sE(f:PV->W PV):∀l,jZ l f=yH l λp=>.bind (f p) λv=>.ret (al v)
 |[]=>rfl
 |x::r=>by
  show am (f x) (λy=>am (jZ r f) λl=>ap (y::l))=am (f x) λy=>am (yH r _) λl=>ap (y::l);rw[sE f r]
def cG(ix:O (Option Nat))(fs:aX):aX:=ix.map λo=>match o with|some j=>(fs[j]?).getD bn|none=>bn
section
def ik{s:SL}(h:(cG ix fs)[i]?=al (al s)):∃j,ix[i]?=al (al j)/\fs[j]?=al (al s):=by
 unfold cG at h;rw[AE]at h;cases q:ix[i]? with
 |none=>rw[q]at h;cases h
 |some o=>
  rw[q]at h;cases o with
  |none=>cases h
  |some j=>
   refine⟨j,rfl,?_⟩;have h:(fs[j]?).getD bn=al s:=Option.some.inj h;cases z:fs[j]? with
   |none=>rw[z]at h;cases h
   |some y=>rw[z]at h;exact congrArg al h
def f9(h:ix[i]?=al (al j))(e:σ[j]?=al (al u)):(ig ix σ)[i]?=al (al u):=by
 unfold ig;rw[AE,h];show al ((σ[j]?).getD bn)=_;rw[e];rfl
def aR.il(s:aR K H σ fs)(inj:∀i i' j:Nat,ix[i]?=al (al j)->ix[i']?=al (al j)->i=i'):aR K H (ig ix σ) (cG ix fs):=by
 refine⟨by unfold ig cG;simp,λi t e=>?_,λi i' t u x y a e1 e2 o1 o2 q1 q2 z1 z2=>?_,s.tb⟩
 .obtain⟨j,h1,h2⟩:=ik e;obtain⟨u,h3,h4⟩:=s.at' j t h2;exact⟨u,f9 h1 h3,h4⟩
 .obtain⟨j,h1,h2⟩:=ik e1;obtain⟨j',fC,pj⟩:=ik e2;obtain⟨u1,h3,_⟩:=s.at' j t h2;obtain⟨u2,L6,_⟩:=s.at' j' u pj;rw[f9 h1 h3]at q1;rw[f9 fC L6]at q2;cases q1;cases q2;have:=s.nd j j' t u x y a h2 pj o1 o2 h3 L6 z1 z2;subst this;exact inj i i' j h1 fC
structure G0(ix:List (Option Nat))(σ:L2.St)(fs:aX)(σ':L2.St)(aK:aX):Prop where
 own:∀(i:Nat) (t:SL),aK[i]?=al (al t)->t.own=true->∃j,ix[i]?=al (al j)/\fs[j]?=al (al t)/\σ'[i]?=σ[j]?
def Nf(ix:O (Option Nat))(σ σ':L2.St):Prop:=∀(i j:Nat) (u:V),ix[i]?=al (al j)->σ[j]?=al (al u)->σ'[i]?=al (al u)
def Nf.w9(c:Nf ix σ σ')(s:aR K H σ fs):G0 ix σ fs σ' (cG ix fs):=⟨λi t e _=>by
 obtain⟨j,h1,h2⟩:=ik e;obtain⟨u,h3,_⟩:=s.at' j t h2;exact⟨j,h1,h2,by rw[c i j u h1 h3,h3]⟩⟩
def G0.c8(h:G0 ix σ fs σ' aK)(o:bx σ' aK a):bx σ fs a:=by
 obtain⟨i,t,x,e1,e2,e3,e4⟩:=o;obtain⟨j,h1,h2,h3⟩:=h.own i t e1 e2;exact⟨j,t,x,h2,e2,h3▸e3,e4⟩
def G0.cj(h:G0 ix σ fs σ' aK){m:Nat}(o:eW σ' aK ψ m a):eW σ fs ψ m a:=by
 obtain⟨i,n,e1,e3⟩:=o;obtain⟨j,h1,h2,h3⟩:=h.own i _ e1 rfl;exact⟨j,n,h2,h3▸e3⟩
def G0.out{Fc Xo:aX}(h:G0 ix σ fs σ' aK)(cp:Nf ix σ σ')(s:aR K H1 σ fs)(g:bP σ' aK H1 H2 Xo)(s2:aR K H2 σ' (cG ix Fc))(ev:Ev fs Fc)(hc:∀j:Nat,fs[j]?=Fc[j]?\/∃i':Nat,ix[i']?=al (al j)):aR K H2 σ Fc/\bP σ fs H1 H2 Fc:=by
 have gf:bP σ fs H1 H2 Fc:=⟨λa o e n t=>g.keep a o e (λψ m z=>n ψ m (h.cj z)) t,g.there,ev,g.x⟩;have il:∀{i j:Nat}{t:SL},ix[i]?=al (al j)->Fc[j]?=al (al t)->(cG ix Fc)[i]?=al (al t):=λ{i j t} e1 e2=>by
  unfold cG;rw[AE,e1];show al ((Fc[j]?).getD bn)=_;rw[e2];rfl
 have tk:=gf.bW s;refine⟨⟨s.len.trans ev.len,λj t e=>?_,ev.nd s,s2.tb⟩,gf⟩
 .rcases hc j with e0|⟨i,hi⟩
  .rw[<- e0]at e;obtain⟨u,h1,h2⟩:=s.at' j t e;refine⟨u,h1,?_⟩;rcases h2 with⟨v,q,r⟩|⟨a,q,r⟩
   .exact .inl ⟨v,q,VR.tk tk r⟩
   .subst q;refine .inr ⟨a,rfl,?_⟩;by_cases c:∃b,t.own=true/\t.has a b/\bx σ' aK b
    .obtain⟨b,ow,hb,i,t',x,c1,c2,c3,c4⟩:=c;obtain⟨j',k1,k2,k3⟩:=h.own i t' c1 c2;have jj:=s.nd j j' t t' a x b e k2 ow c2 h1 (k3▸c3) hb c4;subst jj;rw[e]at k2;cases k2;exact s2.ownAt (il k1 (e0▸e)) c2 (k3.trans h1)
    .exact r.mono tk (λb o ow hb z nt=>g.gY z (λy=>c ⟨b,ow,hb,y⟩) nt)
  .obtain⟨u',h3,h4⟩:=s2.at' i t (il hi e);have he:∃t',fs[j]?=al (al t'):=by
    rcases ev.get e with z|⟨_,_,_,_,_,z⟩
    .exact⟨_,z⟩
    .exact⟨_,z⟩
   obtain⟨t',he⟩:=he;obtain⟨u,h1,_⟩:=s.at' j t' he;have:=cp i j u hi h1;rw[h3]at this;cases this;exact⟨_,h1,h4⟩
theorem gs:∀{is:O Nat}{us:O V}{σ:L2.St}{i:Nat},i∉is->(mG is us σ)[i]?=σ[i]?
 |[],us,σ,i,_=>by cases us<;>rfl
 |j::is,[],σ,i,_=>rfl
 |j::is,u::us,σ,i,h=>by
  rw[mG,gs (λz=>h (AH _ z))];exact aM (λz=>h (by rw[z];exact A9))
end
section
variable{T2:Type}{wt:PV->W T2}{is:O Nat}{fs2:T2->aX}{tf:T2->W Bool}{te:T2->W PV}
structure FF(X:Cx)(K:Aa)(fs:aX)(Ï:List im)(w:W Bool):Prop where p:OB X Ï (fT K fs w)
def IL:FF X K fs [] (.ret true):=⟨λZ s σ H Q I ⟨sr,q⟩=>zt Z s σ H Q I (q H .refl sr)⟩
def yt(is:O Nat)(nr:aX)(fs2:T2->aX):Prop:=∀t,(fs2 t).length=nr.length/\∀(i:Nat) (s:SL),(fs2 t)[i]?=al (al s)->(i∈is/\s.own=false)\/(i∉is/\nr[i]?=al (al s))
theorem Ml{fs2 fs3:Nat->T2->aX}(S:cw X.env.scope X.N sc N' ix)(h0:qb au (hd 0))(hx:∀i,i<=sizeLine->qb (hd i) GK)(hv:∀i,i<sizeLine->Ev (hd i) (hd (i+1)))(NX:∀i j:Nat,(hd i)[j]?=(hd (i+1))[j]?\/∃i':Nat,ix[i']?=al (al j))(hf:∀p,f p=.bind (wt p) λt=>.bind (tf t) λk=>if k=true then .bind (te t) λv=>.ret (al v) else .ret bn)(hl:∀i,yt is (cG ix (hd i)) (fs2 i))(NR:∀i t,i<sizeLine->dR (fs2 i t) (cG ix (hd (i+1))))(QC:∀i t,i<sizeLine->dR (fs3 i t) (cG ix (hd (i+1))))(yJ:∀j∈is,ix[j]?=al bn):∀σ H Q,fL K fs (.bind wl λl=>yH l f) GK σ H Q->R8 ix (Tn K fs wl au) (λv σ H Q=>∃i,fG K (cG ix (hd i)) is wt (fs2 i) v σ H Q) (λσ H Q=>∃i t,fT K (fs2 i t) (tf t) (fs2 i t) σ H Q) (λσ H Q=>∃i t,i<sizeLine/\fE K (fs2 i t) (te t) (fs3 i t) σ H Q) σ H Q:=by
 rintro σ H Q ⟨sr,q⟩;refine⟨sr,wl.mono (λl q1 J H1 g1 s1 jf D hD=>?_) q⟩;have hz:=jf.1;have inj:∀i i' j:Nat,ix[i]?=al (al j)->ix[i']?=al (al j)->i=i':=λi i' j h1 h2=>by
  have hi:i<N'.length:=by rw[<- S.len];exact(Ag.mp h1).1
  have WZ:i'<N'.length:=by rw[<- S.len];exact(Ag.mp h2).1
  have e2:=(S.at h2 (Ak WZ)).1;rw[((S.at h1 (Ak hi)).1)]at e2;exact(List.getElem_inj S.nd).mp (Option.some.inj e2)
 have g1:=g1.le h0;have s1:=s1.le h0.f;have nD:∀i,Ev (hd 0) (hd i)->¬bx σ (hd i) D:=λi e z=>s1.noOwn hD (e.c8 z);refine⟨λi m σ' ys H'=>∃Â,Ev (hd 0) (hd i)/\aR K H' σ (hd i)/\bP σ fs H H' (hd i)/\aR K H' σ' (cG ix (hd i))/\Nf ix σ σ'/\JF K H' J l/\H' D=al (.lst ys)/\aL K [] H' ys Â/\Â.length<=i/\m=l.length-i/\i<=l.length/\
  (yH (l.drop i) f).run λr=>∀a vs H',bP σ fs H H' GK->aR K H' σ GK->H a=bn->H' a=al (.lst vs)->aL K [] H' vs (Â++r)->Q (.ref a) H',⟨l.length,[],?_⟩,?_⟩
 .have sm:=dU hD (.lst []);exact⟨.refl _,s1.same sm,g1.trans (bP.same sm),(s1.same sm).il inj,λi j u h1 h3=>f9 h1 h3,jf.tk sm.cK,ao,.nil,Bz _,by simp,Bz _,by simpa using q1⟩
 rintro i m σ2 ys H2 ⟨Â,Tp,sO,gO,s2,cp,z8,hy,vy,L1,rfl,hi,q2⟩;refine⟨hy,?_⟩;obtain⟨j1,j2⟩:=z8.2 H2 (aQ.refl H2);have w9:=cp.w9 sO;by_cases ka:i<l.length
 .have JL:i<sizeLine:=by lia
  have Rv:=Tp.trans (hv i JL);obtain⟨go,yl⟩:=j1 i _ (Ak ka);rw[(A5 ka)]at q2;refine .inr ⟨go,λv H3 y=>?_⟩;obtain⟨sm,vx⟩:=yl v H3 y;have q2:(f l[i]).run λo=>(yH (l.drop (i+1)) f).run λr=>∀a vs H',bP σ fs H H' GK->aR K H' σ GK->H a=bn->H' a=al (.lst vs)->aL K [] H' vs (Â++(o.toList++r))->Q (.ref a) H':=q2;rw[hf]at q2;refine⟨_,_,(s2.same sm),vx,(wt l[i]).mono (λt q4 us g4 s4=>?_) q2⟩;have MU:Nf ix σ (mG is us σ2):=λi' j u h1 h3=>by
   rw[gs λz=>by have:=yJ i' z;rw[h1]at this;cases this];exact cp i' j u h1 h3
  have Iw:G0 ix σ (hd i) (mG is us σ2) (fs2 i t):=⟨λj u e o=>by
   rcases (hl i t).2 j u e with⟨_,z⟩|⟨n,z⟩
   .rw[z]at o;cases o
   .obtain⟨j',k1,k2,k3⟩:=w9.own j u z o;exact⟨j',k1,k2,by rw[gs n];exact k3⟩⟩
  refine⟨i,t,s4,(tf t).mono (λkk q5 H5 g5 s5=>?_) q4⟩;have SE:¬bx (mG is us σ2) (fs2 i t) D:=λz=>nD i Tp (Iw.c8 z);have SX:=g5.gY (sm _ _ hy) SE;have R1:=aL.tk (g5.bW s4) (aL.tk sm.cK vy);have SW:=(z8.tk sm.cK).tk (g5.bW s4);have x5:∀φ,H2 D≠al (.ext φ):=λφ=>by rw[hy];simp
  cases kk with
  |false=>
   have Sg:=s5.le (NR i t JL);obtain⟨U1,Xm⟩:=Iw.out MU (sO.same sm) g5 Sg (hv i JL) (NX i);exact cS ⟨l.length-(i+1),by lia,Â,Rv,U1,(gO.trans (bP.same sm)).trans Xm,Sg,MU,SW,SX,R1,by lia,rfl,ka,q5⟩
  |true=>
   refine eZ ⟨i,t,JL,s5,(te t).mono (λv6 q6 u6 H6 g6 s6 UJ=>?_) q5⟩;have Sf:=s6.le (QC i t JL);obtain⟨Se,Rg⟩:=Iw.out MU (sO.same sm) (g5.trans g6) Sf (hv i JL) (NX i);have Xl:=(gO.trans (bP.same sm)).trans Rg;have JK:=g6.gY SX SE;have R0:=aL.tk (g6.bW s5) R1;have x6:∀φ,H6 D≠al (.ext φ):=λφ=>by rw[JK];simp
   have SD:=nD (i+1) Rv;refine⟨JK,by rw[R0.length];have:=z8.1;lia,l.length-(i+1),by lia,Â++[v6],Rv,Se.side SD JK _,Xl.side (g1.there D hD) x6 _,Sf.side (λz=>SD ((MU.w9 Se).c8 z)) JK _,MU,(SW.tk (g6.bW s5)).tk (ju _ JK),ao,aL.tk (ju (.lst (ys++[u6])) JK) (R0.append (.cons UJ .nil)),by rw[Ap];simp;lia,rfl,ka,?_⟩;refine(yH (l.drop (i+1)) f).mono (λr q7 a vs H7 g7 s7 n e v7=>q7 a vs H7 g7 s7 n e ?_) q6;simpa using v7
 .have e:i=l.length:=by lia
  subst e;rw[DQ]at q2;have le:=hx l.length hz;exact .inl ⟨j2,q2 D ys H2 (gO.le le) (sO.le le.f) (g1.there D hD) hy (by simpa using vy)⟩
end
end
end FL
variable{we:FL.W PL.PV}
namespace FL
section
variable[bu]
variable{K:Aa}
section
variable{T2:Type}{wt:PV->W T2}{is:O Nat}{fs2:T2->aX}{tf:T2->W Bool}{te:T2->W PV}
def LA{fs2 fs3:Nat->T2->aX}(hc:X.calm=true)(S:cw X.env.scope X.N sc N' ix)(hi:tL X K fs tg iter wl au)(hg:∀cl C s2 H2 fp i,GF (il X sc N' cl C s2 H2 fp) K (cG ix (hd i)) tg is wt (fs2 i))(QT:∀cl C s2 H2 fp i t,FF (il X sc N' cl C s2 H2 fp) K (fs2 i t) Ï (tf t))(he:∀cl C s2 H2 fp i t,i<sizeLine->EF (il X sc N' cl C s2 H2 fp) K (fs2 i t) Ð (te t) (fs3 i t))(hf:∀p,f p=.bind (wt p) λt=>.bind (tf t) λk=>if k=true then .bind (te t) λv=>.ret (al v) else .ret bn)(hl:∀i,yt is (cG ix (hd i)) (fs2 i))(yJ:∀j∈is,ix[j]?=al bn)(h0:qb au (hd 0))(hx:∀i,i<=sizeLine->qb (hd i) GK)(hv:∀i,i<sizeLine->Ev (hd i) (hd (i+1)))(NX:∀i j:Nat,(hd i)[j]?=(hd (i+1))[j]?\/∃i':Nat,ix[i']?=al (al j))(NR:∀i t,i<sizeLine->dR (fs2 i t) (cG ix (hd (i+1))))(QC:∀i t,i<sizeLine->dR (fs3 i t) (cG ix (hd (i+1))))(hs:uV X iter:=by intro _;rfl):LF X K fs (.ListComp Ð [⟨tg,iter,Ï,0⟩] sc pos) (.bind wl λl=>yH l f) GK:=
 ⟨PE.imp (K7 hc S hi.p (λcl C s2 H2 fp Z s σ H v u Q I r ⟨i,q⟩=>(hg cl C s2 H2 fp i).p Z s σ H v u Q I r q) (λcl C s2 H2 fp Z s σ H Q I ⟨i,t,q⟩=>(QT cl C s2 H2 fp i t).p Z s σ H Q I q) (λcl C s2 H2 fp Z s σ H Q I ⟨i,t,h,q⟩=>(he cl C s2 H2 fp i t h).p Z s σ H Q I q) hs) (Ml S h0 hx hv NX hf hl NR QC yJ)⟩
def Qj(hc:X.calm=true)(S:cw X.env.scope X.N sc N' ix)(hi:tL X K fs tg iter wl au)(hg:∀cl C s2 H2 fp,GF (il X sc N' cl C s2 H2 fp) K (cG ix au) tg is wt fs2)(QT:∀cl C s2 H2 fp t,FF (il X sc N' cl C s2 H2 fp) K (fs2 t) Ï (tf t))(he:∀cl C s2 H2 fp t,EF (il X sc N' cl C s2 H2 fp) K (fs2 t) Ð (te t))(hf:∀p,f p=.bind (wt p) λt=>.bind (tf t) λk=>if k=true then .bind (te t) λv=>.ret (al v) else .ret bn)(hl:yt is (cG ix au) fs2/\∀t,dR (fs2 t) (cG ix au))(yJ:∀j∈is,ix[j]?=al bn)(hs:uV X iter:=by intro _;rfl):LF X K fs (.ListComp Ð [⟨tg,iter,Ï,0⟩] sc pos) (.bind wl λl=>yH l f) au:=LA (hd:=λ_=>au) (fs2:=λ_=>fs2) (fs3:=λ_=>fs2) hc S hi (λcl C s2 H2 fp _=>hg cl C s2 H2 fp) (λcl C s2 H2 fp _=>QT cl C s2 H2 fp) (λcl C s2 H2 fp _ t _=>he cl C s2 H2 fp t) hf (λ_=>hl.1) yJ (.refl _) (λ_ _=>.refl _) (λ_ _=>.refl _) (λ_ _=>.inl rfl) (λ_ t _=>hl.2 t) (λ_ t _=>hl.2 t) hs
def zS{f:PV->W PV}(hf:∀p,f p=.bind (wt p) te):(λl=>jZ l f)=λl=>yH l λp=>.bind (wt p) λt=>.bind (.ret true) λk=>if k=true then .bind (te t) λv=>.ret (al v) else .ret bn:=funext λl=>by
 rw[sE];congr 1;funext p;rw[hf];rfl
def Lz{f:PV->W PV}(hc:X.calm=true)(S:cw X.env.scope X.N sc N' ix)(hi:tL X K fs tg iter wl au)(hg:∀cl C s2 H2 fp,GF (il X sc N' cl C s2 H2 fp) K (cG ix au) tg is wt fs2)(he:∀cl C s2 H2 fp t,EF (il X sc N' cl C s2 H2 fp) K (fs2 t) Ð (te t))(hf:∀p,f p=.bind (wt p) te)(hl:yt is (cG ix au) fs2/\∀t,dR (fs2 t) (cG ix au))(yJ:∀j∈is,ix[j]?=al bn)(hs:uV X iter:=by intro _;rfl):LF X K fs (.ListComp Ð [⟨tg,iter,[],0⟩] sc pos) (.bind wl λl=>jZ l f) au:=by
 rw[zS hf];exact Qj hc S hi hg (λ_ _ _ _ _ _=>IL) he (λp=>rfl) hl yJ hs
end
section
theorem wN:∀{l:aX}{i:Nat} (s:Option SL),l[i]?=al bn->dR (l.set i s) l
 |[],_,_,h=>by simp at h
 |x::l,0,s,h=>by
  simp at h;subst h;exact .drop (dR.refl l)
 |x::l,i+1,s,h=>by
  exact .keep (wN s (by simpa using h))
def wO{l:aX}{is:O Nat}(hl:l.length=nr.length/\∀(j:Nat) (s:SL),l[j]?=al (al s)->(j∈is/\s.own=false)\/(j∉is/\nr[j]?=al (al s)))(hi:nr[i]?=al bn):(l.set i (al (.val v))).length=nr.length/\∀(j:Nat) (s:SL),(l.set i (al (.val v)))[j]?=al (al s)->(j∈is++[i]/\s.own=false)\/(j∉is++[i]/\nr[j]?=al (al s)):=by
 refine⟨by rw[Ee];exact hl.1,λj s e=>?_⟩;rcases bL e with⟨rfl,rfl⟩|⟨n,e⟩
 .exact .inl ⟨by simp,rfl⟩
 .rcases hl.2 j s e with⟨h1,h2⟩|⟨h1,h2⟩
  .exact .inl ⟨by simp[h1],h2⟩
  .exact .inr ⟨by simp[h1,n],h2⟩
def Ly(nr:aX):nr.length=nr.length/\∀(j:Nat) (s:SL),nr[j]?=al (al s)->(j∈([]:O Nat)/\s.own=false)\/(j∉([]:O Nat)/\nr[j]?=al (al s)):=⟨rfl,λj s e=>.inr ⟨by simp,e⟩⟩
def Qi(hi:nr[i]?=al bn):yt [i] nr (λp=>nr.set i (al (.val p)))/\∀t,dR (nr.set i (al (.val t))) nr:=⟨λt=>wO (Ly nr) hi,λt=>wN _ hi⟩
end
section
variable{rest:O nn}{p:Pos}{T:Type}{out:T->End}{x:Bool}{wi:W PV}
def ez(sr:aR K H σ fs)(hs:fs[i]?=al (al (.ol q0 l))):∃a ws,σ[i]?=al (al (.ref a))/\H a=al (.lst ws)/\aL K [] H ws l:=by
 obtain⟨u,e1,r⟩:=sr.at' i _ hs;rcases r with⟨v,e,_⟩|⟨a,e,z,ws,q1,q2⟩
 .cases e
 .subst e;exact⟨a,ws,e1,q1,q2⟩
def mS{qe:O V}{l':O PV}(sr:aR K H σ fs)(hs:fs[i]?=al (al (.ol q0 l)))(e1:σ[i]?=al (al (.ref a)))(sx:iy a H H')(h':H' a=al (.lst qe))(r:aL K [] H qe l'):aR K H' σ (fs.set i (al (.ol q0 l')))/\bT σ fs H σ (fs.set i (al (.ol q0 l'))) H':=
 jT sr hs rfl (by simp) e1 sx λtk=>⟨(sr.ownAt hs rfl e1).1,qe,h',aL.tk tk r⟩
def uS(l:O PV)(v:PV):W (O PV):=.gh (l.length<sizeLine) (.ret (l++[v]))
theorem SF.append(i:Nat){k:O PV->W T}(hs:fs[i]?=al (al (.ol q0 l)))(hK:X.K=K)(hN:X.N[i]?=al y)(hv:rp X.env.scope y)(he:EF X K fs e we au)(hr:∀l',SF X K x (au.set i (al (.ol q0 l'))) rest (k l') out)(hd: ~~~(dg y))(df: ~~~(rA y))(cL:‹re (.Name y p) "append" X.env (jp (.Name y p) X.env)=jp (.Name y p) X.env›)(qQ:‹OJ X bS [e]›)(fy:‹J2 À bS›)(kW:‹dZ X e []›)(gy:‹fb X bS []›)(WG:‹wv (.Call (.Attribute (.Name y p) "append" À) [e] [] bS) bn pos.line X.env=pure false›):SF X K x fs (.Expr (.Call (.Attribute (.Name y p) "append" À) [e] [] bS) pos::rest) (.bind we λv=>.bind (uS l v) k) out:=
 SF.step (dm (mR K hK B5 CB CA gw (c7 hN hv hd df) (ah he.p ax kW) cL qQ fy kW gy) WG) λD σ H ⟨sr,q⟩=>by
  obtain⟨a,ws,e1,h1,r1⟩:=ez sr hs;refine⟨_,e1,.inl ⟨rfl,_,cX.of h1⟩,sr,we.mono (λv q1 u H1 g1 s1 v1=>?_) q⟩;obtain⟨a',qe,yN,fC,yF⟩:=ez s1 (g1.ev.same hs (by simp));rw[e1]at yN;cases yN;refine⟨a,qe,u,rfl,rfl,fC,by rw[yF.length];exact q1.1,λH2 sx h2=>?_⟩;obtain⟨s2,g2⟩:=mS s1 (g1.ev.same hs (by simp)) e1 sx h2 (yF.append (.one v1));exact⟨_,k _,hr _,s2,(k _).mono (λt q2=>q2.go (g1.f.trans g2) sr s2) q1.2⟩
def vC(l:O PV)(i v:PV):W (O PV):=match i with
 |.int k=>match pd l.length k with
  |some j=>.ret (l.set j v)
  |none=>.fail
 |_=>.fail
def SF.KN(i:Nat){ei:im}{k:O PV->W T}(hs:fs[i]?=al (al (.ol q0 l)))(hN:X.N[i]?=al y)(hv:rp X.env.scope y)(he:EF X K fs e we au)(hi:EF X K au ei wi fs2)(hr:∀l',SF X K x (fs2.set i (al (.ol q0 l'))) rest (k l') out)(ha:∀v,assign (.Subscript (.Name y p) ei gI) X.env v=(do
   let ov <- pi [v] (jp (.Name y p) X.env)
   let iv <- pi [v,ov] (jp ei X.env)
   FB gI
   pi [v,ov,iv] (setItem ov iv v)
   release [v,ov,iv] []):=by intro _;rfl)(hd: ~~~(dg y))(df: ~~~(rA y))(QB:‹wp [.Subscript (.Name y p) ei gI] e pos.line X.env=pure false›)(hw:‹ww [.Subscript (.Name y p) ei gI] e X.env=pure bn›)(h1:‹(Ch [.Subscript (.Name y p) ei gI] X.env).map (·.2)=[assign (.Subscript (.Name y p) ei gI) X.env]›):SF X K x fs (.Assign [.Subscript (.Name y p) ei gI] e pos::rest) (.bind we λv=>.bind wi λn=>.bind (vC l n v) k) out:=
 SF.step (vT he.p (HB (c7 hN hv hd df) hi.p tY ha) QB hw h1) λD σ H ⟨sr,q⟩=>by
  refine⟨sr,we.mono (λv q1 u H1 g1 s1 v1=>?_) q⟩;obtain⟨a,ws,e1,h1,r1⟩:=ez s1 (g1.ev.same hs (by simp));refine⟨_,e1,s1,wi.mono (λn q2 u2 H2 g2 s2 v2=>?_) q1⟩;obtain⟨a',qe,yN,fC,yF⟩:=ez s2 ((g1.trans g2).ev.same hs (by simp));rw[e1]at yN;cases yN;cases v2 with
  |int kk=>
   have q2:(match pd l.length kk with|some j=>ap (l.set j v)|none=>W.fail).run _:=q2;cases hj:pd l.length kk with
   |none=>rw[hj]at q2;exact q2.elim
   |some j=>
    rw[hj]at q2;refine⟨a,qe,kk,j,rfl,rfl,fC,by rw[yF.length];exact hj,λH3 sx h3=>?_⟩;obtain⟨s3,g3⟩:=mS s2 ((g1.trans g2).ev.same hs (by simp)) e1 sx h3 (yF.set (g2.vr s1 v1) j);exact⟨_,k _,hr _,s3,(k _).mono (λt q3=>q3.go ((g1.trans g2).f.trans g3) sr s3) q2⟩
  |_=>exact q2.elim
end
end
end FL
variable{f fa:AN}{qs:O PL.PV}
namespace FL
section
variable[bu]
variable{K:Aa}
def di(n:Nat):O AK->O PV->aX
 |[],_=>[]
 |.v::ks,x::l=>al (.val x)::di n ks l
 |.v::_,[]=>[]
 |.p ψ d::ks,l=>al (.cj ψ n (n+d))::di n ks l
 |.f a us ps fz::ks,l=>al (.adr a us ps fz)::di n ks l
def kA(n:Nat)(ks:O AK)(l:O PV)(N:Nat):aX:=di n ks l++An (N-ks.length) bn
def kG(ks:O AK):Prop:=∀i j:Nat,(∃ψ d,ks[i]?=al (.p ψ d))->(∃ψ d,ks[j]?=al (.p ψ d))->i=j
theorem fU:∀{n:Nat}{m:og R n}{l:O PV}{Q:R->Prop},(gG n m l).run Q->l.length=n
 |0,_,[],_,_=>rfl
 |0,_,_::_,_,h=>h.elim
 |n+1,_,[],_,h=>h.elim
 |n+1,m,x::l,Q,h=>by rw[Ah,fU (n:=n) h]
section
theorem dS.len(h:dS K H n vs ks l):vs.length=ks.length:=by induction h<;>simp_all
def dS.slot(h:dS K H n vs ks l):(di n ks l).length=vs.length/\∀(i:Nat) (s:SL),(di n ks l)[i]?=al (al s)->∃u,vs[i]?=al u/\ja K H u s/\(s.own=true->∃ψ d,s=.cj ψ n (n+d)/\ks[i]?=al (.p ψ d)):=by
 induction h with
 |nil=>exact⟨rfl,λi s e=>by simp[di]at e⟩
 | @v u x vs ks l r t ih=>
  refine⟨by simp[di,ih.1],λi s e=>?_⟩;cases i with
  |zero=>simp[di]at e;subst e;exact⟨u,rfl,.inl ⟨x,rfl,r⟩,λz=>by cases z⟩
  |succ i=>simp[di]at e;obtain⟨w,h1,h2,h3⟩:=ih.2 i s e;exact⟨w,by simpa using h1,h2,by simpa using h3⟩
 | @p a ψ d vs ks l e0 r t ih=>
  refine⟨by simp[di,ih.1],λi s e=>?_⟩;cases i with
  |zero=>simp[di]at e;subst e;exact⟨_,rfl,.inr ⟨a,rfl,e0,DP _ _,r⟩,λ_=>⟨ψ,d,rfl,rfl⟩⟩
  |succ i=>simp[di]at e;obtain⟨w,h1,h2,h3⟩:=ih.2 i s e;exact⟨w,by simpa using h1,h2,by simpa using h3⟩
 | @f a us vs ps fz ks l r z t ih=>
  refine⟨by simp[di,ih.1],λi s e=>?_⟩;cases i with
  |zero=>simp[di]at e;subst e;exact⟨_,rfl,.inr ⟨a,rfl,rfl,r,z⟩,λz=>by cases z⟩
  |succ i=>simp[di]at e;obtain⟨w,h1,h2,h3⟩:=ih.2 i s e;exact⟨w,by simpa using h1,h2,by simpa using h3⟩
def dS.Hy(h:dS K H n vs ks l)(e:ks[i]?=al (.p ψ d)):(di n ks l)[i]?=al (al (.cj ψ n (n+d))):=by
 induction h generalizing i with
 |nil=>simp at e
 |v r t ih=>cases i with|zero=>simp at e|succ i=>simp[di];exact ih (by simpa using e)
 |p e0 r t ih=>cases i with|zero=>simp at e;obtain⟨rfl,rfl⟩:=e;rfl|succ i=>simp[di];exact ih (by simpa using e)
 |f r z t ih=>cases i with|zero=>simp at e|succ i=>simp[di];exact ih (by simpa using e)
theorem ip{N:Nat}{s:SL}(h:(kA n ks l N)[i]?=al (al s)):(di n ks l)[i]?=al (al s):=by
 unfold kA at h;by_cases c:i<(di n ks l).length
 .rw[Bd c]at h;exact h
 .rw[Ba ∅,BF]at h
  split at h<;>cases h
def fW{N:O Str}(h:vs[i]?=al u):(L2.start N vs)[i]?=al (al u):=by
 unfold L2.start;rw[Bd (by rw[AB];exact(Ag.mp h).1),AE,h];rfl
def lH{N:O Str}(h:(L2.start N vs)[i]?=al (al u)):vs[i]?=al u:=by
 unfold L2.start at h;by_cases c:i<vs.length
 .rw[Bd (by simpa using c),AE]at h;cases z:vs[i]? with
  |none=>rw[z]at h;cases h
  |some q=>rw[z]at h;cases h;rfl
 .rw[Ba (by simpa using c),BF]at h
  split at h<;>cases h
def dS.TH(h:dS K H n vs ks l)(tb:TB H)(one:kG ks)(N:O Str):aR K H (L2.start N vs) (kA n ks l N.length):=by
 obtain⟨hl,hs⟩:=h.slot;refine⟨?_,λi s e=>?_,λi j s t x y a e1 e2 o1 o2 q1 q2 z1 z2=>?_,tb⟩
 .unfold L2.start kA;rw[Ap,Ap,AB,hl,BR,BR,h.len]
 .obtain⟨u,h1,h2,_⟩:=hs i s (ip e);exact⟨u,fW h1,h2⟩
 .obtain⟨_,_,_,h3⟩:=hs i s (ip e1);obtain⟨_,_,_,h4⟩:=hs j t (ip e2);obtain⟨φ,d,_,k1⟩:=h3 o1;obtain⟨ψ,d',_,k2⟩:=h4 o2;exact one i j ⟨φ,d,k1⟩ ⟨ψ,d',k2⟩
def dS.go(h:dS K H n vs ks l){N:O Str}(g:bT (L2.start N vs) (kA n ks l N.length) H σ' aK H')(s':aR K H' σ' aK):G1 n vs ks H H':=by
 obtain⟨hl,hs⟩:=h.slot;refine⟨λa o e q=>(g.keep a o e λz=>?_).1,s'.tb,g.there,λa ψ d p=>?_,g.x⟩
 .obtain⟨i,s,x,e1,e2,e3,e4⟩:=z;obtain⟨u,h1,h2,h3⟩:=hs i s (ip e1);obtain⟨ψ,d,rfl,k⟩:=h3 e2;rcases e4 with rfl|e4
  .exact q ψ d ⟨i,k,lH e3⟩
  .cases e4
 .obtain⟨i,e1,e2⟩:=p;have e3:=h.Hy e1;have e4:(kA n ks l N.length)[i]?=al (al (.cj ψ n (n+d))):=by unfold kA;rw[Bd ((Ag.mp e3).1)];exact e3
  rcases g.pk a ψ (n+d) ⟨i,n,e4,fW e2⟩ with p|⟨_,k⟩
  .exact s'.free p
  .exact k
end
section
variable{x:Str}{st:nn}{N:O Str}
def Tg{m:og PV n}(Fn:gD K x qual st f fd)(S:bI N ps (aj st))(xi:ks.length=ps.length)(one:kG ks)(Ç:∀(j:Nat) (l:O PV),l.length=n->∀(bC:ci) (A:u8) (outer:O Env) (s:db) (H:Hp) (E:XK),bf k (A.deeper (wT qual (aj st) s.heap.objs.size f bC))->SF (ic iz P w K mg base N qual (aj st) f bC A outer s H E).yG K false (kA j ks l N.length) (aY st) (gG n m l) .rt):ba P w K mg base iz (k+1) f fd ps (nZ K ks (gG n m)):=by
 refine Fn.ok S (λvs H Q E h=>?_) (λbC A outer s H vs Q E hr h=>?_)
 .obtain⟨_,_,l,h,_⟩:=h;rw[h.len];exact xi
 obtain⟨tb,j,l,h,q⟩:=h;refine⟨_,(Ç j l (fU q) bC A outer s H E hr).p,h.TH tb one N,(gG n m l).mono (λv q1 u σ' aK H' g s' r=>q1 u H' (h.go g s') r) q⟩
def Xt{m:og (O PV) n}(Fn:gD K x qual st f fd)(S:bI N ps (aj st))(xi:ks.length=ps.length)(one:kG ks)(Ç:∀(j:Nat) (l:O PV),l.length=n->∀(bC:ci) (A:u8) (outer:O Env) (s:db) (H:Hp) (E:XK),bf k (A.deeper (wT qual (aj st) s.heap.objs.size f bC))->SF (ic iz P w K mg base N qual (aj st) f bC A outer s H E).yG K false (kA j ks l N.length) (aY st) (gG n m l) .rl):ba P w K mg base iz (k+1) f fd ps (mD K ks (gG n m)):=by
 refine Fn.ok S (λvs H Q E h=>?_) (λbC A outer s H vs Q E hr h=>?_)
 .obtain⟨_,_,l,h,_⟩:=h;rw[h.len];exact xi
 obtain⟨tb,j,l,h,q⟩:=h;refine⟨_,(Ç j l (fU q) bC A outer s H E hr).p,(h.TH tb one N),(gG n m l).mono (λz q1 a ws σ' aK H' g s' fr e r=>q1 a ws H' (h.go g s') ?_ e r) q⟩;rcases fr with fr|⟨i,t,x,e1,e2,np,e3,e4⟩
 .exact fr
 .obtain⟨_,_,_,h3⟩:=h.slot.2 i t (ip e1);obtain⟨ψ,d,e,_⟩:=h3 e2;exact absurd e (np _ _ _)
end
def su:kG []:=λi j ⟨_,_,h⟩=>by simp at h
def Gr{k:AK}(h:kG ks)(hk:∀ψ d,k≠.p ψ d):kG (k::ks):=λi j ⟨φ,d,a⟩ ⟨ψ,d',b⟩=>by
 cases i with
 |zero=>simp at a;exact absurd a (hk _ _)
 |succ i=>
  cases j with
  |zero=>simp at b;exact absurd b (hk _ _)
  |succ j=>rw[h i j ⟨φ,d,by simpa using a⟩ ⟨ψ,d',by simpa using b⟩]
def Gq(h:kG ks):kG (.v::ks):=Gr h (by simp)
def Lk{us:O V}(h:kG ks):kG (.f fa us qs fz::ks):=Gr h (by simp)
end
end FL
namespace L2
def K1(K:Aa):R2:=λx y H Q=>∃a b xs zs,x=.ref a/\y=.ref b/\cX K H a xs/\cX K H b zs/\xs.length+zs.length<=sizeLine/\jY H (.lst (xs++zs)) Q
theorem zD(K:Aa)(hK:X.K=K):dQ X (r9 .Add) (K1 K):=by
 subst hK;intro Z s σ H x y v u Q I rx ry h;obtain⟨l,b,xs,zs,rfl,rfl,hH,hB,hz,q⟩:=h;cases rx;cases ry;obtain⟨aw,r,⟨⟨cls,dd,data,sl⟩,n,ho,hc,hd,QY⟩,_⟩:=I.list hH;obtain⟨cx,r2,⟨⟨MY,MK,data2,JE⟩,n2,yI,JO,Ú,LY⟩,_⟩:=I.list hB;subst hc hd QY JO Ú LY;have e:aw.toArray++cx.toArray=(aw++cx).toArray:=by simp
 have hl:=r.length;have QN:=r2.length;refine concat_meets ⟨_,ho,rfl⟩ ⟨_,yI,rfl⟩ noFill_list_add seq_list_add PySem.F.slot_list_add PySem.F.entry_list_add (PySem.F.args_list_add_2 _ _) (list_addW l b aw.toArray cx.toArray n n2 bn bn sl JE (by simp;lia)) ⟨ho,yI,?_⟩;rw[e];exact⟨.ref _,_,I.Ig (r.append r2) (by rw[Ap];lia),rfl,q.at _ I.fresh⟩
end L2
variable{o:Bu}
namespace FL
section
variable[bu]
variable{K:Aa}
section
variable{a c:im}{p:Pos}{w:W PV}
def k7(l m:O PV):W (O PV):=.gh (l.length+m.length<=sizeLine) (.ret (l++m))
def Tj(K:Aa)(fs:aX)(w:W (O PV))(aK:aX:=fs):TE:=λσ H Q=>aR K H σ fs/\w.run λl=>∀u H',bP σ fs H H' aK->aR K H' σ aK->FO K σ aK H' u l->(∀f2 OK,bP σ aK H' OK f2->aR K OK σ f2->∃a vs,u=.ref a/\cX K OK a vs/\aL K [] OK vs l)->Q u H'
structure yr(X:Cx)(K:Aa)(fs:aX)(e:im)(w:W (List PV))(aK:aX:=fs):Prop where p:PE X e (Tj K fs w aK)
def ek(h:LF X K fs e wl au):yr X K fs e wl au:=⟨PE.imp h.p λσ H Q ⟨sr,q⟩=>⟨sr,wl.mono (λl q1 a vs H1 g1 s1 n e v=>q1 _ H1 g1 s1 (.inr ⟨a,rfl,.inl ⟨λz=>sr.noOwn n (g1.ev.c8 z),vs,e,v⟩⟩) λ_ H2 g2 s2=>⟨a,vs,rfl,cX.of (g2.gY e λz=>sr.noOwn n (g1.ev.c8 z)),g2.rC s1 v⟩) q⟩⟩
def qu(i:Nat){x:Str}(hs:‹fs[i]?=al (al (.ol q0 l))›)(hN:‹X.N[i]?=al x›)(hv:rp X.env.scope x:=by first|exact Bj rfl|exact Bo (Bj rfl)|exact Bo (Bo rfl))(hd: ~~~(dg x))(df: ~~~(rA x)):yr X K fs (.Name x pos) (.ret l):=
 ⟨PE.imp (c7 hN hv hd df) λσ H Q ⟨sr,q⟩=>by
  obtain⟨a,ws,e1,h1,r1⟩:=ez sr hs;refine⟨_,e1,q _ H .refl sr (.inr ⟨a,rfl,.inr ⟨i,q0,hs,e1⟩⟩) λ_ H2 g2 s2=>?_⟩;obtain⟨a',qe,yN,fC,yF⟩:=ez s2 (g2.ev.same hs (by simp));rw[e1]at yN;cases yN;exact⟨a,qe,rfl,cX.of fC,yF⟩⟩
def gX:PV->W (O PV)
 |.cl l=>.ret l
 |_=>.fail
def ej(h:EF X K fs e w au):yr X K fs e (.bind w gX) au:=⟨PE.imp h.p λσ H Q ⟨sr,q⟩=>⟨sr,w.mono (λx q1 u1 H1 g1 s1 v1=>by
 cases v1 with
 |cl e r=>exact q1 _ H1 g1 s1 (.inl ⟨_,_,rfl,.inl e,r⟩) λ_ H2 g2 s2=>⟨_,_,rfl,((g2.bW s1).f _ _ e).sq,g2.rC s1 r⟩
 |_=>exact q1.elim) q⟩⟩
def j8(hK:X.K=K)(ha:yr X K fs a wl au)(hb:yr X K au b wm fs2):LF X K fs (.BinOp a .Add b pos) (.bind wl λl=>.bind wm λm=>k7 l m) fs2:=⟨PE.imp (iY (zD K hK) ha.p hb.p) λσ H Q ⟨sr,q⟩=>⟨sr,wl.mono (λl q1 u1 H1 g1 s1 _ v1=>⟨s1,wm.mono (λm q2 u2 H2 g2 s2 _ v2=>by
 obtain⟨a,vs,rfl,h1,r1⟩:=v1 _ H2 g2 s2;obtain⟨b,ws,rfl,h2,r2⟩:=v2 _ H2 .refl s2;refine⟨a,b,vs,ws,rfl,rfl,h1,h2,by rw[r1.length,r2.length];exact q2.1,λp H3 s3 h3 n3=>?_⟩;have gg:=g1.trans g2;exact q2.2 p _ H3 (gg.trans (bP.same s3)) (s2.same s3) (gg.there p n3) h3 (aL.tk s3.cK (r1.append r2))) q1⟩) q⟩⟩
def Gu(g1:bP σ fs H H1 au)(s1:aR K H1 σ au)(r:aL K [] H1 vs l)(q:∀a vs H',bP σ fs H H' au->aR K H' σ au->H a=bn->H' a=al (.lst vs)->aL K [] H' vs l->Q (.ref a) H'):jY H1 (.lst vs) Q:=λp H2 s2 h2 n2=>q p vs H2 (g1.trans (bP.same s2)) (s1.same s2) (g1.there p n2) h2 (aL.tk s2.cK r)
def wM(K:Aa):CL K (vL K) .ret:=λ{fs σ H Q u l} s v q=>by
 obtain⟨a,vs,rfl,h,rs⟩:=v.sq s;exact⟨a,vs,rfl,h,Gu .refl s rs q⟩
def Ij(hK:X.K=K)(hg:Gl X "list")(hm:X.mg "list"=bn)(ha:QF X K fs e wl au)(he:‹dZ X e []›)(bN:‹fb X pos []›):LF X K fs (.Call (.Name "list" p) [e] [] pos) wl au:=wU (q9 K hK) (wM K) hg hm boot_list ha ⋯ ⋯ he bN
def qY(hK:X.K=K)(hg:Gl X "len")(hm:X.mg "len"=bn)(ha:QF X K fs e wl au)(he:‹dZ X e []›)(bN:‹fb X pos []›):EF X K fs (.Call (.Name "len" p) [e] [] pos) (.bind wl uv) au:=xV (cY K hK) (zV K) hg hm boot_len ha ⋯ ⋯ he bN
def yp(ha:EF X K fs e w au)(he:gt [e] X.env=(false,jp e X.env)::gt [] X.env):AF X K fs [e] (An 1 .v) (R:=R) (λk=>.bind w λx=>k [x]) au:=ae ha aJ he
def md(hK:X.K=K)(hg:Gl X "len")(hm:X.mg "len"=bn)(ha:EF X K fs e w au)(he:‹dZ X e []›)(bN:‹fb X pos []›):EF X K fs (.Call (.Name "len" p) [e] [] pos) (.bind w λx=>kL iq [x]) au:=jE (cY K hK) (FG K) hg hm boot_len (yp ha he) ⋯ ⋯ he bN
def GR(hg:Gl X "abs")(hm:X.mg "abs"=bn)(ha:EF X K fs e w au)(he:‹dZ X e []›)(bN:‹fb X pos []›):EF X K fs (.Call (.Name "abs" p) [e] [] pos) (.bind w λx=>kL k8 [x]) au:=jE yd FI hg hm boot_abs (yp ha he) ⋯ ⋯ he bN
def jD(hg:Gl X "int")(hm:X.mg "int"=bn)(ha:EF X K fs e w au)(he:‹dZ X e []›)(bN:‹fb X pos []›):EF X K fs (.Call (.Name "int" p) [e] [] pos) (.bind w λx=>kL kC [x]) au:=xU uP FH hg hm boot_int (yp ha he) ⋯ ⋯ he bN
def Mw(hc:X.calm=true)(hg:Gl X "max")(hm:X.mg "max"=bn)(ha:EF X K fs a wa au)(hb:EF X K au b wb fs2)(he:‹gt [a,b] X.env=(false,jp a X.env)::gt [b] X.env›)(xl:‹dZ X b []›)(bN:‹(Fk pos (gt [b] X.env)).any (·.1)=false›):EF X K fs (.Call (.Name "max" p) [a,b] [] pos) (.bind wa λx=>.bind wb λy=>kL yk [x,y]) fs2:=jE (n:=2) (uM hc) FE hg hm boot_max (ae ha (ae hb aJ xl) he) ⋯ ⋯ he bN
def Mv(hc:X.calm=true)(hg:Gl X "min")(hm:X.mg "min"=bn)(ha:EF X K fs a wa au)(hb:EF X K au b wb fs2)(he:‹gt [a,b] X.env=(false,jp a X.env)::gt [b] X.env›)(xl:‹dZ X b []›)(bN:‹(Fk pos (gt [b] X.env)).any (·.1)=false›):EF X K fs (.Call (.Name "min" p) [a,b] [] pos) (.bind wa λx=>.bind wb λy=>kL yj [x,y]) fs2:=jE (n:=2) (uL hc) FC hg hm boot_min (ae ha (ae hb aJ xl) he) ⋯ ⋯ he bN
def M7:O PV->W (O Bool)
 |[]=>.ret []
 |.bl b::r=>.bind (M7 r) λl=>.ret (b::l)
 |_=>.fail
theorem tG:∀{l:O PV}{Q:O Bool->Prop},(M7 l).run Q->∃bs:O Bool,l=bs.map PV.bl/\Q bs
 |[],Q,h=>⟨[],rfl,h⟩
 |.bl b::r,Q,h=>by
  obtain⟨bs,e,q⟩:=tG (l:=r) h;exact⟨b::bs,by rw[e];rfl,q⟩
 |.a8::r,Q,h=>h.elim
 |.int _::r,Q,h=>h.elim
 |.str _::r,Q,h=>h.elim
 |.tup _::r,Q,h=>h.elim
 |.ref _::r,Q,h=>h.elim
 |.ty _::r,Q,h=>h.elim
 |.cl _::r,Q,h=>h.elim
@[simp] theorem tH:∀bs:O Bool,M7 (bs.map PV.bl)=.ret bs
 |[]=>rfl
 |b::bs=>by
  show am (M7 (bs.map PV.bl)) _=_;rw[tH bs];rfl
def yo(l:O PV):W PV:=.bind (M7 l) λbs=>.ret (.bl (bs.all id))
def MF(hK:X.K=K)(hc:X.calm=true)(hg:Gl X "all")(hm:X.mg "all"=bn)(ha:yr X K fs e wl au)(he:‹dZ X e []›)(bN:‹fb X pos []›):EF X K fs (.Call (.Name "all" p) [e] [] pos) (.bind wl yo) au:=⟨PE.imp (bh (uQ K hK hc) hg hm boot_all (ah ha.p ax he) ⋯ ⋯ he bN) λσ H Q ⟨sr,q⟩=>⟨sr,wl.mono (λl q1 u1 H1 g1 s1 _ v1=>by
 obtain⟨bs,e,q2⟩:=tG q1;obtain⟨a,vs,rfl,h1,r1⟩:=v1 _ H1 .refl s1;rw[e]at r1;have:=mf r1;subst this;exact⟨a,bs,rfl,h1,q2 _ H1 g1 s1 (.bl _)⟩) q⟩⟩
def kU(k:Kd)(x:PV):W PV:=match x with
 |.ref _=>.fail
 |.ty _=>.fail
 |.ob _ _=>.fail
 |.hand=>.fail
 |x=>.ret (.bl (k.is x))
def rV(K:Aa):O V->Hp->VK->Prop:=λxs H Q=>∃x c t b,xs=[x,.ty c]/\(fN K H x t\/(t=.type "tuple"/\∃a vs,x=.ref a/\dP K H a vs)\/(t=.type "list"/\∃a vs,x=.ref a/\cX K H a vs)\/(t=.type "dict"/\∃a,x=.ref a/\X5 H a))/\Ay K t (.type c)=al b/\Q (.bl b) H
def me(hK:X.K=K):bE X (.builtin "isinstance") (rV K):=by
 subst hK;intro Z s σ H xs us Q I r h;obtain⟨x,c,t,b,rfl,ty|ty|⟨rfl,a,vs,rfl,hL⟩|⟨rfl,a,rfl,hD⟩,e,q⟩:=h
 .exact dD Z s σ H _ us Q I r ⟨x,c,t,b,rfl,ty,e,q⟩
 .exact uO X.K rfl Z s σ H _ us Q I r ⟨x,c,t,b,rfl,.inr ty,e,q⟩
 .obtain⟨u,w,rfl,r1,r2⟩:=vals2 r;cases r1;cases r2;obtain⟨aw,_,⟨o,n,h1,h2,_⟩,_⟩:=I.list hL;exact AQ Dy I.cR ⟨o,h1,h2⟩ e (λz=>nomatch z) λtk=>⟨.bl b,H,I.tok _,rfl,q⟩
 .obtain⟨u,w,rfl,r1,r2⟩:=vals2 r;cases r1;cases r2;have:∃o,s.heap.get? a=al o/\o.cls=.type "dict":=by
   rcases hD with⟨aZ,e⟩|⟨aZ,e⟩
   .obtain⟨_,_,vs,_,o,_,_,h1,h2,_⟩:=xY I.aW e;exact⟨o,h1,h2.1⟩
   .obtain⟨_,_,xs,_,o,_,_,h1,h2,_⟩:=xX I.aW e;exact⟨o,h1,h2.1⟩
  obtain⟨o,h1,h2⟩:=this;exact AQ Dz I.cR ⟨o,h1,h2⟩ e (λz=>nomatch z) λtk=>⟨.bl b,H,I.tok _,rfl,q⟩
def MC(hK:X.K=K)(k:Kd){x:Str}(hg:Gl X "isinstance")(hm:X.mg "isinstance"=bn)(ha:EF X K fs a wa au)(W2:Gl X x)(WO:X.mg x=bn)(hv:o0 x=al (.type k.name))(hn: ~~~(x≠"__name__"))(hd: ~~~(dg x))(he:‹gt [a,.Name x p2] X.env=(false,jp a X.env)::gt [.Name x p2] X.env›)(xl:‹gt [Expr.Name x p2] X.env=(false,jp (.Name x p2) X.env)::gt [] X.env›)(bN:‹(Fk pos (gt [Expr.Name x p2] X.env)).any (·.1)=false›):EF X K fs (.Call (.Name "isinstance" p) [a,.Name x p2] [] pos) (.bind wa (kU k)) au:=
 ⟨PE.imp (bh (me hK) hg hm wf (ah ha.p (ah (gQ (v:=.ty k.name) W2 WO hv rfl hn hd) ax xl) he) ⋯ ⋯ he bN) λσ H Q ⟨sr,q⟩=>⟨sr,wa.mono (λx q1 u1 H1 g1 s1 v1=>by
  have fin:∀{t:ci}{y:PV},fN K H1 u1 t->Ay K t (.type k.name)=al (k.is y)->Q (.bl (k.is y)) H1->rV K [u1,.ty k.name] H1 Q:=λty e q=>⟨_,_,_,_,rfl,.inl ty,e,q⟩;cases v1 with
  |a8=>exact fin .a8 (by rw[(du K).1 k];cases k<;>rfl) (q1 _ H1 g1 s1 (.bl _))
  |bl b=>exact fin (.bl b) (wV K b k) (q1 _ H1 g1 s1 (.bl _))
  |int b=>exact fin (.int b) (jy K b k) (q1 _ H1 g1 s1 (.bl _))
  |str b=>exact fin (.str b) (sG K b k) (q1 _ H1 g1 s1 (.bl _))
  |ty n=>exact q1.elim
  |ref n=>exact q1.elim
  |ob _ _ _ _ _=>exact q1.elim
  |hand _=>exact q1.elim
  | @dk a o aZ ks l e k1 r=>exact⟨_,_,_,_,rfl,.inr (.inr (.inr ⟨rfl,_,rfl,.inl ⟨_,.inr ⟨_,e⟩⟩⟩)),(show _=al (k.is (.dv ks l)) by rw[(du K).2.2 k];cases k<;>rfl),q1 _ H1 g1 s1 (.bl _)⟩
  | @dt a o aZ ks l e k1 r=>exact⟨_,_,_,_,rfl,.inr (.inr (.inr ⟨rfl,_,rfl,.inr ⟨_,.inr ⟨_,e⟩⟩⟩)),(show _=al (k.is (.dv ks l)) by rw[(du K).2.2 k];cases k<;>rfl),q1 _ H1 g1 s1 (.bl _)⟩
  | @cl p vs l e r=>exact⟨_,_,_,_,rfl,.inr (.inr (.inl ⟨rfl,_,_,rfl,e.sq⟩)),(show _=al (k.is (.cl l)) by rw[(du K).2.1 k];cases k<;>rfl),q1 _ H1 g1 s1 (.bl _)⟩
  | @tup p vs l e r=>exact⟨_,_,_,_,rfl,.inr (.inl ⟨rfl,_,_,rfl,dP.of e⟩),sF K _ k,q1 _ H1 g1 s1 (.bl _)⟩) q⟩⟩
def vI(l:O PV):PV->W (O PV)
 |.int k=>.gh (-(2 ^ 63)<=k/\k<2 ^ 63/\l.length*k.toNat<=sizeLine) (.ret (An k.toNat l).flatten)
 |_=>.fail
def Gx(ha:LF X K fs a wl au)(hb:EF X K au b wb fs2):LF X K fs (.BinOp a .Mult b pos) (.bind wl λl=>.bind wb λy=>vI l y) fs2:=⟨PE.imp (iY HF ha.p hb.p) λσ H Q ⟨sr,q⟩=>⟨sr,wl.mono (λl q1 a vs H1 g1 s1 n e v=>⟨s1,wb.mono (λy q2 u2 H2 g2 s2 v2=>by
 cases v2 with
 |int k=>
  have r2:=g2.rC s1 v;refine⟨a,k,vs,rfl,rfl,((g2.gY e (λz=>sr.noOwn n (g1.ev.c8 z)))),q2.1.1,q2.1.2.1,by rw[r2.length];exact q2.1.2.2,λp hp=>?_⟩;have sm:=dU hp (.lst (An k.toNat vs).flatten);have gg:=g1.trans g2;exact q2.2 p _ _ (gg.trans (bP.same sm)) (s2.same sm) (gg.there p hp) ao (aL.tk sm.cK (r2.rep k.toNat))
 |_=>exact q2.elim) q1⟩) q⟩⟩
def part:PV->W (Option Int)
 |.int i=>.ret (al i)
 |_=>.fail
def bR:OF X K fs bn (.ret bn):=⟨PO.imp zm λσ H Q ⟨sr,q⟩=>q H .refl sr⟩
def bj(h:EF X K fs e w au):OF X K fs (al e) (.bind w part) au:=⟨PO.imp (zl h.p) λσ H Q ⟨sr,q⟩=>⟨sr,w.mono (λx q1 u1 H1 g1 s1 v1=>by
 cases v1 with
 |int i=>exact⟨_,rfl,q1 H1 g1 s1⟩
 |_=>exact q1.elim) q⟩⟩
variable{el eh:Option im}{lo hi:W (Option Int)}
def Ii(hK:X.K=K)(he:yr X K fs e wl au)(hl:OF X K au el lo fs2)(hh:OF X K fs2 eh hi fs3):LF X K fs (.Subscript e (.Slice el eh bn p2) pos) (.bind wl λl=>.bind lo λi=>.bind hi λj=>.ret (iU l i j)) fs3:=⟨PE.imp (oO (vz K hK) he.p hl.p hh.p) λσ H Q ⟨sr,q⟩=>⟨sr,wl.mono (λl q1 u1 H1 g1 s1 _ v1=>⟨s1,lo.mono (λi q2 H2 g2 s2=>⟨s2,hi.mono (λj q3 H3 g3 s3=>by
 obtain⟨a,vs,rfl,h1,r1⟩:=v1 _ H3 (g2.trans g3) s3;exact⟨a,vs,rfl,h1,Gu ((g1.trans g2).trans g3) s3 (r1.cut i j) q3⟩) q2⟩) q1⟩) q⟩⟩
def eX(x:PV)(i j:Option Int):W PV:=match x with
 |.str z=>.gh (z.length<=sizeLine) (.ret (.str (Di z i j)))
 |_=>.fail
def cM(he:EF X K fs e w au)(hl:OF X K au el lo fs2)(hh:OF X K fs2 eh hi fs3):EF X K fs (.Subscript e (.Slice el eh bn p2) pos) (.bind w λx=>.bind lo λi=>.bind hi λj=>eX x i j) fs3:=⟨PE.imp (oO Hn he.p hl.p hh.p) λσ H Q ⟨sr,q⟩=>⟨sr,w.mono (λx q1 u1 H1 g1 s1 v1=>⟨s1,lo.mono (λi q2 H2 g2 s2=>⟨s2,hi.mono (λj q3 H3 g3 s3=>by
 cases v1 with
 |str z=>exact⟨_,rfl,q3.1,q3.2 _ H3 ((g1.trans g2).trans g3) s3 (.str _)⟩
 |_=>exact q3.elim) q2⟩) q1⟩) q⟩⟩
def fF(h:yr X K fs e wl au){neg:Bool}:∀σ H Q,fE K fs (.bind wl λl=>.ret (.bl (if neg then !l.isEmpty else l.isEmpty))) au σ H Q->JD (λx y H Q=>∃p q xs,x=.ref p/\y=.ref q/\cX K H p xs/\cX K H q []/\Q (.bl (if neg then !xs.isEmpty else xs.isEmpty)) H) (Tj K fs wl au) (fL K au (.ret [])) σ H Q:=λσ H Q ⟨sr,q⟩=>
 ⟨sr,wl.mono (λl q1 u1 H1 g1 s1 _ v1=>⟨s1,λa2 X8 H2 g2 s2 n2 e2 r2=>by
  cases r2;obtain⟨a,vs,rfl,h1,r1⟩:=v1 _ H2 g2 s2;refine⟨a,a2,vs,rfl,rfl,h1,cX.of e2,?_⟩;rw[xO r1];exact q1 _ H2 (g1.trans g2) s2 (.bl _)⟩) q⟩
def wQ:LF X K fs (.List [] pos) (.ret []):=Gy (n:=0) aJ
theorem Tq(hK:X.K=K)(hu:X.A.units+200<cLine)(h:yr X K fs e wl au)(hk:‹pr .Eq (.List [] p2)=false›):EF X K fs (.Compare e [.Eq] [.List [] p2] pos) (.bind wl λl=>.ret (.bl l.isEmpty)) au:=⟨PE.imp (jv (jV K hK ∅) h.p wQ.p hk) (fF (neg:=false) h)⟩
theorem Ke(hK:X.K=K)(hu:X.A.units+200<cLine)(h:yr X K fs e wl au)(hk:‹pr .Eq (.List [] p2)=false›):TF X K fs (.Compare e [.Eq] [.List [] p2] pos) (.bind wl λl=>.ret l.isEmpty) au:=⟨PT.imp (dj (jV K hK ∅) h.p wQ.p hk) λσ H Q q=>fF (neg:=false) h σ H _ (Fg σ H Q q)⟩
theorem F6(hK:X.K=K)(hu:X.A.units+200<cLine)(h:yr X K fs e wl au)(hk:‹pr .NotEq (.List [] p2)=false›):TF X K fs (.Compare e [.NotEq] [.List [] p2] pos) (.bind wl λl=>.ret (!l.isEmpty)) au:=⟨PT.imp (dj (qC K hK ∅) h.p wQ.p hk) λσ H Q q=>fF (neg:=true) h σ H _ (Fg σ H Q q)⟩
end
end
end FL
variable{z:Bt}{f1 f2:FL.aX}{oE:Cs}{kt:Nat}
namespace FL
section
variable[bu]
variable{K:Aa}
abbrev b2(m:M2)(wa wb:W PV):W PV:=.bind wa λx=>.bind wb λy=>of2 m x y
abbrev t2(m:M2)(wa wb:W PV):W Bool:=.bind wa λx=>.bind wb λy=>.bind (of2 m x y) va
abbrev c1(m:mm)(w:W PV):W PV:=.bind w λx=>kL m [x]
abbrev n8(wl:W (O PV))(wb:W PV):W PV:=.bind wl λl=>.bind wb λy=>Qt l y
abbrev ou(a b:W Bool):W Bool:=.bind a λk=>if k=true then b else .ret false
abbrev Kc(a b:W Bool):W Bool:=.bind a λk=>if k=true then .ret true else b
abbrev Ha(a:W Bool):W Bool:=.bind a λk=>.ret (!k)
abbrev gx{α:Type}(t:W Bool)(a b:W α):W α:=.bind t λk=>if k=true then a else b
section
variable{a:im}{rest:O nn}{p:Pos}{S T T2:Type}{hd:S->aX}{s0:S}{w:W PV}{wt:PV->W T2}{is:O Nat}{fs2:S->T2->aX}{k:S->W T}{out:T->End}{x:Bool}
def SF.Md{f:PV->S->W S}(hp:Da (gl X.prog X.w) X.A X.env X.xe)(hc:X.calm=true)(hi:tL X K fs tg iter wl f1)(hl:dR f1 (hd s0))(hg:PG X tg (hJ i))(hb:∀s p,SF X K false ((hd s).set i (al (.val p))) body (f p s) λs'=>.nc (hd s'))(hr:∀s,SF X K x (hd s) rest (k s) out)(hs:uV X iter:=by intro _;rfl):SF X K x fs (.For tg iter body [] pos::rest) (.bind wl λl=>.bind (gb l s0 f) k) out:=SF.for hp hc hi hl (λs=>Rc hg) (λ_ _=>rfl) hb hr hs
def SF.xu{inj:R->T}{f:PV->S->W (Lp S R)}(hp:Da (gl X.prog X.w) X.A X.env X.xe)(hc:X.calm=true)(hi:tL X K fs tg iter wl f1)(hl:dR f1 (hd s0))(hg:PG X tg (hJ i))(ho:∀t,(out (inj t)).pe)(hb:∀s p,SF X K false ((hd s).set i (al (.val p))) body (f p s) (Lx hd λr=>out (inj r)))(hr:∀s,SF X K x (hd s) rest (k s) out)(hs:uV X iter:=by intro _;rfl):SF X K x fs (.For tg iter body [] pos::rest) (.bind wl λl=>.bind (FL.eK l s0 f) (sQ k inj)) out:=SF.eK hp hc hi hl (λs=>Rc hg) (λ_ _=>rfl) ho hb hr hs
def SF.Mb{inj:R->T}{wb:T2->S->W (Lp S R)}(hp:Da (gl X.prog X.w) X.A X.env X.xe)(hc:X.calm=true)(hi:tL X K fs tg iter wl f1)(hl:dR f1 (hd s0))(hg:∀s,GF X K (hd s) tg is wt (fs2 s))(ho:∀t,(out (inj t)).pe)(hb:∀s t,SF X K false (fs2 s t) body (wb t s) (Lx hd λr=>out (inj r)))(hr:∀s,SF X K x (hd s) rest (k s) out)(hs:uV X iter:=by intro _;rfl):SF X K x fs (.For tg iter body [] pos::rest) (.bind wl λl=>.bind (FL.eK l s0 λp s=>.bind (wt p) λt=>wb t s) (sQ k inj)) out:=SF.eK hp hc hi hl hg (λ_ _=>rfl) ho hb hr hs
def SF.par{px:Pos}{k2:Nat}{k:PV->PV->W T}(hc:X.calm=true)(hN:X.N.Nodup)(hi:X.N[i]?=al y)(hj:X.N[j]?=al z)(E6:i≠j)(hx:X.env.scope.names.lookup y=al .local)(hy:X.env.scope.names.lookup z=al .local)(ha:EF X K fs a wa f1)(hb:EF X K f1 b wb f2)(hr:∀u v,SF X K x ((f2.set i (al (.val u))).set j (al (.val v))) rest (k u v) out)(hw:‹ww [.Tuple [.Name y px,.Name z py] kt pt] (.Tuple [a,b] k2 oE) X.env=pure (al [y,z])›)(hs:‹wp [.Tuple [.Name y px,.Name z py] kt pt] (.Tuple [a,b] k2 oE) pos.line X.env=pure false›)(he:‹gt [a,b] X.env=(false,jp a X.env)::gt [b] X.env›)(xl:‹dZ X b []›):SF X K x fs (.Assign [.Tuple [.Name y px,.Name z py] kt pt] (.Tuple [a,b] k2 oE) pos::rest) (.bind wa λu=>.bind wb λv=>k u v) out:=
 SF.step (vR hc hN hi hj E6 hx hy (ah ha.p (ah hb.p ax xl) he) hw hs) λD σ H ⟨sr,q⟩=>⟨sr,wa.mono (λu q1 u1 H1 g1 s1 v1=>⟨s1,wb.mono (λv q2 u2 H2 g2 s2 v2=>by
  have s3:=s2.dW (g2.vr s1 v1) i;have s4:=s3.dW v2 j;exact⟨_,_,rfl,_,k u v,hr u v,s4,(k u v).mono (λt q3=>q3.go (((g1.trans g2).f.trans (bT.dW s2 _ _ i)).trans (bT.dW s3 _ _ j)) sr s4) q2⟩) q1⟩) q⟩
end
end
end FL
variable{ns:O Int}{G:Nat->O Int->Prop}
namespace FL
section
variable[bu]
variable{K:Aa}
def KG(K:Aa)(m:O PV->O PV->W (PV×O PV)):Sp:=λvs H Q _=>TB H/\∃a yE ws lo l,vs=.ref a::yE/\H a=al (.lst ws)/\aL K [] H ws lo/\aL K [] H yE l/\(m lo l).run λt=>∀u qe H',(∀c o,c≠a->H c=al o->o.nt=true->H' c=al o)->TB H'->(∀b,H' b=bn->H b=bn)->H' a=al (.lst qe)->aL K [] H' qe t.2->VR K [] H' u t.1->Q u H'
section
variable{x:Str}{st:nn}{N:O Str}
def yi(a:ce)(lo l:O PV)(n:Nat):aX:=al (.ol (al a) lo)::(l.map λv=>al (SL.val v))++An (n-1-l.length) bn
def aL.slot(r:aL K [] H vs l){s:SL}(h:(l.map λv=>al (SL.val v))[i]?=al (al s)):∃u v,vs[i]?=al u/\s=.val v/\VR K [] H u v:=by
 rw[AE]at h;cases e:l[i]? with
 |none=>rw[e]at h;cases h
 |some v=>
  rw[e]at h;obtain⟨u,h1,h2⟩:=r.get e;cases h;exact⟨u,v,h1,rfl,h2⟩
theorem Xr{m:O PV->og (PV×O PV) n}(Fn:gD K x qual st f fd)(S:bI N ps (aj st))(hn:n+1=ps.length)(Ç:∀(a:ce) (lo l:O PV),l.length=n->∀(bC:ci) (A:u8) (outer:O Env) (s:db) (H:Hp) (E:XK),bf k (A.deeper (wT qual (aj st) s.heap.objs.size f bC))->SF (ic iz P w K mg base N qual (aj st) f bC A outer s H E).yG K false (yi a lo l N.length) (aY st) (gG n (m lo) l) λt=>.ro t.1 a t.2):ba P w K mg base iz (k+1) f fd ps (KG K λlo l=>gG n (m lo) l):=by
 refine Fn.ok S (λvs H Q E h=>?_) (λbC A outer s H vs Q E hr h=>?_)
 .obtain⟨_,a,yE,ws,lo,l,rfl,_,_,r,q⟩:=h;rw[Ah,r.length,fU q];exact hn
 obtain⟨tb,a,yE,ws,lo,l,rfl,ha,ub,r,q⟩:=h;have NR:=r.length;have Fb:∀{i:Nat}{s:SL},(yi a lo l N.length)[i]?=al (al s)->(i=0/\s=.ol (al a) lo)\/∃j u v,i=j+1/\yE[j]?=al u/\s=.val v/\VR K [] H u v:=λ{i s} e=>by
  unfold yi at e;cases i with
  |zero=>simp at e;exact .inl ⟨rfl,e.symm⟩
  |succ j=>
   by_cases c:j<l.length
   .rw[Bd (by simpa using c)]at e;obtain⟨u,v,h1,h2,h3⟩:=aL.slot r e;exact .inr ⟨j,u,v,rfl,h1,h2,h3⟩
   .rw[Ba (by simpa using c),BF]at e
    split at e<;>cases e
 have sr:aR K H (L2.start N (.ref a::yE)) (yi a lo l N.length):=by
  refine⟨?_,λi s e=>?_,λi j s t x y b e1 e2 o1 o2 q1 q2 _ _=>?_,tb⟩
  .unfold L2.start yi;rw[Ap,AB,BR,Ap,Ah,Ah,AB,BR];lia
  .rcases Fb e with⟨rfl,rfl⟩|⟨j,u,v,rfl,h1,rfl,h3⟩
   .exact⟨.ref a,fW rfl,.inr ⟨a,rfl,λb z=>Option.some.inj z,ws,ha,ub⟩⟩
   .exact⟨u,fW (by simpa using h1),.inl ⟨v,rfl,h3⟩⟩
  .rcases Fb e1 with⟨rfl,rfl⟩|⟨j1,u,v,rfl,h1,rfl,h3⟩
   .rcases Fb e2 with⟨rfl,rfl⟩|⟨j1,u,v,rfl,h1,rfl,h3⟩
    .rfl
    .cases o2
   .cases o1
 refine⟨_,(Ç a lo l (fU q) bC A outer s H E hr).p,sr,(gG n (m lo) l).mono (λt q1 u σ' aK H' g s' ho rv=>?_) q⟩;obtain⟨i,e⟩:=ho;obtain⟨u',e',r'⟩:=s'.at' i _ e;rcases r' with⟨v,z,_⟩|⟨b,rfl,hb,qe,h1,h2⟩
 .cases z
 have Xe:=hb a rfl;subst Xe;refine q1 u qe H' (λc o nc e=>(g.keep c o e λz=>?_).1) s'.tb g.there h1 h2 rv;obtain⟨j,t',x,z1,z2,z3,z4⟩:=z;rcases Fb z1 with⟨rfl,rfl⟩|⟨j1,u,v,rfl,_,rfl,_⟩
 .have:=lH z3;simp at this;rcases z4 with rfl|z4
  .exact nc this.symm
  .cases z4
 .cases z2
def kF(G:Nat->O Int->Prop):Nat->O V->Prop:=λn ws=>∃ns:O Int,ws=ns.map V.int/\G n ns
def lL{b:ce}:V.ref b∉ns.map V.int:=λh=>by obtain⟨_,_,e⟩:=EK.mp h;cases e
theorem Hz{m:O PV->O PV->W (PV×O PV)}{mp:O PV->W PV}(F:ba P w K mg base iz k f fd ps (KG K m))(hm:∀j ns l Q,G j ns->j+d<=mL->(mp l).run Q->(m (ns.map PV.int) l).run λt=>Q t.1/\∃HU:O Int,t.2=HU.map PV.int/\G (j+d) HU):ba P w K mg base iz k f fd ps (nZ K (.p (kF G) d::An n .v) mp):=F.imp λvs H Q E h=>by
 obtain⟨tb,jj,l,ha,q⟩:=h;cases ha with
 | @p a _ _ vs ks l e r t=>
  obtain⟨j,_,hj,e,⟨ns,rfl,hG⟩,_⟩:=e;have tv:∀{n:Nat}{vs:O V}{l:O PV},dS K H jj vs (An n .v) l->aL K [] H vs l:=by
   intro n
   induction n with
   |zero=>intro vs l h;cases h;exact .nil
   |succ n ih=>intro vs l h;cases h with|v r t=>exact .cons r (ih t)
  refine⟨tb,a,vs,ns.map V.int,ns.map PV.int,l,rfl,e,ng _ _ ns,tv t,(m _ _).mono (λt q1 u qe H' sx Pa WC e' r' rv=>?_) (hm j ns l _ hG ∅ q)⟩;obtain⟨q1,HU,et,Xg⟩:=q1;rw[et]at r';have:=m9 r';subst this;refine q1 u H' ⟨λb o eb nb nt=>sx b o (λz=>?_) eb nt,Pa,WC,λb ψ d' p=>?_,λb z=>sx b _ (λy=>by subst y;rw[show H b=_ from z]at e;cases e) z rfl⟩ rv
  .subst z;exact nb _ _ ⟨0,rfl,rfl⟩
  .obtain⟨i,e1,e2⟩:=p;cases i with
   |zero=>simp at e1 e2;obtain⟨rfl,rfl⟩:=e1;subst e2;exact⟨j+d,_,by lia,e',⟨HU,rfl,Xg⟩,λb hb=>(lL hb).elim⟩
   |succ i=>
    simp at e1;rw[BF]at e1
    split at e1<;>simp at e1
end
section
variable{Hi:O nn}{T:Type}{w:W T}{out:T->End}{x:Bool}
def K4(G:O Int->Prop)(l:O PV)(w:W T):W T:=.gh (∃ns:O Int,l=ns.map PV.int/\G ns) w
def SF.cj(i m:Nat)(hs:fs[i]?=al (al (.ol bn l)))(hr:SF X K x (fs.set i (al (.cj (kF G) 0 m))) Hi w out)(hm: ~~~(m<=mL)):SF X K x fs Hi (K4 (G 0) l w) out:=⟨λZ s σ H D I ⟨sr,q⟩=>by
 obtain⟨⟨ns,el,hG⟩,q⟩:=q;obtain⟨a,ws,e1,h1,r1⟩:=ez sr hs;subst el;have:=m9 r1;subst this;obtain⟨s2,g2⟩:=jT (t':=.cj (kF G) 0 m) sr hs rfl (by simp) e1 (λ_ _ _ z=>z:iy a H H) λtk=>⟨⟨0,_,Aj 0,h1,⟨ns,rfl,hG⟩,λb hb=>(lL hb).elim⟩,Bz m,hm⟩;exact hr.p Z s σ H D I ⟨s2,w.mono (λt q2=>q2.go g2 sr s2) q⟩⟩
end
end
end FL
variable{W':FL.W PL.PV}
namespace FL
section
variable[bu]
variable{K:Aa}
abbrev XJ(m m':M2)(wa wb wc:W PV):W Bool:=.bind wa λx=>.bind wb λy=>.bind (of2 m x y) λz=>.bind (iV z (.bind wc λw=>of2 m' y w)) va
abbrev Va(wa wb:W PV):W PV:=.bind wa λx=>NA x wb
abbrev xt(wl:W (O PV)):W PV:=.bind wl λl=>.ret (.cl l)
section
variable{p:Pos}{x:Str}{WL:W (O PV)}
def Fp{m:O PV->W PV}(G:uX X.prog X.w X.K X.mg X.base x k ps (nZ K ks m))(hr:bf k' X.A)(hk:k<=k')(hg:Gl X x)(ha:AF X K fs (e::es) ks B f1)(hW:W'=B m)(cT: ~~~(dg x))(he:‹dZ X e es›)(bN:‹fb X pos es›):EF X K fs (.Call (.Name x p) (e::es) [] pos) W' f1:=hW▸Jh G hr hk hg ha cT he bN
def zY{m:O PV->W (O PV)}{B:(O PV->W (O PV))->W (O PV)}(G:uX X.prog X.w X.K X.mg X.base x k ps (mD K ks m))(hr:bf k' X.A)(hk:k<=k')(hg:Gl X x)(ha:AF X K fs (e::es) ks B f1)(hW:WL=B m)(cT: ~~~(dg x))(he:‹dZ X e es›)(bN:‹fb X pos es›):LF X K fs (.Call (.Name x p) (e::es) [] pos) WL f1:=hW▸Ik G hr hk hg ha cT he bN
def km{x1}(h:AF X K fs es (An n .v) B f1)(hW:W'=B λl=>.ret (.tup l))(hn: ~~~(n<=1000)):EF X K fs (.Tuple es x1 pos) W' f1:=hW▸Mr h hn
def bt{B:(O PV->W (O PV))->W (O PV)}(h:AF X K fs es (An n .v) B f1)(hW:WL=B λl=>.ret l)(hn: ~~~(n<=1000)):LF X K fs (.List es pos) WL f1:=hW▸Gy h hn
def wR{f:PV->W PV}(hc:X.calm=true)(S:cw X.env.scope X.N sc N' ix)(hi:tL X K fs tg iter wl f1)(hg:∀cl C s2 H2 fp,PG (il X sc N' cl C s2 H2 fp) tg (hJ i))(he:∀cl C s2 H2 fp t,EF (il X sc N' cl C s2 H2 fp) K ((cG ix f1).set i (al (.val t))) Ð (f t))(h0:ix[i]?=al bn)(hs:uV X iter:=by intro _;rfl):LF X K fs (.ListComp Ð [⟨tg,iter,[],0⟩] sc pos) (.bind wl λl=>jZ l f) f1:=
 have h1:(cG ix f1)[i]?=al bn:=by unfold cG;rw[AE,h0];rfl
 Lz hc S hi (λcl C s2 H2 fp=>Rc (hg cl C s2 H2 fp)) he (λ_=>rfl) (Qi h1) (λj hj=>by rw[CH]at hj;subst hj;exact h0) hs
end
def Mf(h:∀vs H Q E,¬sp vs H Q E):ba P w K mg base iz k f fd ps sp:=⟨λvs H Q E q=>(h _ _ _ _ q).elim,λA outer s H args us vs Q E _ _ _ _ q=>(h _ _ _ _ q).elim⟩
def Hm{m:og PV n}(h:∀l Q,l.length=n->¬(gG n m l).run Q):∀vs H Q E,¬nZ K ks (gG n m) vs H Q E:=λvs H Q E ⟨_,_,l,_,q⟩=>h l _ (fU q) q
theorem cy(hr:bf k A):A.units+200<cLine:=by have:=hr.un;lia
end
section
variable[bu]
variable{K:Aa}
mutual
def PV.eS:PV->Bool
 |.tup l=>dX l
 |.cl l=>dX l
 |.ref _=>false
 |.ty _=>false
 |.dv _ _=>false
 |.ob _ _=>false
 |.hand=>false
 |_=>true
def dX:O PV->Bool
 |[]=>true
 |x::l=>PV.eS x&&dX l
end
mutual
def PV.eL:PV->Nat
 |.tup l=>dB l+1
 |.cl l=>dB l+1
 |_=>0
def dB:O PV->Nat
 |[]=>0
 |x::l=>max (PV.eL x) (dB l)
end
mutual
def hU:PV->PV->Bool
 |.a8,.a8=>true
 |.bl a,.bl b=>a==b
 |.bl a,.int b=>(if a then 1 else 0)==b
 |.int a,.bl b=>a==(if b then 1 else 0)
 |.int a,.int b=>a==b
 |.str a,.str b=>a==b
 |.tup l,.tup m=>dc l m
 |.cl l,.cl m=>dc l m
 |_,_=>false
def dc:O PV->O PV->Bool
 |[],[]=>true
 |x::l,y::m=>hU x y&&dc l m
 |_,_=>false
end
theorem kh:∀{l:O PV}{j:Nat}{x:PV},dX l=true->l[j]?=al x->PV.eS x=true
 |[],_,_,_,e=>by simp at e
 |y::l,0,x,h,e=>by
  simp at e;subst e;rw[dX,Bw]at h;exact h.1
 |y::l,j+1,x,h,e=>by
  rw[dX,Bw]at h;exact kh h.2 (by simpa using e)
theorem l9:∀{l:O PV}{j:Nat}{x:PV},l[j]?=al x->PV.eL x<=dB l
 |[],_,_,e=>by simp at e
 |y::l,0,x,e=>by
  simp at e;subst e;rw[dB];lia
 |y::l,j+1,x,e=>by
  have:=l9 (by simpa using e);rw[dB];lia
mutual
theorem pI:∀(x:PV),PV.eS x=true->hU x x=true
 |.a8,_=>by rw[hU]
 |.bl b,_=>by rw[hU];simp
 |.int i,_=>by rw[hU];simp
 |.str i,_=>by rw[hU];simp
 |.tup l,h=>by rw[hU];exact f7 l (by rw[PV.eS]at h;exact h)
 |.cl l,h=>by rw[hU];exact f7 l (by rw[PV.eS]at h;exact h)
 |.ref _,h=>by rw[PV.eS]at h;cases h
 |.ty _,h=>by rw[PV.eS]at h;cases h
 |.dv _ _,h=>by rw[PV.eS]at h;cases h
 |.ob _ _,h=>by rw[PV.eS]at h;cases h
 |.hand,h=>by rw[PV.eS]at h;cases h
theorem f7:∀(l:O PV),dX l=true->dc l l=true
 |[],_=>by rw[dc]
 |x::l,h=>by
  rw[dX,Bw]at h;rw[dc,pI x h.1,f7 l h.2];rfl
end
def xJ(l m:O PV)(j:Nat):Bool:=match l[j]?,m[j]? with|some x,al y=>hU x y|_,_=>true
theorem hO:∀(l m:O PV),((Cc (min l.length m.length)).all (xJ l m)&&l.length==m.length)=dc l m
 |[],[]=>by rw[dc];rfl
 |[],_::_=>by
  rw[dc]
  .simp
  .intros;simp_all
  .intros;simp_all
 |_::_,[]=>by
  rw[dc]
  .simp
  .intros;simp_all
  .intros;simp_all
 |x::l,y::m=>by
  rw[dc,<- hO l m];have e:min (x::l).length (y::m).length=min l.length m.length+1:=by simp only[Ah];lia
  rw[e,List.range_succ_eq_map,List.all_cons,List.all_map];have e2:((x::l).length==(y::m).length)=(l.length==m.length):=by simp
  rw[e2,Bool.and_assoc];rfl
def xx{m:O PV}(h:l.length≠m.length):dc l m=false:=by
 rw[<- hO];have:(l.length==m.length)=false:=by simpa using h
 rw[this,Bool.and_false]
section
variable{s:db}
def pC(I:Inv X Z σ H s)(h:yx X.K H a xs):H a≠al (.ext φ):=λe=>by
 rcases h with⟨o,h⟩|⟨o,_,_,h,_⟩
 .rw[e]at h;cases h
 .have:=(I.bs a o (I.mod.wW a o h)).2;rw[e]at this;cases this
mutual
theorem VR.xw(I:Inv X Z σ H s):∀{v:V}{x y:PV},VR X.K [] H v x->VR X.K [] H v y->x=y
 |_,_,_,.a8,h=>by cases h;rfl
 |_,_,_,.bl b,h=>by cases h;rfl
 |_,_,_,.int b,h=>by cases h;rfl
 |_,_,_,.str b,h=>by cases h;rfl
 |_,_,_,.ty b,h=>by cases h;rfl
 |_,_,_,.ref e,h=>by simp at e
 |_,_,_,.tup e r,h=>by
  cases h with
  |tup e' r'=>
   have ee:=I.ly (dP.of e) (dP.of e');subst ee;rw[aL.xw I r r']
  |ref e=>simp at e
  |cl e' r'=>
   obtain⟨aw,_,⟨o,n,h1,h2,_⟩,_⟩:=I.list e'.sq;obtain⟨its',_,⟨o',fC,pj,_⟩,_⟩:=I.tuple (dP.of e);rw[h1]at fC;cases fC;rw[h2]at pj;simp at pj
  |dk e' _ _=>rw[e]at e';cases e'
  |dt e' _ _=>rw[e]at e';cases e'
  |ob e' _ _ _ _=>rw[e]at e';cases e'
  |hand e'=>have e':_=_:=e';rw[e]at e';cases e'
 |_,_,_,.ob e c na k r,h=>by
  cases h with
  |ob e' _ _ k' r'=>rw[e]at e';cases e';rw[k,k',aL.xw I r r']
  |hand e'=>have e':_=_:=e';rw[e]at e';cases e'
  |dk e' _ _=>rw[e]at e';cases e'
  |dt e' _ _=>rw[e]at e';cases e'
  |ref e=>simp at e
  |tup e' _=>rw[e]at e';cases e'
  |cl e' r'=>
   obtain⟨aw,_,⟨o,n,h1,h2,_⟩,_⟩:=I.list e'.sq;obtain⟨_,_,_,_,fC,_⟩:=I.aW _ _ e;rw[h1]at fC;cases fC;simp at h2
 |_,_,_,.dk e k r,h=>by
  cases h with
  |dk e' k' r'=>rw[e]at e';cases e';rw[k,k',aL.xw I r r']
  |dt e' _ _=>rw[e]at e';cases e'
  |ob e' _ _ _ _=>rw[e]at e';cases e'
  |hand e'=>have e':_=_:=e';rw[e]at e';cases e'
  |ref e=>simp at e
  |tup e' _=>rw[e]at e';cases e'
  |cl e' r'=>
   obtain⟨aw,_,⟨o,n,h1,h2,_⟩,_⟩:=I.list e'.sq;obtain⟨_,_,vs,_,o',_,_,fC,pj,_⟩:=xY I.aW (.inr ⟨_,e⟩);rw[h1]at fC;cases fC;have h3:=pj.1;rw[h2]at h3;simp at h3
 |_,_,_,.dt e k r,h=>by
  cases h with
  |dt e' k' r'=>rw[e]at e';cases e';rw[k,k',aL.xw I r r']
  |ob e' _ _ _ _=>rw[e]at e';cases e'
  |hand e'=>have e':_=_:=e';rw[e]at e';cases e'
  |dk e' _ _=>rw[e]at e';cases e'
  |ref e=>simp at e
  |tup e' _=>rw[e]at e';cases e'
  |cl e' r'=>
   obtain⟨aw,_,⟨o,n,h1,h2,_⟩,_⟩:=I.list e'.sq;obtain⟨_,_,vs,_,o',_,_,fC,pj,_⟩:=xX I.aW (.inr ⟨_,e⟩);rw[h1]at fC;cases fC;have h3:=pj.1;rw[h2]at h3;simp at h3
 |_,_,_,.hand e,h=>by
  have e:_=al _:=e;cases h with
  |hand _=>rfl
  |ob e' _ _ _ _=>rw[e]at e';cases e'
  |dk e' _ _=>rw[e]at e';cases e'
  |dt e' _ _=>rw[e]at e';cases e'
  |ref e=>simp at e
  |tup e' _=>rw[e]at e';cases e'
  |cl e' r'=>exact absurd e (pC I e')
 |_,_,_,.cl e r,h=>by
  cases h with
  |hand e'=>exact absurd (show _=al _ from e') (pC I e)
  |ob e' _ _ _ _=>
   obtain⟨aw,_,⟨o,n,h1,h2,_⟩,_⟩:=I.list e.sq;obtain⟨_,_,_,_,fC,_⟩:=I.aW _ _ e';rw[h1]at fC;cases fC;simp at h2
  |dk e' _ _=>
   obtain⟨aw,_,⟨o,n,h1,h2,_⟩,_⟩:=I.list e.sq;obtain⟨_,_,vs,_,o',_,_,fC,pj,_⟩:=xY I.aW (.inr ⟨_,e'⟩);rw[h1]at fC;cases fC;have h3:=pj.1;rw[h2]at h3;simp at h3
  |dt e' _ _=>
   obtain⟨aw,_,⟨o,n,h1,h2,_⟩,_⟩:=I.list e.sq;obtain⟨_,_,vs,_,o',_,_,fC,pj,_⟩:=xX I.aW (.inr ⟨_,e'⟩);rw[h1]at fC;cases fC;have h3:=pj.1;rw[h2]at h3;simp at h3
  |cl e' r'=>
   obtain⟨aw,k,⟨o,n,h1,h2,h3,h4⟩,_⟩:=I.list e.sq;obtain⟨its',k',⟨o',n',fC,pj,L6,Td⟩,_⟩:=I.list e'.sq;rw[h1]at fC;cases fC;rw[h4]at Td;have:aw=its':=by injection Td with a b;simpa using a
   subst this;have ee:=Vals.inj k k';subst ee;rw[aL.xw I r r']
  |ref e=>simp at e
  |tup e' r'=>
   obtain⟨aw,_,⟨o,n,h1,h2,_⟩,_⟩:=I.list e.sq;obtain⟨its',_,⟨o',fC,pj,_⟩,_⟩:=I.tuple (dP.of e');rw[h1]at fC;cases fC;rw[h2]at pj;simp at pj
theorem aL.xw(I:Inv X Z σ H s):∀{v:O V}{x y:O PV},aL X.K [] H v x->aL X.K [] H v y->x=y
 |_,_,_,.nil,h=>by cases h;rfl
 |_,_,_,.cons r t,h=>by
  cases h with
  |cons r' t'=>rw[VR.xw I r r',aL.xw I t t']
end
structure X6(A:u8)(s:db)(w w':ci)(b:Bool):Prop where
 rc:SeqAt.RcAt A s w w' b
 ne:SeqAt.RcNeAt A s w w' (!b)
 eq:DW A s w w' b
def Mq(I:Inv X Z σ H s){ws:O V}{m:O PV}(r:Vals vs aw)(r':Vals ws its')(r1:aL X.K [] H vs l)(r2:aL X.K [] H ws m)(ih:∀(j:Nat) (x y:PV) (v v':V) (w w':ci),l[j]?=al x->m[j]?=al y->VR X.K [] H v x->VR X.K [] H v' y->RelV v w->RelV v' w'->DW A s w w' (hU x y)):∀j (g1:j<aw.toArray.size) (g2:j<its'.toArray.size),DW A s aw.toArray[j] its'.toArray[j] (xJ l m j):=λj g1 g2=>by
 have h1:j<aw.length:=by simpa using g1
 have h2:j<its'.length:=by simpa using g2
 have hl:j<l.length:=by rw[<- r1.length,r.length];exact h1
 have hm:j<m.length:=by rw[<- r2.length,r'.length];exact h2
 obtain⟨v,v1,v2⟩:=r1.get (Ak hl);obtain⟨v',O8,F4⟩:=r2.get (Ak hm);obtain⟨u,u1,u2⟩:=r.get v1;obtain⟨u',R4,UM⟩:=r'.get O8;rw[Ak h1]at u1;rw[Ak h2]at R4;cases u1;cases R4;unfold xJ;rw[Ak hl,Ak hm];have:=ih j _ _ v v' _ _ (Ak hl) (Ak hm) v2 F4 u2 UM;simpa using this
inductive Sh(X:Cx)(H:Hp)(s:db):PV->ci->Prop
 |a8:Sh X H s .a8 .none
 |bl (b:Bool):Sh X H s (.bl b) (.bool b)
 |int (i:Int) (t:Tok):Sh X H s (.int i) (.int i t)
 |str (x:Str) (t:Tok):Sh X H s (.str x) (.str x t)
 |tup {p:ce}{vs:List V}{aw:List ci}{l:List PV} (e:VR X.K [] H (.ref p) (.tup l)) (k:Vals vs aw) (r:aL X.K [] H vs l) (h:s.heap.IsTuple p aw.toArray):Sh X H s (.tup l) (.ref p)
 |cl {p:ce}{vs:List V}{aw:List ci}{l:List PV} (e:VR X.K [] H (.ref p) (.cl l)) (k:Vals vs aw) (r:aL X.K [] H vs l) (h:s.heap.IsList p aw.toArray):Sh X H s (.cl l) (.ref p)
def Sh.of(I:Inv X Z σ H s){v:V}{x:PV}{w:ci}(h:VR X.K [] H v x)(r:RelV v w)(d:PV.eS x=true):Sh X H s x w:=by
 cases h with
 |ref e=>simp at e
 |a8=>cases r;exact .a8
 |bl a=>cases r;exact .bl a
 |int a=>obtain⟨t,rfl⟩:=r;exact .int a t
 |str a=>obtain⟨t,rfl⟩:=r;exact .str a t
 |tup e q=>
  cases r;obtain⟨aw,k,ht,_⟩:=I.tuple (dP.of e);exact .tup (.tup e q) k q ht
 |cl e q=>
  cases r;obtain⟨aw,k,pl,_⟩:=I.list e.sq;exact .cl (.cl e q) k q pl.isList
 |_=>rw[PV.eS]at d;cases d
set_option maxHeartbeats 8000000 in
theorem MW(hK:X.K=K)(I:Inv X Z σ H s):∀(n:Nat) (x y:PV) (A:u8) (v v':V) (w w':ci),PV.eL x<=n->PV.eS x=true->PV.eS y=true->VR K [] H v x->VR K [] H v' y->RelV v w->RelV v' w'->A.units+n+1<cLine->X6 A s w w' (hU x y):=by
 subst hK;intro n
 induction n using Nat.strongRecOn with
 |ind n ih=>
 intro x y A v v' w w' hd dx dy hv NN r1 r2 hu;have a:=Sh.of I hv r1 dx;have b:=Sh.of I NN r2 dy;clear hv NN r1 r2;have el:∀{l m:O PV}{vs ws:O V}{aw cx:O ci},dX l=true->dX m=true->dB l<n->Vals vs aw->Vals ws cx->aL X.K [] H vs l->aL X.K [] H ws m->aw.toArray.size=l.length/\cx.toArray.size=m.length/\∀j g1 (g2:j<cx.toArray.size),DW A.in1 s aw.toArray[j] cx.toArray[j] (xJ l m j):=λd1 d2 hd k1 k2 r r'=>⟨by rw[Al,<- k1.length,r.length],by rw[Al,<- k2.length,r'.length],Mq I k1 k2 r r' λj x y v v' w w' hx hy vx vy rx ry=>(ih _ hd x y A.in1 v v' w w' (l9 hx) (kh d1 hx) (kh d2 hy) vx vy rx ry (by show A.units+1+_+1<_;lia)).eq⟩;have fin:∀{pa pb:ce}{l m:O PV},(pa=pb->l=m)->dX l=true->SeqAt.RcAt A s (.ref pa) (.ref pb) (dc l m)->DW A s (.ref pa) (.ref pb) (dc l m):=λ{pa pb l m} h d q=>by
  by_cases L3:pa=pb
  .rw[h L3,f7 _ (h L3▸d),L3];exact DW.same _
  .exact DW.of_refs L3 q
 cases a<;>cases b
 case tup.tup pa vs aw l e k r ht pb ws cx m e2 k2 r2 IB=>
  rw[PV.eL]at hd;obtain⟨z1,z2,ie⟩:=el dx dy ∅ k k2 r r2;have q1:=SeqAt.RcAt.tuples ht IB ∅ ie;have q2:=SeqAt.RcNeAt.tuples ht IB (A:=A) ∅ ie;rw[z1,z2,hO]at q1 q2;exact⟨q1,q2,fin (λz=>by subst z;have:=VR.xw I e e2;injection this) dx q1⟩
 case cl.cl pa vs aw l e k r ht pb ws cx m e2 k2 r2 IB=>
  rw[PV.eL]at hd;obtain⟨z1,z2,ie⟩:=el dx dy ∅ k k2 r r2;by_cases hz:l.length=m.length
  .have q1:=ER ht IB (by rw[z1,z2];exact hz) (A:=A) ∅ ie;have q2:=EE ht IB (by rw[z1,z2];exact hz) (A:=A) ∅ ie;have ef:(Cc l.length).all (xJ l m)=dc l m:=by rw[<- hO,hz,Nat.min_self,beq_self_eq_true,Bool.and_true]
   rw[z1,ef]at q1 q2;exact⟨q1,q2,fin (λz=>by subst z;have:=VR.xw I e e2;injection this) dx q1⟩
  .have q1:=DG (A:=A) ht IB (by rw[z1,z2];simpa using hz) ∅;have q2:=Dl (A:=A) ht IB (by rw[z1,z2];simpa using hz) ∅;have ef:=xx hz;rw[<- ef]at q1;have q2:SeqAt.RcNeAt A s (.ref pa) (.ref pb) (!dc l m):=by rw[ef];exact q2
   exact⟨q1,q2,fin (λz=>by subst z;have:=VR.xw I e e2;injection this) dx q1⟩
 all_goals
  clear ih el fin;rw[hU]<;>try (intros;simp_all;done)
  refine⟨?_,?_,?_⟩<;>(try simp)<;>first|with_reducible exact .none_none|with_reducible exact .none_bool _|with_reducible exact .none_int _ _|with_reducible exact .none_str _ _|with_reducible exact .none_tuple ‹_› ∅ | with_reducible exact .none_list ‹_› ∅ | with_reducible exact .bool_none _|with_reducible exact .bool_str _ _ _|with_reducible exact .bool_tuple _ ‹_› ∅ | with_reducible exact .bool_list _ ‹_› ∅ | with_reducible exact .int_none _ _|with_reducible exact .int_str _ _ _ _|with_reducible exact .int_tuple _ _ ‹_› ∅ | with_reducible exact .int_list _ _ ‹_› ∅ | with_reducible exact .str_none _ _|with_reducible exact .str_bool _ _ _|with_reducible exact .str_int _ _ _ _|with_reducible exact .str_tuple _ _ ‹_› ∅ | with_reducible exact .str_list _ _ ‹_› ∅ | with_reducible exact .tuple_none ‹_› ∅ | with_reducible exact .tuple_bool _ ‹_› ∅ | with_reducible exact .tuple_int _ _ ‹_› ∅ | with_reducible exact .tuple_str _ _ ‹_› ∅ | with_reducible exact .tuple_list ‹_› ‹_› ∅ | with_reducible exact .list_none ‹_› ∅ | with_reducible exact .list_bool _ ‹_› ∅ | with_reducible exact .list_int _ _ ‹_› ∅ | with_reducible exact .list_str _ _ ‹_› ∅ | with_reducible exact .list_tuple ‹_› ‹_› ∅ | exact .same _|exact .bool_bool _ _|exact .bool_int _ _ _|exact .int_bool _ _ _|exact .int_int _ _ _ _|exact .str_str _ _ _ _
end
end
section
variable[bu]
variable{K:Aa}
mutual
theorem VR.gV{ι:O ce}{H:Hp}:∀{v:V}{q:PV},VR K ι H v q->PV.eS q=true->VR K [] H v q
 |_,_,.a8,_=>.a8
 |_,_,.bl b,_=>.bl b
 |_,_,.int i,_=>.int i
 |_,_,.str x,_=>.str x
 |_,_,.ty n,h=>by rw[PV.eS]at h;cases h
 |_,_,.dk _ _ _,h=>by rw[PV.eS]at h;cases h
 |_,_,.dt _ _ _,h=>by rw[PV.eS]at h;cases h
 |_,_,.ob _ _ _ _ _,h=>by rw[PV.eS]at h;cases h
 |_,_,.hand _,h=>by rw[PV.eS]at h;cases h
 |_,_,.tup e r,h=>.tup e (aL.gV r (by rw[PV.eS]at h;exact h))
 |_,_,.cl e r,h=>.cl e (aL.gV r (by rw[PV.eS]at h;exact h))
 |_,_,.ref e,h=>by rw[PV.eS]at h;cases h
theorem aL.gV{ι:O ce}{H:Hp}:∀{v:O V}{q:O PV},aL K ι H v q->dX q=true->aL K [] H v q
 |_,_,.nil,_=>.nil
 |_,_,.cons r s,h=>by
  rw[dX,Bw]at h;exact .cons (VR.gV r h.1) (aL.gV s h.2)
end
def uJ(x y:PV):Prop:=PV.eS x=true/\PV.eS y=true/\PV.eL x<=150
def iJ:M2:=⟨λx y h Q=>uJ x y/\Q (.bl (hU x y)) h,λf q=>⟨q.1,f _ _ q.2⟩⟩
def jg:M2:=⟨λx y h Q=>uJ x y/\Q (.bl (!hU x y)) h,λf q=>⟨q.1,f _ _ q.2⟩⟩
def zi(K:Aa)(neg:Bool):R2:=λu v H Q=>∃x y,VR K [] H u x/\VR K [] H v y/\uJ x y/\Q (.bl (if neg then !hU x y else hU x y)) H
section
theorem HJ(hK:X.K=K)(hu:X.A.units+200<cLine):dQ X (mo .Eq) (zi K false):=λZ s σ H u v w w' Q I r1 r2 ⟨x,y,h1,h2,⟨o1,o2,o3⟩,q⟩=>by
 exact Eb (MW hK I 150 x y X.A u v w w' o3 o1 o2 h1 h2 r1 r2 ∅).rc ⟨.bl _,H,I,rfl,q⟩
theorem HH(hK:X.K=K)(hu:X.A.units+200<cLine):dQ X (mo .NotEq) (zi K true):=λZ s σ H u v w w' Q I r1 r2 ⟨x,y,h1,h2,⟨o1,o2,o3⟩,q⟩=>by
 exact DB (MW hK I 150 x y X.A u v w w' o3 o1 o2 h1 h2 r1 r2 ∅).ne ⟨.bl _,H,I,rfl,q⟩
def zO:M2.Ok K (zi K false) iJ:=λ{ι H h u v x y Q} hr hu hv q=>⟨x,y,VR.gV hu q.1.1,VR.gV hv q.1.2.1,q.1,q.2 ι _ H (Go.refl _ _) hr (.bl _)⟩
def zL:M2.Ok K (zi K true) jg:=λ{ι H h u v x y Q} hr hu hv q=>⟨x,y,VR.gV hu q.1.1,VR.gV hv q.1.2.1,q.1,q.2 ι _ H (Go.refl _ _) hr (.bl _)⟩
def l5(hK:X.K=K)(hu:X.A.units+200<cLine):JC X K .Eq b iJ:=⟨⟨_,HJ hK hu,zO⟩,cH _⟩
def sH(hK:X.K=K)(hu:X.A.units+200<cLine):JC X K .NotEq b jg:=⟨⟨_,HH hK hu,zL⟩,cH _⟩
end
end
end FL
namespace L2
def K0(K:Aa):R2:=λx y H Q=>∃a b xs ys,x=.ref a/\y=.ref b/\dP K H a xs/\dP K H b ys/\xs.length+ys.length<=sizeLine/\
 (xs=[]->Q (.ref b) H)/\(xs≠[]->ys=[]->Q (.ref a) H)/\(xs≠[]->ys≠[]->jY H (.tup (xs++ys)) Q)
def sk(K:Aa)(hK:X.K=K):dQ X (r9 .Add) (K0 K):=by
 subst hK;intro Z s σ H x y v u Q I rx ry h;obtain⟨a,b,xs,ys,rfl,rfl,ha,hb,hz,q0,q1,q2⟩:=h;by_cases c:xs=[]
 .cases rx;cases ry;obtain⟨aw,r1,p1,_⟩:=I.tuple ha;obtain⟨cx,r2,p2,_⟩:=I.tuple hb;obtain⟨⟨cls,dd,data,sl⟩,ho,hc,n,hd⟩:=id p1;obtain⟨⟨MY,MK,data2,JE⟩,yI,JO,n2,Ú⟩:=id p2;subst hc hd JO Ú;exact concat_meets ⟨_,ho,rfl⟩ ⟨_,yI,rfl⟩ noFill_tuple_add seq_tuple_add CO CJ (CC _ _)
   (tuple_addW0 a b aw.toArray cx.toArray n n2 dd MK sl JE (by rw[r1.eH.mpr c];rfl)) ⟨ho,yI,.ref b,H,I,rfl,q0 c⟩
 .exact sj Z s σ H _ _ v u Q I rx ry ⟨a,b,xs,ys,rfl,rfl,ha,hb,c,hz,q1 c,λn p hp=>(q2 c n).at p hp⟩
end L2
namespace FL
section
variable[bu]
variable{K:Aa}
section
variable{a:im}{p:Pos}
def addW:PV->PV->W PV
 |.int i,.int j=>.ret (.int (i+j))
 |.str a,.str b=>.gh (a.length+b.length<=sizeLine) (.ret (.str (a++b)))
 |.tup a,.tup b=>.gh (a.length+b.length<=sizeLine) (.ret (.tup (a++b)))
 |_,_=>.fail
def aO(hK:X.K=K)(ha:EF X K fs a wa f1)(hb:EF X K f1 b wb f2):EF X K fs (.BinOp a .Add b pos) (.bind wa λx=>.bind wb λy=>addW x y) f2:=
 ⟨PE.imp (iY ((so K hK).or (sk K hK)) ha.p hb.p) λσ H Q ⟨sr,q⟩=>⟨sr,wa.mono (λx q1 u1 H1 g1 s1 v1=>⟨s1,wb.mono (λy q2 u2 H2 g2 s2 v2=>by
  have O8:=g2.vr s1 v1;cases O8 with
  |int i=>
   cases v2 with
   |int j=>exact .inl ⟨_,rfl,q2 _ H2 (g1.trans g2) s2 (.int _)⟩
   |_=>exact q2.elim
  |str i=>
   cases v2 with
   |str j=>exact .inl ⟨_,rfl,q2.1,q2.2 _ H2 (g1.trans g2) s2 (.str _)⟩
   |_=>exact q2.elim
  | @tup p vs l e r=>
   cases v2 with
   | @tup p' yE l' e' r'=>
    refine .inr ⟨p,p',vs,yE,rfl,rfl,dP.of e,dP.of e',by rw[r.length,r'.length];exact q2.1,λz=>?_,λ_ z=>?_,λ_ _ q H3 s3 h3 n3=>?_⟩
    .have z':=(PL.aL.eH r).mp z;subst z';exact q2.2 _ H2 (g1.trans g2) s2 (.tup e' r')
    .have z':=(PL.aL.eH r').mp z;subst z';have q2:=q2.2;rw[AV]at q2;exact q2 _ H2 (g1.trans g2) s2 (.tup e r)
    .exact q2.2 _ H3 ((g1.trans g2).trans (bP.same s3)) (s2.same s3) (.tup h3 (aL.tk s3.cK (r.append r')))
   |_=>exact q2.elim
  |_=>exact q2.elim) q1⟩) q⟩⟩
end
end
section
variable[bu]
variable{K:Aa}
section
variable{rest:O nn}{p:Pos}{T:Type}{out:T->End}{x:Bool}
def Qu(l:O PV):PV->W PV
 |.int k=>.gh (0<=k/\k<1000) (.JG l[k.toNat]?)
 |_=>.fail
def KJ(l:O PV)(i j:PV)(m:O PV):W (O PV):=match i,j with
 |.int a,.int c=>.gh (0<=a/\a<=c/\c<=l.length/\l.length+m.length<=sizeLine) (.ret (l.take a.toNat++m++l.drop c.toNat))
 |_,_=>.fail
def SF.KI(i:Nat){lo hi:im}{k:O PV->W T}(hs:fs[i]?=al (al (.ol q0 l)))(hN:X.N[i]?=al y)(hv:rp X.env.scope y)(he:LF X K fs e wl)(hl:EF X K fs lo wa)(hh:EF X K fs hi wb)(hr:∀l',SF X K x (fs.set i (al (.ol q0 l'))) rest (k l') out)(ha:∀v,assign (.Subscript (.Name y p) (.Slice (al lo) (al hi) bn p2) gI) X.env v=(do
   let ov <- pi [v] (jp (.Name y p) X.env)
   let iv <- pi [v,ov] (jp (.Slice (al lo) (al hi) bn p2) X.env)
   FB gI
   pi [v,ov,iv] (setItem ov iv v)
   release [iv,v,ov] []):=by intro _;rfl)(hd: ~~~(dg y))(df: ~~~(rA y))(QB:‹wp [.Subscript (.Name y p) (.Slice (al lo) (al hi) bn p2) gI] e pos.line X.env=pure false›)(hw:‹ww [.Subscript (.Name y p) (.Slice (al lo) (al hi) bn p2) gI] e X.env=pure bn›)(h1:‹(Ch [.Subscript (.Name y p) (.Slice (al lo) (al hi) bn p2) gI] X.env).map (·.2)=[assign (.Subscript (.Name y p) (.Slice (al lo) (al hi) bn p2) gI) X.env]›):SF X K x fs (.Assign [.Subscript (.Name y p) (.Slice (al lo) (al hi) bn p2) gI] e pos::rest) (.bind wl λm=>.bind wa λa=>.bind wb λb=>.bind (KJ l a b m) k) out:=
 SF.step (vT he.p (vX (c7 hN hv hd df) hl.p hh.p ha) QB hw h1) λD σ H ⟨sr,q⟩=>by
  refine⟨sr,wl.mono (λm q1 b vb H1 g1 s1 nb eb rb=>?_) q⟩;obtain⟨a,ws,e1,h1,r1⟩:=ez s1 hs;refine⟨_,e1,s1,wa.mono (λi1 q2 u2 H2 g2 s2 v2=>⟨s2,wb.mono (λj1 q3 u3 H3 g3 s3 v3=>?_) q2⟩) q1⟩;obtain⟨a',O7,Ts,L6,Nz⟩:=ez s3 hs;rw[e1]at Ts;cases Ts;have F4:=g3.vr s2 v2;have no:¬bx σ fs b:=sr.noOwn nb;have XA:=(g2.trans g3).gY eb no;have Si:=(g2.trans g3).rC s1 rb;have ne:a≠b:=λz=>no ⟨i,_,a,hs,rfl,e1,.inl z.symm⟩;cases F4 with
  |int aa=>
   cases v3 with
   |int cc=>
    have q3:(0<=aa/\aa<=cc/\cc<=l.length/\l.length+m.length<=sizeLine)/\(k (l.take aa.toNat++m++l.drop cc.toNat)).run _:=q3;obtain⟨⟨c1,c2,c3,c4⟩,q3⟩:=q3;refine⟨a,b,O7,vb,aa,cc,rfl,rfl,rfl,rfl,L6,XA,ne,c1,c2,by rw[Nz.length];exact c3,by rw[Nz.length,Si.length];exact c4,?_⟩;have sx:iy a H3 (upd H3 a (.lst (O7.take aa.toNat++vb++O7.drop cc.toNat))):=λz o n hz=>by rw[ag n];exact hz
    obtain⟨s4,g4⟩:=mS s3 hs e1 sx ao (((Nz.take aa.toNat).append Si).append (Nz.drop cc.toNat));exact⟨_,k _,hr _,s4,(k _).mono (λt q4=>q4.go (((g1.trans g2).trans g3).f.trans g4) sr s4) q3⟩
   |_=>exact q3.elim
  |_=>exact q3.elim
end
end
section
variable[bu]
variable{K:Aa}
abbrev w2(f:PV->PV->W PV)(wa wb:W PV):W PV:=.bind wa λx=>.bind wb λy=>f x y
def UZ(K:Aa)(us:O V)(qs:O PV)(fz:O (ce×Obj))(sp:Sp):Sp:=λvs H Q E=>aL K [] H us qs/\mq H fz/\sp vs H Q E
section
variable{p:Pos}{x:Str}{R:Type}{B:(O PV->W R)->W R}
def Js(hg:Gl X x)(hm:X.mg x=al (.ref fa))(hr:AF X K fs es ks B)(hd: ~~~(dg x))(kW:‹gt (.Name x pos::es) X.env=(false,jp (.Name x pos) X.env)::gt es X.env›):AF X K fs (.Name x pos::es) (.f fa [] [] []::ks) B:=by
 obtain⟨wr,hp,hB⟩:=hr.p;exact⟨wr,PA.imp (ah (eu (v:=.ref fa) hg hm rfl hd) hp kW) λσ H Q ⟨sr,q⟩=>⟨sr,wr.mono (λl q2 vs H2 g2 s2 v2=>q2 _ H2 g2 s2 (.f .nil .nil v2)) q⟩,hB⟩
end
def RY(K:Aa)(H:Hp)(vs:O (Key×V))(aZ:O (Key×PV)):Prop:=vs.map (·.1)=aZ.map (·.1)/\aL K [] H (vs.map (·.2)) (aZ.map (·.2))
end
section
variable[bu]
variable{K:Aa}
def Nb(K:Aa)(H:Hp)(vs:O (O Key×V))(aZ:O (O Key×PV)):Prop:=vs.map (·.1)=aZ.map (·.1)/\aL K [] H (vs.map (·.2)) (aZ.map (·.2))
def FX(K:Aa)(H:Hp)(ob:HO)(v:PV):Prop:=(∃vs aZ,ob=.dK vs/\v=Oz aZ/\RY K H vs aZ)\/∃vs aZ,ob=.dT vs/\v=Tt aZ/\Nb K H vs aZ
def Xu(K:Aa)(fs:aX)(w:W PV):TE:=λσ H Q=>aR K H σ fs/\w.run λv=>∀a ob H',bP σ fs H H'->aR K H' σ fs->H a=bn->H' a=al ob->FX K H' ob v->Q (.ref a) H'
structure TX(X:Cx)(K:Aa)(fs:aX)(e:im)(w:W PV):Prop where p:PE X e (Xu K fs w)
section
variable{σ:L2.St}{fs:aX}{H:Hp}{a:ce}{ob:HO}{v:PV}
def aR.KL(s:aR K H σ fs)(n:¬bx σ fs a)(e:H a=al ob)(n1:∀vs,ob≠.tup vs)(n2:∀o u,ob≠.b8 o u)(n3:ob.ow=true)(o':HO):aR K (upd H a o') σ fs:=⟨s.len,λi t q=>by
 obtain⟨u,h1,h2⟩:=s.at' i t q;exact⟨u,h1,h2.mono (c6 o' e n1 n2) (λx b o eb ow hb z _=>by subst eb;rw[ag (λy:b=a=>n ⟨i,t,x,q,ow,h1,y▸hb⟩)];exact z)⟩,s.nd,s.tb.rP (λb o n z=>by rw[ag n];exact z) e (wj n3) n2⟩
def FX.b8{X:Cx}{Z:O (ce×Obj)}{s:db}{σ':L2.St}(I:Inv X Z σ' H s)(e:H a=al ob)(d:FX K H ob v):∃u,Inv X Z σ' (upd H a u) s/\VR K [] (upd H a u) (.ref a) v/\(∀vs,ob≠.tup vs)/\(∀o u,ob≠.b8 o u)/\ob.ow=true:=by
 rcases d with⟨vs,aZ,rfl,rfl,d1,d2⟩|⟨vs,aZ,rfl,rfl,d1,d2⟩
 .obtain⟨o,I2⟩:=I.sT e;exact⟨_,I2,.dk ao (GA d1) (aL.tk (c6 _ e (by simp) (by simp)) d2),by simp,by simp,rfl⟩
 .obtain⟨o,I2⟩:=I.freeze e;exact⟨_,I2,.dt ao (Gz d1) (aL.tk (c6 _ e (by simp) (by simp)) d2),by simp,by simp,rfl⟩
end
section
variable{a:im}{p:Pos}{w:W PV}
def RG(h:TX X K fs e w):EF X K fs e w:=⟨λZ s σ H Q I ⟨sr,q⟩=>by
 refine bb (h.p Z s σ H (λu H1=>∃a ob v,u=.ref a/\bP σ fs H H1/\aR K H1 σ fs/\H a=bn/\H1 a=al ob/\FX K H1 ob v/\∀u H',bP σ fs H H'->aR K H' σ fs->VR K [] H' u v->Q u H') I ⟨sr,w.mono (λv q1 a ob H1 g1 s1 n e d=>⟨a,ob,v,rfl,g1,s1,n,e,d,q1⟩) q⟩) λu s1 ⟨v,H1,I1,r1,a,ob,v',e,g1,Pz,n,ea,d,q1⟩=>?_;subst e;obtain⟨o',I2,vr,n1,n2,n3⟩:=d.b8 I1 ea;exact⟨.ref a,_,I2,r1,q1 _ _ (g1.side n (λφ z=>by rw[ea]at z;cases z;cases n3) _) (Pz.KL (λz=>sr.noOwn n z) ea n1 n2 n3 _) vr⟩⟩
def MM:TX X K fs (.Dict [] [] pos) (.ret (Oz [])):=⟨PE.imp v8 λσ H Q ⟨sr,q⟩ p hp=>by
 have sm:=dU hp (.dK []);exact q p _ _ (bP.same sm) (sr.same sm) hp ao (.inl ⟨[],[],rfl,rfl,rfl,.nil⟩)⟩
end
end
end FL
namespace My
def cz(ns:O Int):Prop:=∃g s:Int,ns=[g,s]/\0<=g/\0<=s/\s<2305843009213693951
end My
namespace FL
section
variable[bu]
def drawn(m:Int):W PV:=.any λv=>∃d:Int,v=.int d/\0<=d/\d<m
def bG:PV->W PV
 |.int m=>.gh (0<m/\m<=2000) (drawn m)
 |_=>.fail
end
end FL
namespace My
def dM(bF:PV)(k_:PV):W (O PV):=
 am (gx (am (am (ap bF) gX) λl2=>ap (!l2.isEmpty)) (n8 (am (ap bF) je) (b2 oMod (ap k_) (c1 iq (ap bF)))) (ap (.int 0))) λfM=>
 am (b2 c9 (b2 oMod (c1 k8 (ap fM)) (b2 c9 (b2 c9 (b2 gS (ap (.int 10)) (ap (.int 60))) (b2 gS (ap (.int 10)) (ap (.int 60)))) (b2 gS (ap (.int 10)) (ap (.int 60))))) (c1 kC (b2 Lq (c1 k8 (ap fM)) (b2 gS (ap (.int 10)) (ap (.int 18)))))) λeJ=>
 (eJ\λx4=>am (b2 oMod (b2 c9 (w2 addW (w2 addW (b2 oMod (ap fM) (ap (.int 2305843009213693921))) (b2 c9 (b2 c9 (ap (.int 104729)) (ap k_)) (ap k_))) (ap (.int 7))) (ap (.int 48271))) (ap (.int 2305843009213693951))) λx5=>ap [x4,x5])
def bU(bH:O PV)(gk:PV):W (PV×O PV):=
 gx (t2 HS (n8 (ap bH) (ap (.int 0))) (ap (.int 0))) (
 am (b2 oMod (n8 (ap bH) (ap (.int 0))) (ap gk)) λtD=>
 am (b2 oDiv (n8 (ap bH) (ap (.int 0))) (ap gk)) λx3=>(.int 0)\λx4=>am (vC bH x4 x3) λfB=>
 tD\λx5=>ap (x5,fB)) (
 am (b2 oMod (w2 addW (b2 c9 (n8 (ap bH) (ap (.int 1))) (ap (.int 6364136223846793005))) (ap (.int 1442695040888963407))) (ap (.int 2305843009213693951))) λx7=>(.int 1)\λx8=>am (vC bH x8 x7) λdz=>
 am (b2 oDiv (n8 (ap dz) (ap (.int 1))) (ap (.int 524287))) λmY=>
 am (b2 oMod (b2 oDiv (b2 oMod (b2 c9 (ap mY) (ap mY)) (ap (.int 1000000007))) (ap (.int 11))) (ap gk)) λyU=>ap (yU,dz))
def cu(gk:PV):W (O PV):=
 (.str "abcdefghijklmnopqrstuvwxyz")\λiM=>
 am ((.int 26)\λx2=>bG x2) λki=>am (n8 ((.int 1)\λx3=>(.int 3)\λx4=>(.int 5)\λx5=>(.int 7)\λx6=>(.int 9)\λx7=>(.int 11)\λx8=>ap [x3,x4,x5,x6,x7,x8]) ((.int 6)\λx9=>bG x9)) λmy=>
 am (n8 ((.str "")\λO5=>(.str "")\λG7=>(.str "ab")\λKa=>ap [O5,G7,Ka]) ((.int 3)\λJ9=>bG J9)) λky=>
 []\λkf=>
 am (am (ap gk) lI) λVB=>am (gb VB kf λLG Ho=>(
 am (n8 ((.str "")\λO4=>(.str "a")\λO3=>(.str "zz")\λJ7=>(.str "abcde")\λUE=>ap [O4,O3,J7,UE]) ((.int 4)\λO2=>bG O2)) λxN=>
 am (w2 addW (w2 addW (ap ky) (b2 wC (ap iM) (b2 oMod (w2 addW (ap ki) (b2 c9 (ap my) (ap LG))) (ap (.int 26))))) (ap xN)) λO1=>am (uS Ho O1) λpE=>
 ap pE)) λHo=>
 ap Ho
def bV(rN:PV):W PV:=
 am (am (ap rN) je) λvF=>am ((.int 5)\λx1=>bG x1) λmw=>
 am (am (b2 zK (c1 iq (ap rN)) (ap (.int 1))) lI) λVF=>am (gb VF vF λSN s5=>(
 am (b2 zK (am (ap s5) uv) (ap (.int 2))) λpJ=>
 am (n8 ((.int 0)\λx9=>pJ\λyU=>am (b2 oMod (ap SN) (w2 addW (ap pJ) (ap (.int 1)))) λO6=>am (am (w2 addW (ap pJ) (ap (.int 1))) λKb=>bG Kb) λO5=>am (am (w2 addW (ap pJ) (ap (.int 1))) λG7=>bG G7) λKa=>ap [x9,yU,O6,O5,Ka]) (ap mw)) λym=>
 am (am (am (n8 (ap s5) (ap ym)) λG6=>am (n8 (ap s5) (w2 addW (ap ym) (ap (.int 1)))) λJ8=>ap (.tup [G6,J8])) λUI=>ap [UI]) λQn=>ym\λUG=>am (w2 addW (ap ym) (ap (.int 2))) λO4=>am (KJ s5 UG O4 Qn) λvG=>
 ap vG)) λs5=>
 (n8 (ap s5) (ap (.int 0)))
end My
variable{o:EU}{Q:Unit->BW->Prop}{vs:Array AO}{S:O AN}{ot:Option AN}
namespace L2
def lq(h:io)(a C dx:ce)(ot:Option ce):Prop:=∃vs sl,h.get? a=al {cls:=.ref C,dict:=al dx,data:=.fields vs,slots:=sl}/\1<vs.size/\
 match ot with
 |none=>vs[1]?=al A2
 |some T=>vs[1]?=al (.ref T)/\T≠a/\∃c d ts st,h.get? T=al {cls:=c,dict:=d,data:=.fields ts,slots:=st}/\ts[3]?=al A2
structure kM(S:List ce)(a:ce)(ot:Option ce)(h h':io):Prop where
 keep:∀b o,h.get? b=al o->b≠a->ot≠al b->b∉S->h'.get? b=al o
 slot:∀b o,h.get? b=al o->b≠a->ot≠al b->∃sl,h'.get? b=al {o with slots:=sl}
 there:∀b o,h.get? b=al o->∃o',h'.get? b=al o'
def cZ{c:ci}{d:Option ce}{sl:Array (Option ci)}{f:Array ci->Array ci}(e:h.get? a=al {cls:=c,dict:=d,data:=.fields vs,slots:=sl}):(h.update a (BJ f)).get? a=al {cls:=c,dict:=d,data:=.fields (f vs),slots:=sl}:=Cj (BJ f) e rfl
def kM.slots(k:Heap.SlotsOnly S h h'):kM S a ot h h':=
 ⟨λb o e _ _ n=>by rw[k.2.1 b n];exact e,λb o e _ _=>k.2.2 b o e,λb o e=>let ⟨_,z⟩:=k.2.2 b o e;⟨_,z⟩⟩
def kM.trans{h1 h2:io}(x:kM S a ot h h1)(y:kM S a ot h1 h2):kM S a ot h h2:=
 ⟨λb o e n m k=>y.keep b o (x.keep b o e n m k) n m k,λb o e n m=>by
  obtain⟨sl,z⟩:=x.slot b o e n m;obtain⟨za,z'⟩:=y.slot b _ z n m;exact⟨za,z'⟩,λb o e=>let ⟨_,z⟩:=x.there b o e;y.there b _ z⟩
def kM.push:kM S a ot h (h.push o):=
 ⟨λb o e _ _ _=>Ad _ e,λb o e _ _=>⟨o.slots,Ad _ e⟩,λb o e=>⟨o,Ad _ e⟩⟩
def kM.upd{c:ce}{f:Obj->Obj}(hc:c=a\/ot=al c\/h.get? c=bn)(ht:∀o,h.get? c=al o->∃o',(h.update c f).get? c=al o'):kM S a ot h (h.update c f):=by
 have ne:∀b o,h.get? b=al o->b≠a->ot≠al b->b≠c:=λb o e n m z=>by
  subst z;rcases hc with z|z|z
  .exact n z
  .exact m z
  .rw[z]at e;cases e
 refine⟨λb o e n m _=>?_,λb o e n m=>⟨o.slots,?_⟩,λb o e=>?_⟩
 .rw[AZ _ _ _ _ (ne b o e n m)];exact e
 .rw[AZ _ _ _ _ (ne b o e n m)];exact e
 .by_cases d:b=c
  .subst d;exact ht o e
  .exact⟨o,by rw[AZ _ _ _ _ d];exact e⟩
set_option maxHeartbeats 1000000 in
def kl{M:Model}{A:u8}{E:ci->db->Prop}{s:db}{base:io}{env:Env}{outer:O Env}{L a C dx:ce}{head:ci}{b:Bool}{vs:Array ci}{sl:Array (Option ci)}{Q:Unit->db->Prop}(hA:A.frames=al (env::outer))(hF:s.heap.FunFrames base (env::outer))(hL:env.frame=al L)(e0:s.heap.get? a=al {cls:=.ref C,dict:=al dx,data:=.fields vs,slots:=sl})(l0:1<vs.size)(h:∀h' T,kM (jo (env::outer)) a bn s.heap h'->lq h' a C dx (al T)->s.heap.objs.size<=T->Q () {s with heap:=h'}):
  f8 M A (do
   let f <- Ez env
   let p <- entryPlaceOf L b
   let t <- Cy head f A2 (lf ↑L) A2 p
   setField (Ar a) 1 t) (λ_ s'=>f8 M A (setFlight (Ar a) bn) Q E s') E s:=by
 refine Ab (wpAny_frameOf_fun hA hF hL λh1 k1=>?_);obtain⟨Sd,e1⟩:=k1.2.2 _ _ e0;refine Ab (wpAny_entryPlaceOf λpl hp=>?_);refine Ab ?_;unfold Cy newFields;have hl:∃ts:O ci,([head,Ar L,A2,lf ↑L,A2]++if pl.isEmpty=true then An 6 A2 else pl)=ts/\3<ts.length/\ts.length<=100:=⟨_,rfl,by
  rcases hp with rfl|⟨_,_,_,_,_,_,_,rfl⟩<;>simp⟩
 obtain⟨ts,WA,l3,l4⟩:=hl;rw[WA];refine BD ?_ (by simp only[sizeOk];exact Av (by simpa using l4) (by decide:100<=sizeLine+2));have at_:(h1.push {cls:=.type "traceback",data:=.fields ts.toArray}).get? a=al {cls:=.ref C,dict:=al dx,data:=.fields vs,slots:=Sd}:=Ad _ e1;have nT:h1.objs.size≠a:=D3 (Ai e1);refine CU at_ rfl l0 ?_;have e2:=cZ (f:=λx=>x.setIfInBounds 1 (.ref h1.objs.size)) at_;have eT:((h1.push {cls:=.type "traceback",data:=.fields ts.toArray}).update a (BJ λx=>x.setIfInBounds 1 (.ref h1.objs.size))).get? h1.objs.size=al {cls:=.type "traceback",data:=.fields ts.toArray}:=by
  rw[AZ _ _ _ _ nT];exact Am _ rfl
 refine wpAny_setFlight_none e2 rfl (by simp[l0]) eT rfl (by simpa using l3) ?_;refine h _ h1.objs.size ?_ ⟨_,Sd,(AZ _ _ _ _ nT.symm).trans e2,by simpa using l0,by simp[l0],nT,_,_,_,_,cZ eT,by simp[l3]⟩ (Dh k1.1.symm);have z:kM (jo (env::outer)) a (al h1.objs.size) s.heap _:=(((kM.slots k1).trans .push).trans (kM.upd (f:=BJ λx=>x.setIfInBounds 1 (.ref h1.objs.size)) (.inl rfl) λo e=>⟨_,e2⟩)).trans (kM.upd (f:=BJ λx=>x.setIfInBounds 3 A2) (.inr (.inl rfl)) λo e=>⟨_,cZ eT⟩);have nb:∀b o,s.heap.get? b=al o->al h1.objs.size≠al b:=λb o e y=>by
  have:=Ai e;rw[<- k1.1]at this;exact absurd (Option.some.inj y) (D3 this)
 exact⟨λb o e n _ m=>z.keep b o e n (nb b o e) m,λb o e n _=>z.slot b o e n (nb b o e),z.there⟩
def lY{s:db}{L C dx:ce}(hA:A.frames=al (env::outer))(hF:s.heap.FunFrames base (env::outer))(hL:env.frame=al L)(hx:lq s.heap a C dx ot)(h:∀h' T,kM (jo (env::outer)) a ot s.heap h'->lq h' a C dx (al T)->s.heap.objs.size<=T->Q () {s with heap:=h'}):f8 M A (noteFrame (.ref a) env) (λ_ s2=>f8 M A (setFlight (.ref a) bn) Q E s2) E s:=by
 obtain⟨vs,sl,e0,l0,h1⟩:=hx;unfold noteFrame;rw[hL];cases ot with
 |none=>
  refine Ab (A6 e0 rfl h1 ?_);exact kl hA hF hL e0 l0 h
 |some T=>
  obtain⟨h1,nT,c,d,ts,st,eT,h3⟩:=h1;have l3:3<ts.size:=by
   rcases Dg 3 ts.size with z|z
   .exact z
   .rw[D7 z]at h3;cases h3
  refine Ab (A6 e0 rfl h1 ?_);show f8 M A (do
   let x <- field (.ref T) 3
   if (x==lf ↑L)=true then pure () else do
    let _ <- setField (.ref T) 3 A2
    (do
     let f <- Ez env
     let p <- entryPlaceOf L (Ar T != A2)
     let t <- Cy (.ref T) f A2 (lf ↑L) A2 p
     setField (Ar a) 1 t)) _ E s
  refine Ab (A6 eT rfl h3 ?_);show f8 M A (do
    let _ <- setField (.ref T) 3 A2
    (do
     let f <- Ez env
     let p <- entryPlaceOf L (Ar T != A2)
     let t <- Cy (.ref T) f A2 (lf ↑L) A2 p
     setField (Ar a) 1 t)) _ E s
  refine Ab (CU eT rfl l3 ?_);have c1:kM (jo (env::outer)) a (al T) s.heap (s.heap.update T (BJ λx=>x.setIfInBounds 3 .none)):=kM.upd (.inr (.inl rfl)) λo e=>⟨_,cZ eT⟩;refine kl (s:={s with heap:=_}) hA (hF.of_keeps λb o e n=>?_) hL (sl:=sl) (vs:=vs) (by rw[AZ _ _ _ _ nT.symm];exact e0) l0 λh' T' k x z=>?_
  .have:b≠T:=λy=>by subst y;rw[eT]at e;cases e;exact n _ rfl
   exact⟨o,by rw[AZ _ _ _ _ this];exact e,rfl⟩
  .refine h h' T' (c1.trans ⟨λb o e n _ m=>k.keep b o e n (by simp) m,λb o e n _=>k.slot b o e n (by simp),k.there⟩) x (Av (Dh ?_) z);show s.heap.objs.size=(s.heap.objs.modify T _).size;simp
def oY{s:db}{L C dx:ce}(hA:A.frames=al (env::outer))(hF:s.heap.FunFrames base (env::outer))(hL:env.frame=al L)(hx:lq s.heap a C dx ot)(h:∀h' T,kM (jo (env::outer)) a ot s.heap h'->lq h' a C dx (al T)->s.heap.objs.size<=T->Q () {s with heap:=h'}):f8 M A (leaving env (.ref a)) Q E s:=by
 unfold leaving;exact Ab (lY hA hF hL hx h)
abbrev yg:O ci:=[.type "ValueError",.type "Exception",.type "BaseException",.type "object"]
def eM(C t:ce):Obj:={cls:=.ref C,data:=.fields #[.ref t,.none,.none,.none,.bool false,.none]}
structure qc(K:Aa)(C f:ce):Prop where
 obj:∃nm q N bs bm iQ sn sub ab col dd k0 k1 k2 k3 k5,K.lookup C=al (Db nm q C N bs bm iQ sn sub ab col dd k0 k1 k2 k3 k5 "ValueError.__new__")/\∀h:io,K.In h->OwnTail h yg bm
 call:BA K (.ref C) "__call__"=al (al (.builtin "type.__call__"))
 self:Bb K C (.ref C)=al true
 init:Ao K (.ref C) "__init__"=al (al (.ref f))
 fn:B9 K (.ref f)=true
set_option maxHeartbeats 2000000 in
def wK{prog:lm}{w:sw}{A:u8}{K:Aa}{C f:ce}{R:Result->db->Prop}{s:db}{vs:O ci}(X:K.In s.heap)(M:qc K C f)(lv:vs.length<=sizeLine)(h:FM (gl prog w) (A.under (.builtin "type.__call__" ⟨.ref C::vs,[]⟩)) (.call (.ref f) ⟨.ref (s.heap.objs.size+1)::vs,[]⟩) (EO (s.heap.objs.size+1) R)
   {s with heap:=(s.heap.push {cls:=.type "tuple",data:=.seq vs.toArray}).push (eM C s.heap.objs.size)}):FM (gl prog w) A (.call (.ref C) ⟨vs,[]⟩) R s:=by
 obtain⟨nm,q,N,bs,bm,iQ,sn,sub,ab,col,dd,k0,k1,k2,k3,k5,hC,tl⟩:=M.obj;have L5:=X _ _ hC;refine codeAny_of_tree ?_;show f8 _ _ (callAny (.ref C) ⟨vs,[]⟩) _ _ _;unfold callAny;refine Ab (wpAny_load L5 ?_);show f8 _ _ (EG (.ref C) ⟨vs,[]⟩) _ _ _;unfold EG;refine Ab (AM.here (PySem.W.looks_specialIn X M.call) ?_);show f8 _ _ (bindSpecial (.builtin "type.__call__") (.ref C) >>= _) _ _ _;rw[PySem.F.bind_type_call];refine Ab (Ae ?_);show f8 _ _ (callAny.plainCallee (.builtin "type.__call__") >>= _) _ _ _;refine Ab (Ae ?_);refine Ae ⟨rfl,?_⟩;refine codeAny_of_tree ?_;show f8 _ _ (callAny (.builtin "type.__call__") ⟨.ref C::vs,[]⟩) _ _ _;unfold callAny;refine Ab (wpAny_check_type_call_sub L5 (Ae ⟨Code.quiet_builtin _ (by decide +kernel),codeAny_builtin PySem.F.entry_type_call ?_⟩));unfold Builtin.«type.__call__»;have h1:(Ar C==EZ "type")=false:=rfl;have R7:=tl _ X;show f8 _ _ (mroOf (.ref C) >>= _) _ _ _;unfold mroOf;refine Ab (Ab (AM.here (B3 X (show Bi K C=al _ by unfold Bi;rw[hC])) (Ae ?_)));show f8 _ _ (Bind.madeBy (.ref C) >>= _) _ _ _;refine Ab (wpAny_madeBy_exc L5 ?_);show f8 _ _ (pi [Value.builtin "ValueError.__new__"] (call (.builtin "ValueError.__new__") (.ref C::vs) []) >>= _) _ _ _;refine Ab (A4 (B1 (codeAny_of_tree ?_)));show f8 _ _ (callAny (.builtin "ValueError.__new__") ⟨.ref C::vs,[]⟩) _ _ _;refine Ab (wpAny_check_new_subT Dn R7 L5 (Ae ⟨Code.quiet_builtin _ (by decide +kernel),codeAny_exc_new_subT Dn R7 L5 ?_ lv⟩));have X':K.In ((s.heap.push {cls:=.type "tuple",data:=.seq vs.toArray}).push (eM C s.heap.objs.size)):=X.keeps λb o e=>Ad _ (Ad _ e);have eo:((s.heap.push {cls:=.type "tuple",data:=.seq vs.toArray}).push (eM C s.heap.objs.size)).get? (s.heap.objs.size+1)=al (eM C s.heap.objs.size):=by
  have:=Am (s.heap.push {cls:=.type "tuple",data:=.seq vs.toArray}) (o:=eM C s.heap.objs.size) rfl
  rwa [Bm]at this
 show f8 _ _ (wS (.ref (s.heap.objs.size+1)) (.ref C) >>= _) _ _ _;unfold wS;refine Ab (Ab (Ab (AU eo (Ae ?_))));refine AM.here (B2 X' M.self) ?_;show f8 _ _ (pi [Ar (s.heap.objs.size+1)] (callSpecial? (.ref (s.heap.objs.size+1)) "__init__" vs []) >>= _) _ _ _;refine Ab (A4 ?_);unfold callSpecial? specialOf;refine Ab (Ab (Ab (AU eo (Ae ?_))));refine AM.here (Bk X' M.init) ?_;refine A4 (Ab (AM.here (PySem.W.bind_fn X' _ (beq_iff_eq.mp M.fn)) ?_));refine Ab (B1 (tz h λr s' hr=>?_));cases r with
 |error e=>exact hr
 |ok fl=>
  cases fl with
  |ret v=>
   obtain⟨rfl,hr⟩:=hr;exact Ae (Ae hr)
  |next=>exact hr
  |brk=>exact hr
  |cont=>exact hr
end L2
variable{u:AO}
namespace L2
def mN(a C:ce)(h:io):Prop:=∃v0,h.get? a=al {cls:=.ref C,data:=.fields #[v0,.none,.none,.none,.bool false,.none]}
def mM(a C dx:ce)(h:io):Prop:=∃vs sl,h.get? a=al {cls:=.ref C,dict:=al dx,data:=.fields vs,slots:=sl}
structure yA(K:Aa)(TE C:ce):Prop where
 ga:BA K (.ref TE) "__getattribute__"=al (al (.builtin "type.__getattribute__"))
 rd:PySem.W.readsIn K TE (.type "type")=true
 fc:PySem.W.findCls K (.ref TE) (.type "type") "__init__"=al (.val (.builtin "ValueError.__init__"))
 sub:Bb K C (.type "ValueError")=al true
def Pr:Manifest.Signature:={machinery:=Manifest.Machinery.positional,full:="*",short:="ValueError",receiver:=Manifest.Receiver.self,params:=[{name:="args",kind:=Manifest.ParamKind.varPos,required:=false}]}
section
variable{K:Aa}
def pT{s:db}{C:ce}(X:K.In s.heap)(e:s.heap.get? a=al o)(c:o.cls=.ref C)(m:Bb K C (.type "ValueError")=al true)(RL:∃cd,Bi K C=al cd)(h:Q () s):f8 M A (BT "ValueError.__init__" ⟨[.ref a,u],[]⟩) Q E s:=by
 have F:=Dm;unfold BT;rw[F.initKind,F.initSplit,F.initRow];show f8 M A (wS (.ref a) (.type "ValueError") >>= _) Q E s;unfold wS;refine Ab (Ab (Ab (AU e (Ae ?_))));rw[c];refine AM.here (B2 X m) ?_;obtain⟨cd,df⟩:=RL;rw[if_neg ⋯];show f8 M A (Bind.checkArgs "ValueError.__init__" Pr ⟨[.ref a,u],[]⟩) Q E s;unfold Bind.checkArgs;show f8 M A (Bind.printed "*" true Pr (al (.ref a)) >>= _) Q E s;unfold Bind.printed;show f8 M A ((Bind.receiverType Pr (.ref a) >>= _) >>= _) Q E s;refine Ab (Ab ?_);show f8 M A (typeOf (.ref a)) _ E s;refine Ab (AU e (Ae ?_));rw[c];unfold typeNameWhole;refine Ab (Ab (AM.here (B3 X df) (Ae (Ae ?_))));show f8 M A (pure "ValueError" >>= _) Q E s;refine Ab (Ae (wpAny_onRaise ?_));exact Ae h
def xP{Q:ci->db->Prop}{s:db}{C:ce}{v0:ci}(X:K.In s.heap)(e:s.heap.get? a=al {cls:=.ref C,data:=.fields #[v0,.none,.none,.none,.bool false,.none]})(m:Bb K C (.type "ValueError")=al true)(RL:∃cd,Bi K C=al cd)(h:∀h' v1,h'.get? a=al {cls:=.ref C,data:=.fields #[v1,.none,.none,.none,.bool false,.none]}->(∀b o,b≠a->s.heap.get? b=al o->h'.get? b=al o)->Q .none {s with heap:=h'}):f8 (gl prog w) A (call (.builtin "ValueError.__init__") [.ref a,u]) Q E s:=by
 have F:=Dm;refine B1 (EQ (by decide +kernel) F.initEntry (pT X e rfl m RL ?_));unfold Builtin.«BaseException.__init__»;show f8 _ _ (newTuple [u] >>= _) _ _ s;unfold newTuple;refine Ab (BD ?_ (by simp only[sizeOk];show 1<=sizeLine;decide));have e1:(s.heap.push {cls:=.type "tuple",data:=.seq #[u]}).get? a=al {cls:=.ref C,data:=.fields #[v0,.none,.none,.none,.bool false,.none]}:=Ad _ e;show f8 _ _ (Builtin.BaseException.bexcPut (.ref a) 0 (.ref s.heap.objs.size) >>= _) _ _ _;refine Ab ?_;unfold Builtin.BaseException.bexcPut;refine Ab (A6 e1 rfl rfl (Ab (CU e1 rfl (by simp) ?_)));have fin:∀{Q':Unit->db->Prop},Q' () {s with heap:=(s.heap.push {cls:=.type "tuple",data:=.seq #[u]}).update a (BJ λx=>x.setIfInBounds 0 (.ref s.heap.objs.size))}->
   f8 (gl prog w) A.in1 (match v0 with | .ref b=>letGo [v0] [] | _=>pure ()) Q' (λe s'=>E e s') {s with heap:=(s.heap.push {cls:=.type "tuple",data:=.seq #[u]}).update a (BJ λx=>x.setIfInBounds 0 (.ref s.heap.objs.size))}:=λ{Q'} hq=>by
  cases v0<;>first|exact Ae hq|exact Es hq
 refine fin (Ae ?_);exact h _ _ (cZ e1) λb o n eb=>by rw[AZ _ _ _ _ n];exact Ad _ eb
end
end L2
variable{b:Bool}{tk:PySem.Tok}
namespace L2
def Nj{s:db}{t:Sem Unit}(e:t=pure ())(h:Q () s):f8 M A t Q E s:=e▸Ae h
structure FW(K:Aa)(C:ce)(f:Str):Prop where
 ga:Ao K (.ref C) "__getattribute__"=al (al (.builtin "BaseException.__getattribute__"))
 no:Ao K (.ref C) "__getattr__"=al bn
 sub:Bb K C (.type "BaseException")=al true
 hd:BC K C=true
 at_:Ao K (.ref C) f=al bn
def yS{K:Aa}{s:db}{C dx:ce}{sl:Array (Option ci)}{f:Str}{p:Int}{m:Str->Option ci}{Q:ci->db->Prop}(X:K.In s.heap)(F:FW K C f)(e:s.heap.get? a=al {cls:=.ref C,dict:=al dx,data:=.fields vs,slots:=sl})(n:s.heap.Ns1 dx m)(hm:m f=al (.int p tk))(h:Q (.int p tk) {s with toks:=s.toks+1}):f8 (gl prog w) A (getAttr (.ref a) f b) Q E s:=by
 obtain⟨od,ho,hl⟩:=lW n;have J:CK s.heap a {cls:=.ref C,dict:=al dx,data:=.fields vs,slots:=sl} C (al od):=⟨e,rfl,rfl,ho⟩;unfold getAttr;refine Ab (wpAny_mkText ?_);unfold getAttrBy;refine A4 (Ab (Ab (AU e (Ae ?_))));refine Ab (AM.here (Bk X F.ga) ?_);show f8 _ _ (KM (.ref a) (.str f s.toks) (.ref C) (.builtin "BaseException.__getattribute__") true b) _ _ _;unfold KM;refine Ab ?_;show f8 _ _ (typeLookup (.ref C) "__getattr__") _ _ _;refine AM.here (Bk X F.no) ?_;refine Ab (C3 (A4 ?_));have e1:callGetattribute (.ref a) (.str f s.toks) (.builtin "BaseException.__getattribute__") b=boundAndCalled (.builtin "BaseException.__getattribute__") (.ref a) (.str f s.toks):=by
  unfold callGetattribute;rw[show(b&&onTheHeap (.builtin "BaseException.__getattribute__"))=false by cases b <;> rfl];rfl
 rw[e1];unfold boundAndCalled;rw[Dp.ga.bind (.ref a)];refine Ab (Ae (B1 (EQ (by decide +kernel) Eg ?_)));unfold BT;have hk:(builtinKind "BaseException.__getattribute__",splitId "BaseException.__getattribute__")=(al CM,al ("BaseException","__getattribute__")):=by decide +kernel
 rw[hk];refine Ab ?_;show f8 _ _ (wS (.ref a) (.type "BaseException")) _ _ _;unfold wS;refine Ab (Ab (AU e (Ae ?_)));refine AM.here (B2 X F.sub) ?_;have ha:argsOk "BaseException.__getattribute__" ⟨[.ref a,.str f s.toks],[]⟩:=En _ _;rw[if_neg ⋯];refine Nj ha ?_;unfold Builtin.«object.__getattribute__»;refine Ab (Ae (Ab (Ae (Ab (Ab (AU e (Ae ?_)))))));refine Ab (AM.here (EB X J (Ex F.hd F.at_ rfl (by rw[hl,hm]))) (Ae ?_));show f8 _ _ (handedOut (.int p tk)) _ _ _;exact Ae h
def fj{self:ci}{l:O ci}{n:String}(h1:(n=="_thread._local")=false)(h2:(n=="_pickle.Pickler"||n=="_pickle.Unpickler")=false)(h:builtinOwn n "__setattr__"=bn):refuseLoop self "__setattr__" (.type n::l)=refuseLoop self "__setattr__" l:=by
 have hc:classOwn (.type n) "__setattr__"=pure bn:=by
  show pure (builtinOwn n "__setattr__")=pure bn;rw[h]
 unfold refuseLoop;rw[Ef];simp only[h1,h2,hc];rfl
structure tM(K:Aa)(C TE:ce)(f:Str):Prop where
 sa:Ao K (.ref C) "__setattr__"=al (al (.builtin "object.__setattr__"))
 ob:Bb K C (.type "object")=al true
 at_:Ao K (.ref C) f=al bn
 cd:∃cd,Bi K C=al cd/\cd.hasDict=true/\cd.mro=[.ref C,.ref TE,.type "ValueError",.type "Exception",.type "BaseException",.type "object"]
def yR{K:Aa}{s:db}{C TE:ce}{f:Str}{v:ci}(X:K.In s.heap)(F:tM K C TE f)(e:s.heap.get? a=al {cls:=.ref C,data:=.fields vs})(h:∀h' dx tk,s.heap.objs.size<=dx->h'.get? a=al {cls:=.ref C,dict:=al dx,data:=.fields vs}->h'.Ns1 dx (λy=>if y=f then al v else bn)->(∀b o,b≠a->s.heap.get? b=al o->h'.get? b=al o)->Q () {s with heap:=h',toks:=tk}):f8 (gl prog w) A (setAttr (.ref a) f v) Q E s:=by
 obtain⟨cd,df,W0,QK⟩:=F.cd;have J:CK s.heap a {cls:=.ref C,data:=.fields vs} C bn:=⟨e,rfl,rfl,trivial⟩;refine EI X J F.sa ?_;refine EQ (by decide +kernel) PySem.F.entry_object_setattr ?_;unfold BT;have hk:(builtinKind "object.__setattr__",splitId "object.__setattr__")=(al CM,al ("object","__setattr__")):=by decide +kernel
 rw[hk];refine Ab ?_;show f8 _ _ (wS (.ref a) (.type "object")) _ _ _;unfold wS;refine Ab (Ab (AU e (Ae ?_)));refine AM.here (B2 X F.ob) ?_;rw[if_neg ⋯];refine Nj (PySem.F.args_object_setattr_3 _ _ _) ?_;rw[PySem.W.osa_eq,refuse_eq];refine Ab (Ab (Ab (AU e (Ae ?_))));refine Ab (Ab (AM.here (B3 X df) (Ae ?_)));rw[QK,refuseLoop_ref,refuseLoop_ref,fj (by decide +kernel) (by decide +kernel) (by decide +kernel),fj (by decide +kernel) (by decide +kernel) (by decide +kernel),fj (by decide +kernel) (by decide +kernel) (by decide +kernel)];refine Nj (PySem.W.refuse_only _ (by decide +kernel)) ?_;refine Ab (Ab (AU e (Ae ?_)));refine Ab (AM.here (Bk X F.at_) ?_);show f8 _ _ (pure bn >>= _) _ _ _;refine Ab (Ae ?_);show f8 _ _ (Builtin.ObjectAttr.storeInOwnDict (.ref a) (.ref C) (.str f s.toks) f v false) _ _ _;unfold Builtin.ObjectAttr.storeInOwnDict;show f8 _ _ (pure () >>= _) _ _ _;refine Ab (Ae ?_);show f8 _ _ (instanceDict a true >>= _) _ _ _;refine Ab ?_;unfold instanceDict;refine Ab (AU e ?_);show f8 _ _ (classData C >>= _) _ _ _;refine Ab (AM.here (B3 X df) ?_);rw[W0];show f8 _ _ (alloc {cls:=.type "dict",data:=.dict #[]} >>= _) _ _ _;refine Ab (wpAny_alloc ?_);have e1:(s.heap.push {cls:=.type "dict",data:=.dict #[]}).get? a=al {cls:=.ref C,data:=.fields vs}:=Ad _ e;have nd:s.heap.objs.size≠a:=D3 (Ai e);refine Ab (wpAny_update e1 ?_);refine Ae ?_;have e2:=Cj (λo:Obj=>{cls:=o.cls,dict:=al s.heap.objs.size,data:=o.data,slots:=o.slots}) e1 rfl;have e3:((s.heap.push {cls:=.type "dict",data:=.dict #[]}).update a (λo:Obj=>{cls:=o.cls,dict:=al s.heap.objs.size,data:=o.data,slots:=o.slots})).get? s.heap.objs.size=al {cls:=.type "dict",data:=.dict #[]}:=by
  rw[AZ _ _ _ _ nd];exact Am _ rfl
 have kp:∀b o,b≠a->s.heap.get? b=al o->((s.heap.push {cls:=.type "dict",data:=.dict #[]}).update a (λo:Obj=>{cls:=o.cls,dict:=al s.heap.objs.size,data:=o.data,slots:=o.slots})).get? b=al o:=λb o n eb=>by
  rw[AZ _ _ _ _ n];exact Ad _ eb
 generalize (s.heap.push {cls:=.type "dict",data:=.dict #[]}).update a (λo:Obj=>{cls:=o.cls,dict:=al s.heap.objs.size,data:=o.data,slots:=o.slots})=h2 at e2 e3 kp;have n0:h2.Ns1 s.heap.objs.size (λ_=>bn):=Heap.Ns1.of_empty ⟨_,#[],_,e3,rfl,(λe he=>absurd he (by simp)),λ_=>rfl⟩;show f8 _ _ (Builtin.ObjectAttr.storeInDict s.heap.objs.size (.str f s.toks) f v) _ _ _;unfold Builtin.ObjectAttr.storeInDict;show f8 _ _ (pure () >>= _) _ _ _;refine Ab (Ae (Ab (wpAny_nsSet1 n0 λh3 n3 sb=>?_)));obtain⟨oD,Xx,Xy,QI,QZ,xo⟩:=n3.count (EH f v (ns:=[]) λy hy=>absurd rfl hy);refine Ab (wpAny_lookBehind QI (by rw[QZ];exact pastItsLine_dict (Av xo (by show 1<=sizeLine+1;decide))) (Ae ?_));refine h h3 _ _ (Aj _) ((sb.2 _ nd.symm).trans e2) n3 λb o n eb=>?_;have:b≠s.heap.objs.size:=AI (Ai eb);exact(sb.2 _ this).trans (kp b o n eb)
end L2
variable{So:Option AN}
namespace L2
structure FU(C:ce)(lo:Nat)(H:Hp)(h:io)(a dx:ce)(ot:Option ce)(n:Int):Prop where
 fx:lq h a C dx ot
 fa:H a=al (.ext (mM a C dx))
 fd:H dx=al (.xd [("place",.int n)])
 fl:lo<=a
 ft:∀T,ot=al T->H T=bn/\lo<=T
def iC(P:lm)(w:sw)(C:ce):uY:=λouter H s E e s'=>∃a dx ot n H',e=.ref a/\s'.os=s.os/\GT s'.gens/\Un (jo outer) [] H H' s.heap s'.heap/\fR P w H' s'.heap/\FU C s.heap.objs.size H' s'.heap a dx ot n/\E (.int n 0) (al a) H'
def kJ(X:Cx)(C:ce)(E:XK):Prop:=∀(Z:O (ce×Obj)) (σ:St) (H:Hp) (s:db) (a dx:ce) (ot:Option ce) (n:Int),Inv X Z σ H s->FU C X.s₀.heap.objs.size H s.heap a dx ot n->E (.int n 0) (al a) H->X.xe (.ref a) s
def lq.U8{C dx:ce}(x:lq h a C dx ot):mM a C dx h:=let ⟨vs,sl,e,_⟩:=x;⟨vs,sl,e⟩
def kM.aW{C dx:ce}(c:kM S a ot h h')(x:lq h' a C dx So)(ok:fR P w H h)(ea:H a=al (.ext (mM a C dx)))(et:∀T,ot=al T->H T=bn)(es:∀b∈S,H b=bn):fR P w H h':=λb o e=>by
 by_cases hb:b=a
 .subst hb;rw[ea]at e;cases e;obtain⟨_,_,st⟩:=ok b _ ea;obtain⟨vs,sl,q,_⟩:=id x;exact⟨x.U8,⟨_,q⟩,st⟩
 .refine(ok b o e).jP (λd u hd q=>c.keep d u q ?_ ?_ ?_) (λ_ z=>z) λ_ _ z=>z
  .rintro rfl;rcases hd with rfl|hd
   .exact hb rfl
   .rw[ea]at hd;cases hd
  .intro z;have:=et d z;rcases hd with rfl|hd
   .rw[this]at e;cases e
   .rw[this]at hd;cases hd
  .intro z;have:=es d z;rcases hd with rfl|hd
   .rw[this]at e;cases e
   .rw[this]at hd;cases hd
def br{K:Aa}{N:O Str}{C:ce}{s:db}{E:XK}:kJ (ic (iC P w C) P w K mg base N qual sc f cd A outer s H E) C E:=by
 intro Z σ H1 s1 a dx ot n I F e;have st:=I.stack;have sf:=I.gK;have nl:∀b,s.heap.objs.size<=b->∀o,s.heap.get? b=al o->False:=λb hb o q=>absurd (Ai q) (Dt.mpr hb);show f8 _ _ (leaving _ (.ref a)) _ _ s1;refine oY (base:=base) (env:=wT qual sc s.heap.objs.size f cd) (outer:=outer) I.ok.frames st rfl F.fx λh' T c x hT=>?_;have T0:H1 T=bn:=I.aW.fresh hT;refine⟨a,dx,al T,n,H1,rfl,I.os,I.bare,⟨λb o q n0 hb hx=>?_,λb o q n0 hb hx=>?_,I.base.free,λb o q hx=>?_,I.base.bW,I.base.jn,I.base.jc⟩,c.aW x I.aW F.fa (λT h=>(F.ft T h).1) sf,⟨x,F.fa,F.fd,F.fl,λT' z=>by cases z;exact⟨T0,Av I.sz hT⟩⟩,e⟩
 .have q1:=I.base.keep b o q n0 hb hx;refine c.keep b o q1 (λz=>nl _ F.fl _ (z▸q)) (λz=>nl _ (F.ft _ z).2 _ q) λz=>?_;have z:b∈jo (wT qual sc s.heap.objs.size f cd::outer):=z;simp only[jo,BI,wT]at z;rcases Au.mp z with rfl|z
  .exact nl _ (Aj _) _ q
  .exact hb z
 .obtain⟨sl,q1⟩:=I.base.slot b o q n0 hb hx;obtain⟨za,q2⟩:=c.slot b _ q1 (λz=>nl _ F.fl _ (z▸q)) (λz=>nl _ (F.ft _ z).2 _ q);exact⟨za,q2⟩
 .obtain⟨o1,q1⟩:=I.base.there b o q hx;exact c.there b o1 q1
def gj{C:ce}{E:XK}(h:kJ X C E):Passes (iC X.prog X.w C) X E:=by
 rintro Z σ H s e s' I ⟨a,dx,ot,n,H',rfl,os,bare,un,aW,F,q⟩;obtain⟨hh,g,d,t,Lf⟩:=s';obtain rfl:Lf=s.os:=os;refine h Z σ H' _ a dx ot n (I.call (h':=hh) (g':=g) (d':=d) (t':=t) (ch:=[]) un aW bare (λb z=>absurd z (by simp))) ⟨F.fx,F.fa,F.fd,Av I.sz F.fl,λT z=>⟨(F.ft T z).1,Av I.sz (F.ft T z).2⟩⟩ q
section
variable{K:Aa}
def gD.HQ{C:ce}{x:Str}{st:nn}{N:O Str}(F:gD K x qual st f fd)(S:bI N ps (aj st))(len:∀vs H Q E,sp vs H Q E->vs.length=ps.length)(kd:∀(bC:ci) (A:u8) (outer:O Env) (s:db) (H:Hp) (vs:O V) (Q:VK) (E:XK),bf k (A.deeper (wT qual (aj st) s.heap.objs.size f bC))->sp vs H Q E->
   ∃t,jb (ic (iC P w C) P w K mg base N qual (aj st) f bC A outer s H E) (aY st) t/\t {nx:=λ_ H'=>Q .a8 H',rt:=Q} (start N vs) H):ba P w K mg base (iC P w C) (k+1) f fd ps sp:=by
 obtain⟨oc,od,kV,Æ,pm,an,bC,ct,u7,rfl,lk,df⟩:=F.ex;exact xv lk df S len λA outer s H vs Q E hr qO=>kd bC A outer s H vs Q E hr qO
end
def qA(a C dx:ce)(h:io):Prop:=∃v1,h.get? a=al {cls:=.ref C,dict:=al dx,data:=.fields #[v1,.none,.none,.none,.bool false,.none]}
section
variable{K:Aa}{es:im}{p q1:Pos}{x:Str}{C RQ:ce}
def UY(t1:TE):TE:=λσ H Q=>t1 σ H λx H1=>∃n:Int,x=.int n/\n.natAbs.log2<100/\∀u,Q (.str u) H1
theorem K8{a:Str}(la:a.length<=100)(he:PE X e te):PE X (.JoinedStr [.Constant (.str a) i q1,.FormattedValue e (-1) bn p1] pos) (UY te):=by
 intro Z s σ H Q I h;have big:3000<=sizeLine:=by rw[pc];decide
 have e0:(Cg:Str).length=0:=rfl;refine JoinedStr_many ?_;refine joinParts_cons (bb (iI Z s σ H (λx H1=>x=.str a/\H1=H) I ⟨rfl,rfl⟩) λu0 s0 ⟨x0,H0,I0,r0,Xw,XB⟩=>?_);subst Xw;subst XB;obtain⟨t0,rfl⟩:=r0;refine⟨by rw[Af];lia,?_⟩;refine joinParts_cons (FormattedValue_plain (bb (he Z s0 σ _ _ I0 h) λu1 s1 ⟨x1,H1,I1,r1,n,Xv,ln,h⟩=>?_));subst Xv;obtain⟨t1,rfl⟩:=r1;have l1:=int_text_length_le (k:=100) ⋯ ln;have l2:(DV (toString n)).length<=101:=by rw[PySem.ofString_length];exact l1
 have l3:(Cg++a++DV (toString n)).length<=sizeLine:=by rw[Af,Af];lia
 refine formatField_int_small ∅ ⟨l3,?_⟩;exact joinParts_nil ⟨.str _,_,(I1.tok _).tok _,⟨_,rfl⟩,h _⟩ l3
def Ga{C:ce}:∀h1 h2:io,mN a C h1->(∀o,h1.get? a=al o->h2.get? a=al o)->mN a C h2:=λ_ _ ⟨v,e⟩ k=>⟨v,k _ e⟩
def Ky{C dx:ce}:∀h1 h2:io,qA a C dx h1->(∀o,h1.get? a=al o->h2.get? a=al o)->qA a C dx h2:=λ_ _ ⟨v,e⟩ k=>⟨v,k _ e⟩
def Kz{C dx:ce}:∀h1 h2:io,mM a C dx h1->(∀o,h1.get? a=al o->h2.get? a=al o)->mM a C dx h2:=λ_ _ ⟨v,sl,e⟩ k=>⟨v,sl,k _ e⟩
def UR(C:ce)(ta te:TE):TE:=λσ H Q=>ta σ H λx H1=>te σ H1 λy H2=>∃a u,x=.ref a/\y=.str u/\H2 a=al (.ext (mN a C))/\Q .a8 H2
def K6(T:yA X.K RQ C)(df:∃cd,Bi X.K C=al cd)(hg:Gl X x)(hm:X.mg x=al (.ref RQ))(hs:PE X es ta)(he:PE X e te)(kW:‹gt [es,e] X.env=[(false,jp es X.env),(false,jp e X.env)]›)(cT: ~~~(dg x))(ht:‹jp (.Call (.Attribute (.Name x p) "__init__" À) [es,e] [] pos) X.env=(do
   let ov <- jp (.Name x p) X.env
   FB À.atName
   let (f,first) <- pi [ov] (getMethod ov "__init__" pl)
   callWith pos f first (Fk pos (gt [es,e] X.env)) (backToKw pos (GE [] X.env)))›):PE X (.Call (.Attribute (.Name x p) "__init__" À) [es,e] [] pos) (UR C ta te):=by
 intro Z s σ H Q I h;refine C1 (pl:=pl) (dr I hg hm ?_ cT) ht;refine PySem.W.method_cls I.cR T.ga (PySem.W.cls_value I.cR T.rd T.fc (by rfl) ?_);have I0:=I.tok (s.toks+1);rw[kW];refine CT rfl (Eo ?_);refine BN (bb (hs Z _ σ H _ I0 h) λu1 s1 ⟨x1,H1,I1,r1,h⟩=>BN (bb (he Z s1 σ H1 _ I1 h) λu2 s2 ⟨x2,H2,I2,r2,a,u,e1,e2,ea,q⟩=>CS ?_));subst e1;subst e2;obtain rfl:u1=Ar a:=r1;obtain⟨tk,rfl⟩:=r2;obtain⟨⟨v0,e0⟩,_,st⟩:=I2.aW _ _ ea;refine xP I2.cR e0 T.sub df λh' v1 e1 k1=>?_;have e2:upd H2 a (.ext (mN a C))=H2:=by
  funext b;by_cases hb:b=a
  .subst hb;rw[ao,ea]
  .rw[ag hb]
 have I3:=I2.write (x:=a) (e:=a) (o:=.ext (mN a C)) (h':=h') (t':=s2.toks) (by rw[ea];trivial) (.inl rfl) (λb o n=>k1 b o n) ⟨_,e1⟩ ⟨⟨v1,e1⟩,⟨_,e1⟩,Ga⟩;rw[e2]at I3;exact⟨.a8,H2,I3,rfl,q⟩
def U0(C:ce)(ta tv:TE)(f:Str):TS:=λD σ H=>tv σ H λy H1=>ta σ H1 λx H2=>∃a,x=.ref a/\H2 a=al (.ext (mN a C))/\∀H' dx,H2 dx=bn->(∀c,c≠a->c≠dx->H' c=H2 c)->H' a=al (.ext (qA a C dx))->H' dx=al (.xd [(f,y)])->D.nx σ H'
def K3{o:im}{tv:TE}{f:Str}(F:tM X.K C RQ f)(ha:PE X o ta)(hv:PE X Á tv)(hs:wv Á (al (.Attribute o f Ë)) pos.line X.env=pure false):PS X (.Assign [.Attribute o f Ë] Á pos) (U0 C ta tv f):=by
 intro Z s σ H D I h;refine plainObj_wpAny_Assign_Attribute (bb (hv Z s σ H _ I h) λu s1 ⟨y,H1,I1,ry,q⟩=>bb (ha Z s1 σ H1 _ I1 q) λov s2 ⟨x,H2,I2,rx,a,ex,ea,q⟩=>?_) hs;subst ex;obtain rfl:ov=Ar a:=rx;obtain⟨⟨v0,e0⟩,_,_⟩:=I2.aW _ _ ea;refine yR I2.cR F e0 λh' dx tk hd e1 n1 k1=>?_;have fd:H2 dx=bn:=I2.aW.fresh hd;have lt:a<s2.heap.objs.size:=Ai e0;have na:dx≠a:=λz=>absurd lt (Dt.mpr (z▸hd));have un:Un X.fs [] H2 (upd (upd H2 dx (.xd [(f,y)])) a (.ext (qA a C dx))) s2.heap h':=by
  refine⟨λb o q n _ _=>k1 b o (λz=>by subst z;rw[ea]at n;cases n) q,λb o q n _ _=>⟨o.slots,k1 b o (λz=>by subst z;rw[ea]at n;cases n) q⟩,λb o q n _=>?_,λb o q _=>?_,λb xs n=>?_,λb o v n=>?_,λb ps n=>?_⟩
  .have h1:b≠a:=λz=>by subst z;rw[ea]at n;cases n
   have h2:b≠dx:=AI (Aq (Ai q) hd);rw[ag h1,ag h2];exact n
  .by_cases hb:b=a
   .subst hb;exact⟨_,e1⟩
   .exact⟨o,k1 b o hb q⟩
  .have h1:b≠a:=λz=>by subst z;rw[ea]at n;cases n
   have h2:b≠dx:=λz=>by subst z;rw[fd]at n;cases n
   rw[ag h1,ag h2];exact n
  .have h1:b≠a:=λz=>by subst z;rw[ea]at n;cases n
   have h2:b≠dx:=λz=>by subst z;rw[fd]at n;cases n
   rw[ag h1,ag h2];exact n
  .have h1:b≠a:=λz=>by subst z;rw[ea]at n;cases n
   have h2:b≠dx:=λz=>by subst z;rw[fd]at n;cases n
   exact⟨#[],by rw[ag h1,ag h2,n];simp⟩
 have aW:fR X.prog X.w (upd (upd H2 dx (.xd [(f,y)])) a (.ext (qA a C dx))) h':=λb o n=>by
  by_cases h1:b=a
  .subst h1;rw[ao]at n;cases n;exact⟨⟨_,e1⟩,⟨_,e1⟩,Ky⟩
  rw[ag h1]at n;by_cases h2:b=dx
  .subst h2;rw[ao]at n;cases n;refine⟨_,n1,λg=>?_⟩;by_cases hg:g=f
   .subst hg;rw[if_pos rfl,Eh];exact ry
   .rw[if_neg hg];have:(g==f)=false:=by simpa using hg
    simp[B7,this,lj]
  rw[ag h2]at n;refine(I2.aW b o n).jP (λc u hc q=>k1 c u ?_ q) (λc z=>?_) λc xs z=>?_
  .rintro rfl;rcases hc with rfl|hc
   .exact h1 rfl
   .rw[ea]at hc;cases hc
  .have h1:c≠a:=λy=>by subst y;rw[ea]at z;cases z
   have h2:c≠dx:=λy=>by subst y;rw[fd]at z;cases z
   rw[ag h1,ag h2];exact z
  .have h1:c≠a:=λy=>by subst y;rw[ea]at z;cases z
   have h2:c≠dx:=λy=>by subst y;rw[fd]at z;cases z
   rw[ag h1,ag h2];exact z
 exact⟨σ,_,I2.un (t':=tk) un aW,q _ dx fd (λc h1 h2=>by rw[ag h1,ag h2]) ao (by rw[ag na,ao])⟩
end
end L2
variable{σ:L2.St}{bs sub:O AO}{k1 k2 k3 k0 k5:Option AO}{nm:Bt}{iQ:Bool}{sn:O Bt}{col:Option Bool}{dd:Option AN}
namespace L2
def vt(C:ce):Sp:=λvs H Q _=>∃(a:ce) (n:Int),vs=[.ref a,.int n]/\H a=al (.ext (mN a C))/\n.natAbs.log2 < 100/\∀H' dx,H dx=bn->(∀c,c≠a->c≠dx->H' c=H c)->H' a=al (.ext (qA a C dx))->H' dx=al (.xd [("place",.int n)])->Q .a8 H'
section
variable{K:Aa}{C:ce}
def Ia{s:db}{n:Int}{Q:ci->db->Prop}(M:qc X.K C f)(F:ba X.prog X.w X.K X.mg X.base iz k f fd ["self","place"] (vt C))(hb:Binds X.K fd ["self","place"] [])(hr:bf (k+1) X.A)(I:Inv X Z σ H s)(hn:n.natAbs.log2 < 100)(q:∀s' a dx H',Inv X Z σ H' s'->(∀c o,H c=al o->H' c=al o)->(∀c,H' c=bn->H c=bn)->FU C s.heap.objs.size H' s'.heap a dx bn n->
   (∃v1,s'.heap.get? a=al {cls:=.ref C,dict:=al dx,data:=.fields #[v1,.none,.none,.none,.bool false,.none]})->Q (.ref a) s'):f8 (gl X.prog X.w) X.A (call (.ref C) [.int n tk]) Q X.xe s:=by
 have e1:((s.heap.push {cls:=.type "tuple",data:=.seq [CI n tk].toArray}).push (eM C s.heap.objs.size)).get? (s.heap.objs.size+1)=al (eM C s.heap.objs.size):=by
  have:=Am (s.heap.push {cls:=.type "tuple",data:=.seq [CI n tk].toArray}) (o:=eM C s.heap.objs.size) rfl
  rwa [Bm]at this
 have fa:H (s.heap.objs.size+1)=bn:=I.aW.fresh (Et _);have I1:=I.laid (a:=s.heap.objs.size+1) (o:=.ext (mN (s.heap.objs.size+1) C)) (t':=s.toks) (h':=(s.heap.push {cls:=.type "tuple",data:=.seq [CI n tk].toArray}).push (eM C s.heap.objs.size)) (λb u q=>Ad _ (Ad _ q)) (Et _) ⟨⟨_,e1⟩,⟨_,e1⟩,Ga⟩;have r2:Vals [V.ref (s.heap.objs.size+1),.int n] [Ar (s.heap.objs.size+1),.int n tk]:=.cons rfl (.cons ⟨tk,rfl⟩ .nil);have hq:vt C [V.ref (s.heap.objs.size+1),.int n] (upd H (s.heap.objs.size+1) (.ext (mN (s.heap.objs.size+1) C))) (λv H'=>v=.a8/\∃dx,H dx=bn/\dx≠s.heap.objs.size+1/\(∀c,c≠s.heap.objs.size+1->c≠dx->H' c=H c)/\H' (s.heap.objs.size+1)=al (.ext (qA (s.heap.objs.size+1) C dx))/\H' dx=al (.xd [("place",.int n)])) E0:=
  ⟨_,n,rfl,ao,hn,λH' dx hd ho ha hx=>by
   have nx:dx≠s.heap.objs.size+1:=λz=>by subst z;rw[ao]at hd;cases hd
   rw[ag nx]at hd;exact⟨rfl,dx,hd,nx,λc h1 h2=>by rw[ho c h1 h2,ag h1],ha,hx⟩⟩
 refine B1 (wK I.cR M (by show 1<=sizeLine;decide) (tz (F.run _ X.stack _ _ ⟨[Ar (s.heap.objs.size+1),.int n tk],[]⟩ [Ar (s.heap.objs.size+1),.int n tk] _ _ E0 (hr.make C _ [])
  (I1.xK.make C _ []) (hb _ [Ar (s.heap.objs.size+1),.int n tk] I1.cR rfl) r2 hq) λr s' xc=>?_))
 cases r with
 |error e=>exact xc.elim
 |ok fl=>
  cases fl with
  |ret u=>
   obtain⟨v,H',I3,rv,ev,dx,hd,nd,ho,ha,hx⟩:=I1.after xc;subst ev;obtain⟨⟨v1,e2⟩,_,_⟩:=I3.aW _ _ ha;refine⟨rv,?_⟩;have I4:=I3.write (x:=s.heap.objs.size+1) (e:=s.heap.objs.size+1) (o:=.ext (mM (s.heap.objs.size+1) C dx)) (h':=s'.heap) (t':=s'.toks) (by rw[ha];trivial) (.inl rfl) (λb o _ q=>q) ⟨_,e2⟩ ⟨⟨_,_,e2⟩,⟨_,e2⟩,Kz⟩;refine q s' _ dx _ I4 (λc o e=>?_) (λc e=>?_) ⟨⟨_,_,e2,(by show 1<6;decide),rfl⟩,ao,by rw[ag nd];exact hx,Et _,λT z=>(nomatch z)⟩ ⟨v1,e2⟩
   .have h1:c≠s.heap.objs.size+1:=λz=>by subst z;rw[fa]at e;cases e
    have h2:c≠dx:=λz=>by subst z;rw[hd]at e;cases e
    rw[ag h1,ho c h1 h2];exact e
   .by_cases h1:c=s.heap.objs.size+1
    .subst h1;exact fa
    .rw[ag h1]at e;by_cases h2:c=dx
     .subst h2;exact hd
     .rw[ho c h1 h2]at e;exact e
  |next=>exact AD xc
  |brk=>exact AD xc
  |cont=>exact AD xc
def lJ{s:db}{q:Str}{N:ce}{bm:O ci}{ab:Bool}{Û:String}{x:Sem ci}{Q:Flow->db->Prop}(cL:bm.contains (.type "BaseException")=true)(hh:A.handled=bn)(h:f8 M A x (λv s₁=>∃e dx t,v=.ref e/\s₁.heap.get? C=al (Db nm q C N bs bm iQ sn sub ab col dd k0 k1 k2 k3 k5 Û)/\
   s₁.heap.get? e=al {cls:=.ref C,dict:=al dx,data:=.fields #[t,.none,.none,.none,.bool false,.none]}/\E (.ref e) s₁) E s):f8 M A (raiseStmt env (al x) bn) Q E s:=by
 have W9:(Ar C::bm).contains (.type "BaseException")=true:=by rw[List.contains_cons,cL,Bool.or_true]
 unfold raiseStmt;refine Ab (Be h (λv s₁ h₁=>?_) λ_ _ x=>x);obtain⟨e,dx,t,rfl,hC,he,hE⟩:=h₁;obtain⟨hp,g,d,tk,os⟩:=s₁
 repeat (first|with_reducible refine CV he ?_|with_reducible refine CV hC ?_|(with_reducible refine C9 hC ?_;rw[W9])|wp_step)
 exact wpAny_raiseNew_none hh hE
end
def He(te:TE)(E:XK):TS:=λ_ σ H=>te σ H λx H1=>∃n:Int,[x]=[.int n]/\n.natAbs.log2<100/\∀(a:ce) (H':Hp),(∀c o,H1 c=al o->H' c=al o)->(∀c,H' c=bn->H1 c=bn)->E (.int n 0) (al a) H'
section
variable{K:Aa}{C:ce}{x:Str}{np:Pos}{E:XK}
def jS(M:qc X.K C f)(F:ba X.prog X.w X.K X.mg X.base iz k f fd ["self","place"] (vt C))(hb:Binds X.K fd ["self","place"] [])(hr:bf (k+1) X.A)(hc:X.calm=true)(hg:Gl X x)(hm:X.mg x=al (.ref C))(WV:AG X.K (.ref C)=true)(he:PE X e te)(hf:kJ X C E)(cT: ~~~(dg x))(kW:‹dZ X e []›)(bN:‹fb X bS []›):PS X (.Raise (al (.Call (.Name x np) [e] [] bS)) bn pos) (He te E):=by
 intro Z s σ H D I h;obtain⟨nm,q,N,bs,bm,iQ,sn,sub,ab,col,dd,k0,k1,k2,k3,k5,hC,tl⟩:=M.obj;have cL:bm.contains (.type "BaseException")=true:=(tl _ I.cR).hasType ⋯;have main:f8 (gl X.prog X.w) X.A (jp (.Call (.Name x np) [e] [] bS) X.env) (λv s₁=>∃a dx t,v=.ref a/\s₁.heap.get? C=al (Db nm q C N bs bm iQ sn sub ab col dd k0 k1 k2 k3 k5 "ValueError.__new__")/\
   s₁.heap.get? a=al {cls:=.ref C,dict:=al dx,data:=.fields #[t,.none,.none,.none,.bool false,.none]}/\X.xe (.ref a) s₁) X.xe s:=by
  refine AW (dr I hg hm (Bq I.ok.mod.wW WV (bb ((ah he ax kW) bS Z s σ H (λvs H1=>∃n:Int,vs=[.int n]/\n.natAbs.log2<100/\∀(a:ce) (H':Hp),(∀c o,H1 c=al o->H' c=al o)->(∀c,H' c=bn->H1 c=bn)->E (.int n 0) (al a) H') I h) λus s1 ⟨vs,H1,I1,r,q⟩=>⟨I1.cR,?_⟩) kW bN) cT);obtain⟨n,rfl,hn,q⟩:=q;obtain⟨u,rfl,r1⟩:=r.one;obtain⟨tk,rfl⟩:=r1;refine Ia M F hb hr I1 hn λs' a dx H' I2 k1 k2 fl ⟨v1,e1⟩=>⟨a,dx,v1,rfl,I2.cR _ _ hC,e1,?_⟩;exact hf Z σ H' s' a dx bn n I2 ⟨fl.fx,fl.fa,fl.fd,Av I1.sz fl.fl,λT z=>(nomatch z)⟩ (q a H' k1 k2)
 rw[arm_exec_Raise]
 first
  |exact Ab (BK (lJ cL (I.ok.hd hc) (Ab (Be main (λv s₃ h₃=>Ab (BK (Ae h₃))) λ_ _ x=>x))))
  |(simp only[evalOpt,Option.map];exact Ab (BK (lJ cL (I.ok.hd hc) (Ab (Be main (λv s₃ h₃=>Ab (BK (Ae h₃))) λ_ _ x=>x)))))
end
structure FV(K:Aa)(C TE:ce):Prop where
 c:∃nm q N bs iQ sn sub ab col dd k0 k1 k2 k3 k5,K.lookup C=al (Db nm q C N bs (.ref TE::yg) iQ sn sub ab col dd k0 k1 k2 k3 k5 "ValueError.__new__")
 t:∃nm q N bs iQ sn sub ab col dd k0 k1 k2 k3 k5,K.lookup TE=al (Db nm q TE N bs yg iQ sn sub ab col dd k0 k1 k2 k3 k5 "ValueError.__new__")
def uI{K:Aa}{C TE:ce}{s:db}{e:ce}{oe:Obj}{Q:Bool->db->Prop}(U:FV K C TE)(X:K.In s.heap)(he:s.heap.get? e=al oe)(xm:oe.cls=.ref C)(hq:Q true s):f8 M A (excMatches (.ref e) (.ref TE)) Q E s:=by
 obtain⟨nm,q,N,bs,iQ,sn,sub,ab,col,dd,k0,k1,k2,k3,k5,lc⟩:=U.c;obtain⟨Sy,q',N',Jm,GI,Sb,Kx,TK,MV,Tv,SV,SU,SS,SR,SQ,lt⟩:=U.t;have hC:=X _ _ lc;have hT:=X _ _ lt;obtain⟨h,g,d,t,os⟩:=s;have c1:(Ar TE::yg).contains (.type "BaseException")=true:=by rfl
 have c2:(Ar C::Ar TE::yg).contains (.ref TE)=true:=by simp
 have f:=tc_notTuple;unfold excMatches
 repeat (first|(with_reducible refine CV he ?_;rw[xm])|with_reducible refine CV hT ?_|(with_reducible refine C9 hT ?_;rw[c1])|(with_reducible refine C9 hC ?_;rw[c2])|wp_step)
 exact hq
abbrev Cx.mark(X:Cx)(e:Option ci):Cx:={X with A:=X.A.mark e,calm:=false}
def Inv.mark{s:db}(I:Inv X Z σ H s)(e:Option ci):Inv (X.mark e) Z σ H s:=
 ⟨⟨I.ok.mod,I.ok.kind,I.ok.glob,I.ok.blt,I.ok.above,I.ok.inj,I.ok.has,I.ok.Jj,λz=>(nomatch z),I.ok.frames,I.ok.jO,I.ok.Ru,I.ok.bs,I.ok.ye,I.ok.um,I.ok.uH,I.ok.fD,I.ok.yM⟩,I.os,I.bare,I.base,I.loc,I.cell,I.free,I.dA,I.pin,I.aW,I.len⟩
def Inv.unmark{s:db}{e:Option ci}(I:Inv (X.mark e) Z σ H s)(ok:X.Ok):Inv X Z σ H s:=⟨ok,I.os,I.bare,I.base,I.loc,I.cell,I.free,I.dA,I.pin,I.aW,I.len⟩
def Inv.landed{s:db}{C dx:ce}(I:Inv X Z σ H s)(c:kM (jo X.stack) a ot s.heap h')(x:lq h' a C dx So)(ea:H a=al (.ext (mM a C dx)))(et:∀T,ot=al T->H T=bn/\X.s₀.heap.objs.size<=T)(ep:∀T,ot=al T->∀p∈X.pn++Z,p.1≠T)(hs:X.stack=X.env::X.outer)(hl:∀T,ot=al T->T≠X.env.locals/\∀y c,X.env.cells.lookup y=al c->c≠T)(ns:∀m,s.heap.Ns X.env.locals m->h'.Ns X.env.locals m):Inv X Z σ H {s with heap:=h'}:=by
 have sf:=I.gK;have aW:=c.aW x I.aW ea (λT h=>(et T h).1) sf;have na:∀b,H b=bn->b≠a:=λb h z=>by subst z;rw[ea]at h;cases h
 refine I.step (g':=s.gens) (d':=s.drawn) (t':=s.toks) (ch:=ot.toList) (λb hb=>?_) (λb o n1 n2 n3 e h=>?_) (λb o n1 n2 n3 e h=>?_) (λb o _ _ h=>h) (λb o _ e=>c.there b o e) (λ_ _ h=>h) (λ_ _ _ h=>h) (λb ps h=>⟨#[],by simpa using h⟩) ns aW I.bare
 .have hb:ot=al b:=by simpa using hb
  exact⟨.inr (et b hb).2,(hl b hb).1,(hl b hb).2,ep b hb⟩
 .refine c.keep b o e (na b h) (λz=>n3 (by simp[z])) λz=>?_;rcases Au.mp (I.jN b z) with z|z
  .exact n1 z
  .exact n2 z
 .exact c.slot b o e (na b h) λz=>n3 (by simp[z])
end L2
variable{t:L2.TA}
namespace L2
section
variable{s:db}
def E9{n:Str}(I:Inv X Z σ H s)(hN:X.N.Nodup)(hj:X.N[j]?=al n)(hk:X.env.kindOf n=al .local)(h:∀s',Inv X Z (σ.set j bn) H s'->Q () s'):
  f8 M A (do bindName X.env n .none;unbindBehindTheSuite X.env n pos) Q E s:=by
 obtain⟨m,hn,hl⟩:=id I.loc;have xm:(X.env.scope.kind==.class||(X.env.scope.kind==.module&&X.env.locals != X.env.globals))=false:=by rw[I.ok.kind];rfl
 have u9:=I.u9;refine wpAny_nameGoes_keeps hk hn xm λh' v LR hs=>?_;obtain⟨oL,_,_,S2,_⟩:=id hn;have É:fR X.prog X.w H h':=λb ob e=>(I.aW b ob e).jP (λc w' hc q=>(hs.2 c (by
  rintro rfl;rcases hc with z|hc
  .rw[<- z,I.free]at e;cases e
  .rw[I.free]at hc;cases hc)).trans q) (λ_ q=>q) λ_ _ q=>q
 refine h _ ⟨I.ok,I.os,I.bare,⟨λb o e n hb hx=>?_,λb o e n hb hx=>?_,I.base.free,λb o e hx=>?_,I.base.bW,I.base.jn,I.base.jc⟩,⟨_,LR,λi y v' e1 e2 e3=>?_⟩,λy c e=>?_,I.free,I.dA,λp hp=>?_,É,by simpa using I.len⟩
 .exact(hs.2 b (AI (Aq (Ai e) I.ok.above))).trans (I.base.keep b o e n hb hx)
 .obtain⟨sl,e1⟩:=I.base.slot b o e n hb hx;exact⟨sl,(hs.2 b (AI (Aq (Ai e) I.ok.above))).trans e1⟩
 .obtain⟨o',e1⟩:=I.base.there b o e hx;exact⟨o',(hs.2 b (AI (Aq (Ai e) I.ok.above))).trans e1⟩
 .by_cases hi:i=j
  .subst hi;rw[DE]at e2;simp at e2
  .rw[BZ (BO hi)]at e2;obtain⟨u',r',q⟩:=hl i y v' e1 e2 e3;refine⟨u',r',?_⟩;rcases q with⟨k,e⟩|⟨k,c,e,z⟩
   .refine .inl ⟨k,?_⟩;have:y≠n:=λe=>hi (jW hN e1 (e▸hj));simp[this,e]
   .exact .inr ⟨k,c,e,z.sameBut hs (u9 y c e)⟩
 .obtain⟨w',z⟩:=I.cell y c e;exact⟨w',z.sameBut hs (u9 y c e)⟩
 .obtain⟨e,n,ne,nf,d⟩:=I.pin p hp;exact⟨(hs.2 p.1 ne).trans e,n,ne,nf,d⟩
end
def PR(X:Cx)(C:ce)(e:im)(t:St->Hp->VK->XK->Prop):Prop:=
 ∀(Z:O (ce×Obj)) (s:db) (σ:St) (H:Hp) (Q:VK) (E:XK),Inv X Z σ H s->t σ H Q E->f8 (gl X.prog X.w) X.A (jp e X.env) (EP X Z σ Q)
  (λev s'=>∃a dx ot n H',ev=.ref a/\Inv X Z σ H' s'/\FU C X.s₀.heap.objs.size H' s'.heap a dx ot n/\(∀T,ot=al T->(T≠X.env.locals/\∀y c,X.env.cells.lookup y=al c->c≠T)/\∀p∈X.pn++Z,p.1≠T)/\E (.int n 0) (al a) H') s
section
variable{C D0:ce}{x:Str}{p:Pos}{ta:L2.TE}
def vU(hx:∀e s,¬X.xe e s)(F:ba X.prog X.w X.K X.mg X.base (iC X.prog X.w C) k f fd ps sp)(hr:bf k X.A)(kz:∀h:io,X.K.In h->(∀b o,X.base.get? b=al o->h.get? b=al o)->(∀p∈fz,h.get? p.1=al p.2)->De f h)(hf:PE X (.Name x p) ta)(hb:Binds X.K fd ps [])(ha:PA X (e::es) t)(he:‹dZ X e es›)(bN:‹fb X pos es›):PR X C (.Call (.Name x p) (e::es) [] pos) (λσ H Q E=>ta σ H λx H1=>x=.ref f/\mq H1 fz/\t σ H1 λvs H2=>mq H2 fz/\sp vs H2 Q E):=by
 intro Z s σ H Q E I q;refine AW (Be (hf Z s σ H _ I q) (λv s1 ⟨y,H1,I1,r1,ey,z1,q1⟩=>?_) λ_ _ h=>(hx _ _ h).elim);subst ey;cases r1;have SI:∀{σ':L2.St}{H':Hp}{s':db},Inv X Z σ' H' s'->mq H' fz->De f s'.heap:=λJ z=>kz _ J.cR J.bk λp hp=>let ⟨u,e⟩:=z p hp;(J.aW _ _ e).1;refine ED (SI I1 z1) (Be (ha pos Z s1 σ H1 _ I1 q1) (λus s2 ⟨vs,H2,I2,r,z2,q2⟩=>⟨SI I2 z2,?_⟩) λ_ _ h=>(hx _ _ h).elim) he bN;have hl:us.length=ps.length:=by rw[<- r.length];exact F.len _ _ _ _ q2
 refine B1 (tz (F.run X.A X.stack s2 H2 ⟨us,[]⟩ us vs Q E hr I2.xK (by have:=hb s2 us I2.cR (by rw[AV];exact hl);rwa [AV]at this) r q2) λr s' hq=>?_);cases r with
 |error e=>
  obtain⟨a,dx,ot,n,H',rfl,os,bare,un,aW,F,q⟩:=hq;obtain⟨hh,g,d,t,Lf⟩:=s';obtain rfl:Lf=s2.os:=os;refine⟨a,dx,ot,n,H',rfl,I2.call (h':=hh) (g':=g) (d':=d) (t':=t) (ch:=[]) un aW bare (λb z=>absurd z (by simp)),⟨F.fx,F.fa,F.fd,Av I2.sz F.fl,λT z=>⟨(F.ft T z).1,Av I2.sz (F.ft T z).2⟩⟩,λT z=>⟨⟨λy=>?_,λx c e y=>?_⟩,λp hp y=>?_⟩,q⟩
  .have:=I2.lt;have:=(F.ft T z).2;rw[y]at this;exact absurd I2.lt (Dt.mpr this)
  .obtain⟨v,o,ho,_⟩:=I2.cell x c e;rw[y]at ho;exact absurd (Ai ho) (Dt.mpr (F.ft T z).2)
  .have ho:=(I2.pin p hp).1;rw[y]at ho;exact absurd (Ai ho) (Dt.mpr (F.ft T z).2)
 |ok fl=>
  cases fl with
  |ret u=>exact I2.after hq
  |next=>exact AD hq
  |brk=>exact AD hq
  |cont=>exact AD hq
def Pb(t:St->Hp->VK->XK->Prop)(i j:Nat)(C:ce):TS:=λD σ H=>t σ H (λ_ H1=>D.nx σ H1) λv oa H1=>∀m a dx,v=.int m 0->oa=al a->H1 a=al (.ext (mM a C dx))->H1 dx=al (.xd [("place",.int m)])->D.nx (((σ.set j (al (.ref a))).set i (al (.ref a))).set j bn) H1
def Hx{tt:St->Hp->VK->XK->Prop}{tn n cn:Str}{np Su cp QD Mp:Pos}{ec:im}(qN:X.stack=X.env::X.outer)(IE:X.env.frame=al X.env.locals)(hx:∀e s,¬X.xe e s)(U:FV X.K C D0)(hN:X.N.Nodup)(hi:X.N[i]?=al cn)(hj:X.N[j]?=al n)(S3:X.env.scope.names.lookup cn=al .local)(WY:X.env.kindOf n=al .local)(QP:X.env.scope.names.lookup n=al .local)(hg:Gl X tn)(hm:X.mg tn=al (.ref D0))(he:PR X C ec tt)(hs:‹wv ec bn Mp.line X.env=pure false›)(NQ:‹wv (.Name n Su) (al (.Name cn cp)) À.line X.env=pure false›)(cT: ~~~(dg tn))(W5: ~~~(dg n))(W6: ~~~(rA n)):PS X (.Try [.Expr ec Mp] [.ExceptHandler (al (.Name tn np)) (al n) [.Assign [.Name cn cp] (.Name n Su) À] QD] [] [] pos) (Pb tt i j C):=by
 intro Z s σ H D I h;refine wpAny_Try_except (DM (wpAny_Expr_any (Be (he Z s σ H _ _ I h) (λv s1 ⟨x,H1,I1,r1,q1⟩=>Ce (Ce ⟨σ,H1,I1,q1⟩)) ?_) I.quiet hs));rintro ev s1 ⟨a,dx,ot,m,H1,rfl,I1,F,hT,q⟩;have q:=q m a dx rfl rfl F.fa F.fd;have st:=I1.stack;rw[qN]at st;have hA:X.A.frames=al (X.env::X.outer):=by rw[I1.ok.frames,qN]
 refine lY hA st IE F.fx λh' T' c x' S9=>?_;have ns:∀m,s1.heap.Ns X.env.locals m->h'.Ns X.env.locals m:=λm' ⟨o,es,ep,ho,hd,hk,hf⟩=>by
  obtain⟨sl,e⟩:=c.slot _ o ho (λz=>by have:=I1.free;rw[z,F.fa]at this;cases this) λz=>(hT _ z).1.1 rfl;exact⟨_,es,ep,e,hd,hk,hf⟩
 have I2:Inv X Z σ H1 {s1 with heap:=h'}:=I1.landed (by rw[qN];exact c) x' F.fa F.ft (λT z=>(hT T z).2) qN (λT z=>(hT T z).1) ns;refine wpAny_handleBy_cons (codeAny_handlers_test ?_) (by intro z;cases z);have I3:=I2.mark (al (.ref a));refine dr (X:=X.mark (al (.ref a))) I3 hg hm ?_ cT;obtain⟨vs,sl,e0,l0,e1,nT,cc,dd,ts,X9,eT,h3⟩:=id x';refine uI U I2.cR e0 rfl ?_;have l3:3<ts.size:=by
  rcases Dg 3 ts.size with z|z
  .exact z
  .rw[D7 z]at h3;cases h3
 refine codeAny_handlers_suite_as (wpAny_setFlight_none e0 rfl e1 eT rfl l3 ?_);have same:h'.update T' (BJ λx=>x.setIfInBounds 3 A2)=h':=Heap.update_setField_same h' T' _ ts 3 A2 eT rfl h3;rw[same];refine cE I2 hN hj (.inl QP) (show RelV (.ref a) (.ref a) from rfl) (λs3 I4=>?_) (.inr QP);have I5:=I4.mark (al (.ref a));refine Be (aV (bX (X:=(X.mark (al (.ref a))).yG) (i:=i) hN hi (.inl S3) (c7 (i:=j) hj (.inl QP) W5 W6) NQ (.inr S3)) Z s3 _ H1 {nx:=λσ' H'=>σ'=((σ.set j (al (.ref a))).set i (al (.ref a)))/\H'=H1,rt:=λ_ _=>False} (I5.iD _) ⟨.ref a,?_,rfl,rfl⟩) (λfl s4 h4=>?_) λ_ _ h=>h.elim
 .rw[CY];rw[I2.len];exact(Ag.mp hj).1
 .cases fl with
  |next=>
   obtain⟨σ',H',I6,rfl,rfl⟩:=h4;exact E9 (I6.d9.unmark I.ok) hN hj WY λs5 I7=>⟨_,H',I7,q⟩
  |ret v=>obtain⟨_,_,_,_,_,z⟩:=h4;exact z.elim
  |brk=>obtain⟨_,_,_,z⟩:=h4;exact z.elim
  |cont=>obtain⟨_,_,_,z⟩:=h4;exact z.elim
end
structure uW(K:Aa)(C:ce):Prop where
 ga:Ao K (.ref C) "__getattribute__"=al (al (.builtin "BaseException.__getattribute__"))
 no:Ao K (.ref C) "__getattr__"=al bn
 sub:Bb K C (.type "BaseException")=al true
 hd:BC K C=true
 ha:Ao K (.ref C) "__class__"=al (al (.builtin "object.__class__"))
 hn:BA K (.builtin "object.__class__") "__get__"=al (al (.builtin "getset_descriptor.__get__"))
 NP:D8 K (.builtin "object.__class__")=al true
 hm:Bb K C (.type "object")=al true
def yT{K:Aa}{s:db}{C dx:ce}{sl:Array (Option ci)}{od:Obj}{Q:Option ci->db->Prop}(X:K.In s.heap)(F:uW K C)(e:s.heap.get? a=al {cls:=.ref C,dict:=al dx,data:=.fields vs,slots:=sl})(ho:s.heap.get? dx=al od)(h:Q (al (.ref C)) {s with toks:=s.toks+1}):f8 (gl prog w) A (getAttr? (.ref a) "__class__") Q E s:=by
 have J:CK s.heap a {cls:=.ref C,dict:=al dx,data:=.fields vs,slots:=sl} C (al od):=⟨e,rfl,rfl,ho⟩;have hf:PySem.W.findObj K C (al od) "__class__"=al (.bind (.builtin "getset_descriptor.__get__") (.builtin "object.__class__")):=PySem.W.findObj_data (by obtain⟨cd,hc,_⟩:=Cr F.hd;rw[hc];rfl) F.ha F.hn F.NP;unfold getAttr? getAttrBy? getAttrBy;refine Ab (wpAny_mkText (Ab (C3 (A4 (Ab (Ab (AU e (Ae ?_))))))));refine Ab (AM.here (Bk X F.ga) ?_);show f8 _ _ (KM (.ref a) (.str "__class__" s.toks) (.ref C) (.builtin "BaseException.__getattribute__") false false) _ _ _;unfold KM;refine Ab ?_;show f8 _ _ (typeLookup (.ref C) "__getattr__") _ _ _;refine AM.here (Bk X F.no) ?_;refine Ab (C3 (A4 ?_));have e1:callGetattribute (.ref a) (.str "__class__" s.toks) (.builtin "BaseException.__getattribute__") false=boundAndCalled (.builtin "BaseException.__getattribute__") (.ref a) (.str "__class__" s.toks):=by rfl
 rw[e1];unfold boundAndCalled;rw[Dp.ga.bind (.ref a)];refine Ab (Ae (B1 (EQ (by decide +kernel) Eg ?_)));unfold BT;have hk:(builtinKind "BaseException.__getattribute__",splitId "BaseException.__getattribute__")=(al CM,al ("BaseException","__getattribute__")):=by decide +kernel
 rw[hk];refine Ab ?_;show f8 _ _ (wS (.ref a) (.type "BaseException")) _ _ _;unfold wS;refine Ab (Ab (AU e (Ae ?_)));refine AM.here (B2 X F.sub) ?_;have ha:argsOk "BaseException.__getattribute__" ⟨[.ref a,.str "__class__" s.toks],[]⟩:=En _ _;rw[if_neg ⋯];refine Nj ha ?_;unfold Builtin.«object.__getattribute__»;refine Ab (Ae (Ab (Ae (Ab (Ab (AU e (Ae ?_)))))));refine Ab (AM.here (EB X J hf) ?_);show f8 _ _ (pi [Value.builtin "object.__class__"] (call (.builtin "getset_descriptor.__get__") [.builtin "object.__class__",.ref a,.ref C]) >>= _) _ _ _;refine Ab (A4 (B1 (PySem.W.class_get (s:={s with toks:=s.toks+1}) (ox:={cls:=.ref C,dict:=al dx,data:=.fields vs,slots:=sl}) (od:=al od) X J F.hm ?_)));refine Ae ?_;show f8 _ _ (handedOut (.ref C)) _ _ _;exact Ae (Ae h)
def TV(a C:ce)(h:io):Prop:=∃dx vs sl od,h.get? a=al {cls:=.ref C,dict:=al dx,data:=.fields vs,slots:=sl}/\h.get? dx=al od
def o6{K:Aa}{C:ce}(F:uW K C):PySem.W.KitX K (.ref a) (.ref C) (TV a C) where
 ty:=λM h _ ⟨dx,vs,sl,od,e,ho⟩=>(show CK h a _ C (al od) from⟨e,rfl,rfl,ho⟩).type
 it:=λ_ _ X _=>by
  obtain⟨XM,xo,_⟩:=Cr F.hd;unfold Bi at xo
  split at xo
  .rename_i c' d' XQ za ho;intro A' Q' E' s' k q;unfold isType loadHead;exact Ab (AU (k _ _ (X _ _ ho)) (Ae q))
  .cases xo
 ne:=λh tp dd aw n sl X WB=>by
  obtain⟨XM,xo,_⟩:=Cr F.hd;refine Bool.eq_false_iff.mpr λq=>?_;have e:C=tp:=Ar.inj (beq_iff_eq.mp q);subst e;unfold Bi at xo
  split at xo
  .rename_i c' d' XQ za ho;have z:=(X _ _ ho).symm.trans WB;cases z
  .cases xo
 ca:=λX ⟨dx,vs,sl,od,e,ho⟩ k=>yT X F e ho k
theorem F3:∀{l:O ce}{aw:O ci},Vals (l.map V.ref) aw->aw=l.map Ar
 |[],_,.nil=>rfl
 |y::l,_,.cons r0 r1=>by rw[F3 r1,show _=Ar y from r0];rfl
section
structure XH(H:Hp)(a C dx:ce)(n:Int):Prop where
 a:H a=al (.ext (mM a C dx))
 d:H dx=al (.xd [("place",.int n)])
def XH.is{C dx:ce}{n:Int}(x:XH H a C dx n)(ok:fR P w H h):TV a C h:=by
 obtain⟨⟨vs,sl,e⟩,_,_⟩:=ok _ _ x.a;obtain⟨mA,⟨od,_,_,ho,_⟩,_⟩:=ok _ _ x.d;exact⟨dx,vs,sl,od,e,ho⟩
def pV{K:Aa}(hK:X.K=K):bE X (.builtin "isinstance") (λxs H Q=>∃a C dx n cv c b,xs=[V.ref a,cv]/\XH H a C dx n/\uW K C/\(∀u,RelV cv u->u=c)/\Ay K (.ref C) c=al b/\Q (.bl b) H):=by
 subst hK;intro Z s σ H xs us Q I r h;obtain⟨a,C,dx,n,cv,c,b,rfl,x,F,hc,hk,q⟩:=h;obtain⟨u,w',rfl,ru,ub⟩:=vals2 r;obtain rfl:u=Ar a:=ru;obtain rfl:=hc _ ub;exact AQ (o6 F) I.cR (x.is I.aW) hk (λz=>nomatch z) λtk=>⟨.bl b,H,I.tok _,rfl,q⟩
def uN{K:Aa}(hK:X.K=K):bE X (.builtin "isinstance") (λxs H Q=>∃(a C dx:ce) (n:Int) (p:ce) (l:O ce) (b:Bool),xs=[V.ref a,.ref p]/\XH H a C dx n/\uW K C/\H p=al (.tup (l.map V.ref))/\B4 K (.ref C) (l.map Ar)=al b/\Q (.bl b) H):=by
 subst hK;intro Z s σ H xs us Q I r h;obtain⟨a,C,dx,n,p,l,b,rfl,x,F,hp,hk,q⟩:=h;obtain⟨u,w',rfl,ru,ub⟩:=vals2 r;obtain rfl:u=Ar a:=ru;obtain rfl:w'=Ar p:=ub;obtain⟨hz,aw,rv,⟨o,e,W8,n',hd⟩,hq⟩:=I.aW _ _ hp;have:=F3 rv;subst this;obtain⟨c0,d0,dt,sl⟩:=o;cases W8;cases hd;exact PySem.W.kia_tup (o6 F) I.cR (x.is I.aW) e hk (λz=>nomatch z) λtk=>⟨.bl b,H,I.tok _,rfl,q⟩
def US(K:Aa)(ta:TE):TE:=λσ H Q=>ta σ H λx H1=>∃a C dx n,x=.ref a/\XH H1 a C dx n/\FW K C "place"/\Q (.int n) H1
def vY{K:Aa}(hK:X.K=K)(he:PE X e ta)(hb:re e "place" X.env (jp e X.env)=jp e X.env):PE X (.Attribute e "place" pos) (US K ta):=by
 subst hK;intro Z s σ H Q I h;refine tJ hb (bb (he Z s σ H _ I h) λu s1 ⟨x,H1,I1,rx,a,C,dx,n,ex,hx,F,q⟩=>?_);subst ex;obtain rfl:u=Ar a:=rx;obtain⟨⟨vs,sl,e1⟩,_,_⟩:=I1.aW _ _ hx.a;obtain⟨mA,hn,hl⟩:=I1.aW _ _ hx.d;have h1:=hl "place";rw[Eh]at h1;cases hm:mA "place" with
 |none=>rw[hm]at h1;exact h1.elim
 |some v=>
  rw[hm]at h1;obtain⟨tk,rfl⟩:=(show ∃tk,v=.int n tk from h1);exact yS I1.cR F e1 hn hm ⟨.int n,H1,I1.tok _,⟨_,rfl⟩,q⟩
end
end L2
namespace FL
section
variable[bu]
def mV{i j:Int}:of2 (aI g) (.int i) (.int j)=.ret (g i j):=zn λQ=>⟨Cw,λq=>⟨rfl,q⟩⟩
def jw{C:Int->Int->Prop}{i j:Int}:of2 (Jt C g) (.int i) (.int j)=.gh (C i j) (.ret (g i j)):=zn λQ=>⟨λq=>⟨q.1,q.2.2⟩,λq=>⟨q.1,rfl,q.2⟩⟩
section
variable(i j:Int)(a:Bool)(x y:PV)(l m:O PV)(s t:Str)
@[simp] theorem xD:of2 zK (.int i) (.int j)=.ret (.int (i-j)):=mV
@[simp] theorem xG:of2 c9 (.int i) (.int j)=.gh (xz i j) (.ret (.int (i*j))):=jw
@[simp] theorem Rz:of2 oDiv (.int i) (.int j)=.gh (yD i j) (.ret (.int (i / j))):=jw
@[simp] theorem nv:of2 oMod (.int i) (.int j)=.gh (0<j) (.ret (.int (i % j))):=jw
@[simp] theorem IU:of2 gS (.int i) (.int j)=.gh (yC i j) (.ret (.int (i ^ j.toNat))):=jw
@[simp] theorem Mm:of2 oLt (.int i) (.int j)=.ret (.bl (decide (i<j))):=mV
@[simp] theorem Mn:of2 HS (.int i) (.int j)=.ret (.bl (decide (j<i))):=mV
@[simp] theorem Mo:of2 Lq (.int i) (.int j)=.ret (.bl (decide (j<=i))):=mV
def xH:of2 iJ x y=.gh (uJ x y) (.ret (.bl (hU x y))):=zn λQ=>⟨λq=>⟨q.1,q.2.2⟩,λq=>⟨q.1,rfl,q.2⟩⟩
def s9:of2 jg x y=.gh (uJ x y) (.ret (.bl (!hU x y))):=zn λQ=>⟨λq=>⟨q.1,q.2.2⟩,λq=>⟨q.1,rfl,q.2⟩⟩
@[simp] theorem sZ:of2 sA x .a8=.ret (.bl (!x.l8)):=zn λQ=>⟨Cw,λq=>⟨rfl,q⟩⟩
@[simp] theorem Je:of2 zN (.str s) (.str t)=.ret (.bl (!(Builtin.Str.occurrences t s 0 t.length 1).isEmpty)):=zn λQ=>⟨Cw,λq=>⟨rfl,q⟩⟩
def Jd{c:Nat}(h:eV s.cps.toList i=al c):of2 wC (.str s) (.int i)=.gh (s.length<=sizeLine) (.ret (.str ⟨#[c]⟩)):=zn λQ=>by
 show(s.length<=sizeLine/\match eV s.cps.toList i with|some c=>_/\_|none=>False)↔_;rw[h];exact⟨λq=>⟨q.1,q.2.2⟩,λq=>⟨q.1,rfl,q.2⟩⟩
@[simp] theorem cW:addW (.int i) (.int j)=.ret (.int (i+j)):=(rfl)
@[simp] theorem tm:addW (.str s) (.str t)=.gh (s.length+t.length<=sizeLine) (.ret (.str (s++t))):=(rfl)
@[simp] theorem Ox:addW (.tup l) (.tup m)=.gh (l.length+m.length<=sizeLine) (.ret (.tup (l++m))):=(rfl)
@[simp] theorem IX:zQ (.int i)=.ret (.int (-i)):=(rfl)
@[simp] theorem eN:va (.bl a)=.ret a:=(rfl)
@[simp] theorem JU(w:W PV):iV (.bl true) w=w:=(rfl)
@[simp] theorem JV(w:W PV):iV (.bl false) w=.ret (.bl false):=(rfl)
@[simp] theorem IV(w:W PV):NA (.bl true) w=.ret (.bl true):=(rfl)
@[simp] theorem IW(w:W PV):NA (.bl false) w=w:=(rfl)
def xI(w:W PV):iV (.bl a) w=if a=true then w else .ret (.bl false):=by cases a<;>rfl
@[simp] theorem hV:fg (.bl a)=.ret a:=(rfl)
@[simp] theorem Oa:fg (.int i)=.ret (i != 0):=(rfl)
@[simp] theorem N9:fg .a8=.ret false:=(rfl)
@[simp] theorem N8:fg (.tup l)=.ret (!l.isEmpty):=(rfl)
@[simp] theorem Ob:fg (.cl l)=.ret (!l.isEmpty):=(rfl)
@[simp] theorem sY:je (.tup l)=.ret l:=(rfl)
@[simp] theorem hX:je (.cl l)=.ret l:=(rfl)
@[simp] theorem cD:gX (.cl l)=.ret l:=(rfl)
@[simp] theorem i8:Qt l (.int i)=.JG (eV l i):=(rfl)
@[simp] theorem qV:uv l=.ret (.int l.length):=(rfl)
@[simp] theorem jC:part (.int i)=.ret (al i):=(rfl)
@[simp] theorem IQ:Nl (.tup [x,y])=.ret (x,y):=(rfl)
@[simp] theorem Ot(k:Kd):kU k (.int i)=.ret (.bl (k.is (.int i))):=(rfl)
@[simp] theorem Fm(k:Kd):kU k (.str s)=.ret (.bl (k.is (.str s))):=(rfl)
@[simp] theorem Fl(k:Kd):kU k (.tup l)=.ret (.bl (k.is (.tup l))):=(rfl)
@[simp] theorem Ou(k:Kd):kU k (.cl l)=.ret (.bl (k.is (.cl l))):=(rfl)
@[simp] theorem Ov(k:Kd):kU k (.bl a)=.ret (.bl (k.is (.bl a))):=(rfl)
@[simp] theorem Oq(k:Kd):kU k .a8=.ret (.bl (k.is .a8)):=(rfl)
@[simp] theorem Oc:kL iq [.tup l]=.ret (.int l.length):=zn λQ=>⟨Cw,λq=>⟨rfl,q⟩⟩
@[simp] theorem ny:kL iq [.cl l]=.ret (.int l.length):=zn λQ=>⟨Cw,λq=>⟨rfl,q⟩⟩
@[simp] theorem tj:kL iq [.str s]=.gh (s.length<=sizeLine) (.ret (.int s.length)):=zn λQ=>⟨λq=>⟨q.1,q.2.2⟩,λq=>⟨q.1,rfl,q.2⟩⟩
@[simp] theorem Jg:kL k8 [.int i]=.ret (.int (if i<0 then -i else i)):=zn λQ=>⟨Cw,λq=>⟨rfl,q⟩⟩
@[simp] theorem Ow:kL kC [.int i]=.ret (.int i):=zn λQ=>⟨Cw,λq=>⟨rfl,q⟩⟩
@[simp] theorem nz:kL kC [.bl a]=.ret (.int (if a then 1 else 0)):=zn λQ=>⟨Cw,λq=>⟨rfl,q⟩⟩
@[simp] theorem Jc:kL yk [.int i,.int j]=.ret (.int (if j > i then j else i)):=zn λQ=>⟨Cw,λq=>⟨rfl,q⟩⟩
@[simp] theorem Jb:kL yj [.int i,.int j]=.ret (.int (if j<i then j else i)):=zn λQ=>⟨Cw,λq=>⟨rfl,q⟩⟩
@[simp] theorem jB:lI (.int j)=.gh (okN 0 j) (.ret (gZ 0 j.toNat)):=(rfl)
@[simp] theorem xE:vI l (.int i)=.gh (-(2 ^ 63)<=i/\i<2 ^ 63/\l.length*i.toNat<=sizeLine) (.ret (An i.toNat l).flatten):=(rfl)
@[simp] theorem Oj:Kd.is .int (.int i)=true:=(rfl)
@[simp] theorem Ol:Kd.is .int (.bl a)=true:=(rfl)
@[simp] theorem Oo:Kd.is .bool (.bl a)=true:=(rfl)
@[simp] theorem Om:Kd.is .bool (.int i)=false:=(rfl)
@[simp] theorem Fj:Kd.is .str (.str s)=true:=(rfl)
@[simp] theorem Fh:Kd.is .str (.tup l)=false:=(rfl)
@[simp] theorem Oi:Kd.is .str (.int i)=false:=(rfl)
@[simp] theorem Od:Kd.is .tup (.tup l)=true:=(rfl)
@[simp] theorem Oe:Kd.is .tup (.str s)=false:=(rfl)
@[simp] theorem Og:Kd.is .tup (.int i)=false:=(rfl)
@[simp] theorem Oh:Kd.is .tup (.bl a)=false:=(rfl)
@[simp] theorem cC(h0:0<i)(h1:i<=2000):bG (.int i)=drawn i:=xL ⟨h0,h1⟩
def bo{m:Int}{Q:PV->Prop}(h:∀d:Int,0<=d->d<m->Q (.int d)):(drawn m).run Q:=λv ⟨d,e,h0,h1⟩=>e▸h d h0 h1
end
namespace W
variable{α:Type}
def le(a b:W α):Prop:=∀Q,b.run Q->a.run Q
def le.use{a:W α}{v:α}{Q:α->Prop}(h:a.le (.ret v))(q:Q v):a.run Q:=h _ q
end W
section
variable{S R:Type}
@[simp] theorem Ma(s:S)(f:PV->S->W S):gb [] s f=.ret s:=(rfl)
@[simp] theorem JQ(x:PV)(r:O PV)(s:S)(f:PV->S->W S):gb (x::r) s f=.bind (f x s) λs'=>gb r s' f:=(rfl)
theorem pF{f:PV->S->W S}{Q:S->Prop}(I:O PV->S->Prop):∀{l:O PV}{s:S},I l s->(∀x r s,I (x::r) s->(f x s).run (I r))->(∀s,I [] s->Q s)->(gb l s f).run Q
 |[],s,h0,_,he=>he s h0
 |x::r,s,h0,hs,he=>(f x s).mono (λs' h=>pF I h hs he) (hs x r s h0)
theorem kg{f:PV->S->W (Lp S R)}{Q:Lp S R->Prop}(I:O PV->S->Prop):∀{l:O PV}{s:S},I l s->(∀x r s,I (x::r) s->(f x s).run λo=>match o with|.go s'=>I r s'|.out t=>Q (.out t))->(∀s,I [] s->Q (.go s))->(FL.eK l s f).run Q
 |[],s,h0,_,he=>he s h0
 |x::r,s,h0,hs,he=>(f x s).mono (λo h=>match o,h with
  |.go s',h=>kg I h hs he
  |.out t,h=>h) (hs x r s h0)
theorem Fe{f:PV->S->W S}{Q:S->Prop}(I:Nat->S->Prop){s:S}(h0:I 0 s)(hs:∀(i:Nat) (x:PV) s,l[i]?=al x->I i s->(f x s).run (I (i+1)))(he:∀s,I l.length s->Q s):(gb l s f).run Q:=by
 refine pF (λr s=>∃i,i<=l.length/\r=l.drop i/\I i s) ⟨0,Bz _,rfl,h0⟩ (λx r s ⟨i,hi,e,h⟩=>?_) (λs ⟨i,hi,e,h⟩=>?_)
 .have ka:i<l.length:=by
   rcases Dg i l.length with h|h
   .exact h
   .rw[D6 h]at e;cases e
  rw[A5 ka]at e;injection e with e1 e2;subst e1;exact(f _ s).mono (λs' h'=>⟨i+1,ka,e2,h'⟩) (hs i _ s (Ak ka) h)
 .have:i=l.length:=by
   have:=congrArg DD e;rw[Cv]at this;simp at this;lia
  subst this;exact he s h
theorem sU{f:PV->S->W (Lp S R)}{Q:Lp S R->Prop}(I:Nat->S->Prop){s:S}(h0:I 0 s)(hs:∀(i:Nat) (x:PV) s,l[i]?=al x->I i s->(f x s).run λo=>match o with|.go s'=>I (i+1) s'|.out t=>Q (.out t))(he:∀s,I l.length s->Q (.go s)):(FL.eK l s f).run Q:=by
 refine kg (λr s=>∃i,i<=l.length/\r=l.drop i/\I i s) ⟨0,Bz _,rfl,h0⟩ (λx r s ⟨i,hi,e,h⟩=>?_) (λs ⟨i,hi,e,h⟩=>?_)
 .have ka:i<l.length:=by
   rcases Dg i l.length with h|h
   .exact h
   .rw[D6 h]at e;cases e
  rw[A5 ka]at e;injection e with e1 e2;subst e1;exact(f _ s).mono (λo h'=>match o,h' with
   |.go s',h'=>⟨i+1,ka,e2,h'⟩
   |.out t,h'=>h') (hs i _ s (Ak ka) h)
 .have:i=l.length:=by
   have:=congrArg DD e;simp at this;lia
  subst this;exact he s h
def pG{f:PV->S->W S}{Q:S->Prop}(I:Nat->S->Prop){s:S}(h0:I 0 s)(hs:∀(i:Nat) s,i<n->I i s->(f (.int (i:Int)) s).run (I (i+1)))(he:∀s,I n s->Q s):(gb (gZ 0 n) s f).run Q:=
 Fe I h0 (λi x s hx h=>by obtain⟨hi,rfl⟩:=iP hx;rw[EM];exact hs i s hi h) (λs h=>he s (by rw[f6]at h;exact h))
def pH{f:PV->S->W (Lp S R)}{Q:Lp S R->Prop}(I:Nat->S->Prop){s:S}(h0:I 0 s)(hs:∀(i:Nat) s,i<n->I i s->(f (.int (i:Int)) s).run λo=>match o with|.go s'=>I (i+1) s'|.out t=>Q (.out t))(he:∀s,I n s->Q (.go s)):(FL.eK (gZ 0 n) s f).run Q:=
 sU I h0 (λi x s hx h=>by obtain⟨hi,rfl⟩:=iP hx;rw[EM];exact hs i s hi h) (λs h=>he s (by rw[f6]at h;exact h))
@[simp] theorem FJ(bs:O Bool):yo (bs.map PV.bl)=.ret (.bl (bs.all id)):=by unfold yo;rw[tH];rfl
end
section
variable(i j:Int)(a b:Bool)(x y:PV)(l m:O PV)(s t:Str)
@[simp] theorem GN:hU (.int i) (.int j)=(i==j):=by rw[hU]
@[simp] theorem GL:hU (.str s) (.str t)=(s==t):=by rw[hU]
@[simp] theorem GO:hU (.bl a) (.bl b)=(a==b):=by rw[hU]
@[simp] theorem Th:hU (.tup l) (.tup m)=dc l m:=by rw[hU]
@[simp] theorem Ti:hU (.cl l) (.cl m)=dc l m:=by rw[hU]
@[simp] theorem Rp:dc [] []=true:=by rw[dc]
@[simp] theorem Ro:dc (x::l) (y::m)=(hU x y&&dc l m):=by rw[dc]
@[simp] theorem N4:PV.eS (.int i)=true:=by rw[PV.eS]<;>simp
@[simp] theorem Rn:PV.eS (.bl a)=true:=by rw[PV.eS]<;>simp
@[simp] theorem N2:PV.eS (.str s)=true:=by rw[PV.eS]<;>simp
@[simp] theorem N3:PV.eS .a8=true:=by rw[PV.eS]<;>simp
@[simp] theorem N1:PV.eS (.tup l)=dX l:=by rw[PV.eS]
@[simp] theorem Rm:PV.eS (.cl l)=dX l:=by rw[PV.eS]
@[simp] theorem Me:dX []=true:=by rw[dX]
@[simp] theorem JR:dX (x::l)=(PV.eS x&&dX l):=by rw[dX]
@[simp] theorem Mj:PV.eL (.int i)=0:=by rw[PV.eL]<;>simp
@[simp] theorem N6:PV.eL (.bl a)=0:=by rw[PV.eL]<;>simp
@[simp] theorem Mh:PV.eL (.str s)=0:=by rw[PV.eL]<;>simp
@[simp] theorem Mi:PV.eL .a8=0:=by rw[PV.eL]<;>simp
@[simp] theorem Mg:PV.eL (.tup l)=dB l+1:=by rw[PV.eL]
@[simp] theorem N5:PV.eL (.cl l)=dB l+1:=by rw[PV.eL]
@[simp] theorem JS:dB []=0:=by rw[dB]
@[simp] theorem IM:dB (x::l)=max (PV.eL x) (dB l):=by rw[dB]
def pK:uJ (.int i) (.int j):=⟨by simp,by simp,by simp⟩
@[simp] theorem Jf:of2 iJ (.int i) (.int j)=.ret (.bl (i==j)):=by rw[xH,xL (pK i j),GN]
@[simp] theorem Ja:of2 jg (.int i) (.int j)=.ret (.bl (!(i==j))):=by rw[s9,xL (pK i j),GN]
@[simp] theorem Ry:of2 iJ (.bl a) (.bl b)=.ret (.bl (a==b)):=by rw[xH,xL ⟨by simp,by simp,by simp⟩,GO]
@[simp] theorem Rx:of2 jg (.bl a) (.bl b)=.ret (.bl (!(a==b))):=by rw[s9,xL ⟨by simp,by simp,by simp⟩,GO]
end
instance (priority:=10) UQ:bu:=⟨[]⟩
end
section
variable[bu]
structure EV where
 P:lm
 w:sw
 K:Aa
 mg:Str->Option ci
 base:io
structure DF where
 x:Str
 s:nn
 ps:List Str
 k:Nat
 sp:Aa->Sp
abbrev DF.C(d:DF)(v:EV):=uX v.P v.w v.K v.mg v.base d.x d.k d.ps (d.sp v.K)
structure DI(v:EV)(d:DF) where
 f:ce
 fd:sK
 fn:gD v.K d.x d.x d.s f fd
 bi:Binds v.K fd d.ps []
 at':v.mg d.x=al (.ref f)
abbrev DI.O{v:EV}{d:DF}(D:DI v d):Prop:=ba v.P v.w v.K v.mg v.base iz d.k D.f D.fd d.ps (d.sp v.K)
def DI.c{v:EV}{d:DF}(D:DI v d)(h:D.O):d.C v:=⟨D.f,D.fd,h,D.bi,D.fn.kp,D.at'⟩
def DI.cN{v:EV}{d:DF}(D:DI v d)(h:ba v.P v.w v.K v.mg v.base iz k D.f D.fd d.ps sp):uX v.P v.w v.K v.mg v.base d.x k d.ps sp:=⟨D.f,D.fd,h,D.bi,D.fn.kp,D.at'⟩
structure DX(K:Aa)(x:Str)(st:nn):Prop where
 ex:∃f fd,Aw K ge x=al (al (.ref f))/\gD K x x st f fd
abbrev Tu(s:nn):Str:=match s with
 |.FunctionDef x _ _ _ _ _ _ _ _ _=>x
 |_=>""
def dx{K:Aa}{x:Str}{st:nn}{kV:ci}(a:Aw K ge x=al (al (.ref f)))(l:K.lookup f=al ⟨oc,od,.func (AY x x (bA st) (aY st) (aj st) .none kV Æ pm an bC ct),u7⟩)(c:Bx K bC x=true)(k:AG K (.ref f)=true):DX K x st:=⟨f,_,a,iR l c k⟩
def pD{N P:O Str}(h1:‹sc.kind=.function›)(h2:‹sc.isCoroutine=false›)(h3:‹sc.isGenerator=false›)(h4:N.Nodup:=by decide +kernel)(h5:‹N.take P.length=P›)(h6:∀x∈P,sc.names.lookup x=al .local\/sc.names.lookup x=al .cell:=by decide +kernel)(h7:∀y∈sc.names,y.2≠.free:=by decide +kernel):bI N P sc:=⟨h1,h2,h3,h4,h5,h6,h7⟩
def lcs{N:O Str}(h1:‹sc.kind=.function›)(h2:∀y∈sc.names,y.2=.cell->sc.names.lookup y.1=al .cell:=by decide +kernel)(h3:∀y∈sc.names,y.2=.local->sc.names.lookup y.1=al .local:=by decide +kernel)(h4:∀y∈sc.names,y.2=.free->(Xs.names.lookup y.1=al .cell\/Xs.names.lookup y.1=al .free):=by decide +kernel)(h5:N'.Nodup:=by decide +kernel)(h6:‹ix.length=N'.length›)(h7:((ix.zip N').all λp=>match p.1 with|none=>true|some j=>decide (N[j]?=al p.2)&&decide (sc.names.lookup p.2=al .free))=true:=by decide +kernel):cw Xs N sc N' ix:=⟨h1,h2,h3,h4,h5,h6,h7⟩
abbrev SH(l:O (Str×wn)):GM:={kind:=.function,names:=(DV ".0",.local)::l,isGenerator:=false,isCoroutine:=false,more:=[]}
abbrev lo:wn:=.local
abbrev gi:wn:=.globalImplicit
def mW:O AK->Nat
 |[]=>0
 |.p _ _::ks=>mW ks+1
 |_::ks=>mW ks
theorem gT:∀{ks:O AK}{i:Nat},ks[i]?=al (.p ψ d)->mW ks≠0
 |[],i,h=>by simp at h
 |.p _ _::_,_,_=>Nat.succ_ne_zero _
 |.v::ks,0,h=>by simp at h
 |.f _ _ _ _::ks,0,h=>by simp at h
 |.v::ks,i+1,h=>gT (ks:=ks) (by simpa using h)
 |.f _ _ _ _::ks,i+1,h=>gT (ks:=ks) (i:=i) (by simpa using h)
theorem mT:∀{ks:O AK},EY (mW ks) 1=true->kG ks
 |[],_=>su
 |.v::ks,h=>Gq (mT (ks:=ks) h)
 |.f _ _ _ _::ks,h=>Lk (mT (ks:=ks) h)
 |.p _ _::ks,h=>λi j ⟨φ,d,a⟩ ⟨ψ,d',b⟩=>by
  have z:mW ks+1<=1:=BQ h;cases i with|succ i=>exact absurd ∅ (gT (ks:=ks) (by simpa using a))|zero=>cases j with|succ j=>exact absurd ∅ (gT (ks:=ks) (by simpa using b))|zero=>rfl
abbrev sC(st:nn):O Str:=((aj st).names.filter λy=>y.2==.local||y.2==.cell).map (·.1)
abbrev oH(st:nn):O Str:=(bA st).args.map (·.arg)
abbrev Vk(sc:GM):O Str:=((sc.names.tail.filter λy=>y.2==.local||y.2==.cell)++sc.names.filter λy=>y.2==.free).map (·.1)
abbrev V9(N:O Str)(sc:GM):O (Option Nat):=((sc.names.tail.filter λy=>y.2==.local||y.2==.cell).map λ_=>bn)++(sc.names.filter λy=>y.2==.free).map λy=>al (N.idxOf y.1)
abbrev LS(st:nn)(sc:GM):Prop:=cw (aj st) (sC st) sc (Vk sc) (V9 (sC st) sc)
def Qc:Nat->aX->aX
 |_,[]=>[]
 |n,s::l=>(match n % 2 with|0=>s|_=>bn)::Qc (n / 2) l
theorem dR.m:∀(n:Nat) {fs:aX},dR fs (Qc n fs)
 |_,[]=>.refl _
 |n,s::l=>by
  unfold Qc
  split
  .exact .keep (dR.m _)
  .exact .drop (dR.m _)
def uZ:(n:Nat)->(O PV->W R->Prop)->og R n->Prop
 |0,B,m=>B [] m
 |n+1,B,m=>∀x:PV,uZ n (λl w=>B (x::l) w) (m x)
theorem uZ.all:∀{n:Nat}{B:O PV->W R->Prop}{m:og R n},uZ n B m->∀l,l.length=n->B l (gG n m l)
 |0,_,_,h,[],_=>h
 |n+1,_,_,h,x::l,e=>uZ.all (h x) l (Nat.succ.inj e)
section
variable{v:EV}{x:Str}{st:nn}
abbrev BB{T:Type}(v:EV)(x:Str)(st:nn)(k:Nat)(ks:O AK)(f:ce)(n:Nat)(m:og T n)(o:T->End):Prop:=∀{j:Nat}{bC:ci}{A:u8}{outer:O Env}{s:db}{H:Hp}{E:XK},bf k (A.deeper (wT x (aj st) s.heap.objs.size f bC))->(sC st).Nodup->uZ n (λl w=>SF (ic iz v.P v.w v.K v.mg v.base (sC st) x (aj st) f bC A outer s H E).yG v.K false (kA j ks l (sC st).length) (aY st) w o) m
abbrev BP{T:Type}(v:EV)(x:Str)(st:nn)(k:Nat)(ks:O AK)(f:ce)(n:Nat)(m:og T n)(o:T->End):Prop:=∀{bC:ci}{A:u8}{outer:O Env}{s:db}{H:Hp}{E:XK} (j:Nat),bf k (A.deeper (wT x (aj st) s.heap.objs.size f bC))->(sC st).Nodup->uZ n (λl w=>SF (ic iz v.P v.w v.K v.mg v.base (sC st) x (aj st) f bC A outer s H E).yG v.K false (kA j ks l (sC st).length) (aY st) w o) m
def NH{m:og PV n}(D:DI v ⟨x,st,oH st,k+1,λK=>nZ K ks (gG n m)⟩)(Ç:BB v x st k ks D.f n m .rt)(xi:‹ks.length=(oH st).length›)(one:‹EY (mW ks) 1=true›)(S:bI (sC st) (oH st) (aj st):=by exact pD):D.O:=Tg D.fn S xi (mT one) λj l e bC A outer s H E hr=>(Ç hr S.nd).all l e
def SG{m:og (O PV) n}(D:DI v ⟨x,st,oH st,k+1,λK=>mD K ks (gG n m)⟩)(Ç:BB v x st k ks D.f n m .rl)(xi:‹ks.length=(oH st).length›)(one:‹EY (mW ks) 1=true›)(S:bI (sC st) (oH st) (aj st):=by exact pD):D.O:=Xt D.fn S xi (mT one) λj l e bC A outer s H E hr=>(Ç hr S.nd).all l e
def Lw{m:og PV n}(D:DI v ⟨x,st,oH st,k+1,λK=>nZ K ks (gG n m)⟩)(Ç:BP v x st k ks D.f n m .rt)(xi:‹ks.length=(oH st).length›)(one:‹EY (mW ks) 1=true›)(S:bI (sC st) (oH st) (aj st):=by exact pD):D.O:=NH D (λ{j _ _ _ _ _ _}=>Ç j) xi one S
def Qd{m:og (O PV) n}(D:DI v ⟨x,st,oH st,k+1,λK=>mD K ks (gG n m)⟩)(Ç:BP v x st k ks D.f n m .rl)(xi:‹ks.length=(oH st).length›)(one:‹EY (mW ks) 1=true›)(S:bI (sC st) (oH st) (aj st):=by exact pD):D.O:=SG D (λ{j _ _ _ _ _ _}=>Ç j) xi one S
end
section
variable{K:Aa}{x:Str}{WL:W (O PV)}{p:Pos}
theorem eC{m:O PV->W PV}(G:uX X.prog X.w X.K X.mg X.base x k ps (nZ K ks m))(hr:bf k' X.A)(ha:AF X K fs (e::es) ks B f1)(hk:k<=k':=by first|exact BQ rfl|exact Aj _|lia)(hg:‹Gl X x›)(hW:‹W'=B m›)(cT: ~~~(dg x))(he:‹dZ X e es›)(bN:‹fb X pos es›):EF X K fs (.Call (.Name x p) (e::es) [] pos) W' f1:=Fp G hr hk hg ha hW cT he bN
theorem lC{m:O PV->W (O PV)}{B:(O PV->W (O PV))->W (O PV)}(G:uX X.prog X.w X.K X.mg X.base x k ps (mD K ks m))(hr:bf k' X.A)(ha:AF X K fs (e::es) ks B f1)(hk:k<=k':=by first|exact BQ rfl|exact Aj _|lia)(hg:‹Gl X x›)(hW:‹WL=B m›)(cT: ~~~(dg x))(he:‹dZ X e es›)(bN:‹fb X pos es›):LF X K fs (.Call (.Name x p) (e::es) [] pos) WL f1:=zY G hr hk hg ha hW cT he bN
variable{n0 mx:Nat}{y0:Str}
theorem eP(i:Nat){m:O PV->W PV}(G:uX X.prog X.w X.K X.mg X.base x k ps (nZ K (.p ψ d::ks) m))(hr:bf k' X.A)(ha:AF X K fs es ks B f1)(hs:‹fs[i]?=al (al (.cj ψ n0 mx))›)(sL:‹f1[i]?=al (al (.cj ψ n mx))›)(hd:n+d<=mx:=by omega)(hk:k<=k':=by first|exact BQ rfl|exact Aj _|lia)(hg:‹Gl X x›)(hW:‹W'=B m›)(cT: ~~~(dg x))(hN:‹X.N[i]?=al y0›)(hv:rp X.env.scope y0:=by first|exact Bj rfl|exact Bo (Bj rfl)|exact Bo (Bo rfl))(Iz: ~~~(dg y0))(df: ~~~(rA y0))(he:‹gt (.Name y0 py::es) X.env=(false,jp (.Name y0 py) X.env)::gt es X.env›)(bN:‹fb X pos es›):EF X K fs (.Call (.Name x p) (.Name y0 py::es) [] pos) W' (f1.set i (al (.cj ψ (n+d) mx))):=hW▸Fq i G hr hk hg hs ha sL hd cT hN hv Iz df he bN
theorem lP(i:Nat){m:O PV->W (O PV)}{B:(O PV->W (O PV))->W (O PV)}(G:uX X.prog X.w X.K X.mg X.base x k ps (mD K (.p ψ d::ks) m))(hr:bf k' X.A)(ha:AF X K fs es ks B f1)(hs:‹fs[i]?=al (al (.cj ψ n0 mx))›)(sL:‹f1[i]?=al (al (.cj ψ n mx))›)(hd:n+d<=mx:=by omega)(hk:k<=k':=by first|exact BQ rfl|exact Aj _|lia)(hg:‹Gl X x›)(hW:‹WL=B m›)(cT: ~~~(dg x))(hN:‹X.N[i]?=al y0›)(hv:rp X.env.scope y0:=by first|exact Bj rfl|exact Bo (Bj rfl)|exact Bo (Bo rfl))(Iz: ~~~(dg y0))(df: ~~~(rA y0))(he:‹gt (.Name y0 py::es) X.env=(false,jp (.Name y0 py) X.env)::gt es X.env›)(bN:‹fb X pos es›):LF X K fs (.Call (.Name x p) (.Name y0 py::es) [] pos) WL (f1.set i (al (.cj ψ (n+d) mx))):=hW▸zZ i G hr hk hg hs ha sL hd cT hN hv Iz df he bN
def zq(i:Nat)(hN:X.N.Nodup)(hi:‹X.N[i]?=al x›)(hx:Loc X.env.scope x:=by first|exact .inl rfl|exact .inr rfl)(hf:FT X x:=by first|exact .inl rfl|exact .inr rfl|assumption):PG X (.Name x pos) (hJ i):=zr hN hi hx hf
variable{T:Type}{out:T->End}{rest:O nn}
def sv(i:Nat){k:PV->W T}(hN:X.N.Nodup)(he:EF X K fs e we f1)(hr:∀v,SF X K b (f1.set i (al (.val v))) rest (k v) out)(hi:‹X.N[i]?=al y›)(hx:Loc X.env.scope y:=by first|exact .inl rfl|exact .inr rfl)(hs:‹wv e (al (.Name y p')) pos.line X.env=pure false›)(hf:FT X y:=by first|exact .inl rfl|exact .inr rfl|assumption):SF X K b fs (.Assign [.Name y p'] e pos::rest) (.bind we k) out:=SF.set hN hi hx he hr hs hf
def sl(i:Nat){k:O PV->W T}(hN:X.N.Nodup)(he:LF X K fs e wl f1)(hr:∀l,SF X K b (f1.set i (al (.ol bn l))) rest (k l) out)(hi:‹X.N[i]?=al y›)(hx:Loc X.env.scope y:=by first|exact .inl rfl|exact .inr rfl)(hs:‹wv e (al (.Name y p')) pos.line X.env=pure false›)(hf:FT X y:=by first|exact .inl rfl|exact .inr rfl|assumption):SF X K b fs (.Assign [.Name y p'] e pos::rest) (.bind wl k) out:=SF.Pu hN hi hx he hr hs hf
end
end
end FL
variable{v:FL.EV}{m:PL.PV->FL.W PL.PV}{d:FL.DF}
namespace FL
section
variable[bu]
def Nh:(n:Nat)->(O ci->Prop)->Prop
 |0,P=>P []
 |n+1,P=>∀x,Nh n λl=>P (x::l)
theorem usN:∀{n:Nat}{P:O ci->Prop},Nh n P->∀us:O ci,us.length=n->P us
 |0,_,h,[],_=>h
 |n+1,_,h,x::l,e=>usN (h x) l (Nat.succ.inj e)
def DX.Ib(D:DX v.K d.x d.s)(X:v.K.In h)(G:h.Ns ge v.mg)(hb:∀(kV Æ pm:ci) (an:Option ce) (bC ct:ci) (us:O ci),us.length=d.ps.length->bindArgs (AY d.x d.x (bA d.s) (aY d.s) (aj d.s) .none kV Æ pm an bC ct) ⟨us,[]⟩=pure (d.ps.zip us):=by exact λ_ _ _ _ _ _=>usN (by (repeat intro _);rfl)):Nonempty (DI v d):=by
 obtain⟨f,fd,a,F⟩:=D.ex;exact⟨⟨f,fd,F,F.binds hb,Bh X G a⟩⟩
def DX.go(D:DX v.K d.x d.s)(X:v.K.In h)(G:h.Ns ge v.mg){P:Prop}(k:∀D:DI v d,D.O)(r:d.C v->P)(hb:∀(kV Æ pm:ci) (an:Option ce) (bC ct:ci) (us:O ci),us.length=d.ps.length->bindArgs (AY d.x d.x (bA d.s) (aY d.s) (aj d.s) .none kV Æ pm an bC ct) ⟨us,[]⟩=pure (d.ps.zip us):=by exact λ_ _ _ _ _ _=>usN (by (repeat intro _);rfl)):P:=by
 obtain⟨D⟩:=D.Ib X G hb;exact r (D.c (k D))
def vv(K:Aa):Sp:=λvs H Q _=>TB H/\∃(a:ce) (ns:O Int),vs=[.ref a]/\yx K H a (ns.map V.int)/\ns.length<=63/\∀H',Q (.bl true) H'
def zX{K:Aa}(ok:∀ns:O Int,ns.length<=63->(m (.cl (ns.map PV.int))).run (·=.bl true)):∀vs H Q E,vv K vs H Q E->nZ K [.v] (gG 1 m) vs H Q E:=λvs H Q E ⟨tb,a,ns,e,fz,hl,q⟩=>by
 subst e;refine⟨tb,0,[.cl (ns.map PV.int)],.v (.cl fz (ng _ _ ns)) .nil,(m (.cl (ns.map PV.int))).mono (λv e u H' _ r=>?_) (ok ns hl)⟩;subst e;cases r;exact q H'
structure Ni(K:Aa)(mg:Str->Option ci)(d:DF):Prop where
 f:∀v:EV,v.K=K->v.mg=mg->∀D:DI v d,D.O
def mkAll{l:PySem.W.OpenLaw}{K:Aa}{st:nn}(ok:∀ns:O Int,ns.length<=63->(m (.cl (ns.map PV.int))).run (·=.bl true))(X:K.In h)(G:h.Ns ge mg)(S4:mg "law"=al (.ref fa))(Mz:DX K "law" st)(hb:∀(kV Æ pm:ci) (an:Option ce) (bC ct:ci) (us:O ci),us.length=1->bindArgs (AY "law" "law" (bA st) (aY st) (aj st) .none kV Æ pm an bC ct) ⟨us,[]⟩=pure (([("_law_script":Str)]:O Str).zip us))(F:Ni K mg ⟨"law",st,["_law_script"],k,λK=>nZ K [.v] (gG 1 m)⟩):∃fd:sK,(∀(s:db) (v:ci),BindsTo s fd ⟨[v],[]⟩ [("_law_script",v)])/\∀base:io,K.In base->base.Ns ge mg->ba l.prog w K mg base iz k fa fd ["_law_script"] (vv K):=by
 obtain⟨f,fd,a,F'⟩:=Mz.ex;have e:=S4.symm.trans (Bh X G a);cases e;obtain⟨oc,od,kV,Æ,pm,an,bC,ct,u7,rfl,_⟩:=id F'.ex;exact⟨AY "law" "law" (bA st) (aY st) (aj st) .none kV Æ pm an bC ct,λs v=>.of_eq (hb kV Æ pm an bC ct [v] rfl),λbase _ _=>(F.f ⟨l.prog,w,K,mg,base⟩ rfl rfl ⟨_,_,F',(F'.binds (ps:=["_law_script"]) hb),S4⟩).imp (zX ok)⟩
section
variable{K:Aa}{R:Type}{B:(O PV->W R)->W R}
def av(i:Nat){x:Str}{v:PV}(hr:AF X K fs es ks B f1)(hs:‹fs[i]?=al (al (.val v))›)(hN:‹X.N[i]?=al x›)(hv:rp X.env.scope x:=by first|exact Bj rfl|exact Bo (Bj rfl)|exact Bo (Bo rfl))(hd: ~~~(dg x))(df: ~~~(rA x))(h:‹gt (.Name x pos::es) X.env=(false,jp (.Name x pos) X.env)::gt es X.env›):AF X K fs (.Name x pos::es) (.v::ks) (λk=>.bind (.ret v) λx=>B λl=>k (x::l)) f1:=ae (af i hs hN hv hd df) hr h
end
end
section
variable[bu]{K:Aa}
structure Lm where
 q:Str
 ar:Arguments
 bd:im
 sc:GM
abbrev Lm.fn(L:Lm)(cl:O (Str×ce))(pm:ci)(cv jG:ci):sK:=PySem.W.kla_fn "<lambda>" L.q L.ar L.bd L.sc cl pm cv jG
abbrev Lm.ob(L:Lm)(cl:O (Str×ce))(pm:ci)(cv jG:ci):Obj:={cls:=.type "function",data:=.func (L.fn cl pm cv jG)}
def yB(o:Obj)(q:Str):Prop:=∃vs t,o.data=.fields vs/\vs[1]?=al (.str q t)
def mn(L:Lm)(ys:O Str)(base:io)(a:ce)(us:O V)(fz:O (ce×Obj)):Prop:=∃cl pm c jG co,fz=[(a,L.ob cl pm (.ref c) jG),(c,co)]/\yB co L.q/\
 (∀x c,cl.lookup x=al c->∃v,base.IsCell c v)/\(∀x y c,cl.lookup x=al c->cl.lookup y=al c->x=y)/\∀(i:Nat) (y:Str),ys[i]?=al y->∃c v u,cl.lookup y=al c/\us[i]?=al v/\RelV v u/\base.IsCell c (al u)
structure RU(ps ys:List Str)(sc:GM):Prop where
 kind:sc.kind=.function
 co:sc.isCoroutine=false
 gen:sc.isGenerator=false
 nd:(ps++ys).Nodup
 par:∀x∈ps,sc.names.lookup x=al .local
 Yg:∀y∈ys,sc.names.lookup y=al .free
 Sv:∀y∈sc.names,y.2≠.cell
 fin:∀y∈sc.names,y.2=.free->y.1∈ys
def Tw(P:lm)(w:sw)(K:Aa)(mg:Str->Option ci)(base:io)(N:O Str)(L:Lm)(a:ce)(cl:O (Str×ce))(cv:ci)(A:u8)(outer:O Env)(s:db)(H:Hp):Cx where
 prog:=P
 w:=w
 K:=K
 mg:=mg
 base:=base
 A:=A.deeper (DT L.q L.sc s.heap.objs.size a cv cl)
 N:=N
 s₀:=s
 H₀:=H
 env:=DT L.q L.sc s.heap.objs.size a cv cl
 outer:=outer
 stack:=DT L.q L.sc s.heap.objs.size a cv cl::outer
 ex:=[]
 calm:=true
 fn:=λ_=>false
 pn:=[]
 xe:=λ_ _=>False
theorem lV:∀{l:O (Str×β)}{x:Str}{u:β},(l.map (·.1)).Nodup->(x,u)∈l->l.lookup x=al u
 |(y,v)::l,x,u,nd,h=>by
  rw[List.map_cons,BU]at nd;rw[AA];by_cases c:x=y
  .subst c;rcases Au.mp h with h|h
   .cases h;simp
   .exact absurd (EK.mpr ⟨_,h,rfl⟩) nd.1
  .rw[beq_eq_false_iff_ne.mpr c];rcases Au.mp h with h|h
   .cases h;exact absurd rfl c
   .exact lV nd.2 h
theorem rB:∀(ps:O Str) (us:O ci),List.Sublist ((ps.zip us).map (·.1)) ps
 |[],_=>.slnil
 |_::_,[]=>List.nil_sublist _
 |p::ps,_::us=>(rB ps us).cons₂ p
def yP(nd:ps.Nodup){x:Str}(h1:ps[i]?=al x)(h2:us[i]?=al u):(ps.zip us).reverse.lookup x=al u:=by
 refine lV ?_ (List.mem_reverse.mpr (A8 (by rw[Dv];exact⟨h1,h2⟩)));rw[List.map_reverse];exact(List.reverse_perm _).nodup_iff.mpr (nd.sublist (rB ps us))
end
end FL
variable{b:AN}{E:L2.XK}{b0:Ds}
namespace L2
section
variable{s:db}{cs:O ce}
def kB(b0 h:io)(cs:O ce):io:=PySem.W.hideAll h ((Cc h.objs.size).filter λb=>!(b0.get? b).isSome&&!cs.contains b)
def uR(e:h.get? b=al o)(c:(∃o,b0.get? b=al o)\/b∈cs):(kB b0 h cs).get? b=al o:=Ew _ e λhm=>by
 have q:=(C6.mp hm).2;rw[Bw,CZ,CZ]at q;rcases c with⟨o',c⟩|c
 .rw[c]at q;simp at q
 .have:=q.2;rw[Ej.mpr c]at this;cases this
def oS(e:(kB b0 h cs).get? b=al o):h.get? b=al o/\((∃o,b0.get? b=al o)\/b∈cs):=by
 have e':=EA _ e;refine⟨e',Classical.byContradiction λn=>?_⟩;have z:(kB b0 h cs).get? b=bn:=Em _ (C6.mpr ⟨Eu.mpr (Ai e'),by
  rw[Bw,CZ,CZ];refine⟨?_,?_⟩
  .cases q:b0.get? b with
   |none=>rfl
   |some o=>exact absurd (.inl ⟨o,q⟩) n
  .cases q:cs.contains b with
   |false=>rfl
   |true=>exact absurd (.inr (Ej.mp q)) n⟩)
 rw[z]at e;cases e
theorem sW{b1:io}:∀{l:O Env},h.FunFrames b0 l->(∀L∈jo l,b1.get? L=bn)->h.FunFrames b1 l
 |[],_,_=>trivial
 |e::l,⟨h1,⟨L,o,h2,h3,h4⟩,h5⟩,n=>⟨h1,⟨L,o,h2,n L (by simp[jo,h2]),h4⟩,sW h5 λL hL=>n L (by
  unfold jo at hL ⊢;rw[BI,h2];exact AH _ hL)⟩
def Inv.RC(I:Inv X Z σ H s)(hc:∀c∈cs,∃x,X.fn x=true/\X.env.cells.lookup x=al c):nX X.prog X.w X.K X.mg (kB X.base s.heap cs) X.A X.stack s H:=by
 have kp:∀b o,X.base.get? b=al o->(kB X.base s.heap cs).get? b=al o:=λb o e=>uR (I.bk b o e) (.inl ⟨o,e⟩);have e0:=I.xK;refine⟨e0.frames,⟨e0.mod.wW.keeps kp,e0.mod.glob.keeps kp,let ⟨mb,h1,h2⟩:=e0.mod.blt;⟨mb,h1.keeps kp,h2⟩,e0.mod.nolimit.keeps kp,let ⟨bm,ob,h1,h2,h3,h4⟩:=e0.mod.bm;⟨bm,ob,h1,h2,kp _ _ h3,h4⟩⟩,λb o e=>?_,Dh (El _ _),sW e0.fD λL hL=>?_,e0.yM,e0.aW,e0.bare⟩
 .obtain⟨h1,⟨o',h2⟩|h2⟩:=oS e
  .exact⟨h1,(I.bs b o' h2).2⟩
  .obtain⟨x,_,hx⟩:=hc b h2;exact⟨h1,I.dA x b hx⟩
 .cases z:(kB X.base s.heap cs).get? L with
  |none=>rfl
  |some o=>
   obtain⟨h1,⟨o',h2⟩|h2⟩:=oS z
   .rw[(e0.fD.mem hL).1]at h2;cases h2
   .obtain⟨x,hf,hx⟩:=hc L h2;rcases Au.mp (I.jN L hL) with h|h
    .exact absurd h (I.u9 x L hx)
    .obtain⟨_,o2,h3,_⟩:=I.ok.fD.mem h;exact absurd (Aq (Ai h3) (I.ok.Jj x L hf hx)) (Bl _)
def zf{pW:io}{CX:uY}{Q:VK}{vs:O V}(F:ba X.prog X.w X.K X.mg pW CX k f fd ps sp)(e0:nX X.prog X.w X.K X.mg pW X.A X.stack s H)(hr:bf k X.A)(hb:Binds X.K fd ps [])(hx:Passes CX X E)(I:Inv X Z σ H s)(r:Vals vs us)(h:sp vs H Q E):f8 (gl X.prog X.w) X.A (call (.ref f) us) (EP X Z σ Q) X.xe s:=by
 have hl:(us++[]).length=ps.length:=by rw[AV,<- r.length];exact F.len _ _ _ _ h
 have Q6:=hb s us I.cR hl;rw[AV]at Q6;refine B1 (tz (F.run X.A X.stack s H ⟨us,[]⟩ us vs Q E hr e0 Q6 r h) λr s' hq=>?_);cases r with
 |error e=>exact hx Z σ H s e s' I hq
 |ok fl=>
  cases fl with
  |ret u=>exact I.after hq
  |next=>exact AD hq
  |brk=>exact AD hq
  |cont=>exact AD hq
end
end L2
variable{Q:AO->BW->Prop}
namespace FL
section
variable[bu]{K:Aa}
theorem oo{x y:Int}{c:ci}(n:Nat):∀l:O ci,l.length<=n->TriplesOk l->TriplesOk (l++[lf x,lf y,c])/\∀pos d,Ix pos (l++[lf x,lf y,c])=al d->Ix pos l=al d\/d=c:=by
 induction n with
 |zero=>
  intro l hl _;have:l=[]:=Bg ∅;subst this;refine⟨by simp[lf,TriplesOk],λpos d h=>?_⟩;rw[Ec]at h;simp only[lf,Ix]at h
  split at h
  .cases h;exact .inr rfl
  .cases h
 |succ n ih=>
  intro l hl h;by_cases c1:l=[]
  .subst c1;exact ih [] (Bz _) h
  by_cases c2:∃i t j u e r,l=.int i t::.int j u::e::r
  .obtain⟨i,t,j,u,e,r,rfl⟩:=c2;obtain⟨h1,h2⟩:=ih r (by simp at hl;lia) h;refine⟨?_,λpos d hd=>?_⟩
   .show TriplesOk (.int i t::.int j u::e::(r++_));exact h1
   .have hd:Ix pos (.int i t::.int j u::e::(r++[lf x,lf y,c]))=al d:=hd;rw[codeAmong.eq_1]at hd ⊢;by_cases z:(i==↑pos.line&&j==↑pos.col)=true
    .rw[if_pos z]at hd ⊢;exact .inl hd
    .rw[if_neg z]at hd ⊢;exact h2 pos d hd
  .rw[TriplesOk.eq_3 l c1 λi t j u e r z=>c2 ⟨i,t,j,u,e,r,z⟩]at h;exact h.elim
def p4(P:ce)(q:Str):Prop:=(P,q)∈bu.ts/\∀p∈bu.ts,p.1=P->p.2=q
structure FQ(K:Aa)(mg:Str->Option ci)(bC:ci)(P:ce):Prop where
 hd:∃c,bC=.ref c/\∀h:io,K.In h->PySem.W.CodeHd h c P
def yu(X:Cx)(L:Lm)(a:ce)(fz:O (ce×Obj)):Prop:=∃cl pm c jG co,fz=[(a,L.ob cl pm (.ref c) jG),(c,co)]/\yB co L.q/\(∀x c,cl.lookup x=al c->X.env.cells.lookup x=al c/\(x,.free)∈L.sc.names)/\∀x,(x,.free)∈L.sc.names->∃c,cl.lookup x=al c
section
variable{σ:L2.St}{s:db}{P:ce}{L:Lm}
def o5{pm jG:ci}{c tk:Nat}{co:Obj}{u0:HO}(I:Inv X Z σ H {s with heap:=h',toks:=tk})(tb:TB H)(hc:H c=al (.b8 co u0))(LZ:yB co L.q)(h1:∀x c,cl.lookup x=al c->X.env.cells.lookup x=al c/\(x,.free)∈L.sc.names)(h2:∀x,(x,.free)∈L.sc.names->∃c,cl.lookup x=al c)(h:∀a fz H' s',Inv X Z σ H' s'->yu X L a fz->mq H' fz->TB H'->cI H H'->Q (.ref a) s'):Q (.ref h'.objs.size) {s with heap:=h'.push (L.ob cl pm (.ref c) jG),toks:=tk}:=by
 have hn:H h'.objs.size=bn:=I.aW.fresh (Aj _);have I2:=I.laid (a:=h'.objs.size) (o:=.b8 (L.ob cl pm (.ref c) jG) (.own 0)) (t':=tk) (h':=h'.push (L.ob cl pm (.ref c) jG)) (λb u z=>Ad _ z) (Aj _) ⟨Am _ rfl,_,Am _ rfl⟩;have sm:=dU hn (.b8 (L.ob cl pm (.ref c) jG) (.own 0));refine h _ [(h'.objs.size,L.ob cl pm (.ref c) jG),(c,co)] _ _ I2 ⟨cl,pm,c,jG,co,rfl,LZ,h1,h2⟩ (λp hp=>?_) (tb.same sm) sm;simp only[Au,Cu,or_false]at hp;rcases hp with rfl|rfl
 .exact⟨_,ao⟩
 .exact⟨u0,sm _ _ hc⟩
def Ih(I:Inv X Z σ H s)(tb:TB H)(hK:FQ X.K X.mg X.env.code P)(hq:L.q=X.env.qual++"<lambda>")(hP:p4 P L.q)(hd:defaultsOf L.ar X.env=([],[]))(hf:∀y∈L.sc.names,y.2=.free->X.env.kindOf y.1=al .cell\/X.env.kindOf y.1=al .free)(h:∀a fz H' s',Inv X Z σ H' s'->yu X L a fz->mq H' fz->TB H'->(∀b o,H b=al o->o.nt=true->H' b=al o)->(∀b,H' b=bn->H b=bn)->Q (.ref a) s'):f8 (gl X.prog X.w) X.A (jp (.Lambda L.ar L.bd L.sc pos) X.env) Q X.xe s:=by
 obtain⟨ps,eP,tr,ck⟩:=tb _ hP.1;obtain⟨c,S5,TC⟩:=hK.hd;obtain⟨cl,sM,kb,qR⟩:=gp λy hy hk=>I.ok.has y.1 (hf y hy hk);have hg:=I.mod.glob.keeps I.bk;have NU:=I.aW P _ eP;have Xj:ge≠P:=λz=>by
  obtain⟨o,es,ep,g1,g2,_⟩:=hg;rw[z,NU]at g1;cases g1;cases g2
 have bl:s.heap.BuiltinsAt X.mg P:=by
  obtain⟨bm,ob,b1,b2,b3,b4,b5,b6⟩:=I.mod.bm;have b7:=I.bk _ _ b3;refine⟨bm,ob,b1,b2,λz=>?_,λz=>?_,b7,b4,b5,b6⟩
  .obtain⟨o,es,ep,g1,g2,_⟩:=hg;rw[z,g1]at b7;cases b7;rw[g2]at b6;cases b6
  .rw[z,NU]at b7;cases b7;cases b4
 refine PySem.W.kla_eval hd ?_;rw[<- hq];cases e:Ix pos ps.toList with
 |some cv=>
  obtain⟨ca,co,u,vs,t,rfl,e1,e2,e3⟩:=ck pos cv e;exact PySem.W.kla_makeFunctionHit sM I.ok.glob hg S5 (TC _ I.cR) NU tr e bl λjG h' tk kp E2=>o5 (I.kept kp) tb e1 ⟨vs,t,e2,e3⟩ kb qR λa fz H' s' I' n z t' sm=>h a fz H' s' I' n z t' (λb o z _=>sm b o z) λb z=>sm.free z
 |none=>
  refine PySem.W.kla_makeFunction sM I.ok.glob hg S5 (TC _ I.cR) NU tr e Xj bl λc' jG h' tk ext h1 h2 cr S0=>?_;obtain⟨_,co,vs,t,e0,e1,e2,e3⟩:=cr;cases e0;have hn:=I.aW.fresh h1;have cP:c'≠P:=λz=>by subst z;rw[hn]at eP;cases eP
  obtain⟨UN,XI⟩:=oo (x:=pos.line) (y:=pos.col) (c:=.ref c') _ _ (Aj _) tr;have NY:upd (upd H P (.jd (ps++#[lf pos.line,lf pos.col,.ref c']))) c' (.b8 co (.own 0)) P=al (.jd (ps++#[lf pos.line,lf pos.col,.ref c'])):=by rw[ag (BO cP)];exact ao
  have ot:∀b u,b≠P->H b=al u->upd (upd H P (.jd (ps++#[lf pos.line,lf pos.col,.ref c']))) c' (.b8 co (.own 0)) b=al u:=λb u n z=>by
   rw[ag (a9 z hn),ag n];exact z
  have yL:upd (upd H P (.jd (ps++#[lf pos.line,lf pos.col,.ref c']))) c' (.b8 co (.own 0)) c'=al (.b8 co (.own 0)):=ao;have on:∀b,b≠c'->H b=bn->upd (upd H P (.jd (ps++#[lf pos.line,lf pos.col,.ref c']))) c' (.b8 co (.own 0)) b=bn:=λb n z=>by
   rw[ag n,ag (λy=>by subst y;rw[z]at eP;cases eP)];exact z
  have inv:∀b u,upd (upd H P (.jd (ps++#[lf pos.line,lf pos.col,.ref c']))) c' (.b8 co (.own 0)) b=al u->(b=c'/\u=.b8 co (.own 0))\/(b=P/\u=.jd (ps++#[lf pos.line,lf pos.col,.ref c']))\/(b≠P/\H b=al u):=λb u z=>by
   by_cases y1:b=c'
   .subst y1;rw[ao]at z;cases z;exact .inl ⟨rfl,rfl⟩
   .rw[ag y1]at z;by_cases y2:b=P
    .subst y2;rw[ao]at z;cases z;exact .inr (.inl ⟨rfl,rfl⟩)
    .rw[ag y2]at z;exact .inr (.inr ⟨y2,z⟩)
  generalize upd (upd H P (.jd (ps++#[lf pos.line,lf pos.col,.ref c']))) c' (.b8 co (.own 0))=H1 at NY ot yL on inv;have JH:∀b u,H b=al u->u.nt=true->b≠P:=λb u z nt y=>by subst y;rw[eP]at z;cases z;cases nt
  have ext':∀b o,H b=bn->s.heap.get? b=al o->h'.get? b=al o:=λb o n z=>ext b o (λy=>by subst y;rw[n]at eP;cases eP) z;have un:Un X.fs [] H H1 s.heap h':=by
   refine⟨λb o z n _ _=>ext' b o n z,λb o z n _ _=>⟨o.slots,ext' b o n z⟩,λb o z n _=>on b ((λb o z=>AI (Aq (Ai z) h1)) b o z) n,λb o z _=>?_,λb xs z=>ot b _ (JH b _ z rfl) z,λb o u z=>ot b _ (JH b _ z rfl) z,λb qs z=>?_⟩
   .by_cases y:b=P
    .subst y;exact⟨_,S0⟩
    .exact⟨o,ext b o y z⟩
   .by_cases y:b=P
    .subst y;rw[eP]at z;cases z;exact⟨_,NY⟩
    .exact⟨#[],by rw[ot b _ y z];simp⟩
  have aW:fR X.prog X.w H1 h':=λb u z=>by
   rcases inv b u z with⟨rfl,rfl⟩|⟨rfl,rfl⟩|⟨y,z⟩
   .exact⟨e1,_,e1⟩
   .exact S0
   .refine(I.aW b u z).jP (λd v hd q=>ext d v (λw=>?_) q) (λd q=>ot d _ (JH d _ q rfl) q) λd xs q=>ot d _ (JH d _ q rfl) q;rcases hd with hd|hd
    .exact y (hd.symm.trans w)
    .subst w;rw[eP]at hd;cases hd
  have UO:TB H1:=λp hp=>by
   obtain⟨qs,k1,k2,k3⟩:=tb p hp;have R6:∀cv,RX H cv p.2->RX H1 cv p.2:=λcv ⟨a,o,u,vs,t,f1,f2,f3,f4⟩=>⟨a,o,u,vs,t,f1,ot a _ (JH a _ f2 rfl) f2,f3,f4⟩;by_cases y:p.1=P
   .rw[y,eP]at k1;cases k1;refine⟨_,by rw[y];exact NY,by simpa using UN,λË d hd=>?_⟩;rcases XI Ë d (by simpa using hd) with z|rfl
    .exact R6 _ (k3 Ë d z)
    .rw[hP.2 p hp y];exact⟨c',co,_,vs,t,rfl,yL,e2,e3⟩
   .exact⟨qs,ot _ _ y k1,k2,λË d z=>R6 _ (k3 Ë d z)⟩
  exact o5 (L:=L) (s:=s) (I.un (t':=tk) un aW) UO yL ⟨vs,t,e2,e3⟩ kb qR λa fz H' s' I' n z t' sm=>h a fz H' s' I' n z t' (λb o z nt=>sm b o (ot b o (JH b o z nt) z)) λb z=>by
   have z':=sm.free z;cases y:H b with
   |none=>rfl
   |some u=>
    by_cases w:b=P
    .subst w;rw[NY]at z';cases z'
    .rw[ot b u w y]at z';cases z'
end
end
end FL
variable{o:Option L2.HO}{ts:O AN}
namespace L2
def qi(ts:O ce)(a:ce)(o:Option HO):Hp:=λb=>if b∈ts then al (.jd #[]) else if b=a then o else bn
def vn(h:b∈ts):qi ts a o b=al (.jd #[]):=if_pos h
def Hc(h:a∉ts):qi ts a o a=o:=by unfold qi;rw[if_neg h,if_pos rfl]
def gJ{u:HO}(h:qi ts a o b=al u):(b∈ts/\u=.jd #[])\/(b=a/\o=al u):=by
 unfold qi at h;by_cases c:b∈ts
 .rw[if_pos c]at h;cases h;exact .inl ⟨c,rfl⟩
 .rw[if_neg c]at h;by_cases d:b=a
  .rw[if_pos d]at h;exact .inr ⟨d,h⟩
  .rw[if_neg d]at h;cases h
def uw{K:Aa}{mb:Str->Option ci}{x:Str}{s₁:db}{vs:O ci}(KX:K.In s₁.heap)(NV:s₁.heap.Ns ge mg)(hb:s₁.heap.Ns Gc mb)(Xd:∀x:Str,x≠"__name__"->mb x=o0 x)(QM:s₁.heap.NoLimit)(Xb:∃bm ob,mg "__builtins__"=al (.ref bm)/\bm≠Gc/\s₁.heap.get? bm=al ob/\ob.cls=.type "module"/\ob.dict=al Gc/\ob.data=.plain)(hg:s₁.gens=#[])(ha:s₁.heap.get? a=al {cls:=.type "list",data:=.seq vs.toArray})(hi:IntsAre vs ns)(hl:ns.length<=sizeLine)(hr:bf k callerA)(ht:∀P∈ts,s₁.heap.get? P=al (Ek #[]))(WD:∀P∈ts,K.lookup P=bn)(WE:∀P∈ts,isCodeTable s₁.heap P)(F:∀base:io,K.In base->base.Ns ge mg->ba P w K mg base iz k fa fd [x] sp)(L0:∀(s:db) (u:ci),BindsTo s fd ⟨[u],[]⟩ [(x,u)])(qO:∀H:Hp,(∀P∈ts,H P=al (.jd #[]))->PL.yx K H a (ns.map V.int)->sp [.ref a] H (λv _=>v=.bl true) λ_ _ _=>False):FM (gl P w) callerA (.call (.ref fa) ⟨[.ref a],[]⟩) (λr s'=>r=.ok (.ret (.bool true))/\OldK s₁.heap s'.heap/\s'.os=s₁.os/\GT s'.gens) s₁:=by
 have rv:=lx hi;have Qh:=hi.length;have Ý:∀H:Hp,(∀P∈ts,H P=al (.jd #[]))->PL.yx K H a (ns.map V.int)->fR P w H s₁.heap->(∀b o,H b=al o->(b∈ts/\o=.jd #[])\/(b=a/\K.lookup a=bn/\∃o' u,o=.b8 o' u))->
   FM (gl P w) callerA (.call (.ref fa) ⟨[.ref a],[]⟩) (λr s'=>r=.ok (.ret (.bool true))/\OldK s₁.heap s'.heap/\s'.os=s₁.os/\GT s'.gens) s₁:=by
  intro H hT hS aW hA;have nK:∀{b:ce}{o:Obj},s₁.heap.get? b=al o->H b=bn->(ni s₁.heap H).get? b=al o:=λe n=>xj e n;have Ls:∀{b:ce}{o:Obj}{es:Array DictEntry}{ep:Nat},s₁.heap.get? b=al o->o.data=.dict es ep->H b=bn:=λ{b o es ep} e d=>by
   cases q:H b with
   |none=>rfl
   |some u=>
    rcases hA b u q with⟨z,_⟩|⟨z,_⟩
    .rw[ht b z]at e;cases e;cases d
    .subst z;rw[ha]at e;cases e;cases d
  have NF:∀{b:ce}{m:Str->Option ci},s₁.heap.Ns b m->(ni s₁.heap H).Ns b m:=λ{b m} ⟨o,es,ep,e,d,r⟩=>⟨o,es,ep,nK e (Ls e d),d,r⟩;have Ta:K.In (ni s₁.heap H):=λb o e=>nK (KX b o e) (by
   cases q:H b with
   |none=>rfl
   |some u=>
    rcases hA b u q with⟨z,_⟩|⟨z,z2,_⟩
    .rw[WD b z]at e;cases e
    .subst z;rw[z2]at e;cases e)
  have hM:Mod K mg (ni s₁.heap H):=⟨Ta,NF NV,⟨mb,NF hb,Xd⟩,let ⟨mc,h1,h2⟩:=QM;⟨mc,NF h1,h2⟩,let ⟨bm,ob,h1,h2,h3,h4,h5,h6⟩:=Xb;⟨bm,ob,h1,h2,nK h3 (by
   cases q:H bm with
   |none=>rfl
   |some u=>
    rcases hA bm u q with⟨z,_⟩|⟨z,_⟩
    .rw[ht bm z]at h3;cases h3;cases h6
    .subst z;rw[ha]at h3;cases h3;cases h6),h4,h5,h6⟩⟩
  have e0:nX P w K mg (ni s₁.heap H) callerA [] s₁ H:=⟨rfl,hM,λb o e=>zJ e,Dh (uC _ _),trivial,λb hb=>absurd (show b∈([]:O ce) from hb) (by simp),aW,.of_eq hg⟩;refine tz ((F _ Ta (NF NV)).run callerA [] s₁ H ⟨[.ref a],[]⟩ [.ref a] [.ref a] _ _ hr e0 (L0 s₁ (.ref a)) (.cons rfl .nil) (qO H hT hS)) λr s' h=>?_;cases r with
  |error e=>exact h.elim
  |ok fl=>
   cases fl with
   |next=>exact AD h
   |brk=>exact AD h
   |cont=>exact AD h
   |ret u=>
    obtain⟨v,H',os,bare,un,LP,r',q⟩:=h;have q':v=.bl true:=q;subst q';obtain rfl:u=CG true:=r';refine⟨rfl,⟨λb o e=>?_,λb o e=>un.there b o e (by simp)⟩,os,bare⟩;cases q:H b with
    |none=>exact .inl (un.keep b o e q (by intro z;exact absurd (show b∈([]:O ce) from z) (by simp)) (by simp))
    |some u=>
     rcases hA b u q with⟨z,rfl⟩|⟨z,_,o',u',rfl⟩
     .obtain⟨more,h2⟩:=un.jc b _ q;have h3:s'.heap.get? b=al (Ek (#[]++more)):=LP b _ h2;rw[ht b z]at e;cases e;exact .inr (.inl ⟨WE b z,rfl,#[],more,rfl,h3⟩)
     .have z2:=un.jn b _ _ q;obtain⟨e1,_⟩:=aW b _ q;obtain⟨e2,_⟩:=LP b _ z2;rw[e]at e1;cases e1;exact .inl e2
 have Vm:a∉ts:=λz=>by rw[ht a z]at ha;cases ha
 cases hk:K.lookup a with
 |some o=>
  have e:=KX a o hk;rw[ha]at e;cases e;refine Ý (qi ts a bn) (λb hb=>vn hb) (.inr ⟨_,vs.toArray,_,hk,rfl,rfl,rfl,by rw[Al,Qh];exact hl,by simpa using rv⟩) (λb u z=>?_) λb u z=>?_
  .rcases gJ z with⟨y,rfl⟩|⟨_,y⟩
   .exact ht b y
   .cases y
  .rcases gJ z with⟨y,rfl⟩|⟨_,y⟩
   .exact .inl ⟨y,rfl⟩
   .cases y
 |none=>
  refine Ý (qi ts a (al (.b8 {cls:=.type "list",data:=.seq vs.toArray} (.lst (ns.map V.int))))) (λb hb=>vn hb) (.inl ⟨{cls:=.type "list",data:=.seq vs.toArray},Hc Vm⟩) (λb u z=>?_) λb u z=>?_
  .rcases gJ z with⟨y,rfl⟩|⟨rfl,y⟩
   .exact ht b y
   .cases y;exact⟨ha,by rw[AB];exact hl,vs,_,rv,ha⟩
  .rcases gJ z with⟨y,rfl⟩|⟨rfl,y⟩
   .exact .inl ⟨y,rfl⟩
   .cases y;exact .inr ⟨rfl,hk,_,_,rfl⟩
end L2
namespace FL
section
variable[bu]
abbrev EV.at(v:EV)(b:io):EV:=⟨v.P,v.w,v.K,v.mg,b⟩
def Nd(vs:Array ci)(c P:ce):Prop:=∃Ø tf Ó tg Qx text tt,vs[11]?=al (.ref P)/\vs.getD 11 .none=.ref P/\vs.getD 18 .none=.str Ø tf/\vs.getD 7 .none=.int Ó tg/\vs.getD 9 .none=.bool Qx/\vs.getD 10 .none=.int text tt/\c≠P
structure DXc(K:Aa)(x:Str)(st:nn)(P:ce):Prop where
 ex:∃f fd,Aw K ge x=al (al (.ref f))/\gD K x x st f fd/\∃c,fd.code=.ref c/\(∀h:io,K.In h->PySem.W.CodeHd h c P)/\∀h:io,K.In h->isCodeTable h P
def dxc{K:Aa}{x:Str}{st:nn}{c P:ce}{cd:Option ce}{sl:Array (Option ci)}{kV:ci}(a:Aw K ge x=al (al (.ref f)))(l:K.lookup f=al ⟨oc,od,.func (AY x x (bA st) (aY st) (aj st) .none kV Æ pm an (.ref c) ct),u7⟩)(h:Bx K (.ref c) x=true)(k:AG K (.ref f)=true)(e:K.lookup c=al ⟨.type "code",cd,.fields vs,sl⟩)(z:Nd vs c P):DXc K x st P:=
 ⟨f,_,a,iR l h k,c,rfl,λhp hK=>let ⟨Ø,tf,Ó,tg,Qx,text,tt,z⟩:=z;⟨_,vs,Ø,tf,Ó,tg,Qx,text,tt,hK _ _ e,rfl,rfl,z⟩,λhp hK=>let ⟨_,_,_,_,_,_,_,z,_⟩:=z;⟨c,_,vs,hK _ _ e,rfl,rfl,z⟩⟩
def DXc.Vn{P:ce}(D:DXc v.K d.x d.s P)(X:v.K.In h)(G:h.Ns ge v.mg)(hb:∀(kV Æ pm:ci) (an:Option ce) (bC ct:ci) (us:O ci),us.length=d.ps.length->bindArgs (AY d.x d.x (bA d.s) (aY d.s) (aj d.s) .none kV Æ pm an bC ct) ⟨us,[]⟩=pure (d.ps.zip us):=by exact λ_ _ _ _ _ _=>usN (by (repeat intro _);rfl)):∃D:DI v d,FQ v.K v.mg D.fd.code P:=by
 obtain⟨f,fd,a,F,c,hc,hd,_⟩:=D.ex;exact⟨⟨f,fd,F,F.binds hb,Bh X G a⟩,⟨⟨c,hc,hd⟩⟩⟩
def DXc.tab{K:Aa}{x:Str}{st:nn}{P:ce}(D:DXc K x st P)(hK:K.In h):isCodeTable h P:=let ⟨_,_,_,_,_,_,_,z⟩:=D.ex;z h hK
def walkT{l:PySem.W.OpenLaw}{q:lm}{d:DefRec}{K:Params->Aa}(hn:l.most=al 63)(QX:d.params.defaults=[])(hr:bf k callerA)(hY:∀(w:sw) (h:io),YP w h->(K w.params).In h/\∀P∈bu.ts.map (·.1),h.get? P=al (Ek #[]))(hK:∀w:sw,∀P∈bu.ts.map (·.1),(K w.params).lookup P=bn)(hC:∀(w:sw) (h:io),(K w.params).In h->∀P∈bu.ts.map (·.1),isCodeTable h P)(F:∀(w:sw) (mg:Str->Option ci) (fa:ce) (h:io),(K w.params).In h->h.Ns ge mg->mg d.name=al (.ref fa)->
   ∃fd:sK,(∀(s:db) (u:ci),BindsTo s fd ⟨[u],[]⟩ [("_law_script",u)])/\∀base:io,(K w.params).In base->base.Ns ge mg->ba l.prog w (K w.params) mg base iz k fa fd ["_law_script"] (vv (K w.params))):PySem.W.WalkO q Ñ XP YP l.row.toRowW d [] (λf vs=>PySem.call f vs):=by
 refine Att.p3 hn QX λw s₀ s₁ mg mb fa o pm cd Æ a vs ns G Y ho hd df hmg IC Ò Ä hg=>?_;obtain⟨KX,hT⟩:=hY w _ Y;obtain⟨fd,hb,hF⟩:=F w mg fa _ KX G.T.g hmg;exact uw KX G.T.g G.T.b G.T.builtins G.T.nolimit G.T.bmain hg IC Ò (Av Ä ⋯) hr hT (hK w) (hC w _ KX) hF hb λH S9 hS=>⟨λp hp=>⟨#[],S9 _ (EK.mpr ⟨p,hp,rfl⟩),trivial,λpos c z=>by simp[Ix]at z⟩,a,ns,rfl,hS,Ä,λ_=>rfl⟩
def forK{K:Aa}(P:Aa->Prop)(_:K.In h)(p:P K):P K:=p
end
end FL
namespace My
def dY(j:Nat):nn->nn
 |.ClassDef _ _ _ b _ _ _ _ _ _ _=>b.getD j (.Pass ⟨0,0,0,0⟩)
 |s=>s
def yY(i:Nat):nn:=Bs.main.body.getD i (.Pass ⟨0,0,0,0⟩)
abbrev sN:nn:=yY 6
abbrev sR:nn:=yY 8
abbrev rS:nn:=yY 9
abbrev mI:nn:=yY 10
abbrev zc:nn:=yY 11
abbrev rR:nn:=yY 12
abbrev zd:nn:=yY 13
abbrev rQ:nn:=yY 14
abbrev Nt:nn:=yY 21
end My
variable{c m:Nat}{C:AN}{T:Bt}
namespace My
def iA(C p:ce)(T:Str)(n:Nat)(H:Hp):Prop:=∃dx,H p=al (.ins C dx [("text",.str T),("place",.int n)])
def uk(s:Str)(c:Nat):Bool:=!(Builtin.Str.occurrences s ⟨#[c]⟩ 0 s.length 1).isEmpty
def d8(T:Str)(n:Nat)(s:Str):Bool:=match T.cps.toList[n]? with
 |some c=>uk s c
 |none=>false
theorem GX{l:List α}{c:α}(h:l[n]?=al c):eV l (n:Int)=al c:=by
 have:=(Ag.mp h).1;unfold eV pd;rw[if_pos ∅,if_pos ∅];simpa using h
def gC{s:Str}(e:T.cps.toList[n]?=al c):d8 T n s=uk s c:=by unfold d8;rw[e]
def kE{s:Str}(h:d8 T n s=true):∃c,T.cps.toList[n]?=al c/\uk s c=true/\n<T.length:=by
 unfold d8 at h;cases e:T.cps.toList[n]? with
 |none=>rw[e]at h;cases h
 |some c=>
  rw[e]at h;exact⟨c,rfl,h,by have:=(Ag.mp e).1;simpa[BM]using this⟩
def vw(h:n<=16777216):(n:Int).natAbs.log2<100:=by
 rw[Int.natAbs_natCast];by_cases z:n=0
 .subst z;decide
 .exact(Nat.log2_lt z).mpr (Nat.lt_of_le_of_lt h ⋯)
def kH(p:ce)(H H':Hp):Prop:=∀b,b≠p->H' b=H b
structure gE(p:ce)(H H':Hp):Prop where
 k:∀c o,c≠p->H c=al o->H' c=al o
 t:∀c,H' c=bn->H c=bn
def gE.trans{p:ce}(a:gE p H H1)(b:gE p H1 H2):gE p H H2:=⟨λc o n h=>b.k c o n (a.k c o n h),λc h=>a.t c (b.t c h)⟩
def gE.same{p:ce}(s:cI H H'):gE p H H':=⟨λc o _ h=>s c o h,λc h=>by
 cases e:H c with
 |none=>rfl
 |some o=>rw[s c o e]at h;cases h⟩
def gE.off{p:ce}(o:kH p H H')(r:iA C p T n H'):gE p H H':=⟨λc u nc h=>(o c nc).trans h,λc h=>by
 by_cases e:c=p
 .subst e;obtain⟨dx,r⟩:=r;rw[r]at h;cases h
 .rw[<- o c e];exact h⟩
def iA.same{p:ce}(s:cI H H')(r:iA C p T n H):iA C p T n H':=let ⟨dx,r⟩:=r;⟨dx,s _ _ r⟩
def kH.trans{p:ce}(a:kH p H H1)(b:kH p H1 H2):kH p H H2:=λc n=>(b c n).trans (a c n)
def jt(E:XK)(p:ce)(H:Hp)(m:Nat):Prop:=∀a H',gE p H H'->E (.int m 0) (al a) H'
def jt.kp{p:ce}(b:jt E p H m)(k:gE p H H1):jt E p H1 m:=λa H' k'=>b a H' (k.trans k')
def oy(C:ce):Sp:=λvs H Q _=>∃(p:ce) (T:Str) (n:Nat) (s:Str),vs=[.ref p,.str s]/\iA C p T n H/\T.length<=sizeLine/\Q (.bl (d8 T n s)) H
structure GZ(K:Aa)(mg:Str->Option ci)(C:ce):Prop where
 cl:tN K C
 t:cJ K C "text"
 p:cJ K C "place"
 len:mg "len"=bn
structure OC(P:lm)(w:sw)(K:Aa)(mg:Str->Option ci)(base:io)(N:ce) where
 f:ce
 fd:sK
 m:qc K N f
 ok:ba P w K mg base iz 1 f fd ["self","place"] (vt N)
 bi:Binds K fd ["self","place"] []
 at':mg "NoText"=al (.ref N)
 kp:AG K (.ref N)=true
section
variable{K:Aa}{N:ce}
def Ln{TE:ce}(T:yA K TE N)(S:tM K N TE "place")(hm:mg "TreeError"=al (.ref TE))(F:gD K "__init__" "NoText.__init__" (dY 0 sN) f fd):ba P w K mg base iz 1 f fd ["self","place"] (vt N):=by
 refine F.ok (N:=["self","place"]) pD (λvs H Q E h=>?_) (λbC A outer s H vs Q E hr h=>?_)
 .obtain⟨_,_,rfl,_⟩:=h;rfl
 obtain⟨a,n,rfl,ha,hn,q⟩:=h;refine⟨_,az (dm (K6 T (let ⟨cd,h,_⟩:=S.cd;⟨cd,h⟩) rfl hm (pv 0) (K8 (by decide +kernel) (pv 1)))) (aV (K3 S (pv 0) (pv 1) rfl)),?_⟩;refine⟨.ref a,rfl,.int n,rfl,n,rfl,hn,λu=>⟨a,u,rfl,rfl,ha,?_⟩⟩;exact⟨.int n,rfl,.ref a,rfl,a,rfl,ha,λH' dx hd ho h1 h2=>q H' dx hd ho h1 h2⟩
theorem uf(R:GZ K mg C)(F:gD K "stands_at" "Reader.stands_at" (dY 1 sR) f fd):ba P w K mg base iz 1 f fd ["self","signs"] (oy C):=by
 refine F.ok (N:=["self","signs"]) pD (λvs H Q E h=>?_) (λbC A outer s H vs Q E hr h=>?_)
 .obtain⟨_,_,_,_,rfl,_⟩:=h;rfl
 obtain⟨p,T,n,sg,rfl,⟨dx,hp⟩,hT,q⟩:=h;refine⟨_,aV (bJ (HE (jv si (dI (pv 0) rfl) (bh (cY K rfl) (by rfl) R.len Dr (ah (dI (pv 0) rfl) ax)) (cH _)) (qB (jv lQ (fu (cB K rfl) (dI (pv 0) rfl) (dI (pv 0) rfl) (λ_ _=>rfl)) (pv 1) rfl)))),?_⟩;refine⟨.ref p,rfl,p,C,dx,_,.int n,rfl,hp,R.cl,R.p,rfl,.ref p,rfl,p,C,dx,_,.str T,rfl,hp,R.cl,R.t,rfl,.str T,T.length,rfl,⟨hT,rfl⟩,_,_,rfl,rfl,_,rfl,?_⟩;cases e:T.cps.toList[n]? with
 |none=>
  have:¬((n:Int)<(T.length:Int)):=λz=>by
   have:=List.getElem?_eq_none_iff.mp e;have e2:T.cps.toList.length=T.length:=by simp[BM]
   lia
  rw[if_neg (by simpa using this)];have:d8 T n sg=false:=by unfold d8;rw[e]
  rw[this]at q;exact q
 |some c=>
  have l1:n<T.length:=by have:=(Ag.mp e).1;simpa[BM]using this
  rw[if_pos (by simpa using l1)];have:d8 T n sg=uk sg c:=by unfold d8;rw[e]
  rw[this]at q;exact⟨.ref p,rfl,p,C,dx,_,.str T,rfl,hp,R.cl,R.t,rfl,.ref p,rfl,p,C,dx,_,.int n,rfl,hp,R.cl,R.p,rfl,.inr (.inr ⟨T,n,c,rfl,rfl,hT,GX e,.str sg,rfl,_,_,rfl,rfl,q⟩)⟩
structure Mt(P:lm)(w:sw)(K:Aa)(mg:Str->Option ci)(base:io)(CX:uY)(C:ce)(m:Str)(k:Nat)(ps:List Str)(sp:Sp) where
 f:ce
 fd:sK
 m:Meth K C m f
 ok:ba P w K mg base CX k f fd ps sp
 bi:Binds K fd ps []
def rE(C:ce):Sp:=λvs H Q E=>∃(p:ce) (T:Str) (n:Nat) (s:Str),vs=[.ref p,.str s]/\iA C p T n H/\T.length<=sizeLine/\n<=T.length/\(∀c,T.cps.toList[n]?=al c->uk s c=true->∀H',kH p H H'->iA C p T (n+1) H'->Q (.str ⟨#[c]⟩) H')/\(d8 T n s=false->jt E p H n)
abbrev OG(P:lm)(w:sw)(K:Aa)(mg:Str->Option ci)(base:io)(C:ce):=Mt P w K mg base iz C "stands_at" 1 ["self","signs"] (oy C)
abbrev OE(P:lm)(w:sw)(K:Aa)(mg:Str->Option ci)(base:io)(N C:ce):=Mt P w K mg base (iC P w N) C "take" 3 ["self","signs"] (rE C)
def Jo{p:ce}(b:jt E p H m):∀(a:ce) (H':Hp),(∀c o,H c=al o->H' c=al o)->(∀c,H' c=bn->H c=bn)->E (.int m 0) (al a) H':=λa H' k t=>b a H' ⟨λc o _ h=>k c o h,t⟩
theorem zG(R:GZ K mg C)(NT:OC P w K mg base N)(S:OG P w K mg base C)(F:gD K "take" "Reader.take" (dY 2 sR) f fd):ba P w K mg base (iC P w N) 3 f fd ["self","signs"] (rE C):=by
 refine F.HQ (N:=["self","signs"]) pD (λvs H Q E h=>?_) (λbC A outer s H vs Q E hr h=>?_)
 .obtain⟨_,_,_,_,rfl,_⟩:=h;rfl
 obtain⟨p,T,n,sg,rfl,⟨dx,hp⟩,hT,hn,q,È⟩:=h;refine⟨_,az (fq (iG (fm (dn (pv 0) R.cl S.m S.ok (hr.mono ⋯) S.bi .nil sd (ah (pv 1) ax)))) (aV (jS NT.m NT.ok NT.bi hr rfl rfl NT.at' NT.kp (dI (pv 0) rfl) br)) cg) (az (qz (pv 0) (iY wu (dI (pv 0) rfl) bZ) rfl) (aV (bJ (fu (cB K rfl) (dI (pv 0) rfl) (iY wo (dI (pv 0) rfl) bZ) (λ_ _=>rfl))))),?_⟩;refine⟨.ref p,rfl,p,dx,_,rfl,hp,rfl,.str sg,rfl,p,T,n,sg,rfl,⟨dx,hp⟩,hT,_,rfl,?_⟩;cases hb:d8 T n sg with
 |false=>
  refine eZ ?_;exact⟨.ref p,rfl,p,C,dx,_,.int n,rfl,hp,R.cl,R.p,rfl,n,rfl,vw (by rw[<- pc];lia),Jo (È hb)⟩
 |true=>
 obtain⟨c,hc,ho,_⟩:=kE hb;refine cS ?_;refine⟨.ref p,rfl,p,C,dx,_,.int n,rfl,hp,R.cl,R.p,rfl,_,_,rfl,rfl,.ref p,rfl,p,C,dx,_,rfl,hp,R.cl,R.p,(by show 2 < 1000;decide),?_⟩;have e1:upd H p (.ins C dx (eY "place" (.int ((n:Int)+1)) [("text",.str T),("place",.int n)])) p=al (.ins C dx [("text",.str T),("place",.int ((n+1:Nat):Int))]):=ao;have e2:kH p H (upd H p (.ins C dx (eY "place" (.int ((n:Int)+1)) [("text",.str T),("place",.int n)]))):=λb nb=>ag nb;generalize upd H p (.ins C dx (eY "place" (.int ((n:Int)+1)) [("text",.str T),("place",.int n)]))=H1 at e1 e2;refine⟨.ref p,rfl,p,C,dx,_,.str T,rfl,e1,R.cl,R.t,rfl,.ref p,rfl,p,C,dx,_,.int ((n+1:Nat):Int),rfl,e1,R.cl,R.p,rfl,_,_,rfl,rfl,.inr (.inr ⟨T,_,c,rfl,rfl,hT,?_,q c hc ho H1 e2 ⟨dx,e1⟩⟩)⟩;have:((n+1:Nat):Int)-1=(n:Int):=by lia
 rw[this];exact GX hc
end
def rn(T s:Str)(n most:Nat):O Nat:=((T.cps.toList.drop n).take most).takeWhile (uk s)
theorem vi{f:α->Bool}:∀{l:List α}{i:Nat},i<(l.takeWhile f).length->l[i]?=(l.takeWhile f)[i]?
 |[],i,h=>by simp at h
 |a::l,i,h=>by
  by_cases c:f a=true
  .rw[Co c]at h ⊢;cases i with
   |zero=>rfl
   |succ i=>simpa using vi (l:=l) (by simpa using h)
  .rw[Cp c]at h;simp at h
theorem vk{f:α->Bool}:∀{l:List α}{c:α},c∈l.takeWhile f->f c=true
 |[],c,h=>by simp at h
 |a::l,c,h=>by
  by_cases e:f a=true
  .rw[Co e]at h;rcases Au.mp h with rfl|h
   .exact e
   .exact vk h
  .rw[Cp e]at h;simp at h
theorem vj{f:α->Bool}:∀{l:List α},(l.takeWhile f).length=l.length\/∃a,l[(l.takeWhile f).length]?=al a/\f a=false
 |[]=>.inl rfl
 |a::l=>by
  by_cases c:f a=true
  .rw[Co c];rcases vj (f:=f) (l:=l) with h|⟨x,h1,h2⟩
   .exact .inl (by simp[h])
   .exact .inr ⟨x,by simpa using h1,h2⟩
  .rw[Cp c];exact .inr ⟨a,rfl,by simpa using c⟩
section
variable{s:Str}{most:Nat}
theorem qo:(rn T s n most).length<=most:=Av (List.takeWhile_sublist _).length_le (by rw[Bc];lia)
theorem qp(h:i<(rn T s n most).length):T.cps.toList[n+i]?=(rn T s n most)[i]?:=by
 have l:=qo (T:=T) (s:=s) (n:=n) (most:=most);have:=vi (l:=(T.cps.toList.drop n).take most) (f:=uk s) h;rw[show(rn T s n most)[i]?=_ from this.symm,List.getElem?_take,if_pos ∅,List.getElem?_drop]
def qr(h:c∈rn T s n most):uk s c=true:=vk h
theorem qq(h:(rn T s n most).length<most):d8 T (n+(rn T s n most).length) s=false:=by
 rcases vj (f:=uk s) (l:=(T.cps.toList.drop n).take most) with z|⟨a,z1,z2⟩
 .have z':(rn T s n most).length=((T.cps.toList.drop n).take most).length:=z;rw[Bc,Cv]at z';unfold d8;rw[List.getElem?_eq_none ∅]
 .have z1:((T.cps.toList.drop n).take most)[(rn T s n most).length]?=al a:=z1;rw[List.getElem?_take,if_pos h,List.getElem?_drop]at z1;rw[gC z1];exact z2
def qm(h:d8 T n s=false):rn T s n most=[]:=by
 cases e:rn T s n most with
 |nil=>rfl
 |cons c u=>
  have:=qp (T:=T) (s:=s) (n:=n) (most:=most) (i:=0) (by rw[e];simp);rw[e]at this;have h2:=qr (T:=T) (s:=s) (n:=n) (most:=most) (c:=c) (by rw[e];simp);rw[gC (by simpa using this),h2]at h;cases h
def Ge(m:0<most)(h:d8 T n s=true):rn T s n most≠[]:=λz=>by
 have:=qq (T:=T) (s:=s) (n:=n) (most:=most) (by rw[z];exact m);rw[z]at this;rw[show n+([]:O Nat).length=n from rfl,h]at this;cases this
theorem Gf(hn:n<=T.length):n+(rn T s n most).length<=T.length:=by
 cases e:(rn T s n most).length with
 |zero=>exact hn
 |succ k=>
  have:=qp (T:=T) (s:=s) (n:=n) (most:=most) (i:=k) ∅;rw[Ak (l:=rn T s n most) ∅]at this;have:=(Ag.mp this).1;have e2:T.cps.toList.length=T.length:=by simp[BM]
  lia
end
def mC(C:ce):Sp:=λvs H Q E=>∃(p:ce) (T:Str) (n:Nat) (s:Str) (most:Nat),vs=[.ref p,.str s,.int most]/\iA C p T n H/\T.length<=sizeLine/\n<=T.length/\0<most/\most<=100/\(rn T s n most=[]->jt E p H n)/\(rn T s n most≠[]->∀H',kH p H H'->iA C p T (n+(rn T s n most).length) H'->Q (.str ⟨(rn T s n most).toArray⟩) H')
section
variable{K:Aa}{N:ce}
theorem zI(R:GZ K mg C)(S:OG P w K mg base C)(M:OE P w K mg base N C)(F:gD K "take_many" "take_many" rS f fd):ba P w K mg base (iC P w N) 4 f fd ["reader","signs","most"] (mC C):=by
 have nd:(["reader","signs","most","told"]:O Str).Nodup:=by decide
 refine F.HQ (N:=["reader","signs","most","told"]) pD (λvs H Q E h=>?_) (λbC A outer s H vs Q E hr h=>?_)
 .obtain⟨_,_,_,_,_,rfl,_⟩:=h;rfl
 obtain⟨p,T,n,sg,most,rfl,hR,hT,hn,WQ,hm,È,q⟩:=h;refine⟨_,az (bX (i:=3) nd rfl (Bj rfl) (dn (pv 0) R.cl M.m M.ok hr M.bi .nil (gj br) (ah (pv 1) ax))) (az (jR DA (PW.pt (qw (dj si (bh (cY K rfl) (by rfl) R.len Dr (ah (pv 3) ax)) (pv 2) (cH _)) (mK (fm (dn (pv 0) R.cl S.m S.ok (hr.mono ⋯) S.bi .nil sd (ah (pv 1) ax)))))) (aV (bX (i:=3) nd rfl (Bj rfl) (iY (so K rfl) (pv 3) (dn (pv 0) R.cl M.m M.ok hr M.bi .nil (gj br) (ah (pv 1) ax)))))) (aV (bJ (pv 3)))),?_⟩;obtain⟨dx,hp⟩:=hR;refine⟨.ref p,rfl,p,dx,_,rfl,hp,rfl,.str sg,rfl,p,T,n,sg,rfl,⟨dx,hp⟩,hT,hn,λc0 Q3 WM H1 o1 r1=>?_,λhb=>È (qm hb)⟩;have hb:d8 T n sg=true:=by rw[gC Q3];exact WM
 have ne:=Ge WQ hb;replace q:=q ne;have ul:0<(rn T sg n most).length:=Cz.mpr ne;have u1:=qo (T:=T) (s:=sg) (n:=n) (most:=most);have u2:=λi (h:i<(rn T sg n most).length)=>qp h;have u3:=λc (h:c∈rn T sg n most)=>qr h;have u4:=λh=>qq (T:=T) (s:=sg) (n:=n) (most:=most) h;have tl:=Gf (T:=T) (s:=sg) (n:=n) (most:=most) hn;generalize rn T sg n most=u at q ul u1 u2 u3 u4 tl ne;have t0:T.cps.toList[n]?=al u[0]:=by
  have:=u2 0 ul;rw[Nat.add_zero]at this;rw[this,Ak ul]
 have XS:c0=u[0]:=by rw[t0]at Q3;exact(Option.some.inj Q3).symm
 refine⟨λm σ H2=>∃i,0<i/\i<=u.length/\m=u.length-i/\σ=[al (.ref p),al (.str sg),al (.int most),al (.str ⟨(u.take i).toArray⟩)]/\kH p H H2/\iA C p T (n+i) H2,⟨_,1,by lia,ul,rfl,?_,o1,r1⟩,?_⟩
 .cases u with
  |nil=>exact absurd rfl ne
  |cons a u=>rw[XS];rfl
 rintro m σ H2 ⟨i,i0,i1,rfl,rfl,o2,r2⟩;have len:(⟨(u.take i).toArray⟩:Str).length=i:=by simp[BM];lia
 refine⟨.str _,rfl,.str _,i,rfl,⟨by rw[len];exact Av (by lia:i<=100) ⋯,len.symm⟩,.int most,rfl,_,_,rfl,rfl,_,rfl,?_⟩;obtain⟨Fu,h2⟩:=r2;by_cases c:i<most
 .rw[if_pos (by simpa using c)];refine⟨.ref p,rfl,p,Fu,_,rfl,h2,rfl,.str sg,rfl,p,T,n+i,sg,rfl,⟨Fu,h2⟩,hT,_,rfl,?_⟩;by_cases d:i<u.length
  .have ti:T.cps.toList[n+i]?=al u[i]:=by rw[u2 i d,Ak d]
   have hi:d8 T (n+i) sg=true:=by rw[gC ti];exact u3 _ (List.getElem_mem d)
   rw[hi];refine eZ ?_;refine⟨λσ' H'=>σ'=[al (.ref p),al (.str sg),al (.int most),al (.str ⟨(u.take (i+1)).toArray⟩)]/\kH p H H'/\iA C p T (n+(i+1)) H',?_,?_⟩
   .rintro σ' H' ⟨z1,z2,z3⟩;exact⟨u.length-(i+1),by lia,i+1,by lia,d,rfl,z1,z2,z3⟩
   .refine⟨.str _,rfl,.ref p,rfl,p,Fu,_,rfl,h2,rfl,.str sg,rfl,p,T,n+i,sg,rfl,⟨Fu,h2⟩,hT,by lia,λc1 S6 _ H3 o3 r3=>⟨_,rfl,?_,?_⟩,λz=>by rw[hi]at z;cases z⟩
    .rw[len];exact Av (by show i+1<=101;lia:i+1<=101) ⋯
    .have XR:c1=u[i]:=by rw[ti]at S6;exact(Option.some.inj S6).symm
     subst XR;refine⟨?_,o2.trans o3,by rw[<- Nat.add_assoc];exact r3⟩;have:(⟨(u.take i).toArray⟩:Str)++(⟨#[u[i]]⟩:Str)=⟨(u.take (i+1)).toArray⟩:=by
      show(⟨(u.take i).toArray++#[u[i]]⟩:Str)=_;congr 1;rw[List.take_succ,Ak d];simp
     rw[this];rfl
  .have iu:i=u.length:=by lia
   have z:d8 T (n+i) sg=false:=by rw[iu];exact u4 ∅
   rw[z];refine cS ?_;refine⟨_,rfl,?_⟩;rw[Cb ∅];exact q H2 o2 ⟨Fu,by rw[<- iu];exact h2⟩
 .rw[if_neg (by simpa using c)];refine cS ?_;refine⟨_,rfl,?_⟩;have iu:i=u.length:=by lia
  rw[Cb ∅];exact q H2 o2 ⟨Fu,by rw[<- iu];exact h2⟩
end
end My
variable{t1:PySem.Tok}
namespace My
abbrev yw:Str:="abcdefghijklmnopqrstuvwxyz"
abbrev JX:=Str->Nat->Except Nat (PV×Bool×Nat)
def gL(K:Aa)(C:ce)(fr:JX):Sp:=λvs H Q E=>∃(p:ce) (T:Str) (n:Nat),vs=[.ref p]/\iA C p T n H/\T.length<=sizeLine/\n<=T.length/\(∀m,fr T n=.error m->jt E p H m)/\(∀x b n',fr T n=.ok (x,b,n')->∀u a H',gE p H H'->iA C p T n' H'->H' a=al (.tup [u,.bl b])->VR K [] H' u x->Q (.ref a) H')
def gq(T:Str)(n:Nat):O Nat:=rn T yw n 8
def jq:JX:=λT n=>if d8 T n "("=true then .ok (.tup [],true,n+1) else if gq T n=[] then .error n else .ok (.str ⟨(gq T n).toArray⟩,false,n+(gq T n).length)
section
variable{K:Aa}{N:ce}
structure lr(P:lm)(w:sw)(K:Aa)(mg:Str->Option ci)(base:io)(N:ce)(x:Str)(k:Nat)(ps:List Str)(sp:Sp) where
 f:ce
 fd:sK
 ok:ba P w K mg base (iC P w N) k f fd ps sp
 bi:Binds K fd ps []
 kp:AG K (.ref f)=true
 at':mg x=al (.ref f)
def mP{x:Str}{p:Pos}(G:lr X.prog X.w X.K X.mg X.base N x k ps sp)(hr:bf k' X.A)(hk:k<=k')(hf:kJ X N E)(hg:Gl X x)(ha:PA X (e::es) t)(cT: ~~~(dg x))(he:‹dZ X e es›)(bN:‹fb X pos es›):PE X (.Call (.Name x p) (e::es) [] pos) (F8 sp [] E t):=
 zw G.ok (hr.mono hk) hg G.at' G.kp G.bi .nil (gj hf) ha cT he bN
def wz{t2:Tok}(R:GZ K mg C)(S:OG P w K mg base C)(M:OE P w K mg base N C)(G:lr P w K mg base N "take_many" 4 ["reader","signs","most"] (mC C))(hl:mg "LETTERS"=al (.str yw t1))(hn:mg "LONGEST_WORD"=al (.int 8 t2))(F:gD K "take_tree_front" "take_tree_front" mI f fd):ba P w K mg base (iC P w N) 5 f fd ["reader"] (gL K C jq):=by
 refine F.HQ (N:=["reader"]) pD (λvs H Q E h=>?_) (λbC A outer s H vs Q E hr h=>?_)
 .obtain⟨_,_,_,rfl,_⟩:=h;rfl
 obtain⟨p,T,n,rfl,hR,hT,GD,È,q⟩:=h;refine⟨_,az (fq (fm (dn (pv 0) R.cl S.m S.ok (hr.mono ⋯) S.bi .nil sd (ah iI ax))) (az (dm (dn (pv 0) R.cl M.m M.ok (hr.mono ⋯) M.bi .nil (gj br) (ah iI ax))) (aV (bJ (fY (ah (fY ax) (ah wg ax)))))) cg) (aV (bJ (fY (ah (mP G hr (Aj _) br rfl (ah (pv 0) (ah (eu (v:=.str yw) rfl hl ⟨_,rfl⟩) (ah (eu (v:=.int 8) rfl hn ⟨_,rfl⟩) ax)))) (ah wg ax))))),?_⟩;obtain⟨dx,hp⟩:=id hR;refine⟨.ref p,rfl,p,dx,_,rfl,hp,rfl,p,T,n,"(",rfl,hR,hT,_,rfl,?_⟩;unfold jq at È q;by_cases c:d8 T n "("=true
 .rw[if_pos c]at q;replace q:=q _ _ _ rfl;rw[c];refine eZ ?_;refine⟨.ref p,rfl,p,dx,_,rfl,hp,rfl,p,T,n,"(",rfl,hR,hT,GD,λch h1 h2 H1 o1 r1=>?_,λz=>by rw[c]at z;cases z⟩;refine⟨by decide,λa1 H2 s2 e2 n2=>⟨by show 2<=sizeLine;decide,λa2 H3 s3 e3 n3=>?_⟩⟩;exact q (.ref a1) a2 H3 ((gE.off o1 r1).trans ((gE.same s2).trans (gE.same s3))) ((r1.same s2).same s3) e3 (.tup (s3 _ _ e2) .nil)
 .have c':d8 T n "("=false:=by simpa using c
  rw[c']at È q ⊢;refine cS ?_;rw[if_neg ⋯]at È q;refine⟨.ref p,rfl,p,T,n,yw,8,rfl,hR,hT,GD,by decide,by decide,λz=>?_,λz H1 o1 r1=>⟨by show 2<=sizeLine;decide,λa2 H3 s3 e3 n3=>?_⟩⟩
  .exact È n (if_pos z)
  .exact q _ _ _ (if_neg z) _ a2 H3 ((gE.off o1 r1).trans (gE.same s3)) (r1.same s3) e3 (.str _)
end
end My
variable{o:L2.HO}{q:AN}{S:AN->Prop}
namespace My
abbrev qd:=O (O PV×Option PV)
def ent:O PV×Option PV->O PV
 |(f,bn)=>[.tup f]
 |(f,al x)=>[.tup f,x]
def js(K:Aa)(H:Hp):O ce->qd->Prop
 |[],[]=>True
 |b::bs,e::st=>(∃ws,H b=al (.lst ws)/\aL K [] H ws (ent e)/\e.1.length<=100)/\js K H bs st
 |_,_=>False
structure vc(K:Aa)(w:ce)(bs:List ce)(st:qd)(H:Hp):Prop where
 h:H w=al (.lst (bs.reverse.map V.ref))
 nw:w∉bs
 nd:bs.Nodup
 e:js K H bs st
 z:st.length<=1000
section
variable{K:Aa}{H H':Hp}{p w:ce}
def Hb(k:∀c o,c≠q->H c=al o->H' c=al o)(e:H q=al o)(h:o.ow=true):aQ K H H':=
 ⟨λc vs z=>k c _ (λy=>by subst y;rw[e]at z;cases z;cases h) z,λc _ u z=>k c _ (λy=>by subst y;rw[e]at z;cases z;cases h) z,xk λc φ z=>k c _ (λy=>by subst y;rw[e]at z;cases z;cases h) z⟩
theorem js.mono(t:aQ K H H'):∀{bs:O ce}{st:qd},(∀b∈bs,∀o,H b=al o->H' b=al o)->js K H bs st->js K H' bs st
 |[],[],_,h=>h
 |b::bs,e::st,k,⟨⟨ws,h1,h2,h3⟩,h4⟩=>⟨⟨ws,k b (.head _) _ h1,aL.tk t h2,h3⟩,js.mono t (λc hc=>k c (.tail _ hc)) h4⟩
 |[],_::_,_,h=>h
 |_::_,[],_,h=>h
theorem js.len:∀{bs:O ce}{st:qd},js K H bs st->bs.length=st.length
 |[],[],_=>rfl
 |_::_,_::_,h=>congrArg (·+1) (js.len h.2)
 |[],_::_,h=>h.elim
 |_::_,[],h=>h.elim
theorem js.lst:∀{bs:O ce}{st:qd},js K H bs st->∀b∈bs,∃ws,H b=al (.lst ws)
 |_::_,_::_,⟨⟨ws,h1,_⟩,h⟩,b,hb=>(Au.mp hb).elim (λz=>z▸⟨ws,h1⟩) λz=>js.lst h b z
 |[],_,_,b,hb=>by simp at hb
 |_::_,[],h,_,_=>h.elim
structure iB(S:ce->Prop)(H H':Hp):Prop where
 k:∀c o,¬S c->H c=al o->H' c=al o
 t:∀c,H' c=bn->H c=bn
def iB.refl:iB S H H:=⟨λ_ _ _ h=>h,λ_ h=>h⟩
def iB.trans(a:iB S H H1)(b:iB S H1 H'):iB S H H':=⟨λc o n h=>b.k c o n (a.k c o n h),λc h=>a.t c (b.t c h)⟩
def gE.s(a:gE q H H')(h:S q):iB S H H':=⟨λc o n e=>a.k c o (λz=>n (z▸h)) e,a.t⟩
def iB.same(s:cI H H'):iB S H H':=⟨λc o _ h=>s c o h,(gE.same (p:=0) s).t⟩
theorem iB.x(x:iy q H H')(e:H' q=al o)(h:S q):iB S H H':=⟨λc u n z=>x c u (λy=>n (y▸h)) z,λc z=>by
 cases y:H c with
 |none=>rfl
 |some u=>
  by_cases d:c=q
  .subst d;rw[e]at z;cases z
  .rw[x c u d y]at z;cases z⟩
def dh(T:Str):Nat->qd->PV->Except Nat (PV×Nat×qd)
 |n,[],x=>.ok (x,n,[])
 |n,(f,bn)::st,x=>if d8 T n ","=true then .ok (.a8,n+1,(f,al x)::st) else .error n
 |n,(f,al y)::st,x=>if d8 T n ")"=true then dh T (n+1) st (.tup (f++[y,x])) else .error n
theorem tI:∀{st:qd}{n:Nat}{x:PV}{r:PV×Nat×qd},n<=T.length->dh T n st x=.ok r->r.2.1<=T.length
 |[],n,x,r,h,e=>by cases e;exact h
 |(f,bn)::st,n,x,r,h,e=>by
  unfold dh at e
  split at e
  .next c=>cases e;exact(kE c).choose_spec.2.2
  .cases e
 |(f,al y)::st,n,x,r,h,e=>by
  unfold dh at e
  split at e
  .next c=>exact tI (kE c).choose_spec.2.2 e
  .cases e
def Jz(E:XK)(S:ce->Prop)(H:Hp)(m:Nat):Prop:=∀a H',iB S H H'->E (.int m 0) (al a) H'
def Jz.px{H:Hp}(b:Jz E S H m)(k:iB S H H2)(h:S q):jt E q H2 m:=λa H' k'=>b a H' (k.trans (k'.s h))
def uU(p w:ce)(bs:O ce):ce->Prop:=λc=>c=p\/c=w\/c∈bs
def gM(K:Aa)(C:ce):Sp:=λvs H Q E=>∃(p w:ce) (u:V) (T:Str) (n:Nat) (bs:O ce) (st:qd) (x:PV),vs=[.ref p,.ref w,u]/\iA C p T n H/\vc K w bs st H/\VR K [] H u x/\T.length<=sizeLine/\n<=T.length/\(∀m,dh T n st x=.error m->Jz E (uU p w bs) H m)/\
 ∀y n' vq,dh T n st x=.ok (y,n',vq)->∀u' Jm H',iB (uU p w bs) H H'->iA C p T n' H'->vc K w Jm vq H'->(∀b∈Jm,b∈bs)->VR K [] H' u' y->Q u' H'
def vc.pw{bs:O ce}{st:qd}(h:vc K w bs st H)(r:iA C p T n H):p≠w/\p∉bs:=by
 obtain⟨dx,r⟩:=r;refine⟨λz=>?_,λz=>?_⟩
 .subst z;rw[h.h]at r;cases r
 .obtain⟨ws,e⟩:=h.e.lst p z;rw[e]at r;cases r
def vc.mono{bs:O ce}{st:qd}(h:vc K w bs st H)(t:aQ K H H')(k:∀b,b=w\/b∈bs->∀o,H b=al o->H' b=al o):vc K w bs st H':=⟨k w (.inl rfl) _ h.h,h.nw,h.nd,h.e.mono t λb hb=>k b (.inr hb),h.z⟩
end
section
variable{K:Aa}{N:ce}
theorem ug(R:GZ K mg C)(M:OE P w K mg base N C)(F:gD K "take_behind" "take_behind" zc f fd):ba P w K mg base (iC P w N) 4 f fd ["reader","waiting","part"] (gM K C):=by
 have nd:(["reader","waiting","part","opened"]:O Str).Nodup:=by decide
 refine F.HQ (N:=["reader","waiting","part","opened"]) pD (λvs H Q E h=>?_) (λbC A outer s H vs Q E hr h=>?_)
 .obtain⟨_,_,_,_,_,_,_,_,rfl,_⟩:=h;rfl
 obtain⟨p,wt,u,T,n,bs,st,x,rfl,hR,hW,hu,hT,hn,È,q⟩:=h;generalize hb:dh T n st x=r at È q;refine⟨_,az (jR DA (PW.pt (qw (fX K rfl (pv 1) (λ_=>rfl)) (mK (dj Li (bh (cY K rfl) (by rfl) R.len Dr (ah (fu (cB K rfl) (pv 1) (oM jI bZ) (λ_ _=>rfl)) ax)) bZ (cH _)))))
  (az (dm (dn (pv 0) R.cl M.m M.ok hr M.bi .nil (gj br) (ah iI ax))) (az (bX (i:=3) nd rfl (Bj rfl) (zx K rfl B5 PySem.F.slot_list_pop PySem.F.type_list_pop zR (pv 1)))
   (aV (bX (i:=2) nd rfl (Bj rfl) (iY (sk K rfl) (fu (cB K rfl) (pv 3) bZ (λ_ _=>rfl)) (fY (ah (fu (cB K rfl) (pv 3) bZ (λ_ _=>rfl)) (ah (pv 2) ax)))))))))
  (az (fq (iG (fX K rfl (pv 1) (λ_=>rfl))) (aV (bJ (pv 2))) cg) (az (dm (dn (pv 0) R.cl M.m M.ok hr M.bi .nil (gj br) (ah iI ax)))
   (az (dm (mR K rfl B5 CB CA gw (fu (cB K rfl) (pv 1) (oM jI bZ) (λ_ _=>rfl)) (ah (pv 2) ax))) (aV (bJ gv))))),?_⟩
 refine⟨λm σ H2=>∃n st b2 u x o3,m=st.length/\σ=[al (.ref p),al (.ref wt),al u,o3]/\iA C p T n H2/\vc K wt b2 st H2/\VR K [] H2 u x/\n<=T.length/\dh T n st x=r/\iB (uU p wt bs) H H2/\∀b∈b2,b∈bs,⟨_,n,st,bs,u,x,bn,rfl,rfl,hR,hW,hu,hn,hb,.refl,λ_ h=>h⟩,?_⟩;rintro m σ H2 ⟨n2,s2,b2,u2,x2,o3,rfl,rfl,r2,w2,v2,ID,h2,k2,sub⟩;have hl:=w2.e.len;have hz:=w2.z;cases s2 with
 |nil=>
  have:b2=[]:=Bg hl;subst this;refine⟨.ref wt,rfl,false,.inl ⟨[],cX.of w2.h,rfl⟩,cS (cS ⟨.ref wt,rfl,false,.inl ⟨[],cX.of w2.h,rfl⟩,eZ ⟨u2,rfl,?_⟩⟩)⟩;subst h2;exact q _ _ _ rfl u2 [] H2 k2 r2 w2 (λ_ h=>(nomatch h)) v2
 |cons e s2=>
 cases b2 with
 |nil=>cases hl
 |cons b b2=>
 obtain⟨⟨ws,Q5,S7,Q4⟩,he⟩:=id w2.e;have NM:H2 wt=al (.lst (b2.reverse.map V.ref++[.ref b])):=by rw[w2.h];simp
 have nb:=BU.mp w2.nd;have nw:=w2.nw;obtain⟨pw,pb⟩:=w2.pw r2;have bw:b≠wt:=λz=>nw (by rw[<- z];exact .head _);have P0:b≠p:=λz=>pb (by rw[<- z];exact .head _);have R5:FN K (.ref wt) H2 true:=.inl ⟨_,cX.of NM,by simp⟩;refine⟨.ref wt,rfl,true,R5,eZ ⟨.ref wt,rfl,1,rfl,.inl ⟨wt,_,-1,.ref b,rfl,rfl,cX.of NM,kD _ _,.ref b,ws.length,rfl,.inl ⟨ws,cX.of Q5,rfl⟩,rfl,_,rfl,?_⟩⟩⟩;obtain⟨fr,eo⟩:=e;cases eo with
 |none=>
  cases S7 with
  |cons r0 t0=>
  cases t0;refine cS ⟨.ref wt,rfl,true,R5,cS ?_⟩;have h2:(if d8 T n2 ","=true then .ok (PV.a8,n2+1,(fr,al x2)::s2) else .error n2)=r:=h2;by_cases c:d8 T n2 ","=true
  .rw[if_pos c]at h2;subst h2;obtain⟨dx,hp⟩:=id r2;refine⟨.ref p,rfl,p,dx,_,rfl,hp,rfl,p,T,n2,",",rfl,r2,hT,ID,λch c1 c2 H3 wD r3=>?_,λz=>(by rw[c]at z;cases z)⟩;have t3:aQ K H2 H3:=Hb (λc u nc z=>(wD c nc).trans z) hp rfl;have e3:H3 wt=al (.lst (b2.reverse.map V.ref++[.ref b])):=(wD wt pw.symm).trans NM;have f3:=(wD b P0).trans Q5;refine⟨.ref wt,rfl,1,rfl,.inl ⟨wt,_,-1,.ref b,rfl,rfl,cX.of e3,kD _ _,qt f3,u2,rfl,b,_,u2,rfl,rfl,f3,by show 1 < sizeLine;decide,λH4 x4 h4=>?_⟩⟩;have t4:aQ K H3 H4:=Hb (λc u nc z=>x4 c u nc z) f3 rfl;refine q _ _ _ rfl .a8 (b::b2) H4 ((k2.trans ((gE.off wD r3).s (.inl rfl))).trans (iB.x x4 h4 (.inr (.inr (sub b (.head _)))))) ?_ ?_ sub .a8
   .obtain⟨MH,r3⟩:=r3;exact⟨MH,x4 _ _ P0.symm r3⟩
   .refine⟨?_,nw,w2.nd,⟨⟨_,h4,.cons (VR.tk t4 (VR.tk t3 r0)) (.cons (VR.tk t4 (VR.tk t3 v2)) .nil),Q4⟩,?_⟩,hz⟩
    .have:=x4 _ _ bw.symm e3;rw[this];simp
    .refine(he.mono t3 λc hc o z=>(wD c λy=>pb (y▸.tail _ hc)).trans z).mono t4 λc hc o z=>x4 c o (λy=>nb.1 (y▸hc)) z
  .rw[if_neg c]at h2;subst h2;obtain⟨dx,hp⟩:=id r2;have c':d8 T n2 ","=false:=by simpa using c
   exact⟨.ref p,rfl,p,dx,_,rfl,hp,rfl,p,T,n2,",",rfl,r2,hT,ID,λch c1 c2=>(by rw[gC c1,c2]at c';cases c'),λ_=>(È _ rfl).px k2 (.inl rfl)⟩
 |some y0=>
  cases S7 with
  |cons r0 t0=>
  cases t0 with
  |cons r1 t1=>
  cases t1;rename_i v0 v1;have h2:(if d8 T n2 ")"=true then dh T (n2+1) s2 (.tup (fr++[y0,x2])) else .error n2)=r:=h2;by_cases c:d8 T n2 ")"=true
  .rw[if_pos c]at h2;obtain⟨_,_,_,l2⟩:=kE c;obtain⟨dx,hp⟩:=id r2;refine eZ ⟨λσ' H'=>∃n st b2 u x o3,st.length=s2.length/\σ'=[al (.ref p),al (.ref wt),al u,o3]/\iA C p T n H'/\vc K wt b2 st H'/\VR K [] H' u x/\n<=T.length/\dh T n st x=r/\iB (uU p wt bs) H H'/\∀b∈b2,b∈bs,?_,?_⟩
   .rintro σ' H' ⟨n,st,b2,u,x,o3,z1,z2⟩;exact⟨_,by rw[Ah,z1];exact BL _,n,st,b2,u,x,o3,rfl,z2⟩
   refine⟨.ref p,rfl,p,dx,_,rfl,hp,rfl,p,T,n2,")",rfl,r2,hT,ID,λch c1 c2 H3 wD r3=>?_,λz=>(by rw[c]at z;cases z)⟩;have t3:aQ K H2 H3:=Hb (λc u nc z=>(wD c nc).trans z) hp rfl;have e3:H3 wt=al (.lst (b2.reverse.map V.ref++[.ref b])):=(wD wt pw.symm).trans NM;have f3:=(wD b P0).trans Q5;refine⟨.ref wt,rfl,qt e3,wt,_,.ref b,rfl,rfl,e3,λH4 x4 h4=>?_⟩;have t4:aQ K H3 H4:=Hb (λc u nc z=>x4 c u nc z) e3 rfl;have f4:=x4 _ _ bw f3;refine⟨.ref b,rfl,.inl ⟨b,_,0,v0,rfl,rfl,cX.of f4,rfl,.ref b,rfl,.inl ⟨b,_,1,v1,rfl,rfl,cX.of f4,rfl,u2,rfl,by show 2<=sizeLine;decide,λa5 H5 s5 e5 n5=>?_⟩⟩⟩;have tt:=(t3.trans t4).trans s5.cK;have kk:iB (uU p wt bs) H H5:=((k2.trans ((gE.off wD r3).s (.inl rfl))).trans (iB.x x4 h4 (.inr (.inl rfl)))).trans (iB.same s5);have r5:iA C p T (n2+1) H5:=let ⟨MH,r3⟩:=r3;⟨MH,s5 _ _ (x4 _ _ pw r3)⟩;have w5:vc K wt b2 s2 H5:=⟨s5 _ _ h4,λz=>nw (.tail _ z),nb.2,he.mono tt λc hc o z=>s5 _ _ (x4 c o (λy=>nw (y▸.tail _ hc)) ((wD c λy=>pb (y▸.tail _ hc)).trans z)),by simp at hz;lia⟩;have F4:=VR.tk tt v2;have U3:=VR.tk tt r0;have yF:=VR.tk tt r1;have Vl:(fr:O PV).length<=100:=Q4;cases U3 with
   | @tup p0 Nk _ Wy PB=>
   have l0:Nk.length<=100:=by rw[PB.length];exact Q4
   refine⟨p0,a5,Nk,[v1,u2],rfl,rfl,dP.of Wy,dP.of e5,Av (by show Nk.length+2<=102;lia:Nk.length+2<=102) ⋯,λz=>?_,λ_ z=>(by cases z),λ_ _ a6 H6 s6 e6 n6=>?_⟩
   .subst z;have z2:=PB.length;have:fr=[]:=Bg z2.symm;subst this;exact⟨_,s2,b2,.ref a5,_,al (.ref b),rfl,rfl,r5,w5,.tup e5 (.cons yF (.cons F4 .nil)),l2,h2,kk,λc hc=>sub c (.tail _ hc)⟩
   .have t6:=s6.cK (K:=K);exact⟨_,s2,b2,.ref a6,_,al (.ref b),rfl,rfl,r5.same s6,w5.mono t6 λc _ o z=>s6 c o z,.tup e6 ((aL.tk t6 PB).append (.cons (VR.tk t6 yF) (.cons (VR.tk t6 F4) .nil))),l2,h2,kk.trans (iB.same s6),λc hc=>sub c (.tail _ hc)⟩
  .rw[if_neg c]at h2;subst h2;obtain⟨dx,hp⟩:=id r2;have c':d8 T n2 ")"=false:=by simpa using c
   refine eZ ⟨λ_ _=>False,λ_ _ z=>z.elim,?_⟩;exact⟨.ref p,rfl,p,dx,_,rfl,hp,rfl,p,T,n2,")",rfl,r2,hT,ID,λch c1 c2=>(by rw[gC c1,c2]at c';cases c'),λ_=>(È _ rfl).px k2 (.inl rfl)⟩
end
end My
variable{fr:My.JX}
namespace My
def kK(T:Str)(fr:JX):Nat->Nat->qd->Option (Except Nat (PV×Nat))
 |0,_,_=>bn
 |k+1,n,st=>match fr T n with
  |.error m=>al (.error m)
  |.ok (.tup f,true,n1)=>if f.length<=100/\st.length<1000 then kK T fr k n1 ((f,bn)::st) else bn
  |.ok (x,false,n1)=>match dh T n1 st x with
   |.error m=>al (.error m)
   |.ok (.a8,n2,mz)=>kK T fr k n2 mz
   |.ok (y,n2,_)=>al (.ok (y,n2))
  |_=>bn
def vJ{st:qd}{r:Except Nat (PV×Nat)}(h:kK T fr (k+1) n st=al r):(∃m,fr T n=.error m/\r=.error m)\/(∃f n1,fr T n=.ok (.tup f,true,n1)/\f.length<=100/\st.length<1000/\kK T fr k n1 ((f,bn)::st)=al r)\/ ∃x n1,fr T n=.ok (x,false,n1)/\((∃m,dh T n1 st x=.error m/\r=.error m)\/(∃n2 mz,dh T n1 st x=.ok (.a8,n2,mz)/\kK T fr k n2 mz=al r)\/∃y n2 mz,dh T n1 st x=.ok (y,n2,mz)/\y≠.a8/\r=.ok (y,n2)):=by
 unfold kK at h
 split at h
 .next m e=>cases h;exact .inl ⟨m,e,rfl⟩
 .next f n1 e=>
  split at h
  .next c=>exact .inr (.inl ⟨f,n1,e,c.1,c.2,h⟩)
  .cases h
 .next x n1 e=>
  refine .inr (.inr ⟨x,n1,e,?_⟩)
  split at h
  .next m e2=>cases h;exact .inl ⟨m,e2,rfl⟩
  .next n2 mz e2=>exact .inr (.inl ⟨n2,mz,e2,h⟩)
  .next y2 n2 mz ne e2=>
   cases h;exact .inr (.inr ⟨_,_,_,e2,λz=>ne z,rfl⟩)
 .cases h
def G8{K:Aa}{y:PV}(h:VR K [] H .a8 y):y=.a8:=by cases h;rfl
def mB(K:Aa)(C ff:ce)(fr:JX):Sp:=λvs H Q E=>∃(p:ce) (T:Str) (n k:Nat) (r:Except Nat (PV×Nat)),vs=[.ref p,.ref ff]/\iA C p T n H/\T.length<=sizeLine/\n<=T.length/\kK T fr k n []=al r/\(∀m,r=.error m->jt E p H m)/\∀y n',r=.ok (y,n')->∀u H',gE p H H'->iA C p T n' H'->VR K [] H' u y->Q u H'
section
variable{P:lm}{w:sw}{K:Aa}{mg:Str->Option ci}{base:io}{f C N:ce}{fd:sK}
theorem iB.p{S:ce->Prop}{p:ce}{H H1 H2:Hp}(k:gE p H H1)(a:iB S H1 H2)(h:∀c,S c->c=p\/H c=bn):gE p H H2:=⟨λc o n e=>a.k c o (λz=>by
 rcases h c z with z|z
 .exact n z
 .rw[z]at e;cases e) (k.k c o n e),λc e=>k.t c (a.t c e)⟩
theorem zH{xf:Str}(IE:∀T n x b n',n<=T.length->fr T n=.ok (x,b,n')->n'<=T.length)(G:lr P w K mg base N xf 5 ["reader"] (gL K C fr))(B:lr P w K mg base N "take_behind" 4 ["reader","waiting","part"] (gM K C))(F:gD K "take_nested" "take_nested" rR f fd):ba P w K mg base (iC P w N) 6 f fd ["reader","take_front"] (mB K C G.f fr):=by
 have nd:(["reader","take_front","waiting","whole","front"]:O Str).Nodup:=by decide
 refine F.HQ (N:=["reader","take_front","waiting","whole","front"]) pD (λvs H Q E h=>?_) (λbC A outer s H vs Q E hr h=>?_)
 .obtain⟨_,_,_,_,_,rfl,_⟩:=h;rfl
 obtain⟨p,T,n,k,r,rfl,hR,hT,WN,hk,È,q⟩:=h;refine⟨_,az (bX (i:=2) nd rfl (Bj rfl) (mO ax)) (az (bX (i:=3) nd rfl (Bj rfl) gv) (az (jR DA (dj wq (pv 3) gv (cH _))
  (az (bX (i:=4) nd rfl (Bj rfl) (v9 G.ok hr (pv 1) G.kp G.bi .nil (gj br) (ah (pv 0) ax)))
   (aV (fq (fX K rfl (fu (cB K rfl) (pv 4) bZ (λ_ _=>rfl)) (λ_=>rfl))
    (aV (dm (mR K rfl B5 CB CA gw (pv 2) (ah (mO (ah (fu (cB K rfl) (pv 4) bZ (λ_ _=>rfl)) ax)) ax))))
    (aV (bX (i:=3) nd rfl (Bj rfl) (mP B hr ⋯ br rfl (ah (pv 0) (ah (pv 2) (ah (fu (cB K rfl) (pv 4) bZ (λ_ _=>rfl)) ax))))))))))
  (aV (bJ (pv 3))))),?_⟩
 refine⟨by decide,λwt H1 s1 e1 n1=>?_⟩;refine⟨λm σ H2=>gE p H H2/\∃o4,(∃k n st bs,m=k+1/\σ=[al (.ref p),al (.ref G.f),al (.ref wt),al .a8,o4]/\iA C p T n H2/\vc K wt bs st H2/\(∀b∈bs,H b=bn)/\n<=T.length/\kK T fr k n st=al r)\/∃u y n',r=.ok (y,n')/\m=0/\σ=[al (.ref p),al (.ref G.f),al (.ref wt),al u,o4]/\iA C p T n' H2/\VR K [] H2 u y/\u≠.a8,
  ⟨k+1,.same s1,bn,.inl ⟨k,n,[],[],rfl,rfl,hR.same s1,⟨e1,by simp,by simp,trivial,by decide⟩,λ_ h=>(nomatch h),WN,hk⟩⟩,?_⟩
 rintro m σ H2 ⟨k2,o4,⟨k,n,st,bs,rfl,rfl,r2,w2,hn,GD,h2⟩|⟨u,y,n',er,rfl,rfl,r2,v2,ne⟩⟩
 .refine⟨_,rfl,rfl,true,by simp,eZ ?_⟩;refine⟨λσ' H'=>∃m',m'<k+1/\(gE p H H'/\∃o4,(∃k n st bs,m'=k+1/\σ'=[al (.ref p),al (.ref G.f),al (.ref wt),al .a8,o4]/\iA C p T n H'/\vc K wt bs st H'/\(∀b∈bs,H b=bn)/\n<=T.length/\kK T fr k n st=al r)\/∃u y n',r=.ok (y,n')/\m'=0/\σ'=[al (.ref p),al (.ref G.f),al (.ref wt),al u,o4]/\iA C p T n' H'/\VR K [] H' u y/\u≠.a8),λ_ _ z=>z,?_⟩;cases k with
  |zero=>cases h2
  |succ k=>
  obtain⟨pw,pb⟩:=w2.pw r2;refine⟨_,rfl,rfl,.ref p,rfl,?_⟩;rcases vJ h2 with⟨m,hf,rfl⟩|⟨ff,n3,hf,f1,f2,h3⟩|⟨x,n3,hf,h3⟩
  .exact⟨p,T,n,rfl,r2,hT,GD,λm' z=>(by rw[hf]at z;cases z;exact(È _ rfl).kp k2),λ_ _ _ z=>(by rw[hf]at z;cases z)⟩
  .refine⟨p,T,n,rfl,r2,hT,GD,λm' z=>(by rw[hf]at z;cases z),λx' b' n' z u3 a3 H3 k3 r3 e3 v3=>?_⟩;rw[hf]at z;cases z;obtain⟨dx,hp⟩:=id r2;have t3:aQ K H2 H3:=Hb (λc u nc z=>k3.k c u nc z) hp rfl;have w3:=w2.mono t3 λb hb o z=>k3.k b o (λy=>by
    subst y;rcases hb with hb|hb
    .exact pw hb
    .exact pb hb) z
   refine⟨.ref a3,rfl,.inr (.inl ⟨a3,_,1,.bl true,rfl,rfl,dP.of e3,rfl,true,rfl,eZ ?_⟩)⟩;refine⟨.ref wt,rfl,qt w3.h,.ref a3,rfl,.inr (.inl ⟨a3,_,0,u3,rfl,rfl,dP.of e3,rfl,by show 1<=sizeLine;decide,λb4 H4 s4 e4 n4=>?_⟩)⟩;have t4:=s4.cK (K:=K);have w4:=w3.mono t4 λc _ o z=>s4 c o z;have bz:(bs.reverse.map V.ref).length<sizeLine:=by
    rw[AB,List.length_reverse,w2.e.len];exact Aq f2 ⋯
   refine⟨wt,_,_,rfl,rfl,w4.h,bz,λH5 x5 e5=>?_⟩;have t5:aQ K H4 H5:=Hb (λc u nc z=>x5 c u nc z) w4.h rfl;have bw:b4≠wt:=λz=>by subst z;rw[w3.h]at n4;cases n4
   have nb:b4∉bs:=λz=>by obtain⟨ws,z⟩:=w3.e.lst _ z;rw[z]at n4;cases n4
   have SJ:=k2.trans k3;have n0:H b4=bn:=by
    have:=SJ.t b4 n4;exact this
   have r4:=r3.same s4;refine⟨k+1,BL _,iB.p (SJ.trans (.same s4)) (iB.x (S:=λc=>c=wt) x5 e5 rfl) (λc z=>.inr (z▸n1)),_,.inl ⟨k,n3,(ff,bn)::st,b4::bs,rfl,rfl,?_,?_,?_,IE _ _ _ _ _ GD hf,h3⟩⟩
   .obtain⟨MH,r4⟩:=r4;exact⟨MH,x5 _ _ pw r4⟩
   .refine⟨by rw[e5];simp,?_,BU.mpr ⟨nb,w2.nd⟩,⟨⟨_,x5 _ _ bw e4,.cons (VR.tk t5 (VR.tk t4 v3)) .nil,f1⟩,w4.e.mono t5 λc hc o z=>x5 c o (λy=>w2.nw (y▸hc)) z⟩,by simp;lia⟩;intro z;rcases Au.mp z with z|z
    .exact bw z.symm
    .exact w2.nw z
   .intro b hb;rcases Au.mp hb with rfl|hb
    .exact n0
    .exact hn b hb
  .refine⟨p,T,n,rfl,r2,hT,GD,λm' z=>(by rw[hf]at z;cases z),λx' b' n' z u3 a3 H3 k3 r3 e3 v3=>?_⟩;rw[hf]at z;cases z;obtain⟨dx,hp⟩:=id r2;have t3:aQ K H2 H3:=Hb (λc u nc z=>k3.k c u nc z) hp rfl;have w3:=w2.mono t3 λb hb o z=>k3.k b o (λy=>by
    subst y;rcases hb with hb|hb
    .exact pw hb
    .exact pb hb) z
   refine⟨.ref a3,rfl,.inr (.inl ⟨a3,_,1,.bl false,rfl,rfl,dP.of e3,rfl,false,rfl,cS ?_⟩)⟩;refine⟨.ref p,rfl,.ref wt,rfl,.ref a3,rfl,.inr (.inl ⟨a3,_,0,u3,rfl,rfl,dP.of e3,rfl,?_⟩)⟩;have own:∀c,uU p wt bs c->c=p\/H c=bn:=λc z=>by
    rcases z with z|z|z
    .exact .inl z
    .exact .inr (z▸n1)
    .exact .inr (hn c z)
   have Te:=IE _ _ _ _ _ GD hf;refine⟨p,wt,u3,T,n3,bs,st,x,rfl,r3,w3,v3,hT,Te,λm z=>?_,λy4 n4 Nr z u' Jm H' kk r' w' sub v'=>?_⟩
   .rcases h3 with⟨m',hb,rfl⟩|⟨n4,Nr,hb,h4⟩|⟨y,n4,Nr,hb,hy,rfl⟩
    .rw[hb]at z;cases z;exact λa H' kk=>(È _ rfl) a H' (iB.p (k2.trans k3) kk own)
    .rw[hb]at z;cases z
    .rw[hb]at z;cases z
   .rcases h3 with⟨m',hb,rfl⟩|⟨n4,Nr,hb,h4⟩|⟨y,n4,Nr,hb,hy,rfl⟩
    .rw[hb]at z;cases z
    .have l4:=tI Te hb;rw[hb]at z;cases z;cases v';exact⟨k+1,BL _,iB.p (k2.trans k3) kk own,_,.inl ⟨k,_,_,Jm,rfl,rfl,r',w',λb hb=>hn b (sub b hb),l4,h4⟩⟩
    .rw[hb]at z;cases z;exact⟨0,Nat.succ_pos _,iB.p (k2.trans k3) kk own,_,.inr ⟨u',_,_,rfl,rfl,rfl,r',v',λz=>hy (G8 (z▸v'))⟩⟩
 .refine⟨u,rfl,rfl,false,by simp[ne],cS ⟨u,rfl,q y n' er u H2 k2 r2 v2⟩⟩
end
end My
namespace L2
def uG(qN:X.stack=X.env::X.outer)(IE:X.env.frame=al X.env.locals)(hex:X.ex=[])(Wx:X.xe=λe (s':db)=>f8 (gl X.prog X.w) X.A (leaving X.env e) (λ_ vD=>iC X.prog X.w C X.outer X.H₀ X.s₀ E e vD) (λe' vD=>iC X.prog X.w C X.outer X.H₀ X.s₀ E e' vD) s'):kJ X C E:=by
 intro Z σ H1 s1 a dx ot n I F e;have st:=I.stack;have sf:=I.gK;rw[qN]at st sf;have nl:∀b,X.s₀.heap.objs.size<=b->∀o,X.s₀.heap.get? b=al o->False:=λb hb o q=>absurd (Ai q) (Dt.mpr hb);rw[Wx];show f8 _ _ (leaving _ (.ref a)) _ _ s1;refine oY (base:=X.base) (env:=X.env) (outer:=X.outer) (by rw[I.ok.frames,qN]) st IE F.fx λh' T c x hT=>?_;have T0:H1 T=bn:=I.aW.fresh hT;have nx:∀b,b∉X.ex:=λb=>by rw[hex];simp
 refine⟨a,dx,al T,n,H1,rfl,I.os,I.bare,⟨λb o q n0 hb hx=>?_,λb o q n0 hb hx=>?_,λb o q n _=>I.base.free b o q n (nx b),λb o q hx=>?_,I.base.bW,I.base.jn,I.base.jc⟩,c.aW x I.aW F.fa (λT h=>(F.ft T h).1) sf,⟨x,F.fa,F.fd,F.fl,λT' z=>by cases z;exact⟨T0,Av I.sz hT⟩⟩,e⟩
 .have q1:=I.base.keep b o q n0 hb (nx b);refine c.keep b o q1 (λz=>nl _ F.fl _ (z▸q)) (λz=>nl _ (F.ft _ z).2 _ q) λz=>?_;simp only[jo,BI,IE]at z;rcases Au.mp z with z|z
  .exact nl _ (z▸I.ok.above) _ q
  .exact hb z
 .obtain⟨sl,q1⟩:=I.base.slot b o q n0 hb (nx b);obtain⟨za,q2⟩:=c.slot b _ q1 (λz=>nl _ F.fl _ (z▸q)) (λz=>nl _ (F.ft _ z).2 _ q);exact⟨za,q2⟩
 .obtain⟨o1,q1⟩:=I.base.there b o q (nx b);exact c.there b o1 q1
end L2
namespace FL
section
variable[bu]
structure FY(P:lm)(w:sw)(K:Aa)(mg:Str->Option ci)(base:io)(N:ce)(f:ce)(us:List V)(qs:List PV)(fz:List (ce×Obj))(k:Nat)(ps:List Str)(sp:Sp) where
 fd:sK
 ok:ba P w K mg base (iC P w N) k f fd ps (UZ K us qs fz sp)
 bi:Binds K fd ps []
 kp:∀h:io,K.In h->(∀b o,base.get? b=al o->h.get? b=al o)->(∀p∈fz,h.get? p.1=al p.2)->De f h
def Ks(a:ce)(K:Aa)(us:O V)(qs:O PV)(fz:O (ce×Obj))(sp:Sp)(E:XK)(ta:TE)(t:TA):TE:=λσ H Q=>ta σ H λx H1=>x=.ref a/\mq H1 fz/\t σ H1 λvs H2=>aL K [] H2 us qs/\mq H2 fz/\sp vs H2 Q E
def wd{N:ce}{p:Pos}{x:Str}{us:O V}(G:FY X.prog X.w X.K X.mg X.base N a us qs fz k ps sp)(hr:bf k' X.A)(hk:k<=k')(hf:PE X (.Name x p) ta)(hx:kJ X N E)(ha:PA X (e::es) t)(he:‹dZ X e es›)(bN:‹fb X pos es›):PE X (.Call (.Name x p) (e::es) [] pos) (Ks a X.K us qs fz sp E ta t):=λZ s σ H Q I q=>by
 refine AW (bb (hf Z s σ H _ I q) λv s1 ⟨y,H1,I1,r1,ey,z1,q1⟩=>?_);subst ey;cases r1;have kz:∀{σ':L2.St}{H':Hp}{s':db},Inv X Z σ' H' s'->mq H' fz->De a s'.heap:=λJ z=>G.kp _ J.cR J.bk λp hp=>let ⟨u,e⟩:=z p hp;(J.aW _ _ e).1;exact ED (kz I1 z1) (bb (ha pos Z s1 σ H1 _ I1 q1) λR3 s2 ⟨vs,H2,I2,r,v2,z2,q2⟩=>⟨kz I2 z2,jQ G.ok (hr.mono hk) G.bi .nil (gj hx) I2 r (by rw[AV];exact⟨v2,z2,q2⟩)⟩) he bN
abbrev XC(N:ce)(E:XK)(X:Cx):Cx:=X.iD λe (s':db)=>f8 (gl X.prog X.w) X.A (leaving X.env e) (λ_ vD=>iC X.prog X.w N X.outer X.H₀ X.s₀ E e vD) (λe' vD=>iC X.prog X.w N X.outer X.H₀ X.s₀ E e' vD) s'
section
variable{K:Aa}{L:Lm}{N:ce}
def Ff(I0:mn L [] base a [] fz)(S:RU ps [] L.sc)(len:∀vs H Q E,sp vs H Q E->vs.length=ps.length)(hb:∀(cl:O (Str×ce)) (pm cv jG:ci) (us:O ci),us.length=ps.length->bindArgs (L.fn cl pm cv jG) ⟨us,[]⟩=pure (ps.zip us))(Ç:∀(cl:O (Str×ce)) (cv:ci) (A:u8) (outer:O Env) (s:db) (H:Hp) (vs:O V) (Q:VK) (E:XK),bf k (A.deeper (DT L.q L.sc s.heap.objs.size a cv cl))->sp vs H Q E->∃t,PE (XC N E (Tw P w K mg base ps L a cl cv A outer s H)) L.bd t/\t (vs.map al) H Q):Nonempty (FY P w K mg base N a [] [] fz (k+1) ps sp):=by
 obtain⟨cl,pm,c,jG,co,rfl,LZ,ph,QR,xn⟩:=I0;refine⟨⟨L.fn cl pm (.ref c) jG,⟨λvs H Q E h=>len vs H Q E h.2.2,λA outer s H args R3 vs Q E hr e0 Xa r qO=>?_⟩,.all (hb cl pm _ jG),λh _ _ hz=>⟨_,_,_,_,hz (a,_) (A9 ..)⟩⟩⟩;obtain⟨_,z,qO⟩:=qO;obtain⟨_,z1⟩:=z (a,L.ob cl pm (.ref c) jG) (A9 ..);obtain⟨_,z2⟩:=z (c,co) (by simp);have WS:vs.length=ps.length:=len vs H Q E qO;obtain⟨XE,ct,d1,d2⟩:=LZ;have Vi:∀y∈L.sc.names,y.2≠.free:=λy hy z=>by have:=S.fin y hy z;simp at this
 refine PySem.W.kla_callFunE hr.depth ((e0.aW _ _ z1).1) rfl S.co S.gen rfl ⟨c,co,XE,ct,rfl,((e0.aW _ _ z2).1),d1,d2⟩ (Xa _ _ _ _ ?_);refine wpAny_newFunctionEnv S.Sv (λy hy=>S.par _ (C5 hy).1) (λh' NV WH=>?_) S.kind;have hk:∀b o,s.heap.get? b=al o->h'.get? b=al o:=λb o e=>by
  rw[WH.2 b (AI (Ai e))];exact Ad _ e
 refine⟨(e0.mod.nolimit.keeps λb o e=>(e0.bs b o e).1).keeps hk,PySem.W.kla_codeExpr ?_⟩;have kc:∀{c:ce}{v:Option ci},base.IsCell c v->h'.IsCell c v:=λ⟨o,h1,h2⟩=>⟨o,hk _ _ (e0.bs _ _ h1).1,h2⟩;have nd:ps.Nodup:=by have:=S.nd;rwa [AV]at this
 have I:Inv (Tw P w K mg base ps L a cl (.ref c) A outer s H) [] (vs.map al) H {heap:=h',gens:=s.gens,drawn:=s.drawn,toks:=s.toks+(ps.zip R3).length,os:=s.os}:=by
  refine⟨⟨e0.mod,S.kind,rfl,rfl,Aj _,QR,λx hx=>?_,λ_ _ z=>(by cases z),λ_=>hr.hd,Ep e0.frames,.inr ⟨rfl,rfl⟩,λb z=>(nomatch z),e0.bs,e0.ye,λb _ _ z=>(nomatch z),λb z=>(nomatch z),e0.fD,e0.yM⟩,
   rfl,e0.bare,Un.kept hk,⟨_,NV,λi x v h1 h2 h3=>?_⟩,λx c' e=>?_,e0.aW.fresh (Aj _),λx c' e=>?_,λp hp=>(nomatch hp),e0.aW.kept hk,?_⟩
  .rcases hx with hx|hx
   .exact absurd rfl (S.Sv _ (A1 hx))
   .exact absurd rfl (Vi _ (A1 hx))
  .have h1:ps[i]?=al x:=h1;rw[AE]at h2;cases e:vs[i]? with
   |none=>rw[e]at h2;cases h2
   |some v'=>
    rw[e]at h2;cases h2;obtain⟨u,hu,ru⟩:=r.get e;exact⟨u,ru,.inl ⟨S.par x (A8 h1),yP nd h1 hu⟩⟩
  .obtain⟨v,hv⟩:=ph x c' e;exact⟨v,kc hv⟩
  .obtain⟨v,o,ho,_⟩:=ph x c' e;exact(e0.bs _ _ ho).2
  .show(vs.map al).length=ps.length;rw[AB,WS]
 obtain⟨t,ht,hq⟩:=Ç cl (.ref c) A outer s H vs Q E (hr.deeper _) qO;refine Be (ht [] _ _ H Q (I.iD _) hq) (λu s' h=>?_) λe s' h=>h;obtain⟨v,H',J,ru,q'⟩:=h;exact⟨v,H',J.os,J.bare,J.base,J.aW,ru,q'⟩
end
end
end FL
namespace My
section
variable[bu]
def uE:PV->Bool
 |.ref _=>false
 |.ty _=>false
 |.ob _ _=>false
 |.hand=>false
 |_=>true
def Qw{K:Aa}{u:V}{x:PV}{Q:VK}(v:VR K [] H u x)(k:Kd)(ht:uE x=true)(q:Q (.bl (k.is x)) H):rV K [u,.ty k.name] H Q:=by
 have fin:∀{t:ci}{y:PV},fN K H u t->Ay K t (.type k.name)=al (k.is y)->Q (.bl (k.is y)) H->rV K [u,.ty k.name] H Q:=λty e q=>⟨_,_,_,_,rfl,.inl ty,e,q⟩;cases v with
 |a8=>exact fin .a8 (by rw[(du K).1 k];cases k<;>rfl) q
 |bl b=>exact fin (.bl b) (wV K b k) q
 |int b=>exact fin (.int b) (jy K b k) q
 |str b=>exact fin (.str b) (sG K b k) q
 |ty n=>cases ht
 |ref n=>cases ht
 |ob _ _ _ _ _=>cases ht
 |hand _=>cases ht
 | @dk a o aZ ks l e k1 r=>exact⟨_,_,_,_,rfl,.inr (.inr (.inr ⟨rfl,_,rfl,.inl ⟨_,.inr ⟨_,e⟩⟩⟩)),(show _=al (k.is (.dv ks l)) by rw[(du K).2.2 k];cases k<;>rfl),q⟩
 | @dt a o aZ ks l e k1 r=>exact⟨_,_,_,_,rfl,.inr (.inr (.inr ⟨rfl,_,rfl,.inr ⟨_,.inr ⟨_,e⟩⟩⟩)),(show _=al (k.is (.dv ks l)) by rw[(du K).2.2 k];cases k<;>rfl),q⟩
 | @cl p vs l e r=>exact⟨_,_,_,_,rfl,.inr (.inr (.inl ⟨rfl,_,_,rfl,e.sq⟩)),(show _=al (k.is (.cl l)) by rw[(du K).2.1 k];cases k<;>rfl),q⟩
 | @tup p vs l e r=>exact⟨_,_,_,_,rfl,.inr (.inl ⟨rfl,_,_,rfl,dP.of e⟩),sF K _ k,q⟩
structure kI(H H':Hp):Prop where
 k:∀c o,H c=al o->o.nt=true->H' c=al o
 t:∀c,H' c=bn->H c=bn
 tb:TB H->TB H'
def kI.trans(a:kI H H1)(b:kI H1 H2):kI H H2:=⟨λc o h n=>b.k c o (a.k c o h n) n,λc h=>a.t c (b.t c h),λh=>b.tb (a.tb h)⟩
def nY(E:XK)(H:Hp)(m:Nat):Prop:=∀a H',kI H H'->E (.int m 0) (al a) H'
def nY.kp(b:nY E H m)(k:kI H H1):nY E H1 m:=λa H' k'=>b a H' (k.trans k')
def nY.x{p:ce}(b:nY E H m)(k:kI H H1)(n:H p=bn)(hp:∃C dx fs,H1 p=al (.ins C dx fs)):jt E p H1 m:=λa H' k'=>b a H' ⟨λc o h nt=>k'.k c o (λz=>by subst z;rw[n]at h;cases h) (k.k c o h nt),λc h=>k.t c (k'.t c h),λh=>(k.tb h).mono (λa ps z=>k'.k _ _ (λy=>by subst y;obtain⟨_,_,_,hp⟩:=hp;rw[hp]at z;cases z) z) λa o u vs z _=>⟨u,k'.k _ _ (λy=>by subst y;obtain⟨_,_,_,hp⟩:=hp;rw[hp]at z;cases z) z⟩⟩
def KD(K:Aa)(C:ce):Sp:=λvs H Q E=>∃(p dx:ce) (v:V) (x:PV),vs=[.ref p,v]/\H p=al (.ins C dx [])/\VR K [] H v x/\uE x=true/\(∀T,x=.str T->∀H',kH p H H'->iA C p T 0 H'->Q .a8 H')/\((∀T,x≠.str T)->jt E p H 0)
section
variable{K:Aa}{N:ce}
def wy(R:GZ K mg C)(NT:OC P w K mg base N)(hi:mg "isinstance"=bn)(hs:mg "str"=bn)(F:gD K "__init__" "Reader.__init__" (dY 0 sR) f fd):ba P w K mg base (iC P w N) 3 f fd ["self","text"] (KD K C):=by
 refine F.HQ (N:=["self","text"]) pD (λvs H Q E h=>?_) (λbC A outer s H vs Q E hr h=>?_)
 .obtain⟨_,_,_,_,rfl,_⟩:=h;rfl
 obtain⟨p,dx,v,x,rfl,hp,hv,ht,q,È⟩:=h;refine⟨_,az (fq (iG (fm (bh (me rfl) (by rfl) hi wf (ah (pv 1) (ah (gQ (v:=.ty "str") rfl hs boot_str rfl) ax))))) (aV (jS NT.m NT.ok NT.bi hr rfl rfl NT.at' NT.kp bZ br)) cg) (az (qz (pv 0) (pv 1) rfl) (aV (qz (pv 0) bZ rfl))),?_⟩;obtain⟨x',c',t',b',e1,ty,e2,e3⟩:=Qw (Q:=λu _=>u=.bl (Kd.str.is x)) hv .str ht rfl;cases e3;refine⟨v,rfl,x',c',t',_,e1,ty,e2,_,rfl,?_⟩;clear ty e2;cases e:Kd.str.is x with
 |false=>
  refine eZ ?_;refine⟨0,rfl,by decide,Jo (È λT z=>?_)⟩;subst z;cases e
 |true=>
  have:∃T,x=.str T:=by cases x<;>first|exact⟨_,rfl⟩|cases e
  obtain⟨T,rfl⟩:=this;cases hv;refine cS ?_;refine⟨.str T,rfl,.ref p,rfl,p,C,dx,_,rfl,hp,R.cl,R.t,(by show 0<1000;decide),?_⟩;refine⟨.ref p,rfl,p,C,dx,_,rfl,ao,R.cl,R.p,(by show 1<1000;decide),q T rfl _ (λb nb=>?_) ⟨dx,ao⟩⟩;rw[ag nb,ag nb]
def Ny:Lm:=match aY rQ with
 |[.Return (al (.Call _ [_,.Lambda ar bd sc _] [] _)) _]=>⟨"read_tree.<locals>.<lambda>",ar,bd,sc⟩
 |_=>⟨"",⟨[],[],bn,[],[],bn,[]⟩,.Constant .none 0 ⟨0,0,0,0⟩,default⟩
def Gb(K:Aa)(C:ce)(fr:JX):Sp:=λvs H Q E=>∃(p:ce) (T:Str) (n k:Nat) (r:Except Nat (PV×Nat)),vs=[.ref p]/\iA C p T n H/\T.length<=sizeLine/\n<=T.length/\kK T fr k n []=al r/\(∀m,r=.error m->jt E p H m)/\∀y n',r=.ok (y,n')->∀u H',gE p H H'->iA C p T n' H'->VR K [] H' u y->Q u H'
def HN(G:lr P w K mg base N "take_tree_front" 5 ["reader"] (gL K C fr))(NS:lr P w K mg base N "take_nested" 6 ["reader","take_front"] (mB K C G.f fr))(L:mn Ny [] base a [] fz):Nonempty (FY P w K mg base N a [] [] fz 7 ["reader"] (Gb K C fr)):=by
 refine Ff L ⟨rfl,rfl,rfl,by decide +kernel,by decide +kernel,by decide +kernel,by decide +kernel,by decide +kernel⟩ (λvs H Q E h=>?_) (λ_ _ _ _=>usN (by (repeat intro _);rfl)) λcl cv A outer s H vs Q E hr h=>?_
 .obtain⟨_,_,_,_,_,rfl,_⟩:=h;rfl
 obtain⟨p,T,n,k,r,rfl,h⟩:=h;exact⟨_,mP NS hr (Aj _) (uG rfl rfl rfl rfl) rfl (ah (pv 0) (ah (eu (v:=.ref G.f) rfl G.at' rfl) ax)),.ref p,rfl,p,T,n,k,r,rfl,h⟩
def RT(K:Aa)(v:V)(x:PV)(H:Hp)(Q:VK)(E:XK):Prop:=VR K [] H v x/\uE x=true/\((∀T,x≠.str T)->nY E H 0)/\∀T,x=.str T->T.length<=sizeLine/\∃k r,kK T jq k 0 []=al r/\(∀m,r=.error m->nY E H m)/\
 ∀y n',r=.ok (y,n')->(n'<T.length->nY E H n')/\(¬n'<T.length->∀u H',kI H H'->TB H'->VR K [] H' u y->Q u H')
structure X1(P:lm)(w:sw)(K:Aa)(mg:Str->Option ci)(base:io)(N C:ce) where
 f:ce
 fd:sK
 m:Mk K C f
 ok:ba P w K mg base (iC P w N) 3 f fd ["self","text"] (KD K C)
 bi:Binds K fd ["self","text"] []
 at':mg "Reader"=al (.ref C)
def Hl(K:Aa)(a:ce)(fz:O (ce×Obj)):Sp:=λvs H Q E=>∃v x,vs=[v,.ref a]/\TB H/\mq H fz/\RT K v x H Q E
theorem HP(R:GZ K mg C)(NT:OC P w K mg base N)(I:X1 P w K mg base N C)(A:FY P w K mg base N a [] [] fz 7 ["reader"] (Gb K C jq))(F:gD K "read_all" "read_all" zd f fd):ba P w K mg base (iC P w N) 8 f fd ["text","take"] (Hl K a fz):=by
 have nd:(["text","take","reader","told"]:O Str).Nodup:=by decide
 refine F.HQ (N:=["text","take","reader","told"]) pD (λvs H Q E h=>?_) (λbC A' outer s H vs Q E hr h=>?_)
 .obtain⟨_,_,rfl,_⟩:=h;rfl
 obtain⟨v,x,rfl,tb,z,hv,ht,b0,hT⟩:=h;refine⟨_,az (bX (i:=2) nd rfl (Bj rfl) (zu I.m I.ok (hr.mono ⋯) rfl I.at' I.bi .nil (gj br) (ah (pv 0) ax))) (az (bX (i:=3) nd rfl (Bj rfl) (wd A hr (Aj _) (pv 1) br (ah (pv 2) ax)))
  (az (fq (dj si (dI (pv 2) rfl) (bh (cY K rfl) (by rfl) R.len Dr (ah (pv 0) ax)) (cH _)) (aV (jS NT.m NT.ok NT.bi (hr.mono ⋯) rfl rfl NT.at' NT.kp (dI (pv 2) rfl) br)) cg) (aV (bJ (pv 3))))),?_⟩
 refine⟨v,rfl,λp dx np Qb ne=>?_⟩;have Pq:cI H (upd (upd H dx (.own p)) p (.ins C dx [])):=λc o e=>by
  have n1:c≠p:=λz=>by subst z;rw[np]at e;cases e
  have n2:c≠dx:=λz=>by subst z;rw[Qb]at e;cases e
  rw[ag n1,ag n2];exact e
 have kn:kI H (upd (upd H dx (.own p)) p (.ins C dx [])):=⟨λc o e _=>by
  have n1:c≠p:=λz=>by subst z;rw[np]at e;cases e
  have n2:c≠dx:=λz=>by subst z;rw[Qb]at e;cases e
  rw[ag n1,ag n2];exact e,λc e=>by
  by_cases n1:c=p
  .subst n1;exact np
  .rw[ag n1]at e;by_cases n2:c=dx
   .subst n2;exact Qb
   .rw[ag n2]at e;exact e,λt=>t.same Pq⟩
 refine⟨p,dx,v,x,rfl,ao,VR.tk Pq.cK hv,ht,λT hx H1 o1 r1=>⟨rfl,?_⟩,λnT=>(b0 nT).x kn np ⟨_,_,_,ao⟩⟩;subst hx;cases hv;obtain⟨hT,k,r,hk,È,ok⟩:=hT T rfl;have sm:cI H H1:=λc o e=>by
  have n1:c≠p:=λz=>by subst z;rw[np]at e;cases e
  rw[o1 c n1];exact Pq c o e
 have k1:kI H H1:=⟨λc o e _=>sm c o e,(gE.same (p:=p) sm).t,λt=>t.same sm⟩;have z1:mq H1 fz:=λp hp=>let ⟨u,e⟩:=z p hp;⟨u,sm _ _ e⟩;refine⟨.ref a,rfl,rfl,z1,.ref p,rfl,.nil,z1,p,T,0,k,r,rfl,r1,hT,Bz _,hk,λm er=>(È m er).x k1 np (let ⟨dx,h⟩:=r1;⟨_,_,_,h⟩),λy n' er u2 H2 k2 r2 v2=>?_⟩;obtain⟨bd,ok⟩:=ok y n' er;obtain⟨Fu,QE⟩:=r2;have s2:cI H H2:=λc o e=>k2.k c o (λz=>by subst z;rw[np]at e;cases e) (sm c o e);have k3:kI H H2:=⟨λc o e _=>s2 c o e,(gE.same (p:=p) s2).t,λt=>t.same s2⟩;refine⟨.ref p,rfl,p,C,Fu,_,.int n',rfl,QE,R.cl,R.p,rfl,.str T,rfl,.str T,T.length,rfl,⟨hT,rfl⟩,_,_,rfl,rfl,_,rfl,?_⟩;by_cases lt:n'<T.length
 .rw[decide_eq_true ∅];refine eZ ?_;exact⟨.ref p,rfl,p,C,Fu,_,.int n',rfl,QE,R.cl,R.p,rfl,n',rfl,vw (by rw[<- pc];lia),Jo (p:=p) ((bd lt).x k3 np ⟨_,_,_,QE⟩)⟩
 .rw[decide_eq_false ∅];refine cS ?_;exact⟨u2,rfl,ok lt u2 H2 k3 (tb.same s2) v2⟩
end
end
end My
variable{x:Bt}
namespace FL
section
variable[bu]
def Ko(te:TE)(sp:ce->O (ce×Obj)->Sp)(E:XK):TE:=λσ H Q=>te σ H λv H1=>TB H1/\∀a fz H2,My.kI H1 H2->TB H2->mq H2 fz->sp a fz [v,.ref a] H2 Q E
def zv{N P:ce}{p lp:Pos}{sp:ce->O (ce×Obj)->Sp}(L:Lm)(hK:FQ X.K X.mg X.env.code P)(hP:p4 P L.q)(bi:Binds X.K fd ps [])(kp:AG X.K (.ref f)=true)(hm:X.mg x=al (.ref f))(he:PE X e te)(hr:bf k' X.A)(hk:k<=k')(hx:kJ X N E)(G:∀pW a fz,mn L [] pW a [] fz->ba X.prog X.w X.K X.mg pW (iC X.prog X.w N) k f fd ps (sp a fz))(xn:∀y∈L.sc.names,y.2≠.free)(hq:‹L.q=X.env.qual++"<lambda>"›)(hd:‹defaultsOf L.ar X.env=([],[])›)(hg:‹Gl X x›)(cT: ~~~(dg x))(kW:‹gt [e,.Lambda L.ar L.bd L.sc lp] X.env=(false,jp e X.env)::gt [.Lambda L.ar L.bd L.sc lp] X.env›)(QA:‹gt [.Lambda L.ar L.bd L.sc lp] X.env=[(false,jp (.Lambda L.ar L.bd L.sc lp) X.env)]›)(bN:‹(Fk pos (gt [.Lambda L.ar L.bd L.sc lp] X.env)).any (·.1)=false›):PE X (.Call (.Name x p) [e,.Lambda L.ar L.bd L.sc lp] [] pos) (Ko te sp E):=by
 intro Z s σ H Q I h;refine AW (dr I hg hm ?_ cT);refine Bq I.ok.mod.wW kp ?_ kW bN;rw[kW,QA];refine BN (bb (he Z s σ H _ I h) λu1 s1 ⟨v,H1,I1,r1,tb,q⟩=>BN (Ih (L:=L) I1 tb hK hq hP hd (λy hy hk=>absurd hk (xn y hy)) λa fz H2 s2 I2 now z2 Np k2 th=>CS ?_));obtain⟨cl,pm,c,jG,co,Xz,LZ,h1,h2⟩:=now;have no:∀x c,cl.lookup x=al c->False:=λx c z=>xn _ (h1 x c z).2 rfl;have Vo:mn L [] (kB X.base s2.heap []) a [] fz:=⟨cl,pm,c,jG,co,Xz,LZ,λx c z=>(no x c z).elim,λx y c z=>(no x c z).elim,λi y hy=>(by cases hy)⟩;have e1:=I2.RC (cs:=[]) λc hc=>(nomatch hc);exact⟨I2.cR,zf (G _ a fz Vo) e1 (hr.mono hk) bi (gj hx) I2 (.cons r1 (.cons (show RelV (.ref a) (.ref a) from rfl) .nil)) (q a fz H2 ⟨k2,th,λ_=>Np⟩ Np z2)⟩
end
end FL
variable{gd:PySem.FuncData}
namespace My
section
variable[bu]
section
variable{K:Aa}{N:ce}
def RT.kp{v:V}{x:PV}{Q:VK}(h:RT K v x H Q E)(k:kI H H1)(t:aQ K H H1):RT K v x H1 Q E:=by
 obtain⟨hv,ht,b0,hT⟩:=h;refine⟨VR.tk t hv,ht,λz=>(b0 z).kp k,λT hx=>?_⟩;obtain⟨h1,kk,r,hk,È,ok⟩:=hT T hx;exact⟨h1,kk,r,hk,λm e=>(È m e).kp k,λy n' e=>⟨λl=>((ok y n' e).1 l).kp k,λl u H' k'=>(ok y n' e).2 l u H' (k.trans k')⟩⟩
def kI.bW(k:kI H H'):aQ K H H':=⟨λp vs h=>k.k _ _ h rfl,λp o u h=>k.k _ _ h rfl,xk λp φ h=>k.k _ _ h rfl⟩
def KC(K:Aa):Sp:=λvs H Q E=>∃v x,vs=[v]/\TB H/\RT K v x H Q E
def _root_.L2.gD.P6{st:nn}{f:ce}{fd:sK}{N:O Str}(F:gD K x qual st f fd)(S:bI N ps (aj st))(len:∀vs H Q E,sp vs H Q E->vs.length=ps.length)(kd:∀(bC:ci) (A:u8) (outer:O Env) (s:db) (H:Hp) (vs:O V) (Q:VK) (E:XK),fd.code=bC->bf k (A.deeper (wT qual (aj st) s.heap.objs.size f bC))->sp vs H Q E->
   ∃t,jb (ic (iC P w C) P w K mg base N qual (aj st) f bC A outer s H E) (aY st) t/\t {nx:=λ_ H'=>Q .a8 H',rt:=Q} (start N vs) H):ba P w K mg base (iC P w C) (k+1) f fd ps sp:=by
 obtain⟨oc,od,kV,Æ,pm,an,bC,ct,u7,rfl,lk,df⟩:=F.ex;exact xv lk df S len λA outer s H vs Q E hr qO=>kd bC A outer s H vs Q E rfl hr qO
def zF{Pt g:ce}(LK:FQ K mg fd.code Pt)(hP:p4 Pt "read_tree.<locals>.<lambda>")(bi:Binds K gd ["text","take"] [])(kp:AG K (.ref g)=true)(hm:mg "read_all"=al (.ref g))(A:∀b a fz,mn Ny [] b a [] fz->ba P w K mg b (iC P w N) 8 g gd ["text","take"] (Hl K a fz))(F:gD K "read_tree" "read_tree" rQ f fd):ba P w K mg base (iC P w N) 9 f fd ["text"] (KC K):=by
 refine F.P6 (N:=["text"]) pD (λvs H Q E h=>?_) (λbC A' outer s H vs Q E ec hr h=>?_)
 .obtain⟨_,_,rfl,_⟩:=h;rfl
 obtain⟨v,x,rfl,tb,h⟩:=h;refine⟨_,aV (bJ (zv Ny (ec▸LK) hP bi kp hm (pv 0) hr (Aj _) br A (by decide +kernel))),?_⟩;exact⟨v,rfl,tb,λa fz H2 k2 Np z2=>⟨v,x,rfl,Np,z2,h.kp k2 k2.bW⟩⟩
end
end
section
variable[bu]
def U7(T:Str):Except Nat (PV×Nat)->PV
 |.error m=>.int m
 |.ok (_,n)=>if n<T.length then .int n else .a8
def zT(x:PV):W PV:=⟨λQ=>uE x=true/\((∀T,x≠.str T)->Q (.int 0))/\∀T,x=.str T->T.length<=sizeLine/\∃k r,kK T jq k 0 []=al r/\Q (U7 T r),λh ⟨a,b,c⟩=>⟨a,λz=>h _ (b z),λT z=>let ⟨d,k,r,e,q⟩:=c T z;⟨d,k,r,e,h _ q⟩⟩⟩
def Qe(x:PV):W PV:=⟨λQ=>∃T k y n',x=.str T/\T.length<=sizeLine/\kK T jq k 0 []=al (.ok (y,n'))/\¬n'<T.length/\Q y,λh ⟨T,k,y,n,a,b,c,d,q⟩=>⟨T,k,y,n,a,b,c,d,h _ q⟩⟩
structure XW(K:Aa)(mg:Str->Option ci)(N TE NL NW:ce):Prop where
 up:FV K N TE
 cl:uW K N
 at_:FW K N "place"
 te:mg "TreeError"=al (.ref TE)
 nt:mg "NoText"=al (.ref N)
 nl:mg "NoLine"=al (.ref NL)
 nw:mg "NoWay"=al (.ref NW)
 k1:B4 K (.ref N) [.ref NL,.ref NW]=al false
 k2:Ay K (.ref N) (.type "ValueError")=al true
 ve:mg "ValueError"=bn
section
variable{K:Aa}{N:ce}
def GJ{vs:O V}(k:kI H H')(t:TB H')(np:∀(i:Nat) ψ d,ks[i]?≠al (.p ψ d)):G1 n vs ks H H':=⟨λc o e _ nt=>k.k c o e nt,t,k.t,λa ψ d ⟨i,h,_⟩=>(np i ψ d h).elim,xk λp φ h=>k.k _ _ h rfl⟩
def KP{v:V}{x:PV}{Q Qf:VK}(hv:VR K [] H v x)(m:(zT x).run λz=>∀u' H',kI H H'->VR K [] H' u' z->Qf u' H')(È:∀m:Nat,(∀H',kI H H'->Qf (.int m) H')->nY E H m)(ok:(∀H',kI H H'->Qf .a8 H')->∀u' H',kI H H'->Q u' H'):RT K v x H Q E:=by
 obtain⟨ht,b0,hT⟩:=m;refine⟨hv,ht,λnT=>È 0 λH' k=>b0 nT _ H' k (.int 0),λT hx=>?_⟩;obtain⟨h1,k,r,hk,q⟩:=hT T hx;refine⟨h1,k,r,hk,λm e=>È m λH' k=>?_,λy n' e=>⟨λl=>È n' λH' k=>?_,λl u' H' k _ _=>ok (λH2 k2=>?_) u' H' k⟩⟩
 .subst e;exact q _ H' k (.int m)
 .subst e;have q:∀u' H',kI H H'->VR K [] H' u' (if n'<T.length then .int n' else .a8)->Qf u' H':=q;rw[if_pos l]at q;exact q _ H' k (.int n')
 .subst e;have q:∀u' H',kI H H'->VR K [] H' u' (if n'<T.length then .int n' else .a8)->Qf u' H':=q;rw[if_neg l]at q;exact q _ H2 k2 .a8
def XH.kp{dx:ce}{n:Int}(x:XH H a C dx n)(s:cI H H'):XH H' a C dx n:=⟨s _ _ x.a,s _ _ x.d⟩
theorem Ll{TE NL NW:ce}(XX:XW K mg N TE NL NW)(hi:mg "isinstance"=bn)(hb:mg "bool"=bn)(hn:mg "int"=bn)(Yb:True){xa qa:Str}{sa:nn}(Fa:gD K xa qa sa fa gd)(G:ba P w K mg base (iC P w N) k fa gd ["text"] (KC K))(bi:Binds K gd ["text"] [])(F:gD K "_law_place" "_law_place" Nt f fd):ba P w K mg base iz (k+3) f fd ["_law_read","_law_text_here"] (nZ K [.f fa [] [] [],.v] (gG 1 zT)):=by
 have kz:∀h:io,K.In h->(∀b o,base.get? b=al o->h.get? b=al o)->(∀p∈([]:O (ce×Obj)),h.get? p.1=al p.2)->De fa h:=λh X _ _=>by
  obtain⟨_,_,_,_,_,_,_,_,_,_,lk,_⟩:=Fa.ex;exact⟨_,_,_,_,X _ _ lk⟩
 have nd:(["_law_read","_law_text_here","_law_caught","error","_law_odd"]:O Str).Nodup:=by decide
 refine F.ok (N:=["_law_read","_law_text_here","_law_caught","error","_law_odd"]) pD (λvs H Q E h=>?_) (λbC A' outer s H vs Q E hr h=>?_)
 .obtain⟨_,_,_,h,_⟩:=h;cases h with|f _ _ t=>cases t with|v _ t=>cases t;rfl
 obtain⟨tb,j,l,h,q⟩:=h;cases h with
 | @f _ _ _ _ _ _ l' r2 z t=>
 cases t with
 | @v u x yE VL l' r t=>
 cases t;refine⟨_,az (bX (i:=2) nd rfl (Bj rfl) gv) (az (Hx (C:=N) (D0:=TE) (i:=2) (j:=3) rfl rfl (λ_ _ h=>h) XX.up nd rfl rfl rfl rfl rfl rfl XX.te (vU (fz:=[]) (λ_ _ h=>h) G (hr.mono ∅) kz (pv 0) bi (ah (pv 1) ax)))
  (az (fq (dj wq (pv 2) gv (cH _)) (aV (bJ gv)) cg)
   (az (bX (i:=4) nd rfl (Bj rfl) (Gp (bh (uN (K:=K) rfl) (by rfl) hi wf (ah (pv 2) (ah (fY (ah (eu (v:=.ref NL) rfl XX.nl rfl) (ah (eu (v:=.ref NW) rfl XX.nw rfl) ax))) ax)))
     (qB (HC (bh (pV (K:=K) rfl) (by rfl) hi wf (ah (pv 2) (ah (gQ (v:=.ty "ValueError") rfl XX.ve (by rfl) rfl) ax)))))))
    (az (fq (PW.pt (vN (fm (pv 4)) (qv (iG (fm (bh (pV (K:=K) rfl) (by rfl) hi wf (ah (pv 2) (ah (eu (v:=.ref N) rfl XX.nt rfl) ax)))))))) (aV (bJ (oM jI bZ))) cg)
     (az (fq (PW.pt (vN (fm (bh dD (by rfl) hi wf (ah (vY (K:=K) rfl (pv 2) rfl) (ah (gQ (v:=.ty "bool") rfl hb boot_bool rfl) ax)))) (qv (iG (fm (bh dD (by rfl) hi wf (ah (vY (K:=K) rfl (pv 2) rfl) (ah (gQ (v:=.ty "int") rfl hn boot_int rfl) ax)))))))) (aV (bJ (oM jI bZ))) cg)
      (aV (bJ (vY (K:=K) rfl (pv 2) rfl)))))))),?_⟩
 have np:∀(i:Nat) ψ d,([AK.f fa [] [] [],AK.v]:O AK)[i]?≠al (.p ψ d):=λi ψ d e=>by
  match i with
  |0=>cases e
  |1=>cases e
  |i+2=>simp at e
 refine⟨.ref fa,rfl,rfl,λp hp=>(nomatch hp),u,rfl,λp hp=>(nomatch hp),u,x,rfl,tb,KP (Qf:=Q) r ((zT x).mono (λz q1 u' H' k' r'=>q1 u' H' (GJ k' (k'.tb tb) np) r') q) (λm hq a H1 k1 m' a' dx e1 e2 ha hd=>?_) λhq u' H1 k1=>?_⟩
 .cases e1;cases e2;have xh:XH H1 a N dx m:=⟨ha,hd⟩;refine⟨.ref a,rfl,rfl,false,rfl,cS ?_⟩;refine⟨.ref a,rfl,by show 2<=sizeLine;decide,λpt H2 s2 e2 n2=>?_⟩;have JB:=My.XH.kp xh s2;have k2:kI H H2:=k1.trans ⟨λc o h _=>s2 c o h,(gE.same (p:=0) s2).t,λt=>t.same s2⟩;refine⟨a,N,dx,m,pt,[NL,NW],false,rfl,JB,XX.cl,e2,XX.k1,false,rfl,cS ?_⟩;refine⟨.ref a,rfl,a,N,dx,m,.ty "ValueError",.type "ValueError",true,rfl,JB,XX.cl,λu h=>h,XX.k2,true,rfl,?_⟩;refine⟨.bl false,rfl,false,rfl,cS ?_⟩;refine⟨.ref a,rfl,a,N,dx,m,.ref N,.ref N,true,rfl,JB,XX.cl,λu h=>h,by unfold Ay;simp,true,rfl,cS ?_⟩;refine⟨.ref a,rfl,a,N,dx,m,rfl,JB,XX.at_,.int m,"bool",.type "int",false,rfl,.int m,jy K m .bool,false,rfl,cS ?_⟩;refine⟨.ref a,rfl,a,N,dx,m,rfl,JB,XX.at_,.int m,"int",.type "int",true,rfl,.int m,jy K m .int,true,rfl,cS ?_⟩;exact⟨.ref a,rfl,a,N,dx,m,rfl,JB,XX.at_,hq H2 k2⟩
 .exact⟨.a8,rfl,rfl,true,rfl,eZ (hq H1 k1)⟩
end
end
end My
namespace FL
section
variable[bu]
section
variable{K:Aa}{o e2:im}{w:W PV}
def Pp:PV->W Str
 |.str u=>.gh (u.length<=1000) (.ret u)
 |_=>.fail
def wY(Ì:Str)(l:O PV):W PV:=match l with
 |[.str a,.str b]=>.gh (Ì.length+a.length+b.length<=3000/\Ì.length<=100) (.ret (.str (a++Ì++b)))
 |_=>.fail
def Fo(hK:X.K=K)(ho:EF X K fs o w)(hl:LF X K fs e wl)(cL:‹re o "join" X.env (jp o X.env)=jp o X.env›)(qQ:‹OJ X bS [e]›)(fy:‹J2 À bS›)(kW:‹dZ X e []›)(gy:‹fb X bS []›):EF X K fs (.Call (.Attribute o "join" À) [e] [] bS) (.bind w λs=>.bind (Pp s) λs=>.bind wl λl=>wY s l):=
 ⟨PE.imp (mR K hK PySem.F.plainAttrs_str PySem.F.slot_str_join PySem.F.type_str_join wH ho.p (ah hl.p ax kW) cL qQ fy kW gy) λσ H Q ⟨sr,q⟩=>⟨sr,w.mono (λx q1 u1 H1 g1 s1 v1=>by
  cases v1 with
  |str Ì=>
   refine⟨rfl,s1,wl.mono (λl q2 a vs H2 g2 s2 n2 e2 v2=>?_) q1.2⟩
   match l,v2,q2 with
   |[.str a',.str b'],.cons r1 (.cons r2 .nil),q2=>
    cases r1;cases r2;exact⟨Ì,a,a',b',rfl,rfl,e2,q2.1.1,q2.1.2,q2.2 _ H2 (g1.trans g2) s2 (.str _)⟩
  |_=>exact q1.elim) q⟩⟩
end
end
end FL
variable{Sr SO MJ Sm Fz Tz:AO}{Sq TJ:Option AN}{Ld:Array (Option AO)}
namespace My
section
variable[bu]
structure RD(K:Aa):Prop where
 ex:∃C fi Rt fs Rr ft Rq,Aw K ge "Reader"=al (al (.ref C))/\gD K "__init__" "Reader.__init__" (dY 0 sR) fi Rt/\Mk K C fi/\tN K C/\cJ K C "text"/\cJ K C "place"/\
  gD K "stands_at" "Reader.stands_at" (dY 1 sR) fs Rr/\Meth K C "stands_at" fs/\gD K "take" "Reader.take" (dY 2 sR) ft Rq/\Meth K C "take" ft
def rdx{K:Aa}{f1 f2 f3:ce}{Vg Vf:ci}{Ve XU Vd XT:Option ce}{P5 P4:Array (Option ci)}{VQ RI U6 M5 XG VP RH U5 M4 XF:ci}(a:Aw K ge "Reader"=al (al (.ref C)))(m2:Ao K (.ref C) "__init__"=al (al (.ref f1)))(l1:K.lookup f1=al ⟨Sr,Sq,.func (AY "__init__" "Reader.__init__" (bA (dY 0 sR)) (aY (dY 0 sR)) (aj (dY 0 sR)) .none SO MJ Sm TJ Fz Tz),Ld⟩)(c1:Bx K Fz "Reader.__init__"=true)(k1:AG K (.ref f1)=true)(m1:Ea K C=true)(m3:B9 K (.ref f1)=true)(m4:AG K (.ref C)=true)(d1:Cq K C Cg=true)(d2:BC K C=true)(d3:Dw K C=true)(d4:Ao K (.ref C) "__setattr__"=al (al (.builtin "object.__setattr__")))(n1:Ao K (.ref C) "text"=al bn)(n2:Ao K (.ref C) "place"=al bn)(g2:Ao K (.ref C) "stands_at"=al (al (.ref f2)))(l2:K.lookup f2=al ⟨Vg,Ve,.func (AY "stands_at" "Reader.stands_at" (bA (dY 1 sR)) (aY (dY 1 sR)) (aj (dY 1 sR)) .none VQ RI U6 XU M5 XG),P5⟩)(c2:Bx K M5 "Reader.stands_at"=true)(k2:AG K (.ref f2)=true)(i2:B9 K (.ref f2)=true)(g3:Ao K (.ref C) "take"=al (al (.ref f3)))(l3:K.lookup f3=al ⟨Vf,Vd,.func (AY "take" "Reader.take" (bA (dY 2 sR)) (aY (dY 2 sR)) (aj (dY 2 sR)) .none VP RH U5 XT M4 XF),P4⟩)(c3:Bx K M4 "Reader.take"=true)(k3:AG K (.ref f3)=true)(i3:B9 K (.ref f3)=true):RD K:=
 ⟨C,f1,_,f2,_,f3,_,a,iR l1 c1 k1,⟨m1,m2,m3,m4⟩,⟨d1,d2,d3,d4⟩,n1,n2,iR l2 c2 k2,⟨g2,i2,k2⟩,iR l3 c3 k3,⟨g3,i3,k3⟩⟩
section
variable{K:Aa}{N:ce}
def LC(n:(Ar N==Ar C)=false)(c:∃cd,Bi K C=al cd)(t:Dj K (.ref C)=al (.type "type"))(s:C2 K (.ref N) (.ref C)=al false):Ay K (.ref N) (.ref C)=al false:=by
 obtain⟨cd,c⟩:=c;unfold Ay PySem.W.kitCls;rw[n];dsimp only;rw[c,t,s];rfl
def Qp(s:C2 K (.ref N) (.type "ValueError")=al true):Ay K (.ref N) (.type "ValueError")=al true:=by
 have m:PySem.W.kitMeta "ValueError"=true:=by decide +kernel
 have n:(Ar N==EZ "ValueError")=false:=rfl;unfold Ay PySem.W.kitCls;rw[n];dsimp only;rw[m,s];rfl
def Qq{t c1 c2:ci}(h1:Ay K t c1=al false)(h2:Ay K t c2=al false):B4 K t [c1,c2]=al false:=by
 unfold B4;rw[h1];show B4 K t [c2]=_;unfold B4;rw[h2];rfl
def xC{TE:ce}(X:K.In h)(q:Ey K TE yg "ValueError.__new__"=true):OwnTail h yg (.ref TE::yg):=by
 unfold Ey at q
 split at q
 .next dd cd sl ho=>
  split at q
  .simp only[Bw,beq_iff_eq]at q;exact .own (X _ _ ho) (.of_isNs (PySem.W.isNs_of_in X q.1.2)) (PySem.W.nsMap_none_of_in X q.1.2 q.2) .base
  .cases q
 .cases q
end
structure XD(K:Aa):Prop where
 ex:∃N TE NL NW f fd,Aw K ge "NoText"=al (al (.ref N))/\Aw K ge "TreeError"=al (al (.ref TE))/\Aw K ge "NoLine"=al (al (.ref NL))/\Aw K ge "NoWay"=al (al (.ref NW))/\
  gD K "__init__" "NoText.__init__" (dY 0 sN) f fd/\qc K N f/\AG K (.ref N)=true/\yA K TE N/\tM K N TE "place"/\FV K N TE/\uW K N/\FW K N "place"/\B4 K (.ref N) [.ref NL,.ref NW]=al false/\Ay K (.ref N) (.type "ValueError")=al true
def xdx{K:Aa}{TE NL NW:ce}{q Sy q':Str}{Nn X2:ce}{Jm:O ci}{GI:Bool}{Sb:O Str}{Kx:O ci}{ab TK:Bool}{MV:Option Bool}{Tv:Option ce}{SV SU SS SR SQ:Option ci}{XO XN:ClassData}(e1:Aw K ge "NoText"=al (al (.ref C)))(e2:Aw K ge "TreeError"=al (al (.ref TE)))(e3:Ey K TE yg "ValueError.__new__"=true)(e4:K.lookup C=al (Db nm q C Nn bs (.ref TE::yg) iQ sn sub ab col dd k0 k1 k2 k3 k5 "ValueError.__new__"))(e5:BA K (.ref C) "__call__"=al (al (.builtin "type.__call__")))(e6:Bb K C (.ref C)=al true)(e7:Ao K (.ref C) "__init__"=al (al (.ref f)))(e8:B9 K (.ref f)=true)(e9:AG K (.ref C)=true)(e10:BA K (.ref TE) "__getattribute__"=al (al (.builtin "type.__getattribute__")))(e11:PySem.W.readsIn K TE (.type "type")=true)(e12:PySem.W.findCls K (.ref TE) (.type "type") "__init__"=al (.val (.builtin "ValueError.__init__")))(e13:Bb K C (.type "ValueError")=al true)(e14:Ao K (.ref C) "__getattribute__"=al (al (.builtin "BaseException.__getattribute__")))(e15:Ao K (.ref C) "__getattr__"=al bn)(e16:Bb K C (.type "BaseException")=al true)(e17:BC K C=true)(e18:Ao K (.ref C) "place"=al bn)(e19:Ao K (.ref C) "__setattr__"=al (al (.builtin "object.__setattr__")))(e20:Bb K C (.type "object")=al true)(e21:K.lookup TE=al (Db Sy q' TE X2 Jm yg GI Sb Kx TK MV Tv SV SU SS SR SQ "ValueError.__new__"))(e22:Ao K (.ref C) "__class__"=al (al (.builtin "object.__class__")))(e23:BA K (.builtin "object.__class__") "__get__"=al (al (.builtin "getset_descriptor.__get__")))(e24:D8 K (.builtin "object.__class__")=al true)(e25:Aw K ge "NoLine"=al (al (.ref NL)))(e26:Aw K ge "NoWay"=al (al (.ref NW)))(e27:Bi K NL=al XO)(e28:Bi K NW=al XN)(e29:Dj K (.ref NL)=al (.type "type"))(e30:Dj K (.ref NW)=al (.type "type"))(e31:C2 K (.ref C) (.ref NL)=al false)(e32:C2 K (.ref C) (.ref NW)=al false)(e33:C2 K (.ref C) (.type "ValueError")=al true)(e34:(Ar C==Ar NL)=false)(e35:(Ar C==Ar NW)=false)(e36:K.lookup f=al ⟨Sr,Sq,.func (AY "__init__" "NoText.__init__" (bA (dY 0 sN)) (aY (dY 0 sN)) (aj (dY 0 sN)) .none SO MJ Sm TJ Fz Tz),Ld⟩)(e37:Bx K Fz "NoText.__init__"=true)(e38:AG K (.ref f)=true):XD K:=by
 refine⟨C,TE,NL,NW,f,_,e1,e2,e25,e26,iR e36 e37 e38,⟨⟨nm,q,Nn,bs,_,iQ,sn,sub,ab,col,dd,k0,k1,k2,k3,k5,e4,λh X=>xC X e3⟩,e5,e6,e7,e8⟩,e9,⟨e10,e11,e12,e13⟩,⟨e19,e20,e18,?_⟩,⟨⟨_,_,_,_,_,_,_,_,_,_,_,_,_,_,_,e4⟩,⟨_,_,_,_,_,_,_,_,_,_,_,_,_,_,_,e21⟩⟩,⟨e14,e15,e16,e17,e22,e23,e24,e20⟩,⟨e14,e15,e16,e17,e18⟩,Qq (LC e34 ⟨_,e27⟩ e29 e31) (LC e35 ⟨_,e28⟩ e30 e32),Qp e33⟩;obtain⟨cd,hc,hd⟩:=Cr e17;refine⟨cd,hc,hd,?_⟩;unfold Bi at hc;rw[e4]at hc;cases hc;rfl
def Vc{K:Aa}{N:ce}{KH:Sp}(F:ba P w K mg base (iC P w N) k f fd ps sp)(h:∀vs H Q E,KH vs H Q E->sp vs H Q E0):ba P w K mg base iz k f fd ps KH:=
 ⟨λvs H Q E q=>F.len _ _ _ _ (h _ _ _ _ q),λA outer s H args us vs Q E hr he hb hv hs=>tz (F.run A outer s H args us vs Q E0 hr he hb hv (h _ _ _ _ hs)) λr s' hq=>by
  cases r with
  |error e=>obtain⟨_,_,_,_,_,_,_,_,_,_,_,hE⟩:=hq;exact hE.elim
  |ok fl=>cases fl<;>exact hq⟩
def IJ:∀T n x b n',n<=T.length->jq T n=.ok (x,b,n')->n'<=T.length:=λT n x b n' h e=>by
 unfold jq at e
 split at e
 .next c=>cases e;exact(kE c).choose_spec.2.2
 .split at e
  .cases e
  .cases e;exact Gf h
abbrev RJ:DF:=⟨"read_tree",rQ,["text"],9,λK=>nZ K [.v] (gG 1 Qe)⟩
abbrev RK(fa:ce):DF:=⟨"_law_place",Nt,["_law_read","_law_text_here"],12,λK=>nZ K [.f fa [] [] [],.v] (gG 1 zT)⟩
def Lv{P:ce}{t2:Tok}(X:v.K.In h)(G:h.Ns ge v.mg)(rd:RD v.K)(xd:XD v.K)(e12:DX v.K "take_many" rS)(e13:DX v.K "take_tree_front" mI)(e14:DX v.K "take_behind" zc)(e15:DX v.K "take_nested" rR)(e16:DX v.K "read_all" zd)(e17:DXc v.K "read_tree" rQ P)(e18:DX v.K "_law_place" Nt)(hP:p4 P "read_tree.<locals>.<lambda>")(hl:v.mg "LETTERS"=al (.str yw t1))(hn:v.mg "LONGEST_WORD"=al (.int 8 t2))(q1:v.mg "len"=bn)(q2:v.mg "isinstance"=bn)(q3:v.mg "str"=bn)(q4:v.mg "bool"=bn)(q5:v.mg "int"=bn)(q6:v.mg "ValueError"=bn):∃T1:RJ.C v,Nonempty ((RK T1.f).C v):=by
 obtain⟨C,fi,Rt,fs,Rr,ft,Rq,a,Fi,M,cl,nt,np,Fs,Ms,Ft,X3⟩:=rd.ex;obtain⟨N,TE,NL,NW,fx,Xn,a1,a2,a3,a4,Fx,Mx,kx,Tx,Sx,Ux,X7,Ax,VN,VM⟩:=xd.ex;have R:GZ v.K v.mg C:=⟨cl,nt,np,q1⟩;obtain⟨J1⟩:=e12.Ib (d:=⟨"take_many",rS,["reader","signs","most"],4,λK=>mC C⟩) X G;obtain⟨Jy⟩:=e13.Ib (d:=⟨"take_tree_front",mI,["reader"],5,λK=>gL K C jq⟩) X G;obtain⟨J0⟩:=e14.Ib (d:=⟨"take_behind",zc,["reader","waiting","part"],4,λK=>gM K C⟩) X G;obtain⟨JZ⟩:=e15.Ib (d:=⟨"take_nested",rR,["reader","take_front"],6,λK=>mB K C Jy.f jq⟩) X G;obtain⟨JY⟩:=e16.Ib (d:=⟨"read_all",zd,["text","take"],8,λK=>nZ K [] (gG 1 Qe)⟩) X G;obtain⟨Nc,X4⟩:=e17.Vn (d:=RJ) X G;obtain⟨TY⟩:=e18.Ib (d:=RK Nc.f) X G;have all:∀(b:io) (ad:ce) (fz:O (ce×Obj)),mn Ny [] b ad [] fz->ba v.P v.w v.K v.mg b (iC v.P v.w N) 8 JY.f JY.fd ["text","take"] (Hl v.K ad fz):=λb ad fz L=>by
  have NT:OC v.P v.w v.K v.mg b N:=⟨fx,Xn,Mx,Ln Tx Sx (Bh X G a2) Fx,Fx.binds λ_ _ _ _ _ _=>usN (by (repeat intro _);rfl),Bh X G a1,kx⟩;have S:OG v.P v.w v.K v.mg b C:=⟨fs,Rr,Ms,uf R Fs,Fs.binds λ_ _ _ _ _ _=>usN (by (repeat intro _);rfl)⟩;have T:OE v.P v.w v.K v.mg b N C:=⟨ft,Rq,X3,zG R NT S Ft,Ft.binds λ_ _ _ _ _ _=>usN (by (repeat intro _);rfl)⟩;have X0:lr v.P v.w v.K v.mg b N "take_many" 4 ["reader","signs","most"] (mC C):=⟨J1.f,J1.fd,zI R S T J1.fn,J1.bi,J1.fn.kp,J1.at'⟩;have RS:lr v.P v.w v.K v.mg b N "take_tree_front" 5 ["reader"] (gL v.K C jq):=⟨Jy.f,Jy.fd,wz R S T X0 hl hn Jy.fn,Jy.bi,Jy.fn.kp,Jy.at'⟩;have XZ:lr v.P v.w v.K v.mg b N "take_behind" 4 ["reader","waiting","part"] (gM v.K C):=⟨J0.f,J0.fd,ug R T J0.fn,J0.bi,J0.fn.kp,J0.at'⟩;have XY:lr v.P v.w v.K v.mg b N "take_nested" 6 ["reader","take_front"] (mB v.K C RS.f jq):=⟨JZ.f,JZ.fd,zH IJ RS XZ JZ.fn,JZ.bi,JZ.fn.kp,JZ.at'⟩;obtain⟨A⟩:=HN RS XY L;exact HP R NT ⟨fi,Rt,M,wy R NT q2 q3 Fi,Fi.binds λ_ _ _ _ _ _=>usN (by (repeat intro _);rfl),Bh X G a⟩ A JY.fn
 have tr:=zF (base:=v.base) X4 hP JY.bi JY.fn.kp JY.at' all Nc.fn;refine⟨Nc.c (Vc tr λvs H Q E ⟨tb,n,l,h,q⟩=>?_),⟨TY.c (Ll ⟨Ux,X7,Ax,Bh X G a2,Bh X G a1,Bh X G a3,Bh X G a4,VN,VM,q6⟩ q2 q4 q5 trivial Nc.fn tr Nc.bi TY.fn)⟩⟩;cases h with
 | @v u x yE VL l' r t=>
 cases t;obtain⟨T,k,y,n',rfl,hT,hk,LR,q⟩:=q;refine⟨u,_,rfl,tb,r,rfl,λz=>absurd rfl (z T),λT' e=>?_⟩;cases e;refine⟨hT,k,_,hk,λm z=>(nomatch z),λy' n2 z=>?_⟩;cases z;exact⟨λl=>absurd l LR,λ_ u' H' k' Pa r'=>q u' H' (GJ k' Pa (λi ψ d e=>by
  match i with
  |0=>cases e
  |i+1=>simp at e)) r'⟩
end
end My
variable{a b:Bu}{px pz:Cs}
namespace L2
section
def Ki(i j k:Nat)(ta:TA):TS:=λD σ H=>ta σ H λvs H1=>∃u v w,vs=[u,v,w]/\D.nx (((σ.set i (al u)).set j (al v)).set k (al w)) H1
def zk{c:im}{ta:TA}{kt k2 oE}(hc:X.calm=true)(hN:X.N.Nodup)(hi:X.N[i]?=al x)(hj:X.N[j]?=al y)(hk:X.N[k]?=al z)(E6:i≠j)(QS:i≠k)(QQ:j≠k)(hx:X.env.scope.names.lookup x=al .local)(hy:X.env.scope.names.lookup y=al .local)(hz:X.env.scope.names.lookup z=al .local)(ha:PA X [a,b,c] ta)(hw:ww [.Tuple [.Name x px,.Name y py,.Name z pz] kt pt] (.Tuple [a,b,c] k2 oE) X.env=pure (al [x,y,z]))(hs:‹wp [.Tuple [.Name x px,.Name y py,.Name z pz] kt pt] (.Tuple [a,b,c] k2 oE) pos.line X.env=pure false›):PS X (.Assign [.Tuple [.Name x px,.Name y py,.Name z pz] kt pt] (.Tuple [a,b,c] k2 oE) pos) (Ki i j k ta):=by
 intro Z s σ H D I h;refine Ab (BK ?_);refine Ab (Ae ?_);refine Ab (Tuple_ (bb (ha _ Z s σ H _ I h) λus s1 ⟨vs,H1,I1,r1,q1⟩=>?_));obtain⟨v1,v2,v3,e1,q1⟩:=q1;subst e1;obtain⟨u1,u2,u3,rfl,ra,rb,rc⟩:∃u1 u2 u3,us=[u1,u2,u3]/\RelV v1 u1/\RelV v2 u2/\RelV v3 u3:=by
  cases r1 with
  |cons p q=>cases q with
   |cons p' q'=>cases q' with
    |cons U9 U4=>cases U4;exact⟨_,_,_,rfl,p,p',U9⟩
 refine BD ?_ (by show 3<=sizeLine;decide);rw[hw];refine Ab (Ae ?_);refine Ab (D2 (Ab (unpackItems_tuple (items:=#[u1,u2,u3]) (I.ok.hd hc) (IsTup.new s1.heap _) λh' pf=>?_)));refine Ab (ut (CW (cE ((I1.kept λb o e=>Ad _ e).kept (t':=s1.toks) λb o e=>pf b o (AI (Ai e)) e) hN hk (.inl hz) rc (λs2 I4=>?_) (.inr hz))));refine ut (CW (cE I4 hN hj (.inl hy) rb (λs3 I5=>?_) (.inr hy)));refine ut (CW (cE I5 hN hi (.inl hx) ra (λs4 I6=>assignInOrder_nil (Ae ?_)) (.inr hx)));have e:((σ.set k (al v3)).set j (al v2)).set i (al v1)=((σ.set i (al v1)).set j (al v2)).set k (al v3):=by
  rw[DH _ _ (BO QQ),DH _ _ (BO QS),DH _ _ (BO E6)]
 rw[e]at I6;exact⟨_,H1,I6,q1⟩
end
end L2
variable{k2:Nat}
namespace FL
section
variable[bu]{K:Aa}{c:im}{rest:O nn}{T:Type}{x:Bool}{out:T->End}
def SF.Lb{t:Str}{kk:O PV->PV->PV->W T}(hc:X.calm=true)(hN:X.N.Nodup)(hi:X.N[i]?=al y)(hj:X.N[j]?=al z)(hk:X.N[k]?=al t)(E6:i≠j)(QS:i≠k)(QQ:j≠k)(hx:X.env.scope.names.lookup y=al .local)(hy:X.env.scope.names.lookup z=al .local)(hz:X.env.scope.names.lookup t=al .local)(ha:LF X K fs a wl)(hb:EF X K fs b wb)(E8:EF X K fs c wc)(hr:∀u v w,SF X K x (((fs.set i (al (.ol bn u))).set j (al (.val v))).set k (al (.val w))) rest (kk u v w) out)(hw:‹ww [.Tuple [.Name y px,.Name z py,.Name t pz] kt pt] (.Tuple [a,b,c] k2 oE) X.env=pure (al [y,z,t])›)(hs:‹wp [.Tuple [.Name y px,.Name z py,.Name t pz] kt pt] (.Tuple [a,b,c] k2 oE) pos.line X.env=pure false›)(he:‹gt [a,b,c] X.env=(false,jp a X.env)::gt [b,c] X.env›)(xl:‹gt [b,c] X.env=(false,jp b X.env)::gt [c] X.env›)(W4:‹dZ X c []›):SF X K x fs (.Assign [.Tuple [.Name y px,.Name z py,.Name t pz] kt pt] (.Tuple [a,b,c] k2 oE) pos::rest) (.bind wl λu=>.bind wb λv=>.bind wc λw=>kk u v w) out:=
 SF.step (zk hc hN hi hj hk E6 QS QQ hx hy hz (ah ha.p (ah hb.p (ah E8.p ax W4) xl) he) hw hs) λD σ H ⟨sr,q⟩=>⟨sr,wl.mono (λu q1 ad vs H1 g1 s1 n1 e1 v1=>⟨s1,wb.mono (λv q2 u2 H2 g2 s2 v2=>⟨s2,wc.mono (λw q3 u3 H3 g3 s3 v3=>by
  have no:=sr.noOwn n1;have gg:=g2.trans g3;have oa:dH K H3 ad (.ol bn u):=⟨λ_ z=>(nomatch z),vs,gg.gY e1 no,gg.rC s1 v1⟩;have F4:=g3.vr s2 v2;have s4:=s3.qx oa no i;have s5:=s4.dW F4 j;have s6:=s5.dW v3 k;exact⟨_,_,_,rfl,_,kk u v w,hr u v w,s6,(kk u v w).mono (λt q4=>q4.go (((bT.qx s3 (g1.trans gg) no n1 i).trans (bT.dW s4 _ _ j)).trans (bT.dW s5 _ _ k)) sr s6) q3⟩) q2⟩) q1⟩) q⟩
def SF.La{k:O PV->PV->W T}(hc:X.calm=true)(hN:X.N.Nodup)(hi:X.N[i]?=al y)(hj:X.N[j]?=al z)(E6:i≠j)(hx:X.env.scope.names.lookup y=al .local)(hy:X.env.scope.names.lookup z=al .local)(ha:LF X K fs a wl f1)(hb:EF X K f1 b wb f2)(hr:∀u v,SF X K x ((f2.set i (al (.ol bn u))).set j (al (.val v))) rest (k u v) out)(hw:‹ww [.Tuple [.Name y px,.Name z py] kt pt] (.Tuple [a,b] k2 oE) X.env=pure (al [y,z])›)(hs:‹wp [.Tuple [.Name y px,.Name z py] kt pt] (.Tuple [a,b] k2 oE) pos.line X.env=pure false›)(he:‹gt [a,b] X.env=(false,jp a X.env)::gt [b] X.env›)(xl:‹dZ X b []›):SF X K x fs (.Assign [.Tuple [.Name y px,.Name z py] kt pt] (.Tuple [a,b] k2 oE) pos::rest) (.bind wl λu=>.bind wb λv=>k u v) out:=
 SF.step (vR hc hN hi hj E6 hx hy (ah ha.p (ah hb.p ax xl) he) hw hs) λD σ H ⟨sr,q⟩=>⟨sr,wl.mono (λu q1 ad vs H1 g1 s1 n1 e1 v1=>⟨s1,wb.mono (λv q2 u2 H2 g2 s2 v2=>by
  have Vj:¬bx σ f1 ad:=λz=>sr.noOwn n1 (g1.ev.c8 z);have Sw:¬bx σ f2 ad:=λz=>sr.noOwn n1 ((g1.trans g2).ev.c8 z);have oa:dH K H2 ad (.ol bn u):=⟨λ_ z=>(nomatch z),vs,g2.gY e1 Vj,g2.rC s1 v1⟩;have s3:=s2.qx oa Sw i;have s4:=s3.dW v2 j;exact⟨_,_,rfl,_,k u v,hr u v,s4,(k u v).mono (λt q3=>q3.go ((bT.qx s2 (g1.trans g2) Sw n1 i).trans (bT.dW s3 _ _ j)) sr s4) q2⟩) q1⟩) q⟩
end
end FL
variable{e:AN}{s:BW}{E:AO->BW->Prop}{t:PySem.Tok}{c0 kk:Nat}{Î:AO}{Ù:O Bu}{tp:Cs}
namespace L2
def jh(Ö:s.heap.IsStrIter it "str_ascii_iterator" z t i)(hx:z.cps[i]?=al c)(q:∀h':io,h'.IsStrIter it "str_ascii_iterator" z t (i+1)->CN it s.heap h'->Q (.str ⟨#[c]⟩ s.toks) {s with heap:=h',toks:=s.toks+1}):f8 (gl prog w) A (Builtin.SmallTypes.nextOf (.ref it)) Q E s:=by
 obtain⟨o,ho,hc,hd⟩:=id Ö;unfold Builtin.SmallTypes.nextOf;refine Ab (BE Ö.typeIs Br (Ct Br Ö.typeIs C0 ?_ (CP _)));show f8 _ _ (field (.ref it) 0 >>= _) _ _ s;refine Ab (A6 ho hd (x:=.str z t) rfl ?_);show f8 _ _ (field (.ref it) 1 >>= _) _ _ s;refine Ab (A6 ho hd (x:=.int i 0) rfl ?_);simp only[Cn,hx];refine Ab (CU ho hd (by simp) (Ab (wpAny_mkStr (Ae ⟨_,rfl,Ae (q _ ?_ (CN.update ..))⟩) (by show 1<=sizeLine;decide))));exact⟨_,Cj _ ho (Obj.isFreed_of_fields (Obj.data_mapFields hd _)),(Obj.cls_mapFields ..).trans hc,by
  rw[Obj.data_mapFields hd];simp[lf]⟩
def jX(hA:A.handled=bn)(Ö:s.heap.IsStrIter it "str_ascii_iterator" z t i)(hx:z.cps[i]?=bn)(q:∀(h':io) (e:ce),Heap.ExtBut it s.heap h'->(∃o,h'.get? e=al o/\o.cls=.type "StopIteration")->E (.ref e) {s with heap:=h'}):f8 (gl prog w) A (Builtin.SmallTypes.nextOf (.ref it)) Q E s:=by
 obtain⟨o,ho,hc,hd⟩:=id Ö;unfold Builtin.SmallTypes.nextOf;refine Ab (BE Ö.typeIs Br (Ct Br Ö.typeIs C0 ?_ (CP _)));show f8 _ _ (field (.ref it) 0 >>= _) _ _ s;refine Ab (A6 ho hd (x:=.str z t) rfl ?_);show f8 _ _ (field (.ref it) 1 >>= _) _ _ s;refine Ab (A6 ho hd (x:=.int i 0) rfl ?_);simp only[Cn,hx];refine Ab (D2 (Ab (CU ho hd (by simp) (Ab (Es ?_)))));refine y8 hA λh' e k ex=>q h' e (λb o n eb=>k b o ?_) ex;rw[(CN.update _ _ _).2 b n];exact eb
def jr{E:ci->db->Prop}(E7:e≠it)(hz:IsEnum s.heap e it i Î)(hi:s.heap.IsStrIter it "str_ascii_iterator" z t i)(hx:z.cps[i]?=al c0)(q:∀(h':io) (tk:Nat),IsEnumOut h' e it (i+1:Nat) (.str ⟨#[c0]⟩ s.toks) s.heap.objs.size->h'.IsStrIter it "str_ascii_iterator" z t (i+1)->IsPair h' s.heap.objs.size (.int i (s.toks+1)) (.str ⟨#[c0]⟩ s.toks)->(∀c o,c≠e->c≠it->s.heap.get? c=al o->h'.get? c=al o)->Q (.ref s.heap.objs.size) {s with heap:=h',toks:=tk}):f8 (gl prog w) A (Builtin.«enumerate.__next__» {pos:=[.ref e]}) (λfin s'=>∃v,fin=Fin.done (Flow.ret v)/\Q v s') E s:=by
 show f8 _ _ (field (.ref e) 2 >>= λr=>_) _ _ s;refine Ab (A6 hz rfl rfl ?_);refine Ab (jh hi hx λh1 j1 b1=>?_);have z1:=(b1.2 _ E7).trans hz;refine Ab (A6 z1 rfl rfl ?_);refine Ab (A6 z1 rfl rfl ?_);refine Ab (wpAny_mkInt ?_);refine Ab (Ca z1 (show 3 < 6 by decide) λh2 z2 b2=>?_);refine Ab (Ca z2 (show 4 < 6 by decide) λh3 z3 b3=>?_);refine Ab (wpAny_newTuple ?_ (by show 2<=sizeLine;decide));have kp:∀b o,h3.get? b=al o->(h3.push {cls:=.type "tuple",data:=.seq [CI i (s.toks+1),DK ⟨#[c0]⟩ s.toks].toArray}).get? b=al o:=λb o e=>Ad _ e;have HZ:(h3.push {cls:=.type "tuple",data:=.seq [CI i (s.toks+1),DK ⟨#[c0]⟩ s.toks].toArray}).get? h3.objs.size=al {cls:=.type "tuple",data:=.seq #[.int i (s.toks+1),.str ⟨#[c0]⟩ s.toks]}:=Am _ rfl;generalize h3.push {cls:=.type "tuple",data:=.seq [CI i (s.toks+1),DK ⟨#[c0]⟩ s.toks].toArray}=h4 at kp HZ ⊢;have z4:=kp _ _ z3;refine Ab ?_;refine Ab (A6 z4 rfl rfl ?_);refine Ae ?_;refine Ab (D2 ?_);refine Ab (A6 z4 rfl rfl ?_);refine Ab (Ca z4 (show 5 < 6 by decide) λh5 z5 b5=>?_);refine Ab ?_;refine Ab (Ca z5 (show 0 < 6 by decide) λh6 z6 b6=>?_);refine Ca z6 (show 1 < 6 by decide) λh7 z7 b7=>?_;refine Ab (Es ?_);have IH:∀b,b≠e->h7.get? b=h4.get? b:=λb n=>(b7.2 b n).trans ((b6.2 b n).trans (b5.2 b n));have ne:s.heap.objs.size≠e:=λz=>by have:=Ai hz;rw[<- z]at this;exact Bl _ this
 refine Ae ⟨.ref h3.objs.size,rfl,?_⟩;rw[(b3.1.trans (b2.1.trans b1.1))]at z7 HZ ⊢;refine q h7 _ ?_ ?_ ?_ ?_
 .exact z7
 .obtain⟨o,eo,p⟩:=j1;refine⟨o,?_,p⟩;rw[IH _ (BO E7)];exact kp _ _ ((b3.2 _ (BO E7)).trans ((b2.2 _ (BO E7)).trans eo))
 .rw[IsPair,IH _ ne];exact HZ
 .intro c o n1 n2 ec;rw[IH _ n1];exact kp _ _ (((λb n1 n2=>(b3.2 b n1).trans ((b2.2 b n1).trans (b1.2 b n2))) _ n1 n2).trans ec)
def kj{Q:PySem.Fin->db->Prop}(hA:A.handled=bn)(hz:IsEnum s.heap e it i Î)(hi:s.heap.IsStrIter it "str_ascii_iterator" z t i)(hx:z.cps[i]?=bn)(q:∀(h':io) (x:ce),(∀c o,c≠it->s.heap.get? c=al o->h'.get? c=al o)->(∃o,h'.get? x=al o/\o.cls=.type "StopIteration")->E (.ref x) {s with heap:=h'}):f8 (gl prog w) A (Builtin.«enumerate.__next__» {pos:=[.ref e]}) Q E s:=by
 show f8 _ _ (field (.ref e) 2 >>= λr=>_) _ _ s;exact Ab (A6 hz rfl rfl (Ab (jX hA hi hx λh' x k ex=>q h' x (λc o n e'=>k c o n e') ex)))
def gP{Q:Option ci->db->Prop}(E7:e≠it)(hz:IsEnum s.heap e it i Î)(hi:s.heap.IsStrIter it "str_ascii_iterator" z t i)(hx:z.cps[i]?=al c0)(q:∀(h':io) (tk:Nat),IsEnumOut h' e it (i+1:Nat) (.str ⟨#[c0]⟩ s.toks) s.heap.objs.size->h'.IsStrIter it "str_ascii_iterator" z t (i+1)->IsPair h' s.heap.objs.size (.int i (s.toks+1)) (.str ⟨#[c0]⟩ s.toks)->(∀c o,c≠e->c≠it->s.heap.get? c=al o->h'.get? c=al o)->Q (al (.ref s.heap.objs.size)) {s with heap:=h',toks:=tk}):f8 (gl prog w) A (pyNext (.ref e)) Q E s:=by
 have ty:s.TypeIs (.ref e) "enumerate":=⟨_,hz,rfl⟩;refine Ab (C3 (BE ty Ck (Ct Ck ty D1 ?_ (DL _))));exact jr E7 hz hi hx λh' tk a b c d=>Ae (q h' tk a b c d)
def iE{Q:Option ci->db->Prop}(hA:A.handled=bn)(hz:IsEnum s.heap e it i Î)(hi:s.heap.IsStrIter it "str_ascii_iterator" z t i)(hx:z.cps[i]?=bn)(q:∀h':io,(∀c o,c≠it->s.heap.get? c=al o->h'.get? c=al o)->Q bn {s with heap:=h'}):f8 (gl prog w) A (pyNext (.ref e)) Q E s:=by
 have ty:s.TypeIs (.ref e) "enumerate":=⟨_,hz,rfl⟩;refine Ab (C3 (BE ty Ck (Ct Ck ty D1 ?_ (DL _))));refine kj hA hz hi hx λh' x k ex=>?_;obtain⟨o,eo,hc⟩:=ex;exact Ab (wpAny_isInstance ⟨o,eo,hc⟩ isSubtype_stop (Ae (q h' k)))
def jk(z:Str)(t:Tok):Meets (Builtin.«enumerate.__new__» {pos:=[.type "enumerate",.str z t]}) (λ_ R s=>z.cps.all (· < 128)=true/\
  ∀h':io,IsEnum h' (s.heap.objs.size+1) s.heap.objs.size (0:Nat) .none->h'.IsStrIter s.heap.objs.size "str_ascii_iterator" z t 0->(∀b o,s.heap.get? b=al o->h'.get? b=al o)->R (.ok (.ret (.ref (s.heap.objs.size+1)))) {s with heap:=h'}):=
 .of_wp λprog w A R s h=>by
  obtain⟨h1,q⟩:=h;refine Ab ?_;refine Ab (C4 rfl ?_);refine Ab (C4 sub_enumerate ?_);refine Ae ?_;refine Ab ?_;refine Ab (wpAny_stack_any λst=>Ae ?_);have fin:f8 (gl prog w) A.in1 (pyIter (.str z t) >>= λit=>(Builtin.SmallTypes.newRecord (.type "enumerate") (Builtin.SmallTypes.ownedTupleFields++[it,lf 0,.none,.none]) >>= λr=>ret r)) (λfin s'=>∃v,fin=Fin.done (Flow.ret v)/\R (Except.ok (Flow.ret v)) s') (λe s'=>R (Except.error e) s') s:=by
   refine Ab (wpAny_pyIter_ascii h1 ?_);have k1:∀b o,s.heap.get? b=al o->(s.heap.push {cls:=.type "str_ascii_iterator",data:=.fields #[.str z t,.int 0 0]}).get? b=al o:=λb o e=>Ad _ e;have g1:(s.heap.push {cls:=.type "str_ascii_iterator",data:=.fields #[.str z t,.int 0 0]}).get? s.heap.objs.size=al {cls:=.type "str_ascii_iterator",data:=.fields #[.str z t,.int 0 0]}:=Am _ rfl;have z1:(s.heap.push {cls:=.type "str_ascii_iterator",data:=.fields #[.str z t,.int 0 0]}).objs.size=s.heap.objs.size+1:=Bm ..;generalize s.heap.push {cls:=.type "str_ascii_iterator",data:=.fields #[.str z t,.int 0 0]}=QG at k1 g1 z1 ⊢;show f8 _ _ (newObj (.type "enumerate") (.fields #[.none,.bool false,.ref s.heap.objs.size,lf 0,.none,.none]) >>= λr=>ret r) _ _ _;refine Ab (BD ?_ (by simp[sizeOk];decide));have g2:(QG.push {cls:=.type "enumerate",data:=.fields #[.none,.bool false,.ref s.heap.objs.size,lf 0,.none,.none]}).get? QG.objs.size=al {cls:=.type "enumerate",data:=.fields #[.none,.bool false,.ref s.heap.objs.size,lf 0,.none,.none]}:=Am _ rfl;refine Ae ⟨.ref QG.objs.size,rfl,?_⟩;rw[z1]at g2 ⊢;exact q _ g2 ⟨_,Ad _ g1,rfl,rfl⟩ λb o e=>Ad _ (k1 _ _ e)
  refine wpAny_ite_split (λ_=>?_) (λ_=>?_)
  .exact Ab (C4 rfl fin)
  .exact Ab (C4 rfl fin)
def rg(h1:z.cps.all (· < 128)=true)(q:∀h':io,IsEnum h' (s.heap.objs.size+1) s.heap.objs.size (0:Nat) .none->h'.IsStrIter s.heap.objs.size "str_ascii_iterator" z t 0->(∀b o,s.heap.get? b=al o->h'.get? b=al o)->Q (.ref (s.heap.objs.size+1)) {s with heap:=h'}):f8 (gl prog w) A (call (.type "enumerate") [.str z t]) Q E s:=
 callType_new F.called_enumerate ⋯ (F.typeCall_enumerate_1 _) (F.newCall_enumerate_1 _) (λo=>F.args_object_init_2 o _) F.entry_enumerate_new (jk z t) ⟨h1,λh' y i k=>⟨⟨_,y,rfl⟩,q h' y i k⟩⟩
def TQ(z:Str):It where
 go:=λi _=>i<z.cps.size
 JA:=λi H v H'=>∃p c,v=.ref p/\H p=bn/\H'=upd H p (.tup [.int i,.str ⟨#[c]⟩])/\z.cps[i]?=al c
 stop:=λi _=>z.cps.size<=i
def qh{K:Aa}(E7:e≠it):Turn P w K (.Tuple Ù kk pos) (TQ z) [e,it] e (λi h=>(∃Î,IsEnum h e it (i:Nat) Î)/\h.IsStrIter it "str_ascii_iterator" z t i) where
 mem:=by simp
 obj:=λi h st b hb=>by
  simp at hb;rcases hb with rfl|rfl
  .obtain⟨⟨_,e⟩,_⟩:=st;exact⟨_,e,λv z=>by cases z⟩
  .obtain⟨_,⟨o,e,_,d⟩⟩:=st;exact⟨o,e,λv z=>by rw[d]at z;cases z⟩
 keep:=λi h h' st k=>⟨let ⟨o,e'⟩:=st.1;⟨o,k e (by simp) _ e'⟩,let ⟨o,e',p⟩:=st.2;⟨o,k it (by simp) _ e',p⟩⟩
 item:=by
  intro X hP hw hK hc i Z s σ H E I hf st hg;subst hP hw hK;have hg:i<z.cps.size:=hg;have gu:z.cps[i]?=al z.cps[i]:=by simp[hg]
  obtain⟨⟨Î,hz⟩,hi⟩:=st;refine gP E7 hz hi gu λh' tk zo j np k=>?_;refine⟨_,rfl,?_⟩;refine wpAny_letOwnedTupleGo_enum zo λh2 z2 b2=>?_;have le:=Ai hz;have li:=let ⟨_,e',_⟩:=hi;Ai e';have lt:∀b∈[e,it],b<s.heap.objs.size:=λb hb=>by
   simp at hb;rcases hb with rfl|rfl
   .exact le
   .exact li
  have VO:∀b o,b∉[e,it]->s.heap.get? b=al o->h2.get? b=al o:=λb o hb e'=>by
   have LN:b≠e:=λq=>hb (by simp[q]);rw[b2.2 b LN];exact k b o LN (λq=>hb (by simp[q])) e'
  refine⟨.ref s.heap.objs.size,upd H s.heap.objs.size (.tup [.int i,.str ⟨#[z.cps[i]]⟩]),I.vm hf VO (Aj _) ⟨by show 2<=sizeLine;decide,[.int i (s.toks+1),.str ⟨#[z.cps[i]]⟩ s.toks],.cons ⟨_,rfl⟩ (.cons ⟨_,rfl⟩ .nil),⟨_,((b2.2 _ (λy=>Bl _ (by have:=le;rw[<- y]at this;exact this))).trans np),rfl,_,rfl⟩,_,((b2.2 _ (λy=>Bl _ (by have:=le;rw[<- y]at this;exact this))).trans np),rfl⟩,rfl,⟨_,_,rfl,(I.aW.fresh (Aj s.heap.objs.size)),rfl,gu⟩,⟨⟨_,z2⟩,let ⟨o,e',p⟩:=j;⟨o,(b2.2 _ (BO E7)).trans e',p⟩⟩,λb hb=>?_⟩;rw[ag (AI (lt b hb))];exact(hf b hb).1
 done:=by
  intro X hP hw hK hc i Z s σ H E I hf st hg;subst hP hw hK;have hg:z.cps.size<=i:=hg;obtain⟨⟨Î,hz⟩,hi⟩:=st;refine iE (I.ok.hd hc) hz hi (by simp[hg]) λh' k=>⟨rfl,I.yW hf λb o hb e'=>k b o (λy=>hb (by simp[y])) e'⟩
 self:=λA i s Q E st h=>let ⟨_,e'⟩:=st.1;wpAny_pyIter_enum e' h
def Iy(t1:TE):TI:=λσ H R=>t1 σ H λx H1=>∃z,x=.str z/\z.cps.all (· < 128)=true/\R (TQ z) H1
def vW{t1:TE}(hg:Gl X "enumerate")(hm:X.mg "enumerate"=bn)(h1:PE X e1 t1)(sL:‹dZ X e1 []›):PI X (.Tuple Ù kk tp) (.Call (.Name "enumerate" p1) [e1] [] p2) (Iy t1):=by
 intro Z s σ H R I h;refine AW (j7 I hg hm boot_enumerate ?_ ⋯ ⋯);refine Cm ?_ sL rfl;rw[sL];refine BN (bb (h1 Z s σ H _ I h) λu1 s1 ⟨x,H1,I1,r1,z,ex,ha,q⟩=>CS ?_);subst ex;obtain⟨t,rfl⟩:=r1;refine rg ha λh' ze hi k=>?_;refine wpAny_pyIter_enum ze ?_;refine⟨_,_,_,_,H1,rfl,I1.kept k,qh (Nat.succ_ne_self _),⟨⟨_,ze⟩,hi⟩,λc hc=>?_,q⟩;have hle:s1.heap.objs.size<=c:=by
  simp at hc;rcases hc with rfl|rfl
  .exact DP _ _
  .exact Aj _
 exact I1.Fd hle (I1.aW.fresh hle)
end L2
namespace FL
section
variable[bu]{K:Aa}{e:im}{w:W PV}
def xM:PV->W (O PV)
 |.str z=>.gh (z.cps.size<=sizeLine/\z.cps.all (· < 128)=true) (.ret (gm 0 (z.cps.toList.map λc=>.str ⟨#[c]⟩)))
 |_=>.fail
def w6(hg:Gl X "enumerate")(hm:X.mg "enumerate"=bn)(h:EF X K fs e w au)(sL:‹dZ X e []›):tL X K fs (.Tuple Ù kk tp) (.Call (.Name "enumerate" p1) [e] [] p2) (.bind w xM) au:=
 ⟨PI.imp (vW hg hm h.p sL) λσ H R ⟨sr,q⟩=>⟨sr,w.mono (λx q1 u1 H1 g1 s1 v1=>by
  cases v1 with
  |str z=>
   obtain⟨⟨c1,c2⟩,q1⟩:=q1;refine⟨z,rfl,c2,q1 _ H1 g1 s1 ⟨by rw[iT];simpa using c1,λH' t=>⟨λi p hp=>?_,?_⟩⟩⟩
   .obtain⟨y,hy,rfl⟩:=ma hp;rw[AE]at hy;cases ec:z.cps.toList[i]? with
    |none=>rw[ec]at hy;cases hy
    |some c=>
     rw[ec]at hy;have ey:=(Option.some.inj hy).symm;subst ey;have hi:=(Ag.mp ec).1;refine⟨(show i<z.cps.size by simpa using hi),λx H3 yy=>?_⟩;obtain⟨pp,d,rfl,hn,rfl,hd⟩:=yy;have:z.cps[i]?=al c:=by simpa using ec
     rw[this]at hd;cases hd;have sm:=dU hn (.tup [.int (i:Int),.str ⟨#[c]⟩]);exact⟨sm,.tup ao (.cons (by rw[Nat.zero_add];exact .int _) (.cons (.str _) .nil))⟩
   .show z.cps.size<=_;rw[iT];simp
  |_=>exact q1.elim) q⟩⟩
end
end FL
namespace My
def dJ(bF:PV)(k_:PV):W (O PV):=
 am (gx (am (am (ap bF) gX) λl2=>ap (!l2.isEmpty)) (n8 (am (ap bF) je) (b2 oMod (ap k_) (c1 iq (ap bF)))) (ap (.int 0))) λfM=>
 am (b2 c9 (b2 oMod (c1 k8 (ap fM)) (b2 c9 (b2 c9 (b2 gS (ap (.int 10)) (ap (.int 60))) (b2 gS (ap (.int 10)) (ap (.int 60)))) (b2 gS (ap (.int 10)) (ap (.int 60))))) (c1 kC (b2 Lq (c1 k8 (ap fM)) (b2 gS (ap (.int 10)) (ap (.int 18)))))) λsP=>
 (sP\λx4=>am (b2 oMod (b2 c9 (w2 addW (w2 addW (b2 oMod (ap fM) (ap (.int 2305843009213693921))) (b2 c9 (b2 c9 (ap (.int 104729)) (ap k_)) (ap k_))) (ap (.int 7))) (ap (.int 48271))) (ap (.int 2305843009213693951))) λx5=>ap [x4,x5])
def bD:Nat->PV->W PV
 |0,_=>W.fail
 |n+1,jK=>
 gx (am (am (ap jK) (kU .str)) fg) (
 (ap jK)) (
 (w2 addW (w2 addW (ap (.str "(")) ((.str ",")\λx4=>am (Pp x4) λu5=>am (am (am (ap jK) je) λl1=>jZ l1 λp2=>(p2\λx3=>bD n x3)) λl6=>wY u5 l6)) (ap (.str ")"))))
def dq(ai:PV)(qj:PV):W PV:=
 am (am (w2 addW (c1 iq (ap ai)) (ap (.int 1))) λx1=>bG x1) λJq=>am (am (w2 addW (c1 iq (ap ai)) (ap (.int 1))) λx2=>bG x2) λxA=>
 am (n8 (am (ap qj) je) (am (c1 iq (ap qj)) λx6=>bG x6)) λgr=>
 am (Jq\λx7=>xA\λx8=>kL yj [x7,x8]) λdE=>am (Jq\λx9=>xA\λyU=>kL yk [x9,yU]) λgz=>
 am (am (ai\λJ9=>bn\λWt=>am (am (ap dE) part) λV8=>eX J9 Wt V8) λG6=>am (w2 addW (ai\λUH=>bn\λWr=>am (am (ap dE) part) λV7=>eX UH Wr V7) (ai\λO3=>am (am (w2 addW (ap dE) (ap (.int 1))) part) λWq=>bn\λV6=>eX O3 Wq V6)) λJ7=>am (w2 addW (w2 addW (ai\λUD=>bn\λWo=>am (am (ap dE) part) λV5=>eX UD Wo V5) (ap gr)) (ai\λUB=>am (am (ap dE) part) λWn=>bn\λV4=>eX UB Wn V4)) λG5=>ap [G6,J7,G5]) λrM=>
 am (w2 addW (w2 addW (ai\λUz=>bn\λWm=>am (am (ap dE) part) λV3=>eX Uz Wm V3) (ap gr)) (ai\λUw=>am (am (w2 addW (ap dE) (ap (.int 1))) part) λWk=>bn\λV1=>eX Uw Wk V1)) λO0=>am (uS rM O0) λrL=>
 am (w2 addW (w2 addW (ap gr) (ai\λOZ=>am (am (w2 addW (ap dE) (ap (.int 1))) part) λWj=>am (am (ap gz) part) λV0=>eX OZ Wj V0)) (ap gr)) λlR=>
 am (w2 addW (w2 addW (ai\λOX=>bn\λWi=>am (am (ap dE) part) λVZ=>eX OX Wi VZ) (ap lR)) (ai\λOW=>am (am (ap gz) part) λWh=>bn\λVY=>eX OW Wh VY)) λOV=>am (uS rL OV) λrK=>
 am (rK\λVA=>am (am (w2 addW (w2 addW (ai\λOU=>bn\λWg=>am (am (ap dE) part) λVX=>eX OU Wg VX) (ai\λOT=>am (am (ap gz) part) λWf=>bn\λVW=>eX OT Wf VW)) (ai\λUj=>am (am (ap dE) part) λWe=>am (am (ap gz) part) λVV=>eX Uj We VV)) λUi=>ap [Ui]) λVz=>k7 VA Vz) λrJ=>
 am (rJ\λVw=>am (am (w2 addW (ap ai) (ai\λUg=>am (am (ap dE) part) λWc=>am (am (ap gz) part) λVU=>eX Ug Wc VU)) λUe=>am (w2 addW (ai\λOQ=>bn\λWb=>am (am (ap gz) part) λVT=>eX OQ Wb VT) (ai\λOP=>am (am (ap dE) part) λWa=>bn\λVS=>eX OP Wa VS)) λOO=>ap [Ue,OO]) λVv=>k7 Vw Vv) λrH=>
 am (rH\λVu=>am (am (w2 addW (ap ai) (ap gr)) λT6=>am (w2 addW (ap gr) (ap ai)) λOM=>ap [T6,OM]) λVt=>k7 Vu Vt) λmE=>
 (n8 (ap mE) (am (am (ap mE) uv) λOL=>bG OL))
def cQ(ai:PV):W PV:=
 []\λjU=>(.int 0)\λiL=>(.bl false)\λmv=>
 am (am (ap ai) xM) λQl=>am (eK Ql ((.cl jU),iL,mv) λp5 s4=>am (Nl p5) λt6=>(
 am (b2 zN (ap t6.2) (ap (.str "abcdefghijklmnopqrstuvwxyz"))) λdw=>
 gx (ou (am (ap dw) fg) (XJ oLt oLt (ap (.int 0)) (ap s4.2.1) (ap (.int 8)))) (
 am (w2 addW (ap s4.2.1) (ap (.int 1))) λlX=>
 ap (.go (s4.1,lX,s4.2.2))) (
 gx (ou (t2 iJ (ap s4.2.1) (ap (.int 0))) (Ha (am (ap s4.2.2) fg))) (
 gx (ou (Ha (am (ap dw) fg)) (t2 jg (ap t6.2) (ap (.str "(")))) (
 t6.1\λx9=>ap (Lp.out x9)) (
 am (c1 kC (ap dw)) λj5=>
 am (am (am (ap s4.1) gX) λVH=>am (am ((.int 0)\λKb=>ap [Kb]) λVI=>am (c1 kC (b2 iJ (ap t6.2) (ap (.str "(")))) λG7=>vI VI G7) λVG=>k7 VH VG) λlO=>
 ap (.go ((.cl lO),j5,s4.2.2)))) (
 gx (ou (am (am (ap s4.1) gX) λQo=>ap (!Qo.isEmpty)) (t2 iJ (ap t6.2) (n8 ((.str ",")\λG6=>am (ap (.str ")")) λJ8=>ap [G6,J8]) (n8 (am (ap s4.1) je) (am (ap (.int 1)) zQ))))) (
 am (am (am (am (ap s4.1) gX) λQm=>bn\λQy=>am (am (am (ap (.int 1)) zQ) part) λQs=>ap (iU Qm Qy Qs)) λVD=>am (am ((.int 1)\λJ7=>ap [J7]) λVE=>am (c1 kC (b2 iJ (ap t6.2) (ap (.str ",")))) λO2=>vI VE O2) λVC=>k7 VD VC) λlN=>
 (.int 0)\λj4=>am (b2 iJ (ap t6.2) (ap (.str ")"))) λom=>
 ap (.go ((.cl lN),j4,om))) (
 t6.1\λG5=>ap (Lp.out G5)))))) (sQ (λs4=>
 (gx (ou (am (am (ap s4.1) gX) λLB=>ap (LB.isEmpty)) (Kc (t2 HS (ap s4.2.1) (ap (.int 0))) (am (ap s4.2.2) fg))) (ap .a8) (c1 iq (ap ai)))) id)
def bO(ai:PV):W PV:=
 am (ai\λx2=>cQ x2) λtu=>
 gx (Kc (t2 jg (ai\λx4=>zT x4) (ap tu)) (t2 jg (ai\λx3=>zT x3) (ap tu))) (
 (ap (.bl false))) (
 (Va (b2 sA (ap tu) (ap .a8)) (b2 iJ (am (ai\λx5=>Qe x5) λx6=>bD 90 x6) (ap ai))))
def j0(bF:PV):W PV:=
 am (am (ap (.str "(")) λx2=>am (ap (.str ")")) λx3=>(.str ",")\λx4=>(.str "a")\λx5=>(.str "z")\λx6=>(.str "aaaa")\λx7=>(.str "abcdefgh")\λx8=>(.str " ")\λx9=>(.str "A")\λyU=>(.str "1")\λO6=>(.str ".")\λKb=>ap [x2,x3,x4,x5,x6,x7,x8,x9,yU,O6,Kb]) λrO=>
 am (am (am (ap (.cl rO)) gX) λQo=>am ((.str "\n")\λG7=>(.str "~")\λKa=>(.str "[")\λJ9=>(.str ";")\λG6=>am (ap (.str "()")) λJ8=>ap [G7,Ka,J9,G6,J8]) λQn=>k7 Qo Qn) λfh=>
 am (am (w2 addW (ap (.int 1)) (am (am (am (ap bF) gX) λQm=>bn\λQy=>am (am (ap (.int 16)) part) λQs=>ap (iU Qm Qy Qs)) uv)) lI) λVp=>am (eK Vp () λz0 Nw=>(
 am (bF\λO1=>z0\λUC=>dJ O1 UC) λg8=>K4 cz g8 (
 am ((.int 10)\λG5=>cu G5) λcA=>
 am (am (xt (am (am (ap (.cl cA)) gX) λQl=>bn\λWl=>am (am (w2 addW (ap (.int 1)) ((.int 10)\λUA=>bG UA)) part) λV2=>ap (iU Ql Wl V2))) λUy=>bV Uy) λfV=>
 am (fV\λO0=>bD 90 O0) λbQ=>
 am (am (ap (.int 12)) lI) λVx=>am (eK Vx () λyX Gd=>(
 gx (Ha (am (am (bQ\λOZ=>(.cl fh)\λUv=>dq OZ Uv) λUu=>bO Uu) fg)) (
 (.bl false)\λOY=>ap (Lp.out OY)) (
 ap (.go ())))) (sQ (λGd=>
 am (am (.a8\λOX=>(.bl true)\λUt=>(.int 0)\λUs=>(.int 7)\λOW=>(.tup [])\λOV=>am (xt (ap [])) λUr=>(Oz [])\λUq=>am (fV\λUp=>fV\λOU=>ap (.tup [Up,OU])) λUo=>am (xt (bQ\λUm=>ap [Um])) λOT=>am (bQ\λUl=>ap (.tup [Ul])) λUk=>ap (.tup [OX,Ut,Us,OW,OV,Ur,Uq,Uo,OT,Uk])) je) λVy=>am (eK Vy () λoq Nu=>(
 gx (t2 jg (oq\λUh=>zT Uh) (ap (.int 0))) (
 (.bl false)\λOS=>ap (Lp.out OS)) (
 ap (.go ())))) (sQ (λNu=>
 ap (.go ())) Lp.out)) Lp.out)))) (sQ (λNw=>
 am ((.str "")\λUd=>am (ap (.str "(")) λUc=>am (ap (.str "((")) λOQ=>(.str "a,")\λUb=>am (ap (.str "(a")) λUa=>am (ap (.str "(a,")) λOP=>am (ap (.str "(a,b")) λOO=>am (ap (.str "(a,b))")) λT9=>(.str "a b")\λT8=>(.str "abcdefghi")\λT7=>ap [Ud,Uc,OQ,Ub,Ua,OP,OO,T9,T8,T7]) λrG=>
 am (am (am (ap (.cl rG)) gX) λVs=>am (am (ap (.str "(a,b)c")) λOM=>am (ap (.str ")")) λT5=>(.str ",")\λT4=>am (ap (.str "(,a)")) λOL=>am (ap (.str "(a)")) λT3=>ap [OM,T5,T4,OL,T3]) λVr=>k7 Vs Vr) λrF=>
 (am (am (am (ap (.cl rF)) je) λVq=>jZ Vq λSn=>(Sn\λTZ=>bO TZ)) yo)) id)
end My
variable{x:PL.PV}
namespace My
def Tr.pv:Tr->PV
 |.leaf x=>.str x
 |.node l r=>.tup [l.pv,r.pv]
theorem Jr(h:l.length<1000):uS l x=.ret (l++[x]):=xL (by have:=cf (Aj _);lia)
end My
variable{a b d:Int}
namespace My
theorem mulL(h:-1000000000<=a/\a<=1000000000):xz a b:=wG ∅ ∅
theorem mulR(h:-1000000000<=b/\b<=1000000000):xz a b:=mul_r ∅ ∅
theorem qF(h0:0<=d)(h1:d<6):∃st:Int,eV [PV.int 1,PV.int 3,PV.int 5,PV.int 7,PV.int 9,PV.int 11] d=al (.int st)/\(st=1\/st=3\/st=5\/st=7\/st=9\/st=11):=by
 have:d=0\/d=1\/d=2\/d=3\/d=4\/d=5:=by omega
 rcases this with rfl|rfl|rfl|rfl|rfl|rfl
 .exact⟨1,rfl,by decide⟩
 .exact⟨3,rfl,by decide⟩
 .exact⟨5,rfl,by decide⟩
 .exact⟨7,rfl,by decide⟩
 .exact⟨9,rfl,by decide⟩
 .exact⟨11,rfl,by decide⟩
theorem fZ{i j:Int}(h:-1000<=i/\i<=1000/\-1000<=j/\j<=1000)(h2:j-i<=1000):okN i j:=⟨by omega,by omega,by omega,by omega,cf ∅⟩
theorem Jp{l:List α}(h:k+1<l.length):∃a x y b,l=a++x::y::b/\a.length=k:=by
 refine⟨l.take k,l[k],l[k+1],l.drop (k+2),?_,by rw[Bc];omega⟩;have e1:l.drop k=l[k]::l.drop (k+1):=A5 (by omega);have e2:=A5 (by omega);rw[<- e2,<- e1,List.take_append_drop]
end My
variable{Q:O PL.PV->Prop}
namespace My
theorem tR:∀ns l Q,cz ns->((gG 1 bG) l).run Q->((λlo l=>gG 1 (bU lo) l) (ns.map PV.int) l).run λt=>Q t.1/\∃HU:O Int,t.2=HU.map PV.int/\cz HU:=by
 rintro ns l Q ⟨g,s,rfl,g0,s0,s1⟩ q
 match l,q with
 |[],q=>exact q.elim
 |_::_::_,q=>exact q.elim
 |[x],q=>
  show(bU _ x).run _;have q:=q;cases x with
  |int m=>
   obtain⟨⟨m0,m1⟩,q⟩:=q;have q:∀d:Int,0<=d->d<m->Q (.int d):=λd h0 h1=>q _ ⟨d,rfl,h0,h1⟩;unfold bU;generalize hA:(2305843009213693951:Int)=A;generalize hB:(6364136223846793005:Int)=B;generalize hC:(1442695040888963407:Int)=C;have A0:0<A:=by omega
   by_cases hg:0<g
   .simp[eV,pd,hg,m0,vC,yD];refine⟨by omega,q _ (BH _ ∅) (Bv _ m0),[g / m,s],rfl,_,_,rfl,Int.ediv_nonneg g0 ∅,s0,s1⟩
   .have e1:xz s B:=wG ∅ ∅;simp[eV,pd,hg,m0,vC,Qu,e1,A0,yD];generalize hM:(s*B+C) % A=M;have M0:0<=M:=by rw[<- hM];exact BH _ ∅
    have M1:M<A:=by rw[<- hM];exact Bv _ A0
    refine⟨wG ∅ ∅,q _ (BH _ ∅) (Bv _ m0),[g,M],rfl,_,_,rfl,g0,M0,by omega⟩
  |_=>exact q.elim
theorem qS{k:Int}(k0:0<=k)(k1:k<=1000)(q:∀l,(∃ms:O Int,l=ms.map PV.int/\cz ms)->Q l):(dM (.cl (ns.map PV.int)) (.int k)).run Q:=by
 unfold dM;generalize hA:(2305843009213693951:Int)=A;generalize hB:(2305843009213693921:Int)=B;have A0:0<A:=by omega
 have B0:0<B:=by omega
 have fin:∀x:Int,(am (b2 c9 (b2 oMod (c1 k8 (ap (.int x))) (b2 c9 (b2 c9 (b2 gS (ap (.int 10)) (ap (.int 60))) (b2 gS (ap (.int 10)) (ap (.int 60)))) (b2 gS (ap (.int 10)) (ap (.int 60))))) (c1 kC (b2 Lq (c1 k8 (ap (.int x))) (b2 gS (ap (.int 10)) (ap (.int 18)))))) λeJ=>
 (eJ\λx4=>am (b2 oMod (b2 c9 (w2 addW (w2 addW (b2 oMod (ap (.int x)) (ap (.int B))) (b2 c9 (b2 c9 (ap (.int 104729)) (ap (.int k))) (ap (.int k)))) (ap (.int 7))) (ap (.int 48271))) (ap (.int A))) λx5=>ap [x4,x5])).run Q:=by
  intro x;have p1:yC 10 60:=⟨by decide,by decide,by decide⟩;have p2:yC 10 18:=⟨by decide,by decide,by decide⟩;have c1:xz 104729 k:=mulL ∅;have c2:xz (104729*k) k:=mulR ∅;have c3:∀y,xz y 48271:=λy=>mulR ∅;simp only[sB,IU,xL p1,xL p2,xG,nv,Mo,nz,cW,Jg,W.ku,W.mJ,wE,xL c1,xL c2,xL (c3 _),xL A0,xL B0];refine⟨ET (by decide +kernel) (by decide +kernel),ET (by decide +kernel) (by decide +kernel),by decide +kernel,?_,?_⟩
  .split
   .exact mulR ∅
   .exact mulR ∅
  .refine q _ ⟨[_,_],rfl,_,_,rfl,Int.mul_nonneg (BH _ (by decide +kernel)) ?_,BH _ ∅,by rw[hA];exact Bv _ A0⟩
   split<;>first|decide|(split<;>decide)
 cases ns with
 |nil=>
  simp only[EL,sB,cD,List.isEmpty_nil,DJ,AX,if_false];exact fin 0
 |cons n ns=>
  have l0:(0:Int)<((n::ns).map PV.int).length:=by simp
  obtain⟨v,e,e2⟩:=rm (xs:=(n::ns).map PV.int) (BH k ∅) (Bv k l0);rw[AE]at e2;obtain⟨c,rfl⟩:∃c,v=.int c:=by
   cases z:(n::ns)[(k % ((n::ns).map PV.int).length).toNat]? with
   |none=>rw[z]at e2;cases e2
   |some c=>rw[z]at e2;exact⟨c,(Option.some.inj e2).symm⟩
  have e3:(!((n::ns).map PV.int).isEmpty)=true:=rfl;simpa only[sB,cD,e3,if_true,hX,ny,nv,xL l0,i8,e,W.cm]using fin c
theorem oX(h0:0<=d)(h1:d < 3):∃bg:Str,eV [PV.str "",PV.str "",PV.str "ab"] d=al (.str bg)/\Part bg 2:=by
 have:d=0\/d=1\/d=2:=by omega
 rcases this with rfl|rfl|rfl
 .exact⟨"",rfl,by decide +kernel,by decide +kernel⟩
 .exact⟨"",rfl,by decide +kernel,by decide +kernel⟩
 .exact⟨"ab",rfl,by decide +kernel,by decide +kernel⟩
theorem uq(h0:0<=d)(h1:d < 4):∃bg:Str,eV [PV.str "",PV.str "a",PV.str "zz",PV.str "abcde"] d=al (.str bg)/\Part bg 5:=by
 have:d=0\/d=1\/d=2\/d=3:=by omega
 rcases this with rfl|rfl|rfl|rfl
 .exact⟨"",rfl,by decide +kernel,by decide +kernel⟩
 .exact⟨"a",rfl,by decide +kernel,by decide +kernel⟩
 .exact⟨"zz",rfl,by decide +kernel,by decide +kernel⟩
 .exact⟨"abcde",rfl,by decide +kernel,by decide +kernel⟩
theorem oj{m:Int}(m0:0<=m)(m1:m<=26)(q:∀ws:O Str,ws.length=m.toNat->(∀x∈ws,Wd x)->ws.Nodup->Q (ws.map PV.str)):(cu (.int m)).run Q:=by
 unfold cu;simp only[sB,ii,cC 26 ⋯ ⋯,cC 6 ⋯ ⋯,cC 3 ⋯ ⋯];refine bo λd1 a1 b1=>bo λd3 a3 b3=>?_;obtain⟨st,kW,VJ⟩:=qF a3 b3;simp only[i8,kW,W.cm,wE];refine bo λd5 a5 b5=>?_;obtain⟨bg,Xc,SM⟩:=oX a5 b5;simp only[i8,Xc,W.cm,wE,jB,xL (fZ (i:=0) (j:=m) ∅ ∅)];have lb:=SM.1;refine pG (λi s=>∃ws:O Str,s=ws.map PV.str/\ws.length=i/\(∀x∈ws,Wd x)/\(ws.map λx=>x.cps[bg.length]?)=(Cc i).map λk:Nat=>al (97+((d1+st*(0+(k:Int))) % 26).toNat)) ⟨[],rfl,rfl,by simp,rfl⟩ ?_ ?_
 .rintro i s hi ⟨ws,rfl,hl,hw,hs⟩;have e0:0<=(d1+st*(0+(i:Int))) % 26:=BH _ ⋯;have e1:(d1+st*(0+(i:Int))) % 26<26:=Bv _ ⋯;have e2:(d1+st*(i:Int))=d1+st*(0+(i:Int)):=by rw[EM]
  have c1:xz st (i:Int):=mulL ∅;have c2:("abcdefghijklmnopqrstuvwxyz":Str).length<=sizeLine:=by decide +kernel
  have c3:bg.length+(⟨#[97+((d1+st*(0+(i:Int))) % 26).toNat]⟩:Str).length<=sizeLine:=cf (by show bg.length+1<=1000;lia);simp only[sB,ii,cC 4 ⋯ ⋯];refine bo λd7 a7 b7=>?_;obtain⟨en,W3,SK⟩:=uq a7 b7;have le:=SK.1;have c4:(bg++(⟨#[97+((d1+st*(0+(i:Int))) % 26).toNat]⟩:Str)).length+en.length<=sizeLine:=cf (by rw[Af];show bg.length+1+en.length<=1000;lia);simp only[i8,W3,W.cm,wE,sB,xG,xL c1,cW,nv,xL (show(0:Int)<26 by decide),e2,Jd _ _ (uu e0 e1),xL c2,tm,xL c3,xL c4];rw[Jr (by rw[AB,hl];lia)];refine⟨ws++[bg++⟨#[97+((d1+st*(0+(i:Int))) % 26).toNat]⟩++en],by rw[Ed];rfl,by rw[Ap,hl];rfl,?_,by rw[Ed,hs,List.range_succ,Ed,List.map_singleton,List.map_singleton,tP]⟩;intro x hx;rcases Cf.mp hx with z|z
  .exact hw x z
  .rw[CH.mp z];exact yV SM SK ∅ ∅
 .rintro s ⟨ws,rfl,hl,hw,hs⟩;have nd:(ws.map λx=>x.cps[bg.length]?).Nodup:=by rw[hs];exact kS VJ ∅
  exact q ws hl hw (mX (g:=λx:Str=>x.cps[bg.length]?) nd)
end My
variable{cV:AN}
namespace My
instance UP:bu:=⟨[(142,"read_tree.<locals>.<lambda>")]⟩
def top(i:Nat):nn:=Bs.main.body.getD i (.Pass ⟨0,0,0,0⟩)
abbrev dV(i k:Nat)(ks:O AK)(n:Nat)(m:og PV n):DF:=⟨Tu (top i),top i,oH (top i),k,λK=>nZ K ks (gG n m)⟩
abbrev dL(i k:Nat)(ks:O AK)(n:Nat)(m:og (O PV) n):DF:=⟨Tu (top i),top i,oH (top i),k,λK=>mD K ks (gG n m)⟩
abbrev dv(i k n:Nat)(m:og PV n):DF:=dV i k (An n .v) n m
def ed:bI (sC (top 17)) (oH (top 17)) (aj (top 17)):=pD
def mH:bI (sC (top 20)) (oH (top 20)) (aj (top 20)):=pD
abbrev jl:GM:=SH [("_law_one",lo),("_law_text",gi)]
def fw:LS (top 20) jl:=lcs
abbrev ur:GM:=SH [("_law_text_here",lo),("_law_right",gi)]
def oZ:LS (top 25) ur:=lcs
structure NB(v:EV):Prop where
 len:v.mg "len"=bn
 abs:v.mg "abs"=bn
 int:v.mg "int"=bn
 range:v.mg "range"=bn
 list:v.mg "list"=bn
 isinstance:v.mg "isinstance"=bn
 str:v.mg "str"=bn
 min:v.mg "min"=bn
 max:v.mg "max"=bn
 enumerate:v.mg "enumerate"=bn
 all:v.mg "all"=bn
abbrev pR:DF:=RJ
abbrev fJ:DF:=dL 16 1 [.v,.v] 2 dJ
def o8(D:DI v fJ)(q:NB v):D.O:=
 SG D λhr nd bF k_=>
 (sv 2 nd (MD (F6 rfl (cy hr) (ej (af 0))) (fH rfl (rX (af 0)) (gn (af 1) (md rfl rfl q.len (af 0)))) aq) λfM=>
 (sv 3 nd (ia (gn (GR rfl q.abs (af 2)) (ia (ia (tq aq aq) (tq aq aq)) (tq aq aq))) (jD rfl q.int (ko LI (GR rfl q.abs (af 2)) (tq aq aq)))) λsP=>
 (SF.KQ (bt (n:=2) (av 3 (ae (gn (ia (aO rfl (aO rfl (gn (af 2) aq) (ia (ia aq (af 1)) (af 1))) aq) aq) aq) aJ)) rfl) λ_=>rfl)))
abbrev b9:DF:=dV 17 1 [.p (kF λ_=>cz) 0,.v] 1 bG
def o7(D:DI v b9):D.O:=
 Hz (n:=1) (Xr (n:=1) (m:=bU) D.fn ed rfl λad bH l hl=>match l,hl with|[gk],_=>λ_ _ _ _ _ _ hr=>show SF _ _ _ [al (.ol (al ad) bH),al (.val gk),bn,bn] _ (bU bH gk) _ from
 (SF.NJ (iX GC (fH rfl (fk 0) aq) aq)
 (sv 2 ed.nd (gn (fH rfl (fk 0) aq) (af 1)) λtD=>
 (SF.KN 0 rfl rfl (.inl rfl) (xT (fH rfl (fk 0) aq) (af 1)) aq λfB=>
 (SF.KR 0 (k:=λx5=>(x5,fB)) rfl (af 2) λ_=>rfl)))
 (SF.KN 0 rfl rfl (.inl rfl) (gn (aO rfl (ia (fH rfl (fk 0) aq) aq) aq) aq) aq λdz=>
 (sv 3 ed.nd (xT (fH rfl (fk 0) aq) aq) λmY=>
 (SF.KR 0 (k:=λyU=>(yU,dz)) rfl (gn (xT (gn (ia (af 3) (af 3)) aq) aq) (af 1)) λ_=>rfl))))) (λ_ ns l Q h _=>tR ns l Q h)
abbrev eO:DF:=dL 18 2 [.p (kF λ_=>cz) 0,.v] 1 cu
def m5(D:DI v eO)(q:NB v)(aP:b9.C v):D.O:=
 Qd D λj hr nd gk=>
 (sv 2 nd aN λiM=>
 (SF.par (i:=3) (j:=4) rfl nd rfl rfl ⋯ rfl rfl (eP 0 aP hr (ae aq aJ)) (fH rfl (lK (bt (n:=6) (ae aq (ae aq (ae aq (ae aq (ae aq (ae aq aJ)))))) rfl)) (eP 0 aP hr (ae aq aJ))) λki my=>
 (sv 5 nd (fH rfl (lK (bt (n:=3) (ae aN (ae aN (ae aN aJ))) rfl)) (eP 0 aP hr (ae aq aJ))) λky=>
 (sl 6 nd (bt (n:=0) aJ rfl) λkf=>
 (SF.Md (hd:=(λ(Ho:O PV)=>([al (.cj (kF λ_=>cz) (j+0) (j+0)),al (.val gk),al (.val iM),al (.val ki),al (.val my),al (.val ky),al (.ol bn Ho),bn,bn]:aX))) (s0:=kf) Cd rfl (jz rfl q.range (af 1)) (.refl _) (zq 7 nd) (λHo LG=>
 (sv 8 nd (fH rfl (lK (bt (n:=4) (ae aN (ae aN (ae aN (ae aN aJ)))) rfl)) (eP 0 aP hr (ae aq aJ))) λxN=>
 (SF.append 6 rfl rfl rfl (.inl rfl) (aO rfl (aO rfl (af 5) (MB (af 2) (gn (aO rfl (af 3) (ia (af 4) (af 7))) aq) (λ_ _=>rfl))) (af 8)) λpE=>
 (SF.oU rfl (.m 384))))) λHo=>
 (SF.PJ 6 rfl rfl))))))
abbrev dN:DF:=dV 19 2 [.p (kF λ_=>cz) 0,.v] 1 bV
def kT(D:DI v dN)(q:NB v)(aP:b9.C v):D.O:=
 Lw D λj hr nd rN=>
 (SF.La (i:=2) (j:=3) rfl nd rfl rfl ⋯ rfl rfl (Ij rfl rfl q.list (rX (af 1))) (eP 0 aP hr (ae aq aJ)) λvF mw=>
 (SF.Md (hd:=(λ(s5:O PV)=>([al (.cj (kF λ_=>cz) (j+0) (j+0)),al (.val rN),al (.ol bn s5),al (.val mw),bn,bn,bn]:aX))) (s0:=vF) Cd rfl (jz rfl q.range (GP (md rfl rfl q.len (af 1)) aq)) (.refl _) (zq 4 nd) (λs5 SN=>
 (sv 5 nd (GP (qY rfl rfl q.len (fk 2)) aq) λpJ=>
 (sv 6 nd (fH rfl (lK (bt (n:=5) (ae aq (av 5 (ae (gn (af 4) (aO rfl (af 5) aq)) (ae (eP 0 aP hr (ae (aO rfl (af 5) aq) aJ)) (ae (eP 0 aP hr (ae (aO rfl (af 5) aq) aJ)) aJ))))) rfl)) (af 3)) λym=>
 (SF.KI 2 rfl rfl (.inl rfl) (bt (n:=1) (ae (km (n:=2) (ae (fH rfl (fk 2) (af 6)) (ae (fH rfl (fk 2) (aO rfl (af 6) aq)) aJ)) rfl) aJ) rfl) (af 6) (aO rfl (af 6) aq) λvG=>
 (SF.oU rfl (.m 112)))))) λs5=>
 (SF.oB (fH rfl (fk 2) aq) λ_=>rfl)))
abbrev dC:DF:=dv 20 90 1 (bD 90)
theorem i5(D:DI v dC)(q:NB v):∀n,ba v.P v.w v.K v.mg v.base iz (n+0) D.f D.fd (oH (top 20)) (nZ v.K [.v] (gG 1 (bD n)))
 |0=>Mf (Hm λl Q hl=>match l,hl with|[jK],_=>λh=>h.elim)
 |n+1=>have cF:=D.cN (i5 D q n)
  Tg (k:=n+0) (n:=1) (m:=bD (n+1)) D.fn mH rfl (Gq su) λ_ l hl=>match l,hl with|[jK],_=>λ_ _ _ _ _ _ hr=>show SF _ _ _ [al (.val jK)] _ (bD (n+1) jK) _ from
 (SF.NJ (lz rfl (MC rfl .str rfl q.isinstance (af 0) rfl q.str boot_str) (λ_=>rfl))
 (SF.oB (af 0) λ_=>rfl)
 (SF.oB (aO rfl (aO rfl aN (Fo rfl aN (wR rfl fw (qL rfl (sJ (af 0))) (λ_ _ _ _ _=>(zq 0 fw.nd)) (λ_ _ _ _ _ p2=>(eC cF hr (av 0 aJ))) rfl))) aN) λ_=>rfl))
abbrev ib(nu:ce):DF:=RK nu
abbrev fK:DF:=dV 22 2 [.p (kF λ_=>cz) 0,.v,.v] 2 dq
set_option maxHeartbeats 8000000 in
def o9(D:DI v fK)(q:NB v)(aP:b9.C v):D.O:=
 Lw D λj hr nd ai qj=>
 (SF.par (i:=3) (j:=4) rfl nd rfl rfl ⋯ rfl rfl (eP 0 aP hr (ae (aO rfl (md rfl rfl q.len (af 1)) aq) aJ)) (eP 0 aP hr (ae (aO rfl (md rfl rfl q.len (af 1)) aq) aJ)) λJq xA=>
 (sv 5 nd (fH rfl (rX (af 2)) (eP 0 aP hr (ae (md rfl rfl q.len (af 2)) aJ))) λgr=>
 (SF.par (i:=3) (j:=4) rfl nd rfl rfl ⋯ rfl rfl (Mv rfl rfl q.min (af 3) (af 4)) (Mw rfl rfl q.max (af 3) (af 4)) λdE gz=>
 (sl 6 nd (bt (n:=3) (ae (cM (af 1) bR (bj (af 3))) (ae (aO rfl (cM (af 1) bR (bj (af 3))) (cM (af 1) (bj (aO rfl (af 3) aq)) bR)) (ae (aO rfl (aO rfl (cM (af 1) bR (bj (af 3))) (af 5)) (cM (af 1) (bj (af 3)) bR)) aJ))) rfl) λrM=>
 (SF.append 6 rfl rfl rfl (.inl rfl) (aO rfl (aO rfl (cM (af 1) bR (bj (af 3))) (af 5)) (cM (af 1) (bj (aO rfl (af 3) aq)) bR)) λrL=>
 (sv 7 nd (aO rfl (aO rfl (af 5) (cM (af 1) (bj (aO rfl (af 3) aq)) (bj (af 4)))) (af 5)) λlR=>
 (SF.append 6 rfl rfl rfl (.inl rfl) (aO rfl (aO rfl (cM (af 1) bR (bj (af 3))) (af 7)) (cM (af 1) (bj (af 4)) bR)) λrK=>
 (sl 6 nd (j8 rfl (qu 6) (ek (bt (n:=1) (ae (aO rfl (aO rfl (cM (af 1) bR (bj (af 3))) (cM (af 1) (bj (af 4)) bR)) (cM (af 1) (bj (af 3)) (bj (af 4)))) aJ) rfl))) λrJ=>
 (sl 6 nd (j8 rfl (qu 6) (ek (bt (n:=2) (ae (aO rfl (af 1) (cM (af 1) (bj (af 3)) (bj (af 4)))) (ae (aO rfl (cM (af 1) bR (bj (af 4))) (cM (af 1) (bj (af 3)) bR)) aJ)) rfl))) λrH=>
 (sl 6 nd (j8 rfl (qu 6) (ek (bt (n:=2) (ae (aO rfl (af 1) (af 5)) (ae (aO rfl (af 5) (af 1)) aJ)) rfl))) λmE=>
 (SF.oB (fH rfl (fk 6) (eP 0 aP hr (ae (qY rfl rfl q.len (fk 6)) aJ))) λ_=>rfl)))))))))))
abbrev eR:DF:=dv 23 1 1 cQ
def m7(D:DI v eR)(q:NB v):D.O:=
 NH D λhr nd ai=>
 (SF.Lb (i:=1) (j:=2) (k:=3) rfl nd rfl rfl rfl ⋯ ⋯ ⋯ rfl rfl rfl (bt (n:=0) aJ rfl) aq xW λjU iL mv=>
 SF.b8 1 rfl (SF.Mb (hd:=(λ(s4:PV×PV×PV)=>([al (.val ai),al (.val s4.1),al (.val s4.2.1),al (.val s4.2.2),bn,bn,bn]:aX))) (s0:=((.cl jU),iL,mv)) (inj:=id) Cd rfl (w6 rfl q.enumerate (af 0)) (.refl _) (λ_=>(Xk rfl (HA rfl (oK (zq 4 nd) (oK (zq 5 nd) zp))))) (λ_=>trivial) (λs4 t6=>
 (sv 6 nd (ko (Ir rfl) (af 5) aN) λdw=>
 (SF.LJ (rq.t (jJ (lz rfl (af 6) (λ_=>rfl)) (gH (y6 GB GB aq (af 2) aq))))
 (sv 2 nd (aO rfl (af 2) aq) λlX=>
 (SF.oU rfl (.m 112)))
 (SF.LJ (rq.t (jJ (iX (l5 rfl (cy hr)) (af 2) aq) (gH (vo (lz rfl (af 3) (λ_=>rfl))))))
 (SF.NJ (rq.t (jJ (vo (lz rfl (af 6) (λ_=>rfl))) (gH (iX (sH rfl (cy hr)) (af 5) aN))))
 (SF.ret (k:=λx9=>(Lp.out x9)) (af 4) λ_=>rfl)
 (sv 2 nd (jD rfl q.int (af 6)) λj5=>
 (sl 1 nd (j8 rfl (ej (af 1)) (ek (Gx (bt (n:=1) (ae aq aJ) rfl) (jD rfl q.int (ko (l5 rfl (cy hr)) (af 5) aN))))) λlO=>
 SF.b8 1 rfl (SF.oU rfl (.m 112)))))
 (SF.LJ (rq.t (jJ (F6 rfl (cy hr) (ej (af 1))) (gH (iX (l5 rfl (cy hr)) (af 5) (fH rfl (lK (bt (n:=2) (ae aN (ae aN aJ)) rfl)) (fH rfl (rX (af 1)) (GQ aq)))))))
 (sl 1 nd (j8 rfl (ek (Ii rfl (ej (af 1)) bR (bj (GQ aq)))) (ek (Gx (bt (n:=1) (ae aq aJ) rfl) (jD rfl q.int (ko (l5 rfl (cy hr)) (af 5) aN))))) λlN=>
 SF.b8 1 rfl (SF.par (i:=2) (j:=3) rfl nd rfl rfl ⋯ rfl rfl aq (ko (l5 rfl (cy hr)) (af 5) aN) λj4 om=>
 (SF.oU rfl (.m 112))))
 (SF.ret (k:=λG5=>(Lp.out G5)) (af 4) λ_=>rfl)))))) λs4=>
 (SF.oB (MD (rq.t (jJ (Ke rfl (cy hr) (ej (af 1))) (gH (rq.t (F5 (iX GC (af 2) aq) (vh (lz rfl (af 3) (λ_=>rfl)))))))) xR (md rfl rfl q.len (af 0))) λ_=>rfl)))
abbrev eQ:DF:=dv 24 91 1 bO
def m6(D:DI v eQ)(dF:v.mg "read_tree"=al (.ref cV))(nq:eR.C v)(cU:(ib cV).C v)(cF:dC.C v)(pq:pR.C v):D.O:=
 NH D λhr nd ai=>
 (sv 1 nd (eC nq hr (av 0 aJ)) λtu=>
 (SF.NJ (rq.t (F5 (iX (sH rfl (cy hr)) (eC cU hr (Js rfl dF (av 0 aJ))) (af 1)) (vh (iX (sH rfl (cy hr)) (eC cU hr (Js rfl dF (av 0 aJ))) (af 1)))))
 (SF.oB xW λ_=>rfl)
 (SF.oB (RF (ko z9 (af 1) xR) (Mu (ko (l5 rfl (cy hr)) (eC cF hr (ae (eC pq hr (av 0 aJ)) aJ)) (af 0)))) λ_=>rfl)))
abbrev GS:DF:=dv 25 92 1 j0
def LD(D:DI v GS)(q:NB v)(dF:v.mg "read_tree"=al (.ref cV))(pA:fJ.C v)(nk:eO.C v)(kX:dN.C v)(aP:b9.C v)(cF:dC.C v)(g9:eQ.C v)(pB:fK.C v)(cU:(ib cV).C v):D.O:=
 NH D λhr nd bF=>
 (sl 1 nd (bt (n:=11) (ae aN (ae aN (ae aN (ae aN (ae aN (ae aN (ae aN (ae aN (ae aN (ae aN (ae aN aJ))))))))))) rfl) λrO=>
 SF.b8 1 rfl (sl 1 nd (j8 rfl (ej (af 1)) (ek (bt (n:=5) (ae aN (ae aN (ae aN (ae aN (ae aN aJ))))) rfl))) λfh=>
 SF.b8 1 rfl (SF.xu (hd:=(λ(Nw:Unit)=>([al (.val bF),al (.val (.cl fh)),bn,bn,bn,bn,bn,bn,bn,bn]:aX))) (s0:=()) (inj:=id) Cd rfl (jz rfl q.range (aO rfl aq (qY rfl rfl q.len (lK (Ii rfl (ej (af 0)) bR (bj aq)))))) (.refl _) (zq 2 nd) (λ_=>trivial) (λNw z0=>
 (sl 3 nd (lC pA hr (av 0 (av 2 aJ))) λg8=>SF.cj (G:=(λ_=>cz)) 3 0 rfl
 (sl 4 nd (lP 3 nk hr (ae aq aJ)) λcA=>
 SF.b8 4 rfl (sv 5 nd (eP 3 kX hr (ae (xS (Ii rfl (ej (af 4)) bR (bj (aO rfl aq (eP 3 aP hr (ae aq aJ)))))) aJ)) λfV=>
 (sv 6 nd (eC cF hr (av 5 aJ)) λbQ=>
 (SF.xu (hd:=(λ(Gd:Unit)=>([al (.val bF),al (.val (.cl fh)),al (.val z0),al (.cj (kF λ_=>cz) (0+0) 0),al (.val (.cl cA)),al (.val fV),al (.val bQ),bn,bn,bn]:aX))) (s0:=()) (inj:=Lp.out) Cd rfl (jz rfl q.range aq) (.refl _) (zq 7 nd) (λ_=>trivial) (λGd yX=>
 (SF.LJ (vo (lz rfl (eC g9 hr (ae (eP 3 pB hr (av 6 (av 1 aJ))) aJ)) (λ_=>rfl)))
 (SF.ret (k:=λOY=>(Lp.out OY)) xW λ_=>rfl)
 (SF.oU rfl (.m 128)))) λGd=>
 (SF.xu (hd:=(λ(Nu:Unit)=>([al (.val bF),al (.val (.cl fh)),al (.val z0),al (.cj (kF λ_=>cz) (0+0) 0),al (.val (.cl cA)),al (.val fV),al (.val bQ),bn,bn,bn]:aX))) (s0:=()) (inj:=Lp.out) Cd rfl (qL rfl (sJ (km (n:=10) (ae xR (ae xW (ae aq (ae aq (ae (km (n:=0) aJ rfl) (ae (xS (bt (n:=0) aJ rfl)) (ae (RG MM) (ae (km (n:=2) (av 5 (av 5 aJ)) rfl) (ae (xS (bt (n:=1) (av 6 aJ) rfl)) (ae (km (n:=1) (av 6 aJ) rfl) aJ)))))))))) rfl))) (.refl _) (zq 8 nd) (λ_=>trivial) (λNu oq=>
 (SF.LJ (iX (sH rfl (cy hr)) (eC cU hr (Js rfl dF (av 8 aJ))) aq)
 (SF.ret (k:=λOS=>(Lp.out OS)) xW λ_=>rfl)
 (SF.oU rfl (.m 256)))) λNu=>
 (SF.oU rfl (.m 124))))))))) λNw=>
 (sl 9 nd (bt (n:=10) (ae aN (ae aN (ae aN (ae aN (ae aN (ae aN (ae aN (ae aN (ae aN (ae aN aJ)))))))))) rfl) λrG=>
 SF.b8 9 rfl (sl 9 nd (j8 rfl (ej (af 9)) (ek (bt (n:=5) (ae aN (ae aN (ae aN (ae aN (ae aN aJ))))) rfl))) λrF=>
 SF.b8 9 rfl (SF.oB (MF rfl rfl rfl q.all (ek (wR rfl oZ (qL rfl (sJ (af 9))) (λ_ _ _ _ _=>(zq 0 oZ.nd)) (λ_ _ _ _ _ Sn=>(eC g9 hr (av 0 aJ))) rfl))) λ_=>rfl))))))
end My
variable{r pre:O Nat}
namespace My
def i6(c:Nat):Bool:=decide (97<=c/\c<123)
def eU:O Nat->Nat->O Bool->Nat->Bool->Option Nat
 |[],i,op,l,w=>if op=[]/\(0<l\/w=true) then bn else al i
 |c::r,i,op,l,w=>
  if i6 c=true/\0<l/\l<8 then eU r (i+1) op (l+1) w
  else if l=0/\w=false then
   if i6 c=false/\c≠40 then al i else eU r (i+1) (if c=40 then false::op else op) (if i6 c=true then 1 else 0) w
  else match op with
   |[]=>al i
   |b::kR=>if c=(if b=true then 41 else 44) then eU r (i+1) (if c=44 then true::kR else kR) 0 (decide (c=41)) else al i
theorem pY(i:Nat)(op:O Bool)(l:Nat)(w:Bool):eU [] i op l w=if op=[]/\(0<l\/w=true) then bn else al i:=rfl
theorem pZ(c:Nat)(r:O Nat)(i:Nat)(op:O Bool)(l:Nat)(w:Bool):eU (c::r) i op l w=if i6 c=true/\0<l/\l<8 then eU r (i+1) op (l+1) w
  else if l=0/\w=false then
   if i6 c=false/\c≠40 then al i else eU r (i+1) (if c=40 then false::op else op) (if i6 c=true then 1 else 0) w
  else match op with
   |[]=>al i
   |b::kR=>if c=(if b=true then 41 else 44) then eU r (i+1) (if c=44 then true::kR else kR) 0 (decide (c=41)) else al i:=rfl
def sy(s:Str)(c:Nat):uk s c=decide (c∈s.cps.toList):=PySem.StrLaws.found_one s c
theorem gR(c:Nat):uk yw c=i6 c:=by
 rw[sy];unfold i6;have:(c∈yw.cps.toList)↔(97<=c/\c<123):=by
  have e:yw.cps.toList=[97,98,99,100,101,102,103,104,105,106,107,108,109,110,111,112,113,114,115,116,117,118,119,120,121,122]:=by decide +kernel
  rw[e];simp only[Au,Cu,or_false];omega
 simp[this]
def jx(d c:Nat):uk ⟨#[d]⟩ c=decide (c=d):=by rw[sy];simp
def rk(h:T.cps.toList=pre++c::r)(s:Str):d8 T pre.length s=uk s c:=gC (by rw[h];simp)
def nL(h:T.cps.toList=pre)(s:Str):d8 T pre.length s=false:=by unfold d8;rw[h];simp
def Nv:("(":Str)=⟨#[40]⟩:=by decide +kernel
def Gd:(")":Str)=⟨#[41]⟩:=by decide +kernel
def Py:(",":Str)=⟨#[44]⟩:=by decide +kernel
theorem pX:∀(u rest:O Nat) (i:Nat) (op:O Bool) (l:Nat),(∀c∈u,i6 c=true)->0<l->l+u.length<=8->eU (u++rest) i op l false=eU rest (i+u.length) op (l+u.length) false
 |[],rest,i,op,l,_,_,_=>rfl
 |c::u,rest,i,op,l,h,h0,h1=>by
  rw[Ah]at h1;show eU (c::(u++rest)) i op l false=_;rw[pZ,if_pos ⟨h c (.head _),h0,by lia⟩,pX u rest (i+1) op (l+1) (λd hd=>h d (.tail _ hd)) ∅ ∅,Ah,show i+1+u.length=i+(u.length+1) by lia,show l+1+u.length=l+(u.length+1) by lia]
abbrev Sk:=O (Option Tr)
def jO(s:Sk):qd:=s.map λo=>([],o.map Tr.pv)
def qk(s:Sk):O Bool:=s.map Option.isSome
def tx:Sk->O Nat
 |[]=>[]
 |none::s=>tx s++[40]
 |some t::s=>tx s++40::(t.tl++[44])
def Good(T:Str)(r:Except Nat (PV×Nat))(o:Option Nat):Prop:=match r with
 |.error m=>o=al m
 |.ok (y,n)=>∃t:Tr,y=t.pv/\t.Ws/\n<=T.length/\T.cps.toList.take n=t.tl/\o=if n<T.length then al n else bn
def kY(T:Str)(k n:Nat)(st:qd)(x:PV):Option (Except Nat (PV×Nat)):=match dh T n st x with
 |.error m=>al (.error m)
 |.ok (.a8,n2,mz)=>kK T jq k n2 mz
 |.ok (y,n2,_)=>al (.ok (y,n2))
def qK{l:O Nat}(h:T.cps.toList=l):T.length=l.length:=by rw[<- h];simp[BM]
def sV(t:Tr):kY T k n [] t.pv=al (.ok (t.pv,n)):=by unfold kY dh;cases t<;>rfl
def B0(l:Nat)(w:Bool)(r:O Nat):Prop:=(w=true/\l=0)\/(w=false/\0<l/\(l=8\/∀c r',r=c::r'->i6 c=false))
theorem M9{l:Nat}{op:O Bool}{w:Bool}(h:B0 l w (c::r)):eU (c::r) i op l w=match op with
  |[]=>al i
  |b::kR=>if c=(if b=true then 41 else 44) then eU r (i+1) (if c=44 then true::kR else kR) 0 (decide (c=41)) else al i:=by
 have c1:¬(i6 c=true/\0<l/\l<8):=by
  rintro⟨a,b,d⟩;rcases h with⟨_,h⟩|⟨_,_,h|h⟩
  .omega
  .omega
  .rw[h c r rfl]at a;cases a
 have c2:¬(l=0/\w=false):=by
  rintro⟨a,b⟩;rcases h with⟨h,_⟩|⟨_,h,_⟩
  .rw[h]at b;cases b
  .omega
 rw[pZ,if_neg c1,if_neg c2]
def Gh{s:Sk}(hT:T.cps.toList=pre)(hl:T.length=pre.length):∀k,([]:O Nat).length+1<=k->tx s=pre->∃Å,kK T jq k pre.length (jO s)=al Å/\Good T Å (eU [] pre.length (qk s) 0 false):=λk hk _=>by
 cases k with
 |zero=>simp at hk
 |succ k=>
 refine⟨.error pre.length,?_,?_⟩
 .have ef:jq T pre.length=.error pre.length:=by
   unfold jq;rw[nL hT,if_neg ⋯,if_pos (show gq T pre.length=[] from qm (nL hT _))]
  rw[kK,ef]
 .show eU [] pre.length (qk s) 0 false=al pre.length;rw[pY,if_neg (by simp)]
theorem Gi{s:Sk}(hT:T.cps.toList=pre)(hl:T.length=pre.length):∀k (t:Tr) l w,([]:O Nat).length<=k->t.Ws->pre=tx s++t.tl->B0 l w []->∃Å,kY T k pre.length (jO s) t.pv=al Å/\Good T Å (eU [] pre.length (qk s) l w):=λk t l w _ ht hp hb=>by
 have lw:0<l\/w=true:=by
  rcases hb with⟨h,_⟩|⟨_,h,_⟩
  .exact .inr h
  .exact .inl h
 match s with
 |[]=>
  refine⟨_,sV t,t,rfl,ht,by lia,?_,?_⟩
  .rw[hT,List.take_length];simpa[tx]using hp
  .rw[pY,if_pos ⟨rfl,lw⟩,if_neg ∅]
 |none::s=>
  refine⟨.error pre.length,?_,?_⟩
  .have be:dh T pre.length (jO (bn::s)) t.pv=if d8 T pre.length ","=true then .ok (.a8,pre.length+1,([],al t.pv)::jO s) else .error pre.length:=rfl
   unfold kY;rw[be,nL hT,if_neg ⋯]
  .show eU [] pre.length (qk (bn::s)) l w=al pre.length;rw[pY,if_neg (by rintro⟨h,_⟩;cases h)]
 |some v::s=>
  refine⟨.error pre.length,?_,?_⟩
  .have be:dh T pre.length (jO (al v::s)) t.pv=if d8 T pre.length ")"=true then dh T (pre.length+1) (jO s) (Tr.node v t).pv else .error pre.length:=rfl
   unfold kY;rw[be,nL hT,if_neg ⋯]
  .show eU [] pre.length (qk (al v::s)) l w=al pre.length;rw[pY,if_neg (by rintro⟨h,_⟩;cases h)]
theorem Hq:∀(m:Nat) (r:O Nat),r.length<=m->∀(pre:O Nat),T.cps.toList=pre++r->∀(s:Sk),s.length+r.length<=950->(∀v,al v∈s->v.Ws)->(∀k,r.length+1<=k->tx s=pre->∃Å,kK T jq k pre.length (jO s)=al Å/\Good T Å (eU r pre.length (qk s) 0 false))/\ (∀k (t:Tr) l w,r.length<=k->t.Ws->pre=tx s++t.tl->B0 l w r->∃Å,kY T k pre.length (jO s) t.pv=al Å/\Good T Å (eU r pre.length (qk s) l w)):=by
 intro m
 induction m with
 |zero=>
  intro r hr pre hT s hs hw;have:r=[]:=Bg ∅;subst this;rw[AV]at hT;have hl:=qK hT;exact⟨Gh hT hl,Gi hT hl⟩
 |succ m ih=>
  intro r hr pre hT s hs hw;cases r with
  |nil=>
   rw[AV]at hT;have hl:=qK hT;exact⟨Gh hT hl,Gi hT hl⟩
  |cons c r=>
  have hl:=qK hT;rw[Ap,Ah]at hl;rw[Ah]at hr hs;have Q9:T.cps.toList=(pre++[c])++r:=by rw[hT];simp
  have l1:(pre++[c]).length=pre.length+1:=by simp
  refine⟨λk hk tp=>?_,λk t l w hk ht hp hb=>?_⟩
  .cases k with
   |zero=>rw[Ah]at hk;lia
   |succ k=>
   rw[Ah]at hk;by_cases GW:c=40
   .subst GW;have ef:jq T pre.length=.ok (.tup [],true,pre.length+1):=by
     unfold jq;rw[rk hT,Nv,jx,if_pos (by simp)]
    have h1:=(ih r ∅ (pre++[40]) Q9 (bn::s) (by rw[Ah];lia) (λv hv=>hw v (by simpa using hv))).1 k ∅ (by show tx s++[40]=_;rw[tp]);obtain⟨Å,e1,e2⟩:=h1;rw[l1]at e1 e2;refine⟨Å,?_,?_⟩
    .rw[kK,ef];show(if ([]:O PV).length<=100/\(jO s).length<1000 then kK T jq k (pre.length+1) (([],bn)::jO s) else bn)=_;rw[if_pos ⟨by simp,by unfold jO;rw[AB];lia⟩];exact e1
    .exact e2
   .have e1:d8 T pre.length "("=false:=by rw[rk hT,Nv,jx];simpa using GW
    cases hc:i6 c with
    |false=>
     have ew:gq T pre.length=[]:=qm (by rw[rk hT,gR];exact hc);refine⟨.error pre.length,?_,?_⟩
     .have ef:jq T pre.length=.error pre.length:=by
       unfold jq;rw[e1,if_neg ⋯,if_pos ew]
      rw[kK,ef]
     .show eU (c::r) pre.length (qk s) 0 false=al pre.length;rw[pZ,if_neg (by rw[hc];simp),if_pos ⟨rfl,rfl⟩,if_pos ⟨hc,GW⟩]
    |true=>
     have ne:gq T pre.length≠[]:=Ge ⋯ (by rw[rk hT,gR];exact hc);have u1:(gq T pre.length).length<=8:=qo;have u3:∀d∈gq T pre.length,i6 d=true:=λd hd=>by rw[<- gR];exact qr hd
     have u4:(gq T pre.length).length<8->d8 T (pre.length+(gq T pre.length).length) yw=false:=λh=>qq h;obtain⟨rest,uD⟩:∃rest,c::r=gq T pre.length++rest:=by
      have hp:(gq T pre.length) <+: (T.cps.toList.drop pre.length):=(List.takeWhile_prefix _).trans (List.take_prefix _ _);rw[hT,List.drop_left]at hp;obtain⟨rest,h⟩:=hp;exact⟨rest,h.symm⟩
     have ef:jq T pre.length=.ok (.str ⟨(gq T pre.length).toArray⟩,false,pre.length+(gq T pre.length).length):=by
      unfold jq;rw[e1,if_neg ⋯,if_neg ne]
     generalize gq T pre.length=u at ne u1 u3 u4 uD ef;have Q8:T.cps.toList=(pre++u)++rest:=by rw[hT,uD];simp
     have ul:0<u.length:=Cz.mpr ne;have rl:rest.length+u.length=r.length+1:=by have:=congrArg DD uD;simp at this;lia
     have ht:(Tr.leaf ⟨u.toArray⟩).Ws:=λx hx=>by
      have:=CH.mp hx;subst this;exact⟨by simp[BM];lia,by simp[BM];lia,λd hd=>by have:=u3 d (by simpa using hd);simpa[i6]using this⟩
     have h1:=(ih rest ∅ (pre++u) Q8 s ∅ hw).2 k (.leaf ⟨u.toArray⟩) u.length false ∅ ht (by rw[tp];show _=_++(⟨u.toArray⟩:Str).cps.toList;simp) (.inr ⟨rfl,ul,by
      rcases Dg u.length 8 with h8|h8
      .refine .inr λd r' e=>?_;have z:=u4 h8;rw[e]at Q8;rw[show pre.length+u.length=(pre++u).length by simp,rk Q8,gR]at z;exact z
      .exact .inl ∅⟩)
     obtain⟨Å,h2,h3⟩:=h1;have lu:(pre++u).length=pre.length+u.length:=by simp
     rw[lu]at h2 h3;refine⟨Å,?_,?_⟩
     .rw[kK,ef];exact h2
     .cases u with
      |nil=>exact absurd rfl ne
      |cons d u=>
       injection uD with hd uD;subst hd;rw[uD];show Good T Å (eU (c::(u++rest)) pre.length (qk s) 0 false);have:eU (c::(u++rest)) pre.length (qk s) 0 false=eU (u++rest) (pre.length+1) (qk s) 1 false:=by
        rw[pZ,if_neg (by simp),if_pos ⟨rfl,rfl⟩,if_neg (by rw[hc];simp),if_neg GW,hc,if_pos rfl]
       rw[this,pX u rest _ _ 1 (λd hd=>u3 d (.tail _ hd)) ⋯ (by rw[Ah]at u1;lia)];rw[Ah]at h3;rw[show pre.length+1+u.length=pre.length+(u.length+1) by lia,show 1+u.length=u.length+1 by lia];exact h3
  .rw[M9 hb];rw[Ah]at hk
   match s with
   |[]=>
    have tp:pre=t.tl:=by simpa[tx]using hp
    exact⟨_,sV t,t,rfl,ht,by lia,by rw[hT,List.take_left,tp],by rw[if_pos ∅];rfl⟩
   |none::s=>
    rw[Ah]at hs;have a1:d8 T pre.length ","=decide (c=44):=by rw[rk hT,Py,jx]
    have be:dh T pre.length (jO (bn::s)) t.pv=if d8 T pre.length ","=true then .ok (.a8,pre.length+1,([],al t.pv)::jO s) else .error pre.length:=rfl
    show ∃Å,kY T k pre.length (jO (bn::s)) t.pv=al Å/\Good T Å (if c=44 then eU r (pre.length+1) (if c=44 then true::qk s else qk s) 0 (decide (c=41)) else al pre.length);unfold kY;rw[be,a1];by_cases Jk:c=44
    .subst Jk;obtain⟨Å,h1,h2⟩:=(ih r ∅ (pre++[44]) Q9 (al t::s) (by rw[Ah];lia) (λv hv=>by
      rcases Au.mp hv with e|e
      .cases e;exact ht
      .exact hw v (.tail _ e))).1 k ∅ (by show tx s++40::(t.tl++[44])=_;rw[hp];show _=(tx s++[40])++t.tl++[44];simp)
     rw[l1]at h1 h2;exact⟨Å,h1,h2⟩
    .rw[if_neg Jk];exact⟨.error pre.length,by rw[if_neg (by simpa using Jk)],rfl⟩
   |some v::s=>
    rw[Ah]at hs;have a1:d8 T pre.length ")"=decide (c=41):=by rw[rk hT,Gd,jx]
    have be:dh T pre.length (jO (al v::s)) t.pv=if d8 T pre.length ")"=true then dh T (pre.length+1) (jO s) (Tr.node v t).pv else .error pre.length:=rfl
    show ∃Å,kY T k pre.length (jO (al v::s)) t.pv=al Å/\Good T Å (if c=41 then eU r (pre.length+1) (if c=44 then true::qk s else qk s) 0 (decide (c=41)) else al pre.length);unfold kY;rw[be,a1];by_cases RM:c=41
    .subst RM;have hn:(Tr.node v t).Ws:=λx hx=>by
      rcases Cf.mp (show x∈v.bB++t.bB from hx) with h|h
      .exact hw v (.head _) x h
      .exact ht x h
     obtain⟨Å,h1,h2⟩:=(ih r ∅ (pre++[41]) Q9 s ∅ (λv hv=>hw v (.tail _ hv))).2 k (.node v t) 0 true ∅ hn (by
      rw[hp];show(tx s++40::(v.tl++[44]))++t.tl++[41]=_;have:=yZ v t [];rw[AV]at this;rw[this];simp) (.inl ⟨rfl,rfl⟩)
     rw[l1]at h1 h2;exact⟨Å,h1,h2⟩
    .rw[if_neg RM];exact⟨.error pre.length,by rw[if_neg (by simpa using RM)],rfl⟩
theorem oC(hT:T.length<=900):∃k Å,kK T jq k 0 []=al Å/\Good T Å (eU T.cps.toList 0 [] 0 false):=by
 have hl:T.cps.toList.length=T.length:=by simp[BM]
 obtain⟨Å,h1,h2⟩:=(Hq (T:=T) _ T.cps.toList (Aj _) [] rfl [] (by simp only[C7];lia) (λ_ h=>(nomatch h))).1 _ (Aj _) rfl;exact⟨_,Å,h1,h2⟩
theorem m8{ws:O Str}(hw:ws≠[])(h8:ws.length<=100){Q:PV->Prop}(q:∀t:Tr,t.bB=ws->Q t.pv):(bV (.cl (ws.map PV.str))).run Q:=by
 have wl:0<ws.length:=Cz.mpr hw;unfold bV;simp only[sB,ii,hX,wE,cC 5 ⋯ ⋯,ny,xD,AB,jB];refine bo λw w0 w1=>?_;simp only[xL (fZ (i:=0) (j:=(ws.length:Int)-1) ∅ ∅),wE];refine pG (λi s=>∃ts:O Tr,s=ts.map Tr.pv/\ts.length+i=ws.length/\ts.flatMap Tr.bB=ws) ⟨ws.map Tr.leaf,by simp[Tr.pv],by simp,by simp[List.flatMap_map,Tr.bB,List.flatMap_singleton']⟩ ?_ ?_
 .rintro i s hi ⟨ts,rfl,hl,hp⟩;have h2:2<=ts.length:=by lia
  have f0:(0:Int)<(ts.length:Int)-2+1:=by lia
  simp only[sB,ii,qV,AB,xD,wE,cW,nv,xL f0,cC ((ts.length:Int)-2+1) f0 ∅];refine bo λd d0 d1=>bo λe e0 e1=>?_;have m0:=BH ((i:Int)) (show(ts.length:Int)-2+1≠0 by lia);have m1:=Bv ((i:Int)) f0;obtain⟨a,ha,a1⟩:∃a:Nat,eV [PV.int 0,PV.int ((ts.length:Int)-2),PV.int (((i:Int)) % ((ts.length:Int)-2+1)),PV.int d,PV.int e] w=al (.int (a:Int))/\a+1<ts.length:=by
   have:w=0\/w=1\/w=2\/w=3\/w=4:=by lia
   rcases this with rfl|rfl|rfl|rfl|rfl
   .exact⟨0,rfl,by lia⟩
   .exact⟨ts.length-2,by show al (PV.int ((ts.length:Int)-2))=_;congr 2;lia,by lia⟩
   .exact⟨(((i:Int)) % ((ts.length:Int)-2+1)).toNat,by show al (PV.int _)=_;rw[Dd m0],by lia⟩
   .exact⟨d.toNat,by show al (PV.int d)=_;rw[Dd d0],by lia⟩
   .exact⟨e.toNat,by show al (PV.int e)=_;rw[Dd e0],by lia⟩
  obtain⟨as,x,y,bs,rfl,hk⟩:=Jp a1;have i0:eV ((as++x::y::bs).map Tr.pv) (a:Int)=al x.pv:=nM (by rw[AE,Ba ∅];simp[hk]);have i1:eV ((as++x::y::bs).map Tr.pv) ((a:Int)+1)=al y.pv:=by
   have:((a:Int)+1)=((a+1:Nat):Int):=by push_cast;rfl
   rw[this];exact nM (by rw[AE,Ba ∅];simp[hk])
  simp only[i8,ha,W.cm,wE,i0,i1,cW,sB];rw[Ap,Ah,Ah]at hl;refine⟨⟨by lia,by lia,?_,cf ?_⟩,?_⟩
  .rw[AB,Ap,Ah,Ah];push_cast;lia
  .rw[AB,Ap,Ah,Ah];simp;lia
  .have e:((as++x::y::bs).map Tr.pv).take (a:Int).toNat++[.tup [x.pv,y.pv]]++((as++x::y::bs).map Tr.pv).drop ((a:Int)+2).toNat=(as++.node x y::bs).map Tr.pv:=by
    have t1:(a:Int).toNat=as.length:=by lia
    have t2:((a:Int)+2).toNat=as.length+2:=by lia
    rw[t1,t2,<- List.map_take,<- List.map_drop,List.take_left' rfl];have:(as++x::y::bs).drop (as.length+2)=bs:=by
     rw[show as++x::y::bs=(as++[x,y])++bs by simp,List.drop_left' (by simp)]
    rw[this];simp[Tr.pv]
   refine⟨as++.node x y::bs,e,by simp;lia,?_⟩;rw[<- hp];simp[List.flatMap_append,List.flatMap_cons,Tr.bB]
 .rintro s ⟨ts,rfl,hl,hp⟩;have h1:ts.length=1:=by lia
  match ts,h1 with
  |[t],_=>
   have:t.bB=ws:=by simpa using hp
   exact q t this
end My
variable{f:PL.PV->FL.W PL.PV}
namespace My
theorem lS{S:PV->Prop}:∀{l:O PV},(∀x∈l,∀R:PV->Prop,(∀v,S v->R v)->(f x).run R)->∀{Q:O PV->Prop},(∀m,m.length=l.length->(∀v∈m,S v)->Q m)->(jZ l f).run Q
 |[],_,Q,q=>q [] rfl (λ_ h=>nomatch h)
 |x::l,h,Q,q=>by
  show(am (f x) λy=>am (jZ l f) λm=>ap (y::m)).run Q;simp only[ii];refine h x (.head _) _ λv hv=>?_;refine lS (λy hy=>h y (.tail _ hy)) λm hm hs=>?_;exact q (v::m) (by simp[hm]) λu hu=>by
   rcases Au.mp hu with rfl|hu
   .exact hv
   .exact hs u hu
def asc(T:Str):Prop:=∀c∈T.cps.toList,c<128
def nA(s t:Str):of2 iJ (.str s) (.str t)=.ret (.bl (s==t)):=by rw[xH,xL ⟨by simp,by simp,by simp⟩,GL]
def IZ(s t:Str):of2 jg (.str s) (.str t)=.ret (.bl (!(s==t))):=by rw[s9,xL ⟨by simp,by simp,by simp⟩,GL]
def mU(c d:Nat):((⟨#[c]⟩:Str)==⟨#[d]⟩)=decide (c=d):=by
 rw[CF,beq_iff_eq,decide_eq_true_eq];exact⟨λh=>by injection h with h;injection h with h;injection h,λh=>by rw[h]⟩
def sh(op:O Bool):O PV:=op.reverse.map λb=>PV.int (if b=true then 1 else 0)
def fv(b:Bool)(op:O Bool):sh (b::op)=sh op++[PV.int (if b=true then 1 else 0)]:=by unfold sh;simp
def se(op:O Bool):(sh op).length=op.length:=by unfold sh;simp
theorem ya(l:O PV)(x:PV):iU (l++[x]) bn (al (-1))=l:=by
 unfold iU HT.kQ;have e:(-1+((l.length:Int)+1)).toNat=l.length:=by lia
 simp[e]
def vH(x:PV)(c:Bool):vI [x] (.int (if c=true then 1 else 0))=.ret (if c=true then [x] else []):=by
 cases c
 .rw[xE];exact xL ⟨by decide,by decide,by show 1*0<=sizeLine;decide⟩
 .rw[xE];exact xL ⟨by decide,by decide,by show 1*1<=sizeLine;decide⟩
def fo:Option Nat->PV
 |none=>.a8
 |some n=>.int n
theorem xy(hT:T.length<=900)(ha:asc T):(cQ (.str T)).le (.ret (fo (eU T.cps.toList 0 [] 0 false))):=λQ q=>by
 have q:Q (fo (eU T.cps.toList 0 [] 0 false)):=q;have hl:T.cps.toList.length=T.length:=by simp[BM]
 have hz:T.cps.size=T.length:=rfl;unfold cQ;simp only[sB,ii];refine⟨⟨by rw[hz,pc];lia,by rw[Array.all_eq_true'];intro c hc;simpa using ha c (by simpa using hc)⟩,?_⟩;generalize hR:eU T.cps.toList 0 [] 0 false=R at q;refine kg (λrest s=>∃(r:O Nat) (i:Nat) (op:O Bool) (l:Nat) (w:Bool),rest=gm i (r.map λc=>PV.str ⟨#[c]⟩)/\s=(PV.cl (sh op),PV.int (l:Int),PV.bl w)/\l<=8/\i+r.length=T.length/\op.length<=i/\eU r i op l w=R)
  ⟨T.cps.toList,0,[],0,false,rfl,rfl,by decide,by lia,Aj _,hR⟩ ?_ ?_
 .rintro x rest s ⟨r,i,op,l,w,e,rfl,h8,hi,ho,hA⟩;cases r with
  |nil=>cases e
  |cons c r=>
  injection e with e1 e2;subst e1;rw[Ah]at hi;have e0:(!(Builtin.Str.occurrences yw ⟨#[c]⟩ 0 yw.length 1).isEmpty)=i6 c:=gR c;have go:∀(kR:O Bool) (l':Nat) (w':Bool),l'<=8->kR.length<=i+1->eU r (i+1) kR l' w'=R->∃(PM:O Nat) (NK:Nat) (HL:O Bool) (Qk:Nat) (RZ:Bool),rest=gm NK (PM.map λc=>PV.str ⟨#[c]⟩)/\(PV.cl (sh kR),PV.int (l':Int),PV.bl w')=(PV.cl (sh HL),PV.int (Qk:Int),PV.bl RZ)/\Qk<=8/\NK+PM.length=T.length/\HL.length<=NK/\eU PM NK HL Qk RZ=R:=
   λkR l' w' a b d=>⟨r,i+1,kR,l',w',e2,rfl,a,by lia,b,d⟩
  rw[pZ]at hA;simp only[IQ,wE,sB,ii,Je,e0,hV,Mm,xI,eN];have hc:(if i6 c=true then (if decide (0<(l:Int))=true then ap (PV.bl (decide ((l:Int)<8))) else ap (PV.bl false)).bind va else ap false)=ap (decide (i6 c=true/\0<l/\l<8)):=by
   cases i6 c with
   |false=>simp
   |true=>
    by_cases a:0<l
    .have:(0:Int)<l:=by lia
     simp only[if_true,this,decide_true,sB,eN,true_and,a];exact congrArg ap (decide_eq_decide.mpr ∅)
    .have:¬(0:Int)<l:=by lia
     simp[this,a]
  rw[hc];simp only[wE];by_cases c1:i6 c=true/\0<l/\l<8
  .rw[if_pos c1]at hA;rw[decide_eq_true c1,if_pos rfl];simp only[cW,sB,wE];exact go op (l+1) w ∅ ∅ hA
  rw[if_neg c1]at hA;rw[decide_eq_false c1,if_neg ⋯];have hd:(ou ((of2 iJ (PV.int (l:Int)) (PV.int 0)).bind va) (ap !w))=ap (decide (l=0/\w=false)):=by
   simp only[Jf,sB,eN];by_cases a:l=0
   .subst a;cases w<;>rfl
   .have:((l:Int)==0)=false:=by simpa using a
    simp[this,a]
  rw[hd];simp only[sB];by_cases c2:l=0/\w=false
  .rw[if_pos c2]at hA;rw[decide_eq_true c2,if_pos rfl];obtain⟨rfl,rfl⟩:=c2;have hn:(if (!i6 c)=true then (of2 jg (PV.str ⟨#[c]⟩) (PV.str "(")).bind va else ap false)=ap (decide (i6 c=false/\c≠40)):=by
    cases i6 c with
    |true=>simp
    |false=>
     rw[IZ,Nv,mU];simp
   rw[hn];simp only[sB];by_cases c3:i6 c=false/\c≠40
   .rw[if_pos c3]at hA;rw[decide_eq_true c3,if_pos rfl];subst hA;exact q
   .rw[if_neg c3]at hA;rw[decide_eq_false c3,if_neg ⋯,Nv,nA,mU];simp only[nz,cD,sB,ii];rw[vH];simp only[sB,wE];refine⟨by rw[se,pc];split<;>simp<;>lia,?_⟩;by_cases GW:c=40
    .subst GW;have h:=go (false::op) 0 false ⋯ (by rw[Ah];lia) (by rw[<- hA,if_pos rfl];rfl);rw[fv]at h;exact h
    .have h:=go op (if i6 c=true then 1 else 0) false (by split<;>decide) ∅ (by rw[<- hA,if_neg GW]);rw[decide_eq_false GW];have e:((if i6 c=true then (1:Nat) else 0:Nat):Int)=if i6 c=true then 1 else 0:=by split<;>rfl
     rw[e]at h;rw[if_neg ⋯,AV];exact h
  .rw[if_neg c2]at hA;rw[decide_eq_false c2,if_neg ⋯];cases op with
   |nil=>
    subst hA;simp only[cD,sB];exact q
   |cons b op=>
    have hA:(if c=(if b=true then 41 else 44) then eU r (i+1) (if c=44 then true::op else op) 0 (decide (c=41)) else al i)=R:=hA;rw[Ah]at ho;have a1:eV (sh (b::op)) (-1)=al (.int (if b=true then 1 else 0)):=by rw[fv];exact kD _ _
    have a2:eV [PV.str ",",PV.str ")"] (if b=true then 1 else 0)=al (.str ⟨#[if b=true then 41 else 44]⟩):=by rw[Gd,Py];cases b <;> rfl
    have em:(!(sh (b::op)).isEmpty)=true:=by rw[fv];simp
    simp only[cD,sB,hX,IX,i8,a1,a2,W.cm,em,if_true,nA,mU,eN,jC,nz,ii,wE,Gd,Py]at a2 ⊢;rw[a2,W.cm];simp only[wE,nA,mU,eN];by_cases c4:c=(if b=true then 41 else 44)
    .rw[if_pos c4]at hA;rw[decide_eq_true c4,if_pos rfl,vH,fv,ya];simp only[sB];refine⟨by rw[se,pc];split<;>simp<;>lia,?_⟩;by_cases Jk:c=44
     .subst Jk;have h:=go (true::op) 0 false ⋯ (by rw[Ah];lia) (by rw[<- hA,if_pos rfl];rfl);rw[fv]at h;exact h
     .have h:=go op 0 (decide (c=41)) ⋯ ∅ (by rw[<- hA,if_neg Jk]);rw[decide_eq_false Jk,if_neg ⋯,AV];exact h
    .rw[if_neg c4]at hA;rw[decide_eq_false c4,if_neg ⋯];subst hA;exact q
 .rintro s ⟨r,i,op,l,w,e,rfl,h8,hi,ho,hA⟩;cases r with
  |cons c r=>cases e
  |nil=>
  simp only[C7]at hi;rw[pY]at hA;have hq:(gx (ou ((gX (PV.cl (sh op))).bind λLB=>ap LB.isEmpty) (Kc ((of2 HS (PV.int (l:Int)) (PV.int 0)).bind va) (fg (PV.bl w)))) (ap PV.a8) (kL iq [PV.str T])).run Q:=by
   have e1:(sh op).isEmpty=decide (op=[]):=by cases op<;>simp[sh]
   have e2:(Kc ((of2 HS (PV.int (l:Int)) (PV.int 0)).bind va) (fg (PV.bl w)))=ap (decide (0<l\/w=true)):=by
    simp only[Mn,sB,eN,hV];by_cases a:0<l
    .have:(0:Int)<l:=by lia
     simp[this,a]
    .have:¬(0:Int)<l:=by lia
     cases w<;>simp[this,a]
   have e3:(ou ((gX (PV.cl (sh op))).bind λLB=>ap LB.isEmpty) (Kc ((of2 HS (PV.int (l:Int)) (PV.int 0)).bind va) (fg (PV.bl w))))=ap (decide (op=[]/\(0<l\/w=true))):=by
    rw[e2];simp only[cD,sB,e1];by_cases a:op=[]
    .simp[a]
    .simp[a]
   rw[e3];simp only[sB];by_cases a:op=[]/\(0<l\/w=true)
   .rw[if_pos a]at hA;rw[decide_eq_true a,if_pos rfl];subst hA;exact q
   .rw[if_neg a]at hA;rw[decide_eq_false a,if_neg ⋯,tj];refine⟨by rw[pc];lia,?_⟩;subst hA;have:T.length=i:=by lia
    rw[this];exact q
  exact hq
def IT{u:Str}(h:u.length<=1000):Pp (.str u)=.ret u:=xL h
def iK(l r:Tr):("(":Str)++(l.text++","++r.text)++")"=(Tr.node l r).text:=by
 apply rD;show _=(Cg++"("++l.text++","++r.text++")":Str).cps.toList;rw[AR,AR,AR,AR,AR,AR,AR,AR,AR];have:Cg.cps=#[]:=rfl;simp[this]
def wI{a b y:PV}(h1:(f a).le (.ret x))(h2:(f b).le (.ret y))(q:Q [x,y]):(jZ [a,b] f).run Q:=by
 show(f a).run (λx=>(f b).run λy=>Q [x,y]);exact h1 _ (h2 _ q)
theorem oT(l r:Tr):(Tr.node l r).text.length=l.text.length+r.text.length+3:=by
 rw[<- iK,Af,Af,Af,Af];have c1:(",":Str).length=1:=by decide +kernel
 have c2:("(":Str).length=1:=by decide +kernel
 have c3:(")":Str).length=1:=by decide +kernel
 lia
theorem kr:∀t:Tr,t.Ws->4*t.depth+1<=t.text.length
 |.leaf x,h=>by
  have:=(h x (.head _)).1;show 4*0+1<=x.length;lia
 |.node l r,h=>by
  have h1:=kr l λx hx=>h x (BX _ hx);have h2:=kr r λx hx=>h x (AJ _ hx);have d:(Tr.node l r).depth=max l.depth r.depth+1:=rfl;rw[oT,d];lia
theorem gW:∀(n:Nat) (t:Tr),t.depth<n->t.text.length<=900->(bD n t.pv).le (.ret (.str t.text))
 |0,t,h,_=>by lia
 |n+1,.leaf x,h,hl=>λQ q=>by
  show(gx (am (am (ap (PV.str x)) (kU .str)) fg) _ _).run _;simp only[sB,Fm,Fj,hV,wE,if_true];exact q
 |n+1,.node l r,h,hl=>λQ q=>by
  have d:(Tr.node l r).depth=max l.depth r.depth+1:=rfl;rw[oT]at hl;show(gx (am (am (ap (PV.tup [l.pv,r.pv])) (kU .str)) fg) _ _).run _;simp only[sB,ii,Fl,Fh,hV,wE,AX,if_false,Tr.pv,sY,IT (show(",":Str).length<=1000 by decide +kernel)];refine wI (gW n l ∅ ∅) (gW n r ∅ ∅) ?_;have c1:(",":Str).length=1:=by decide +kernel
  have c2:("(":Str).length=1:=by decide +kernel
  have c3:(")":Str).length=1:=by decide +kernel
  refine⟨⟨by lia,by lia⟩,?_⟩;refine⟨cf (by rw[Af,Af];lia),cf (by rw[Af,Af,Af];lia),?_⟩;rw[iK];exact q
def Gv(o:Option Nat):of2 jg (fo o) (fo o)=.ret (.bl false):=by
 cases o with
 |none=>rw[s9,xL ⟨by simp[fo],by simp[fo],by simp[fo]⟩,pI _ (by simp[fo])];rfl
 |some n=>simp[fo]
theorem oI(hT:T.length<=900):(zT (.str T)).le (.ret (fo (eU T.cps.toList 0 [] 0 false))):=λQ q=>by
 obtain⟨k,Å,h1,h2⟩:=oC hT;refine⟨rfl,λh=>absurd rfl (h T),λT' e=>?_⟩;injection e with e;subst e;refine⟨cf ∅,k,Å,h1,?_⟩;have q:Q (fo (eU T.cps.toList 0 [] 0 false)):=q;cases Å with
 |error m=>
  have h2:eU T.cps.toList 0 [] 0 false=al m:=h2;rw[h2]at q;exact q
 |ok r=>
  obtain⟨y,n⟩:=r;obtain⟨t,_,_,_,_,h⟩:=h2;rw[h]at q;show Q (if n<T.length then .int n else .a8);by_cases c:n<T.length
  .rw[if_pos c]at q ⊢;exact q
  .rw[if_neg c]at q ⊢;exact q
theorem oA(hT:T.length<=350)(ha:asc T):(bO (.str T)).le (.ret (.bl true)):=λQ q=>by
 have q:Q (.bl true):=q;unfold bO;simp only[sB,ii];refine(xy ∅ ha).use ?_;refine(oI ∅).use ?_;simp only[wE,Gv,eN,sB,AX,if_false,ii];refine(oI ∅).use ?_;simp only[wE,Gv,eN,sB,AX,if_false,ii];obtain⟨k,Å,h1,h2⟩:=oC (T:=T) ∅;generalize eU T.cps.toList 0 [] 0 false=o at h2;cases o with
 |some n=>
  simp only[fo,sZ,PV.l8,Bool.not_false,wE,IV];exact q
 |none=>
  simp only[fo,sZ,PV.l8,DJ,wE,IW,ii];cases Å with
  |error m=>cases h2
  |ok r=>
   obtain⟨y,n⟩:=r;obtain⟨t,rfl,ht,hn,e,h⟩:=h2;have c:¬n<T.length:=λc=>by rw[if_pos c]at h;cases h
   have eT:T=t.text:=by
    apply rD;have hl:T.cps.toList.length=T.length:=by simp[BM]
    rw[Cb ∅]at e;exact e
   refine⟨T,k,t.pv,n,rfl,cf ∅,h1,c,?_⟩;have dp:=kr t ht;rw[<- eT]at dp;refine(gW 90 t ∅ (by rw[<- eT];lia)).use ?_;rw[eT,nA];simp only[beq_self_eq_true,wE];exact q
def tW{w:Str}{i j:Option Int}(h:c∈(Di w i j).cps.toList):c∈w.cps.toList:=by
 unfold Di at h
 split at h
 .exact h
 .have h:c∈(List.filterMap (λi=>w.cps[i]?) (Builtin.Str.strSliceIndices i j 1 w.length)).toArray.toList:=h;rw[List.toList_toArray,Du]at h;obtain⟨i,_,e⟩:=h;have:=Array.mem_of_getElem? e;simpa using this
def bc{a b:Str}(ha:asc a)(hb:asc b):asc (a++b):=λc hc=>by
 rw[AR,Bp]at hc;rcases Cf.mp hc with h|h
 .exact ha c h
 .exact hb c h
theorem gA(ha:asc T)(hT:T.length<=107)(i j:Option Int):∃A,eX (.str T) i j=.ret (.str A)/\asc A/\A.length<=T.length:=
 ⟨Di T i j,xL (cf ∅),λc hc=>ha c (tW hc),Df T _ _⟩
def Bn(v:PV):Prop:=∃U,v=.str U/\asc U/\U.length<=350
theorem yh(ha:asc T)(hT:T.length<=107){ss:O Str}(h0:ss≠[])(h1:ss.length<=100)(hs:∀s∈ss,asc s/\s.length<=8){Q:PV->Prop}(q:∀v,Bn v->Q v):(dq (.str T) (.cl (ss.map PV.str))).run Q:=by
 have sl:0<ss.length:=Cz.mpr h0;unfold dq;simp only[sB,ii,tj,xL (show T.length<=sizeLine from cf ∅),cW,cC ((T.length:Int)+1) ∅ ∅];refine bo λa a0 a1=>bo λb b0 b1=>?_;simp only[hX,ny,AB,wE,ii,cC (ss.length:Int) ∅ ∅];refine bo λd d0 d1=>?_;obtain⟨v,e1,e2⟩:=rm (xs:=ss.map PV.str) d0 (by rw[AB];exact d1);obtain⟨s,ms,rfl⟩:∃s∈ss,v=.str s:=by
  rw[AE]at e2;cases z:ss[d.toNat]? with
  |none=>rw[z]at e2;cases e2
  |some w=>rw[z]at e2;exact⟨w,A8 z,(Option.some.inj e2).symm⟩
 obtain⟨as,ls⟩:=hs s ms;simp only[i8,e1,W.cm,wE,Jb,Jc];generalize (if b<a then b else a)=i;generalize (if b > a then b else a)=j;obtain⟨A,eA,aA,lA⟩:=gA ha hT bn (al i);obtain⟨B,eB,aB,lB⟩:=gA ha hT (al (i+1)) bn;obtain⟨C,eC,aC,lC⟩:=gA ha hT (al i) bn;obtain⟨D,eD,aD,lD⟩:=gA ha hT (al (i+1)) (al j);obtain⟨E,eE,aE,lE⟩:=gA ha hT (al j) bn;obtain⟨F,eF,aF,lF⟩:=gA ha hT (al i) (al j);obtain⟨G,eG,aG,lG⟩:=gA ha hT bn (al j);simp only[jC,sB,cW,eA,eB,eC,eD,eE,eF,eG,wE,tm,W.mJ,ii,W.ku];simp only[uS,k7,W.mJ,wE,W.ku,sB,Ah,C7,Af,List.cons_append,Ec,qV,ii];have e10:((0+1+1+1+1+1+1+1+1+1+1:Nat):Int)=10:=rfl;rw[e10,cC 10 ⋯ ⋯,pc];refine⟨by lia,by lia,by lia,by lia,by lia,by lia,by lia,by lia,by lia,by lia,by lia,by lia,by lia,by lia,by lia,by lia,by lia,by lia,by lia,by lia,bo λc c0 c1=>?_⟩;obtain⟨v,f1,f2⟩:=rm (xs:=[PV.str A,PV.str (A++B),PV.str (A++s++C),PV.str (A++s++B),PV.str (A++(s++D++s)++E),PV.str (A++E++F),PV.str (T++F),PV.str (G++C),PV.str (T++s),PV.str (s++T)]) c0 c1;simp only[i8,f1,W.cm,wE];refine q v ?_;have f3:=A8 f2;simp only[Au,Cu,or_false]at f3;rcases f3 with rfl|rfl|rfl|rfl|rfl|rfl|rfl|rfl|rfl|rfl
 .exact⟨_,rfl,aA,by lia⟩
 .exact⟨_,rfl,bc aA aB,by rw[Af];lia⟩
 .exact⟨_,rfl,bc (bc aA as) aC,by rw[Af,Af];lia⟩
 .exact⟨_,rfl,bc (bc aA as) aB,by rw[Af,Af];lia⟩
 .exact⟨_,rfl,bc (bc aA (bc (bc as aD) as)) aE,by rw[Af,Af,Af,Af];lia⟩
 .exact⟨_,rfl,bc (bc aA aE) aF,by rw[Af,Af];lia⟩
 .exact⟨_,rfl,bc ha aF,by rw[Af];lia⟩
 .exact⟨_,rfl,bc aG aC,by rw[Af];lia⟩
 .exact⟨_,rfl,bc ha as,by rw[Af];lia⟩
 .exact⟨_,rfl,bc as ha,by rw[Af];lia⟩
def ir{s:Str}(h:s.cps.toList.all (λc=>decide (c<128))=true):asc s:=λc hc=>by simpa using DR.mp h c hc
theorem jL:∀t:Tr,t.Ws->asc t.text
 |.leaf x,h=>λc hc=>by
  have:=(h x (.head _)).2.2 c hc;lia
 |.node l r,h=>by
  rw[<- iK];exact bc (bc (ir (by decide +kernel)) (bc (bc (jL l λx hx=>h x (BX _ hx)) (ir (by decide +kernel))) (jL r λx hx=>h x (AJ _ hx)))) (ir (by decide +kernel))
def vV(h:uE x=true)(hx:∀T,x≠.str T):(zT x).le (.ret (.int 0)):=λQ q=>⟨h,λ_=>q,λT e=>absurd e (hx T)⟩
def Q0:dJ=dM:=(rfl)
def cut_str(ws:O Str){a:Nat}(h:a<=ws.length):iU (ws.map PV.str) bn (al (a:Int))=(ws.take a).map PV.str:=by
 unfold iU;rw[HT.oz,HT.rT,List.drop_zero,Nat.sub_zero,List.map_take,AB,Nat.min_eq_left h]
def yn{m:O PV}(h:∀v∈m,v=.bl true):yo m=.ret (.bl true):=by
 have:m=(An m.length true).map PV.bl:=by
  rw[List.map_replicate];exact List.eq_replicate_iff.mpr ⟨rfl,h⟩
 rw[this,FJ];congr 2;simp
def gN:O Str:=["(",")",",","a","z","aaaa","abcdefgh"," ","A","1",".","\n","~","[",";","()"]
def vB:∀s∈gN,asc s/\s.length<=8:=by
 intro s hs;have:gN.all (λs=>s.cps.toList.all (λc=>decide (c<128))&&decide (s.length<=8))=true:=by decide +kernel
 have:=DR.mp this s hs;rw[Bw]at this;exact⟨ir this.1,by simpa using this.2⟩
theorem law74_ok:∀ns:O Int,ns.length<=63->(j0 (.cl (ns.map PV.int))).run (·=.bl true):=by
 intro ns hn;unfold j0;have hl:(iU (ns.map PV.int) bn (al 16)).length<=16:=by
  unfold iU;rw[HT.oz,show(al (16:Int))=al ((16:Nat):Int) from rfl,HT.rT];simp only[Bc,Cv];lia
 generalize hm:(iU (ns.map PV.int) bn (al 16)).length=m at hl;have e16:[PV.str "(",.str ")",.str ",",.str "a",.str "z",.str "aaaa",.str "abcdefgh",.str " ",.str "A",.str "1",.str "."]++[.str "\n",.str "~",.str "[",.str ";",.str "()"]=gN.map PV.str:=rfl;have ec:k7 [PV.str "(",.str ")",.str ",",.str "a",.str "z",.str "aaaa",.str "abcdefgh",.str " ",.str "A",.str "1",.str "."] [.str "\n",.str "~",.str "[",.str ";",.str "()"]=.ret (gN.map PV.str):=by
  rw[<- e16];exact xL ⋯
 simp only[sB,ii,cD,ec,wE];simp only[sB,ii,cD,jC,qV,hm,cW,jB,xL (fZ (i:=0) (j:=1+(m:Int)) ∅ ∅),wE,Q0];refine pH (λ_ s=>s=()) rfl (λk s hk hs=>?_) (λs hs=>?_)
 .refine qS ∅ ∅ λl hl=>?_;refine⟨hl,?_⟩;simp only[sB,ii,wE];refine oj (m:=10) ⋯ ⋯ λws wl hw _=>?_;have wl:ws.length=10:=wl;simp only[sB,ii,xt,cD,cC 10 ⋯ ⋯];refine bo λd d0 d1=>?_;obtain⟨a,rfl⟩:∃a:Nat,d=(a:Int):=⟨d.toNat,by lia⟩;have ea:(1+(a:Int))=((a+1:Nat):Int):=by lia
  simp only[cW,sB,wE,ii,jC,ea,cut_str ws (show a+1<=ws.length by lia)];refine m8 (λz=>by have:=congrArg DD z;rw[Bc,C7]at this;lia) (by rw[Bc];lia) λt ht=>?_;have tw:t.Ws:=λx hx=>hw x (List.mem_of_mem_take (ht▸hx));have tl:t.bB.length<=10:=by rw[ht,Bc];lia
  have tt:=t.text_len tw;have td:=t.kq;refine(gW 90 t ∅ ∅).use ?_;simp only[sB,ii,wE,jB,xL (fZ (i:=0) (j:=12) ∅ ∅)];refine pH (λ_ s=>s=()) rfl (λk s hk hs=>?_) (λs hs=>?_)
  .simp only[sB,ii];refine yh (jL t tw) ∅ (ss:=gN) ⋯ ⋯ vB λv hv=>?_;obtain⟨U,rfl,aU,lU⟩:=hv;refine(oA lU aU).use ?_;simp only[wE,hV,DJ,AX,if_false]
  .simp only[qT,ii,sB,sY,wE,xt];refine sU (λ_ s=>s=()) rfl (λi x s hx hs=>?_) (λs hs=>?_)
   .have hz:uE x=true/\∀T,x≠.str T:=by
     have:=A8 hx;simp only[Au,Cu,or_false]at this;rcases this with rfl|rfl|rfl|rfl|rfl|rfl|rfl|rfl|rfl|rfl<;>exact⟨rfl,λ_ e=>by cases e⟩
    simp only[ii];refine(vV hz.1 hz.2).use ?_;simp only[wE,Ja,beq_self_eq_true,DJ,eN,sB,AX,if_false]
   .simp only[qT,wE]
 .simp only[qT,ii,sB,wE,cD,hX];refine⟨cf (by simp),?_⟩;rw[wE];refine lS (S:=λv=>v=.bl true) (λx hx R r=>?_) λms hl hs=>?_
  .have hz:∃T,x=.str T/\T.length<=350/\asc T:=by
    simp only[List.cons_append,Ec,Au,Cu,or_false]at hx;rcases hx with rfl|rfl|rfl|rfl|rfl|rfl|rfl|rfl|rfl|rfl|rfl|rfl|rfl|rfl|rfl<;>exact⟨_,rfl,by decide +kernel,ir (by decide +kernel)⟩
   obtain⟨T,rfl,lT,aT⟩:=hz;exact(oA lT aT).use (r _ rfl)
  .rw[yn hs];rfl
def all_d{K:Aa}(X:K.In h)(G:h.Ns ge mg)(pO:DX K "_law_hand" (top 16))(pN:DX K "_law_take" (top 17))(nB:DX K "_law_words" (top 18))(k6:DX K "_law_joined" (top 19))(pM:DX K "_law_text" (top 20))(pP:DX K "_law_bent" (top 22))(nG:DX K "_law_fault" (top 23))(nC:DX K "_law_right" (top 24))(RE:RD K)(e_xd:XD K)(pL:DX K "take_many" rS)(hZ:DX K "take_tree_front" mI)(k4:DX K "take_behind" zc)(kZ:DX K "take_nested" rR)(qX:DX K "read_all" zd)(nF:DX K "_law_place" Nt)(e_read_tree:DXc K "read_tree" (top 14) 142){tS:Tok}(iW:Aw K ge "LETTERS"=al (al (.str "abcdefghijklmnopqrstuvwxyz" tS))){jM:Tok}(de:Aw K ge "LONGEST_WORD"=al (al (.int 8 jM)))(F1:Aw K ge "len"=al bn)(J6:Aw K ge "abs"=al bn)(F2:Aw K ge "int"=al bn)(yQ:Aw K ge "range"=al bn)(G3:Aw K ge "list"=al bn)(gF:Aw K ge "isinstance"=al bn)(F0:Aw K ge "str"=al bn)(J3:Aw K ge "min"=al bn)(J4:Aw K ge "max"=al bn)(oi:Aw K ge "enumerate"=al bn)(J5:Aw K ge "all"=al bn)(G4:Aw K ge "bool"=al bn)(mr:Aw K ge "ValueError"=al bn):Ni K mg GS:=by
 constructor
 rintro v rfl rfl D;have q:∀b,NB (v.at b):=λb=>⟨Az X G F1,Az X G J6,Az X G F2,Az X G yQ,Az X G G3,Az X G gF,Az X G F0,Az X G J3,Az X G J4,Az X G oi,Az X G J5⟩;replace iW:=Bh X G iW;replace de:=Bh X G de;have p:=q v.base;have p9:p4 142 "read_tree.<locals>.<lambda>":=⟨by decide +kernel,by decide +kernel⟩;obtain⟨fP,⟨iw⟩⟩:=Lv (v:=v) X G RE e_xd pL hZ k4 kZ qX e_read_tree nF p9 iW de (Az X G F1) (Az X G gF) (Az X G F0) (Az X G G4) (Az X G F2) (Az X G mr);refine pO.go (d:=fJ) X G (λD=>o8 D p) λp6=>?_;refine pN.go (d:=b9) X G (λD=>o7 D) λdG=>?_;refine nB.go (d:=eO) X G (λD=>m5 D p dG) λnQ=>?_;refine k6.go (d:=dN) X G (λD=>kT D p dG) λlh=>?_;refine pM.go (d:=dC) X G (λD=>i5 D p 90) λi9=>?_;refine pP.go (d:=fK) X G (λD=>o9 D p dG) λp7=>?_;refine nG.go (d:=eR) X G (λD=>m7 D p) λnS=>?_;refine nC.go (d:=eQ) X G (λD=>m6 D fP.at' nS iw i9 fP) λnR=>?_;exact LD D p fP.at' p6 nQ lh dG i9 nR p7 iw
end My
end
open PySem PySem.W PyProof.Rows
structure PySem.W.Fast:Prop where(tw3377619112039759231 tw13827633303489420083 tw12335487506066342106 tw18094445418866967916 tw4586414239456315097 tw7722823041824419265 tw5751893055959162622 tw9410153671765562469 tw13153881676269448449 tw6214112682112203721 tw13020222557471990444 tw7885913220888530408 tw2110077177149330922 tw2117372465188547051 tw4196135435232963190 tw10378057216429840720 tw1064135864038558785 tw2715434338322834876 tw15872128290747888362 tw36676281726186189 tw11555071237025526441 tw18115224661646276787 tw8243691862256716721 tw13893878206146235524 tw11344718257891162226 tw9340631206765798040 tw10966622389698105612 tw10170279360293784864 tw9445514341584160018 tw3786814831187206292 tw16835062900063043471 tw11233386925465607460 tw16497754488675565837 tw4005128644834692578 tw5521070636803056548 tw5793569001798513118 tw16405342765941786448 tw6183147955311630755 tw6464588949661991732 tw1721021801063832514 tw12240681906380460798 tw11680789402533417458 tw235626161379512621 tw10803495728197220378 tw5435844067525218442 tw7890972327136729839 tw8842812769203296742 tw5754209325713768958 tw14953251973528778696 tw5798599103196220316 tw10229919700549670128 tw3884780025266598262 tw3844231050020316454 tw2610227834479449453 tw1904185033833731467 tw6426715296371525865 tw15107831582999721908 tw10934495268725939786 tw12267723476737615255 tw18134790647365748234 tw2776222353201421599 tw4810136408032660667 tw15977317833592410368 tw8570022545882147080 tw2231344603643849022 tw17077526591680890671 tw3941780249641953610 tw291332324473416146 tw6501113202514059859 tw8821023582435448929 tw17286470526813556988 tw10005102434516467047 tw5612556091934798427 tw9802382481560868984 tw6420352231840596516 tw6055563215364414459 tw9989177026165203046 tw3839721369274437622 tw7357756413615276731 tw16509634988160455123 tw17201286221247528250 tw9912722484743980174 tw4431774273816265428 tw10555828284141322147 tw5376405659132592940 tw15100872315122802537 tw2762165315812558776 tw7148229321082026698 tw8182669376448300568 tw7510824292441394833 tw3726789807795500101 tw14452293443305525383 tw504267317147011493 tw3229739345765960465 tw6076550058260375701 tw10255070188500331601 tw11567188889124204868 tw4290303734647735070 tw8065223743467261232 tw2912297539074665635 tw1097958289872000645 tw18115918656141291803 tw16140626658258260464 tw17283964869376324344 tw16011737232046634105 tw14610675141142120568 tw15699143574511505976 tw8560872648509159721 tw197930641397092056 tw1974432399077151448 tw11126832231336468075 tw12663134062223716098 tw13622301731202291867 tw15184061304893773173 tw3920721778321513844 tw6108814793172784712 tw2481886757164929995 tw13332329635729157175 tw3412603965349882031 tw15606732404466411241 tw7513631777035031548 tw17710061495712214711 tw7437614978174362338 tw18397520682277041341 tw1398668998497224460 tw17414695557705995178 tw13939002706421150242 tw8916801263444443983 tw807485235335523088 tw6670717828201406663 tw6358233790184673554 tw13535516468706915519 tw15196247183943329610 tw11462228425254967890 tw15055784883793369638 tw10504118199750790015 tw10100891710890166581 tw916686939194518217 tw10456375366195245748 tw10142388485517450985 tw8188476783429059825 tw4558769608156959193 tw1385091779815768762 tw7370608232280745681 tw7861116253763109427 tw1207298266885841458 tw16041466825560222975 tw17903907100386620211 tw12795985441705048549 tw14830496889497842871 tw16518137496755751663 tw1903564451187930823 tw2485430623523570099 tw18391803893304110754 tw3596164880619697844 tw274007366830386627 tw7938665331716917385 tw12569353160383145178 tw7893188727175980761 tw16526454037249639517 tw15176542545409004904 tw2203647270353662436 tw2017736455132881865 tw16645438874441972573 tw5271329077111506325 tw12114503706179879923 tw17020917659933000078 tw8233852147879451090 tw3964405694808934592 tw4943675545129765451 tw4025654191445140591 tw17895570955397367275 tw11258090063390318375 tw9739057493151838346 tw10175357298429377023 tw12390415888476384453 tw18374423673026139182 tw8423649719121209922 tw66568485271392676 tw11713384507683865693 tw7629131367925230623 tw14554524824988554191 tw17517016216197088617 tw9045478316097283202 tw16947323471309833340 tw2244688689349710061 tw17647035863135218667 tw16556890723241064087 tw9332841297771933726 tw10450738924584146631 tw1287451705682002925 tw14934344535875183484 tw15579688912865121909 tw17141894512057100775 tw15364607255319430895 tw3906227803913366188 tw12458795999823854414 tw1284457248758142445 tw10613891611071394807 tw4550433078861601396 tw1068837663041670686 tw4713171474354600749 tw4988495316521707321 tw1048389337274469342 tw5955439251183757648 tw3892490847470999950 tw455685946428905543 tw140602720191074074:True)
def PySem.W.Fast.tw17591379697774466107:=PySem.Challenge.pw_treewithin_k74_texts_that_write_no_tree
theorem PySem.W.Fast.te17591379697774466107:PySem.Challenge.pw_treewithin_k74_texts_that_write_no_tree=PySem.W.Fast.tw17591379697774466107:=rfl
set_option maxRecDepth 100000 in
set_option maxHeartbeats 0 in
theorem PySem.Challenge.cw_treewithin_k74_texts_that_write_no_tree_holds : PySem.Challenge.rw_treewithin_k74_texts_that_write_no_tree.Holds := by
 w_on;o_law;k_head;(case hw=>w_witness2)
 k_fill
 refine FL.walkT (l:=PySem.Challenge.rw_treewithin_k74_texts_that_write_no_tree) (k:=92) rfl rfl ⟨rfl,by decide,by decide,rfl⟩ (fun w h Y=>⟨PySem.W.km_in_of Y,PySem.W.km_tabs_of Y⟩) ?K ?C ?F
 case K=>
  intro w P hP;have hP:P∈[142]:=hP;simp only[List.mem_cons,List.not_mem_nil,or_false]at hP;rcases hP with rfl
  all_goals first|rfl|k_is
 case C=>
  intro w h hK P hP;have hP:P∈[142]:=hP;simp only[List.mem_cons,List.not_mem_nil,or_false]at hP;rcases hP with rfl
  ·(refine' FL.DXc.tab (x:="read_tree") (st:=My.top 14) (FL.dxc ?a ?l ?h ?k ?e ?z) hK;(case a=>k_is);(case l=>k_is);(case h=>k_is);(case k=>k_is);(case e=>k_is);(case z=>exact⟨_,_,_,_,_,_,_,rfl,rfl,rfl,rfl,rfl,rfl,by decide⟩))
 case F=>
  intro w mg fa h KX G hmg;have e8_xd:=FL.forK (fun K=>My.XD K) KX (by
   show My.XD _;refine' My.xdx ?e1 ?e2 ?e3 ?e4 ?e5 ?e6 ?e7 ?e8 ?e9 ?e10 ?e11 ?e12 ?e13 ?e14 ?e15 ?e16 ?e17 ?e18 ?e19 ?e20 ?e21 ?e22 ?e23 ?e24 ?e25 ?e26 ?e27 ?e28 ?e29 ?e30 ?e31 ?e32 ?e33 ?e34 ?e35 ?e36 ?e37 ?e38
   case e1=>k_is
   case e2=>k_is
   case e3=>show Ey _ _ [.type "ValueError",.type "Exception",.type "BaseException",.type "object"] _=true;k_exc
   case e4=>k_is
   case e7=>k_is
   case e21=>k_is
   case e25=>k_is
   case e26=>k_is
   case e5=>k_is
   case e6=>k_is
   case e8=>k_is
   case e9=>k_is
   case e10=>k_is
   case e11=>k_is
   case e12=>k_is
   case e13=>k_is
   case e14=>k_is
   case e15=>k_is
   case e16=>k_is
   case e17=>k_is
   case e18=>k_is
   case e19=>k_is
   case e20=>k_is
   case e22=>k_is
   case e23=>k_is
   case e24=>k_is
   case e27=>k_is
   case e28=>k_is
   case e29=>k_is
   case e30=>k_is
   case e31=>k_is
   case e32=>k_is
   case e33=>k_is
   case e34=>rfl
   case e35=>rfl
   case e36=>k_is
   case e37=>k_is
   case e38=>k_is
   )
  have e8_read_tree:=FL.forK (fun K=>FL.DXc K "read_tree" (My.top 14) 142) KX (by
   show FL.DXc _ _ _ _;refine' FL.dxc ?a ?l ?h ?k ?e ?z
   case a=>k_is
   case l=>k_is
   case h=>k_is
   case k=>k_is
   case e=>k_is
   case z=>exact⟨_,_,_,_,_,_,_,rfl,rfl,rfl,rfl,rfl,rfl,by decide⟩)
  refine' FL.mkAll (st:=My.top 25) (k:=92) My.law74_ok KX G hmg ?e (fun _ _ _ _ _ _=>FL.usN fun _=>rfl) (My.all_d KX G (e_xd:=e8_xd) (e_read_tree:=e8_read_tree) ..)
  all_goals try first|(refine' FL.dx ?a ?l ?c ?k;(case a=>k_is);(case l=>k_is);(case c=>k_is);(case k=>k_is))|(refine' My.rdx ?a ?m2 ?l1 ?c1 ?k1 ?m1 ?m3 ?m4 ?d1 ?d2 ?d3 ?d4 ?n1 ?n2 ?g2 ?l2 ?c2 ?k2 ?i2 ?g3 ?l3 ?c3 ?k3 ?i3;(case a=>k_is);(case m2=>k_is);(case l1=>k_is);(case c1=>k_is);(case k1=>k_is);(case m1=>k_is);(case m3=>k_is);(case m4=>k_is);(case d1=>k_is);(case d2=>k_is);(case d3=>k_is);(case d4=>k_is);(case n1=>k_is);(case n2=>k_is);(case g2=>k_is);(case l2=>k_is);(case c2=>k_is);(case k2=>k_is);(case i2=>k_is);(case g3=>k_is);(case l3=>k_is);(case c3=>k_is);(case k3=>k_is);(case i3=>k_is))|k_is
#print axioms PySem.Challenge.cw_treewithin_k74_texts_that_write_no_tree_holds
