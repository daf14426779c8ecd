import PyProof.Rows.All
import Wide.All
import OpenK.AllK
import Wide.FinOn
import Lean
import PyProof.EqAt
import PyProof.EqKinds
import PyProof.TupleCall
import PyProof.NeKinds
import PyProof.FactsAll.tuple_2
import PyProof.FactsAll.str_0
import PyProof.FactsAll.str_1
import PyProof.FactsAll.str_2
import PyProof.FactsAll.str_3
import PyProof.Rows.MinMaxN
import PyProof.Rows.SumAny
import PyProof.Rows.SetFrom
import PyProof.ReprRoads
import PyProof.Rows.StrKeys3
import PyProof.CallFns
import KE.KSortTup
import KE.KDictSum
import PySem.Challenge.RW_treewithin_k23_whole_two_exchanged
local macro_rules | `(tactic| omega) => `(tactic| lia)
open PySem renaming wpAny_bind -> Aa, wpAny_pure -> Ag, wpAny_callSpecial?_slot -> AZ, wpAny_field -> A4, wpAny_setField_rec -> A6, Value -> A8, wpAny_holding -> Be, wpAny_call_entry -> Bg, wpAny_newObj_type -> Bh, wpAny_truthy_bool -> Bp, Expr -> BD, wpAny_seqItems -> BH, Addr -> BK, wpAny_Call_Name_kw -> BL, wpAny_mono -> BQ, mem_of_lookup -> BS, wpAny_typeNameOfWhole_keyiter -> B5, Str -> Ce, wpAny_passesOwn -> Cj, wpAny_typeOf -> Co, wpAny_typeNameOf_keyiter -> Cr, Pos -> Cv, wpAny_of_eq -> CB, wpAny_pyIter_list -> CH, wpAny_rule -> CK, wpAny_newTuple -> CM, wpAny_attempt -> CU, wpAny_pyIter_tuple -> CY, wpAny_pyIter_enum -> C5, wpAny_isInstance -> Dm, wpAny_standAt -> Ds, wpAny_updateSeq_pair -> Dy, wpAny_letGo -> Dz, wpAny_updateSeq -> DJ, wpAny_specialOf -> DK, wpAny_execs_nil -> DL, Shared -> DW, wpAny_setField -> D8, wpAny_letOwnedTupleGo_enum -> D9, wpAny_sequenceKey -> Ek, wpAny_dictEntries -> El, wpAny_onRaise -> Es, wpAny_comprehension_free -> Et, wpAny_dictEpoch -> E1, wpAny_listPart -> Fe, Heap -> Fx, Obj -> FJ, call -> FR
open PySem.W renaming Frag -> Ab, nsIn -> AE, mg_none_of -> AG, kia_one -> Bf, kitOne -> Bz, mg_of -> BG, fnOf -> B4, keepIn -> CI, KasT -> DU, codeIn -> D3, methodObj -> Eg, kitx_list -> Eh, kitx_dict -> Ei, cellsFrom_some -> EJ, kas_rev -> EW, instObj -> EX, OpenLaw -> EY, lookIn -> Fc, kitx_tuple -> Ft, callWith_K -> Fu, plainGet -> FD, kat_cons -> FE, kas_sort -> FG
open List renaming getElem?_eq_getElem -> Ad, length_append -> Ae, length_map -> Af, getElem?_map -> Ai, size_toArray -> Aj, getElem?_eq_some_iff -> Ak, replicate -> Am, length_cons -> Ao, getD_eq_getElem?_getD -> Ap, map_cons -> Au, range -> Av, mem_map -> Aw, getElem?_eq_none -> Ax, getElem?_append_left -> Ay, mem_cons -> AA, getElem?_append_right -> AB, mem_append_right -> AH, map_append -> AM, mem_range -> AN, mem_filter -> AQ, append_assoc -> AR, mem_cons_of_mem -> AV, mem_append -> AX, map_map -> AY, length_nil -> A2, length_filter_le -> A5, mem_of_getElem? -> Ba, getElem?_set_ne -> Bb, mem_singleton -> Bc, length_replicate -> Bd, ext_getElem? -> Bi, lookup_cons -> Bn, mem_append_left -> Br, drop_eq_getElem_cons -> Bs, getElem?_set_self -> Bu, replicate_succ -> Bv, getElem?_range -> Bw, getElem?_replicate -> Bx, mem_cons_self -> BA, not_mem_nil -> BC, filterMap_cons -> BE, find?_cons -> BJ, any_eq_true -> BO, idxOf_lt_length_of_mem -> BP, length_range -> BR, length_set -> BU, length -> BV, pairwise_iff_getElem -> BW, length_take -> B2, flatten_cons -> B6, forIn_cons -> B8, flatMap_append -> Ca, take_of_length_le -> Cd, nodup_append -> Cq, any_cons -> Cs, map_congr_left -> Ct, length_reverse -> Cu, mem_flatMap -> Cw, length_drop -> Cy, all_eq_true -> Cz, getElem?_of_mem -> CN, mergeSort_perm -> CP, append_nil -> CV, mem_filterMap -> CZ, take_succ -> C9, reverse_cons -> Dc, pairwise_lt_range -> De, map_nil -> Df, replicate_append_replicate -> Dg, take_append_drop -> Di, take_length -> Dp, filter_cons -> Dq, countP_cons -> Dr, getElem_toArray -> DA, eq_nil_of_length_eq_zero -> DB, nodup_cons -> DN, map_const' -> DP, reverse_append -> DR, getElem_of_mem -> DS, pairwise_cons -> Eb, countP_append -> Ec, pairwise_map -> Em, length_erase_of_mem -> Eu, pairwise_mergeSort -> Ez, length_eq_zero_iff -> EA, isEmpty_map -> EB, getElem_mem -> EC, getElem_inj -> ED, drop_length -> EE, map_set -> EN, length_pos_of_mem -> EO, filter_eq_nil_iff -> ER, drop_eq_nil_of_le -> ES, of_mem_zip -> E3, nil_append -> E4, set_append_right -> E7, length_singleton -> E8, getElem?_toArray -> E9, nodup_nil -> Fh, map_eq_nil_iff -> Fo, length_pos_iff -> Fp, map -> FT
open PySem.Heap renaming get?_push_of_some -> Ah, get?_push_size -> Aq, lt_size -> Ar, SameBut -> Cb, get?_update_self -> CD, size_push -> CJ, get?_update_other -> C3, size_update -> Ew, get?_update_ne -> Fm, ExtBut -> FN
open Bool renaming false_eq_true -> Al, and_eq_true -> AO, false_ne_true -> AU, not_true -> Bq, eq_iff_iff -> Cm, not_false -> Ed, and_false -> Ee, or_eq_true -> E5, false_and -> Fi, true_and -> Fs
open Nat renaming le_refl -> An, lt_of_lt_of_le -> Az, zero_add -> AI, ne_of_lt -> AJ, add_assoc -> A3, zero_le -> A7, lt_irrefl -> A9, le_trans -> Bt, le_add_right -> BB, add_sub_cancel_left -> BN, sub_self -> Cp, lt_succ_of_lt -> C7, lt_or_ge -> C8, le_of_ble_eq_true -> Dh, lt_succ_self -> Dn, strongRecOn -> DM, sub_zero -> DY, le_of_lt -> DZ, eq_or_lt_of_le -> Ea, min_eq_left -> E2, sub_sub -> Ff, le_succ -> Fg, succ_mul -> FA, succ -> FC
open PySem.Value renaming ref -> AD, none -> AW, type -> BZ, bool -> B7, str -> D1, int -> D2
open PySem.PassesOwn renaming never -> AL
open Int renaming toNat_natCast -> A1, emod_lt_of_pos -> B3, emod_nonneg -> B9, le_refl -> DC, eq_ofNat_of_zero_le -> EG, zero_add -> ET
open PySem.NameKind renaming free -> Bj, cell -> Fq
open PyProof.Rows renaming callWith_type1 -> Bk, slot_tuple_getitem -> Bl
open PySem.Obj renaming mapSeq -> Bm, data_mapFields -> CW, isFreed_of_fields -> E6
open False renaming elim -> Bo
open Ne renaming symm -> BF
open PySem.F renaming slot_dict_keyiterator_next -> BI, plainAttrs_list -> BM, slot_tuple_iterator_next -> Cf, slot_enumerate_next -> CF, args_tuple_add_2 -> CS, slot_list_getattribute -> CT, entry_tuple_add -> C1, slot_tuple_add -> C4, args_dict_keyiterator_next_1 -> Dk, entry_dict_keyiterator_next -> Du, args_list_extend_2 -> Dv, slot_zip_next -> DE, args_tuple_iterator_next_1 -> DG, entry_list_extend -> DQ, entry_tuple_iterator_next -> DV, slot_list_extend -> D6, type_list_append -> Ep, slot_list_append -> Er, args_enumerate_next_1 -> Ex, entry_enumerate_next -> EK
open True renaming intro -> BX
open PySem.AutoSeq1 renaming wpAny_loadPart' -> B1, sub_tuple_tuple -> Dl, sub_tuple_list -> Dw, sub_list_tuple -> Dx, sub_list_list -> DH, idx_int -> EM
open Or renaming inr -> Cc, inl -> Ci
open PySem.Calls renaming spliced_cons -> Cg, spliced_nil -> CG, Name_function_global -> D7, callWith_builtin -> EL
open ForInStep renaming yield -> Ck
open PySem.Str renaming ofString -> Cn, length_append -> C2
open And renaming right -> CA
open Option renaming map_some -> CC, map_eq_some_iff -> C6, getD_none -> Ey, isSome_map -> Fz
open Array renaming getElem?_eq_getElem -> CO, length_toList -> DT, perm_iff_toList_perm -> Ef, size_append -> En, toList_inj -> EH, getElem?_eq_none -> EU, getElem?_toList -> Fb
open PySem.SeqAt renaming EqAt -> Dj
open PySem.SeqAt.RcNeAt renaming lists_lengths -> D4, lists -> Fv
open PySem.SeqAt.EqAt renaming int_int -> D5, of_refs -> Fw, same -> FO
open PySem.EqBoolInt renaming of_rcne -> Ej, of_rc -> EZ
open PySem.SeqAt.RcAt renaming lists_lengths -> Eo, tuples -> Fy, lists -> FH
open Sum renaming inr -> EI, inl -> Fj
open PySem.Data renaming seq -> Fd
open PySem.IsL renaming isList -> FI
open PyProof.Rows.IsTup renaming new -> FK
open PySem.Flow renaming ret -> FP
open PySem.Fin renaming done -> FQ
set_option compiler.extract_closed false
set_option Elab.async false
set_option linter.all false
set_option maxRecDepth 100000
set_option maxHeartbeats 1000000
open Option renaming some→ap,none→bv
open PyProof.Rows renaming boot_str→ss,envOfC→ut,seqObj→wn,IntsAre→xz,AllBare→IR
open PySem renaming starEach→ce,Value→ci,Addr→db,Shared→dL,wpAny→d5,model→ev,mainGlobals→f8,foldedSetIterable→im,eval→kw,backTo→lm,Expr→lw,compareOp→mo,swapsWith→nn,behindInMarks→nw,Scope→o0,cLine→pc,bootBuiltins→pr,Heap→r9,tupleKind→sn,attributeBase→sw,holding→sB,Around→tt,binaryOp→tz,IntMulOk→t0,Program→ul,Stmt→u8,sysModules→wf,World→wv,Keyword→ww,sliceBounds→wE,rawInt→wP,call_meets→wS,assignEach→wT,swapsWithSole→xL,swappedStores→zn,assign→Da,keywordEach→Db,setItem→Ev,setField→EQ,NameKind→Fa,Builtin→Fk,PassesOwn→FB,tupleKind_room_in1→FM,FuncData→FS,storedH→Gc,sizeLine_eq→Ge,getItem→Gf,backToKw→GE,typeLookup→GM,standAt→GT,codeAny→Ix,letOwnedTupleGo→KB
local macro_rules | `(∅)=>`(by omega)
local macro_rules | `(⋯)=>`(by decide)
namespace L2
open PySem PySem.Spec PyProof.Rows
abbrev Key:=Sum Int Str
def uR:Key->ci->Bool
 | .inl k,v=>Value.isInt k v
 | .inr x,v=>Value.isStrOf x v
def keyH (w:wv):Key->Int
 | .inl k=>hashInt k
 | .inr x=>hashStr w x
def cz:∀{k:Key}{v:ci},uR k v=true->(∃i t,k=Fj i/\v=D2 i t)\/(∃x t,k=EI x/\v=D1 x t)
 | .inl i,v,h=>by
  obtain⟨t,e⟩:=Value.isInt_shape (k:=i) (v:=v) h;exact .inl ⟨i,t,rfl,e⟩
 | .inr x,v,h=>by
  obtain⟨t,e⟩:=Value.isStrOf_shape (x:=x) (v:=v) h;exact .inr ⟨x,t,rfl,e⟩
def Kz (i:Int) (t:Tok):uR (.inl i) (.int i t)=true:=by simp [uR,Value.isInt]
def Ky (x:Str) (t:Tok):uR (.inr x) (.str x t)=true:=by simp [uR,Value.isStrOf]
def Wh (a b:Int):decide ((Fj a:Key)=Fj b)=(a==b):=by
 by_cases e:a=b
 ·subst e;simp
 ·have h:¬(Fj a:Key)=Fj b:=λq=>e (Fj.inj q);rw [decide_eq_false h];exact (beq_eq_false_iff_ne.mpr e).symm
def We (a b:Str):decide ((EI a:Key)=EI b)=decide (a=b):=by
 by_cases e:a=b
 ·subst e;simp
 ·have h:¬(EI a:Key)=EI b:=λq=>e (EI.inj q);rw [decide_eq_false h,decide_eq_false e]
def Wg (a:Int) (b:Str):decide ((Fj a:Key)=EI b)=false:=decide_eq_false (λq=>nomatch q)
def Wf (a:Str) (b:Int):decide ((EI a:Key)=Fj b)=false:=decide_eq_false (λq=>nomatch q)
def bN (prog:ul) (w:wv):PySem.KeyKind prog w Key where
 is:=uR
 hash:=keyH w
 inj:=λv a b ha hb=>by
  rcases cz ha with⟨i,t,rfl,rfl⟩ | ⟨x,t,rfl,rfl⟩
  ·rcases cz hb with⟨j,u,rfl,e⟩ | ⟨y,u,rfl,e⟩
   ·injection e with e1 _;rw [e1]
   ·exact nomatch e
  ·rcases cz hb with⟨j,u,rfl,e⟩ | ⟨y,u,rfl,e⟩
   ·exact nomatch e
   ·injection e with e1 _;rw [e1]
 byValue:=λk v h=>by
  rcases cz h with⟨i,t,rfl,rfl⟩ | ⟨x,t,rfl,rfl⟩ <;> rfl
 pyHash:=λhv h=>by
  rcases cz hv with⟨i,t,rfl,rfl⟩ | ⟨x,t,rfl,rfl⟩
  ·exact wpAny_pyHash_int h
  ·exact wpAny_pyHash_str h
 eqBool:=λhu hv h=>by
  rcases cz hu with⟨i,t,rfl,rfl⟩ | ⟨x,t,rfl,rfl⟩
  ·rcases cz hv with⟨j,u,rfl,rfl⟩ | ⟨y,u,rfl,rfl⟩
   ·rw [Wh] at h;exact wpAny_eqBool_int h
   ·rw [Wg] at h;exact Dj.int_str i t y u _ _ _ _ h
  ·rcases cz hv with⟨j,u,rfl,rfl⟩ | ⟨y,u,rfl,rfl⟩
   ·rw [Wf] at h;exact Dj.str_int x t j u _ _ _ _ h
   ·rw [We] at h;exact wpAny_eqBool_str h
 «strs»:=λk x t v h=>by
  rcases cz h with⟨i,u,rfl,e⟩ | ⟨y,u,rfl,e⟩
  ·exact nomatch e
  ·injection e with e1 _;subst e1;cases v <;> rfl
def yZ (prog:ul) (w:wv) (i:Int) (t:Tok):(bN prog w).is (.inl i) (.int i t)=true:=Kz i t
def yY (prog:ul) (w:wv) (x:Str) (t:Tok):(bN prog w).is (.inr x) (.str x t)=true:=Ky x t
end L2
variable {us:List A8}{u:A8}{κ α β:Type}{a b e:BK}{P:PySem.Program}{w:PySem.World}{h h':Fx}{ob:FJ}
namespace L2
open PySem PySem.Spec PyProof.Rows
inductive V where
 | aX | bl (b:Bool) | int (i:Int) | str (x:Str) | Xd (b:Array UInt8) | XW (b:UInt64) | ref (a:db) | ty (n:String)
 deriving DecidableEq
def RelV:V->ci->Prop
 | .aX,u=>u=AW
 | .bl b,u=>u=B7 b
 | .int i,u=>∃t,u=D2 i t
 | .str x,u=>∃t,u=D1 x t
 | .Xd b,u=>∃t,u=Value.bytes b t
 | .XW b,u=>∃t,u=Value.float b t
 | .ref a,u=>u=AD a
 | .ty n,u=>u=BZ n
abbrev Vals:List V->List ci->Prop:=Paired RelV
def Vals.length {xs:List V} (r:Vals xs us):xs.length=us.length:=Paired.length r
theorem Vals.get:∀{xs:List V}{us:List ci}{i:Nat}{x:V},Vals xs us->xs[i]?=ap x->∃u,us[i]?=ap u/\RelV x u
 | _,_,_,_,.nil,e=>by simp at e
 | _,_,0,_,.cons r _,e=>by simp at e;subst e;exact⟨_,rfl,r⟩
 | _,_,i+1,x,.cons _ t,e=>by
  obtain⟨u,h1,h2⟩:=Vals.get (i:=i) (x:=x) t (by simpa using e);exact⟨u,by simpa using h1,h2⟩
theorem Vals.set {x:V} (r:RelV x u):∀{xs:List V}{us:List ci} (i:Nat),Vals xs us->Vals (xs.set i x) (us.set i u)
 | _,_,_,.nil=>.nil
 | _,_,0,.cons _ t=>.cons r t
 | _,_,i+1,.cons q t=>.cons q (Vals.set r i t)
theorem Vals.append:∀{xs ys:List V}{us ws:List ci},Vals xs us->Vals ys ws->Vals (xs++ys) (us++ws)
 | _,_,_,_,.nil,s=>s
 | _,_,_,_,.cons r t,s=>.cons r (Vals.append t s)
theorem Vals.take:∀{xs:List V}{us:List ci} (n:Nat),Vals xs us->Vals (xs.take n) (us.take n)
 | _,_,0,_=>.nil
 | _,_,_+1,.nil=>.nil
 | _,_,n+1,.cons r t=>.cons r (Vals.take n t)
theorem Vals.drop:∀{xs:List V}{us:List ci} (n:Nat),Vals xs us->Vals (xs.drop n) (us.drop n)
 | _,_,0,r=>r
 | _,_,_+1,.nil=>.nil
 | _,_,n+1,.cons _ t=>Vals.drop n t
def tq:Option V->Option ci->Prop
 | some v,ap u=>RelV v u
 | none,bv=>True
 | _,_=>False
def KV:List (κ×V)->List (κ×ci)->Prop:=Paired λ(p:κ×V) (q:κ×ci)=>p.1=q.1/\RelV p.2 q.2
def kV:Key->V
 | .inl i=>.int i
 | .inr x=>.str x
inductive HO where
 | lst (xs:List V)
 | tup (xs:List V)
 | dK (kvs:List (Key×V)) | dT (kvs:List (List Key×V))
 | set (S:Int->Bool) (n:Nat)
 | ins (C dx:db) (fs:List (Str×V))
 | own (x:db)
 | xd (fs:List (Str×V))
 | met (f x:db)
 | rng (lo hi:Int)
 | cO (o:Obj) (u:HO)
 | UP (ps:Array ci)
 | ext (φ:r9->Prop)
abbrev Hp:=db->Option HO
def upd (H:Hp) (a:db) (o:HO):Hp:=λb=>if b=a then ap o else H b
def aP {H:Hp}{o:HO}:upd H a o a=ap o:=by unfold upd;rw [if_pos rfl]
def aB {H:Hp}{o:HO} (h:b≠a):upd H a o b=H b:=by unfold upd;rw [if_neg h]
def Jc {H:Hp}{o u:HO} (h:H a=ap o) (h':H b=ap u) (d:o≠u):a≠b:=by
 intro e;subst e;rw [h] at h';exact d (Option.some.inj h')
def bO {H:Hp}{o:HO} (h:H a=ap o) (h':H b=bv):a≠b:=by
 intro e;subst e;rw [h] at h';cases h'
section
variable (P:ul) (w:wv)
def bx (H:Hp) (h:r9) (a:db):HO->Prop
 | .lst xs=>xs.length<=sizeLine/\∃(aw:List ci) (n:Nat),Vals xs aw/\h.get? a=ap {cls:=.type "list",data:=.seq aw.toArray n}
 | .tup xs=>xs.length<=sizeLine/\∃aw:List ci,Vals xs aw/\IsTup h a aw.toArray
 | .dK kvs=>kvs.length<=sizeLine/\(a==wf)=false/\∃vs,KV kvs vs/\h.DictOf (bN P w) a vs
 | .dT kvs=>kvs.length<=sizeLine/\(a==wf)=false/\∃xs:List (List Key×db×ci),
   Paired (λ(p:List Key×V) (q:List Key×db×ci)=>p.1=q.1/\H q.2.1=ap (.tup (p.1.map kV))/\RelV p.2 q.2.2) kvs xs/\
   ∃o es ep,h.get? a=ap o/\o.ExactDict/\o.data=.dict es ep/\es.toList=xs.map (entryOfKey (sn (bN P w)))/\(xs.map (·.1)).Nodup
 | .set S n=>h.SetOf (intKind P w) a S n
 | .ins C dx fs=>H dx=ap (.own a)/\fs.length<=1000/\dx≠a/\h.get? a=ap (EX C dx)/\
   ∃mA,h.Ns1 dx mA/\(∀f,tq (fs.lookup f) (mA f))/\PySem.Within mA (fs.map (·.1))
 | .own _=>∃o,h.get? a=ap o
 | .xd fs=>∃mA,h.Ns1 a mA/\∀f,tq (fs.lookup f) (mA f)
 | .rng lo hi=>∃t u v,h.get? a=ap {cls:=.type "range",data:=.fields #[.int lo t,.int hi u,.int 1 v]}
 | .cO o u=>h.get? a=ap o/\bx H h a u
 | .UP ps=>h.get? a=ap {cls:=.none,data:=.fields ps}
 | .met f x=>h.get? a=ap (Eg (.ref f) (.ref x))
 | .ext φ=>φ h/\(∃o,h.get? a=ap o)/\∀h1 h2:r9,φ h1->(∀o,h1.get? a=ap o->h2.get? a=ap o)->φ h2
def lV (H:Hp) (h:r9):Prop:=∀a o,H a=ap o->bx P w H h a o
end
section
variable {H H':Hp}{o:HO}
def bx.lt (x:bx P w H h a o):a < h.objs.size:=by
 cases o with
 | lst xs=>obtain⟨_,_,_,_,e⟩:=x;exact Ar e
 | tup xs=>obtain⟨_,_,_,p⟩:=x;exact p.lt
 | dK kvs=>obtain⟨_,_,_,_,o,_,_,e,_⟩:=x;exact Ar e
 | dT kvs=>obtain⟨_,_,_,_,o,_,_,e,_⟩:=x;exact Ar e
 | set S n=>obtain⟨o,_,_,_,e,_⟩:=x;exact Ar e
 | ins C dx fs=>obtain⟨_,_,_,e,_⟩:=x;exact Ar e
 | own y=>obtain⟨_,e⟩:=x;exact Ar e
 | xd fs=>obtain⟨_,⟨_,_,_,e,_⟩,_⟩:=x;exact Ar e
 | rng lo hi=>obtain⟨_,_,_,e⟩:=x;exact Ar e
 | cO ob u=>obtain⟨e,_⟩:=x;exact Ar e
 | UP ps=>exact Ar (show h.get? a=ap _ from x)
 | met f y=>exact Ar (show h.get? a=ap _ from x)
 | ext φ=>obtain⟨_,⟨_,e⟩,_⟩:=x;exact Ar e
theorem Paired.VT {F G:α->β->Prop}:∀{l₁:List α}{l₂:List β},Paired F l₁ l₂->(∀a b,F a b->G a b)->Paired G l₁ l₂
 | _,_,.nil,_=>.nil
 | _,_,.cons r t,f=>.cons (f _ _ r) (Paired.VT t f)
def bx.vN (x:bx P w H h a o) (k:∀b u,(b=a\/H b=ap (.own a))->h.get? b=ap u->h'.get? b=ap u)
  (ho:∀b,H b=ap (.own a)->H' b=ap (.own a)) (ht:∀b xs,H b=ap (.tup xs)->H' b=ap (.tup xs)):bx P w H' h' a o:=by
 induction o with
 | lst xs=>obtain⟨z,aw,n,r,e⟩:=x;exact⟨z,aw,n,r,k _ _ (.inl rfl) e⟩
 | tup xs=>obtain⟨z,aw,r,ob,e,c⟩:=x;exact⟨z,aw,r,ob,k _ _ (.inl rfl) e,c⟩
 | dK kvs=>obtain⟨z,y,vs,r,ob,es,ep,e,c⟩:=x;exact⟨z,y,vs,r,ob,es,ep,k _ _ (.inl rfl) e,c⟩
 | dT kvs=>
  obtain⟨z,y,xs,r,ob,es,ep,e,c⟩:=x;exact⟨z,y,xs,Paired.VT r λp q z=>⟨z.1,ht _ _ z.2.1,z.2.2⟩,ob,es,ep,k _ _ (.inl rfl) e,c⟩
 | set S n=>obtain⟨ob,es,ep,t,e,c⟩:=x;exact⟨ob,es,ep,t,k _ _ (.inl rfl) e,c⟩
 | ins C dx fs=>
  obtain⟨d,z,ne,e,mA,⟨od,es,ep,e2,c⟩,r⟩:=x;exact⟨ho _ d,z,ne,k _ _ (.inl rfl) e,mA,⟨od,es,ep,k _ _ (.inr d) e2,c⟩,r⟩
 | own y=>obtain⟨ob,e⟩:=x;exact⟨ob,k _ _ (.inl rfl) e⟩
 | xd fs=>obtain⟨mA,⟨od,es,ep,e,c⟩,r⟩:=x;exact⟨mA,⟨od,es,ep,k _ _ (.inl rfl) e,c⟩,r⟩
 | rng lo hi=>obtain⟨t,u,v,e⟩:=x;exact⟨t,u,v,k _ _ (.inl rfl) e⟩
 | cO ob u ih=>obtain⟨e,q⟩:=x;exact⟨k _ _ (.inl rfl) e,ih q⟩
 | UP ps=>
  have e:h.get? a=ap {cls:=.none,data:=.fields ps}:=x;show h'.get? a=ap {cls:=.none,data:=.fields ps};exact k a _ (.inl rfl) e
 | met f y=>
  have e:h.get? a=ap (Eg (.ref f) (.ref y)):=x;show h'.get? a=ap (Eg (.ref f) (.ref y));exact k a _ (.inl rfl) e
 | ext φ=>obtain⟨p,⟨o,e⟩,st⟩:=x;exact⟨st _ _ p λo q=>k _ _ (.inl rfl) q,⟨o,k _ _ (.inl rfl) e⟩,st⟩
def lV.lt (x:lV P w H h) (e:H a=ap o):a < h.objs.size:=(x a o e).lt
def lV.fresh (x:lV P w H h) (e:h.objs.size<=a):H a=bv:=by
 cases q:H a with
 | none=>rfl
 | some u=>exact absurd (Az (x.lt q) e) (A9 _)
def lV.kept (x:lV P w H h) (k:∀b u,h.get? b=ap u->h'.get? b=ap u):lV P w H h':=λa o e=>
 (x a o e).vN (λb u _ q=>k b u q) (λ_ q=>q) λ_ _ q=>q
def lV.laid (x:lV P w H h) (k:∀b u,h.get? b=ap u->h'.get? b=ap u) (hp:h.objs.size<=a) (new:bx P w (upd H a o) h' a o):lV P w (upd H a o) h':=λb u e=>by
 have hn:=x.fresh hp;by_cases hb:b=a
 ·subst hb;rw [aP] at e;cases e;exact new
 ·rw [aB hb] at e;exact (x b u e).vN (λc v _ q=>k c v q) (λc q=>by rw [aB (bO q hn)];exact q) λc xs q=>by rw [aB (bO q hn)];exact q
end
def Rd (H:Hp) (a:db) (u:HO):Prop:=H a=ap u\/∃o,H a=ap (.cO o u)
def Rd.ok {H:Hp}{u:HO} (r:Rd H a u) (x:lV P w H h):bx P w H h a u:=by
 rcases r with r | ⟨o,r⟩
 ·exact x a u r
 ·obtain⟨_,q⟩:=x a _ r;exact q
def Mut:Option HO->Prop
 | some (.lst _)=>True
 | some (.dK _)=>True
 | some (.dT _)=>True
 | some (.set _ _)=>True
 | some (.ins _ _ _)=>True
 | some (.ext _)=>True
 | _=>False
section
variable {H:Hp}{x:db}{o':HO}
def lV.write (ok:lV P w H h) (mu:Mut (H x)) (he:e=x\/H e=ap (.own x)) (k:∀b u,b≠e->h.get? b=ap u->h'.get? b=ap u) (XN:∃u,h'.get? e=ap u)
  (new:bx P w (upd H x o') h' x o'):lV P w (upd H x o') h':=λb u q=>by
 have Nx:∀c y,H c=ap (.own y)->c≠x:=λc y r z=>by subst z;rw [r] at mu;exact mu
 have acY:∀c xs,H c=ap (.tup xs)->c≠x:=λc xs r z=>by subst z;rw [r] at mu;exact mu
 by_cases hb:b=x
 ·subst hb;rw [aP] at q;cases q;exact new
 ·rw [aB hb] at q;by_cases WA:b=e
  ·have q':H b=ap (.own x):=by
    rcases he with z | z
    ·exact absurd (WA.trans z) hb
    ·rw [WA];exact z
   rw [q] at q';cases q';obtain⟨v,hv⟩:=XN;exact⟨v,by rw [WA];exact hv⟩
  ·refine (ok b u q).vN (λc v hc r=>k c v ?_ r) (λc r=>by rw [aB (Nx c b r)];exact r) λc xs r=>by rw [aB (acY c xs r)];exact r
   rcases hc with rfl | hc
   ·exact WA
   ·rintro rfl;rcases he with z | z
    ·exact Nx c b hc z
    ·rw [hc] at z;cases z;exact hb rfl
end
structure Un (fs ex:List db) (H H':Hp) (h h':r9):Prop where
 keep:∀b o,h.get? b=ap o->H b=bv->b∉fs->b∉ex->h'.get? b=ap o
 slot:∀b o,h.get? b=ap o->H b=bv->b∈fs->b∉ex->∃sl,h'.get? b=ap {o with slots:=sl}
 free:∀b o,h.get? b=ap o->H b=bv->b∉ex->H' b=bv
 there:∀b o,h.get? b=ap o->b∉ex->∃o',h'.get? b=ap o'
 eK:∀b xs,H b=ap (.tup xs)->H' b=ap (.tup xs)
 pT:∀b o u,H b=ap (.cO o u)->H' b=ap (.cO o u)
 vH:∀b ps,H b=ap (.UP ps)->∃more,H' b=ap (.UP (ps++more))
section
variable {fs ex:List db}{H H1:Hp}{h1:r9}{x:db}{o:HO}
def Un.any (u:Un fs ex H H1 h h1) (q:h.get? b=ap ob) (n:H b=bv) (hx:b∉ex):∃sl,h1.get? b=ap {ob with slots:=sl}:=by
 by_cases hb:b∈fs
 ·exact u.slot b ob q n hb hx
 ·exact⟨ob.slots,u.keep b ob q n hb hx⟩
def Un.kept (k:∀b u,h.get? b=ap u->h'.get? b=ap u):Un fs ex H H h h':=
 ⟨λb ob q _ _ _=>k b ob q,λb ob q _ _ _=>⟨ob.slots,k b ob q⟩,λ_ _ _ n _=>n,λb ob q _=>⟨ob,k b ob q⟩,λ_ _ q=>q,λ_ _ _ q=>q,λ_ ps q=>⟨#[],by rw [q];simp⟩⟩
def Un.refl:Un fs ex H H h h:=Un.kept λ_ _ q=>q
def Un.laid (k:∀b u,h.get? b=ap u->h'.get? b=ap u) (hp:h.objs.size<=a) (hn:H a=bv):Un fs ex H (upd H a o) h h' where
 keep:=λb u q _ _ _=>k b u q
 slot:=λb u q _ _ _=>⟨u.slots,k b u q⟩
 free:=λb u q n _=>by rw [aB (AJ (Az (Ar q) hp))];exact n
 there:=λb u q _=>⟨u,k b u q⟩
 eK:=λb xs q=>by rw [aB (bO q hn)];exact q
 pT:=λb u xs q=>by rw [aB (bO q hn)];exact q
 vH:=λb ps q=>⟨#[],by rw [aB (bO q hn),q];simp⟩
def Un.write (mu:Mut (H x)) (he:e=x\/H e=ap (.own x)) (k:∀b u,b≠e->h.get? b=ap u->h'.get? b=ap u) (XN:∃u,h'.get? e=ap u):Un fs ex H (upd H x o) h h':=by
 have hx:∀b,H b=bv->b≠x:=λb n z=>by subst z;rw [n] at mu;exact mu
 have hb:∀b,H b=bv->b≠e:=λb n z=>by
  subst z;rcases he with r | r
  ·exact hx b n r
  ·rw [n] at r;cases r
 have hm:∀b u,H b=ap u->¬Mut (ap u)->b≠x:=λb u q nm z=>by subst z;rw [q] at mu;exact nm mu
 refine⟨λb u q n _ _=>k b u (hb b n) q,λb u q n _ _=>⟨u.slots,k b u (hb b n) q⟩,λb u q n _=>by rw [aB (hx b n)];exact n,λb u q _=>?_,
  λb xs q=>by rw [aB (hm b _ q λz=>z)];exact q,λb u xs q=>by rw [aB (hm b _ q λz=>z)];exact q,λb ps q=>⟨#[],by rw [aB (hm b _ q λz=>z),q];simp⟩⟩
 by_cases WA:b=e
 ·subst WA;exact XN
 ·exact⟨u,k b u WA q⟩
end
def trk (h:r9) (H:Hp):List db:=(Av h.objs.size).filter λa=>(H a).isSome
def wY (h:r9) (H:Hp):r9:=PySem.W.hideAll h (trk h H)
def KO (h:r9) (H:Hp):(wY h H).objs.size=h.objs.size:=PySem.W.hideAll_size _ _
def Od {H:Hp}{o:Obj} (e:h.get? b=ap o) (n:H b=bv):(wY h H).get? b=ap o:=
 PySem.W.hideAll_get _ e λhm=>by
  have q:=(AQ.mp hm).2;rw [n] at q;simp at q
def Rm {H:Hp}{o:Obj} (e:(wY h H).get? b=ap o):h.get? b=ap o/\H b=bv:=by
 have e':=PySem.W.of_hideAll (trk h H) e;refine⟨e',?_⟩;cases q:H b with
 | none=>rfl
 | some x=>
  have hm:b∈trk h H:=AQ.mpr ⟨AN.mpr (Ar e'),by simp [q]⟩;have z:(wY h H).get? b=bv:=PySem.W.hideAll_none (trk h H) hm;rw [z] at e;cases e
def S3 (g h:r9) (L:db):List (db×Obj):=(Av h.objs.size).filterMap λa=>if a=L\/(g.get? a).isSome=true then bv else (h.get? a).map λo=>(a,o)
def rest (g h:r9) (L d:db):List (db×Obj):=(S3 g h L).filter λp=>decide (p.1≠d)
end L2
variable {o:FJ}{ch:List BK}{it:BK}{i j:Nat}{M:PySem.Model}{A:PySem.Around}{E:A8->DW->Prop}{v:L2.V}{Q:Unit->DW->Prop}{s' s:DW}
namespace L2
open PySem PySem.Spec PyProof.Rows
structure Mod (K:Ab) (mg:Str->Option ci) (base:r9):Prop where
 kin:K.In base
 glob:base.Ns f8 mg
 blt:∃mb,base.Ns builtinsNs mb/\∀x:Str,x≠"__name__"->mb x=pr x
 nolimit:base.NoLimit
structure Cx where
 prog:ul
 w:wv
 K:Ab
 mg:Str->Option ci
 base:r9
 A:tt
 N:List Str
 s₀:dL
 H₀:Hp
 env:Env
 outer:List Env
 stack:List Env
 ex:List db
 fn:Str->Bool
 calm:Bool
 pn:List (db×Obj)
 xe:ci->dL->Prop
def L5 (l:List Env):List db:=l.filterMap (·.frame)
abbrev Cx.fs (X:Cx):List db:=L5 X.outer
def tH (sc:o0) (x:Str):Prop:=sc.names.lookup x=ap .local\/sc.names.lookup x=ap .cell\/sc.names.lookup x=ap .free
def Loc (sc:o0) (x:Str):Prop:=sc.names.lookup x=ap .local\/sc.names.lookup x=ap .cell
def Look (env:Env) (h:r9) (m:Str->Option ci) (x:Str) (u:ci):Prop:=
 (env.kindOf x=ap .local/\m x=ap u)\/((env.kindOf x=ap .cell\/env.kindOf x=ap .free)/\∃c,env.cells.lookup x=ap c/\h.IsCell c (ap u))
structure Cx.Ok (X:Cx):Prop where
 mod:Mod X.K X.mg X.base
 kind:X.env.scope.kind=.function
 glob:X.env.globals=f8
 blt:X.env.builtins=builtinsNs
 above:X.s₀.heap.objs.size<=X.env.locals
 inj:∀x y c,X.env.cells.lookup x=ap c->X.env.cells.lookup y=ap c->x=y
 has:∀x,(X.env.kindOf x=ap .cell\/X.env.kindOf x=ap .free)->∃c,X.env.cells.lookup x=ap c
 cab:∀x c,X.fn x=true->X.env.cells.lookup x=ap c->X.s₀.heap.objs.size<=c
 hd:X.calm=true->X.A.handled=bv
 frames:X.A.frames=ap X.stack
 stk:X.stack=X.outer\/(X.stack=X.env::X.outer/\X.env.frame=ap X.env.locals)
 exf:∀b∈X.ex,b≠X.env.locals/\∀x c,X.env.cells.lookup x=ap c->c≠b
 bs:∀b o,X.base.get? b=ap o->X.s₀.heap.get? b=ap o/\X.H₀ b=bv
 Uw:X.base.objs.size<=X.s₀.heap.objs.size
 Nz:∀b o,X.base.get? b=ap o->b∉X.ex
 OC:∀b∈X.ex,b∉X.fs
 si:X.s₀.heap.FunFrames X.base X.outer
 XS:∀b∈X.fs,X.H₀ b=bv
structure Inv (X:Cx) (Z:List (db×Obj)) (σ:List (Option V)) (H:Hp) (s:dL):Prop where
 ok:X.Ok
 os:s.os=X.s₀.os
 bare:IR s.gens
 base:Un X.fs X.ex X.H₀ H X.s₀.heap s.heap
 loc:∃m,s.heap.Ns X.env.locals m/\∀(i:Nat) (x:Str) (v:V),X.N[i]?=ap x->σ[i]?=ap (ap v)->tH X.env.scope x->∃u,RelV v u/\Look X.env s.heap m x u
 cell:∀x c,X.env.cells.lookup x=ap c->∃v,s.heap.IsCell c v
 free:H X.env.locals=bv
 ke:∀x c,X.env.cells.lookup x=ap c->H c=bv
 pin:∀p∈X.pn++Z,s.heap.get? p.1=ap p.2/\H p.1=bv/\p.1≠X.env.locals/\p.1∉X.fs/\∀v,p.2.data≠.cell v
 bI:lV X.prog X.w H s.heap
 len:σ.length=X.N.length
section
variable {X:Cx}{Z:List (db×Obj)}{σ:List (Option V)}{H H':Hp}{s:dL}{h':r9}
def Cx.Ok.ac0 (ok:X.Ok) (e:X.base.get? b=ap o):b∉X.fs:=λhb=>by
 have:=(ok.si.mem hb).1;rw [e] at this;cases this
def Inv.bs (I:Inv X Z σ H s):∀b o,X.base.get? b=ap o->s.heap.get? b=ap o/\H b=bv:=λb o e=>
 ⟨I.base.keep b o (I.ok.bs b o e).1 (I.ok.bs b o e).2 (I.ok.ac0 e) (I.ok.Nz b o e),I.base.free b o (I.ok.bs b o e).1 (I.ok.bs b o e).2 (I.ok.Nz b o e)⟩
def Inv.bk (I:Inv X Z σ H s):∀b o,X.base.get? b=ap o->s.heap.get? b=ap o:=λb o e=>(I.bs b o e).1
def Inv.mod (I:Inv X Z σ H s):Mod X.K X.mg X.base:=I.ok.mod
def Inv.t4 (I:Inv X Z σ H s):X.K.In s.heap:=I.ok.mod.kin.keeps I.bk
def Inv.lt (I:Inv X Z σ H s):X.env.locals < s.heap.objs.size:=let ⟨_,hn,_⟩:=I.loc;hn.lt
def Inv.sz (I:Inv X Z σ H s):X.s₀.heap.objs.size<=s.heap.objs.size:=Bt I.ok.above (DZ I.lt)
def Inv.acZ (I:Inv X Z σ H s) (h:s.heap.objs.size<=a):a∉X.fs:=λhb=>by
 obtain⟨_,o,ho,_⟩:=I.ok.si.mem hb;exact absurd (Az (Ar ho) (Bt I.sz h)) (A9 _)
def Inv.Xa (I:Inv X Z σ H s):∀x c,X.env.cells.lookup x=ap c->c≠X.env.locals:=λx c e z=>by
 obtain⟨v,o,ho,hd⟩:=I.cell x c e;obtain⟨m,⟨o',es,ep,N9,Ī,_⟩,_⟩:=I.loc;rw [z,N9] at ho;cases ho;rw [Ī] at hd;cases hd
def Inv.si (I:Inv X Z σ H s):s.heap.FunFrames X.base X.outer:=by
 have all:∀(l:List Env),(∀b∈L5 l,b∈X.fs)->X.s₀.heap.FunFrames X.base l->s.heap.FunFrames X.base l:=by
  intro l
  induction l with
  | nil=>intro _ _;trivial
  | cons env r ih=>
   intro hs hl;obtain⟨hk,⟨L,o,hf,hn,ho,hd⟩,hr⟩:=hl;have hL:=hs L (by unfold L5;rw [BE,hf];exact BA);obtain⟨sl,e⟩:=I.base.slot L o ho (I.ok.XS L hL) hL λz=>I.ok.OC L z hL;exact⟨hk,⟨L,_,hf,hn,e,hd⟩,ih (λb hb=>hs b (by unfold L5;rw [BE,hf];exact AV _ hb)) hr⟩
 exact all X.outer (λ_ hb=>hb) I.ok.si
def Inv.stack (I:Inv X Z σ H s):s.heap.FunFrames X.base X.stack:=by
 rcases I.ok.stk with e | ⟨e,hf⟩
 ·rw [e];exact I.si
 ·rw [e];obtain⟨m,hn,_⟩:=I.loc;refine .cons (by rw [I.ok.kind];decide) hf hn ?_ I.si;exact Heap.get?_none_of_le (Bt I.ok.Uw I.ok.above)
def Inv.Gj (I:Inv X Z σ H s):∀b∈L5 X.stack,b∈X.env.locals::X.fs:=λb hb=>by
 rcases I.ok.stk with e | ⟨e,hf⟩
 ·rw [e] at hb;exact AV _ hb
 ·rw [e] at hb;unfold L5 at hb;rw [BE,hf] at hb;exact hb
def Inv.Iy (I:Inv X Z σ H s):∀b∈L5 X.stack,H b=bv:=λb hb=>by
 rcases AA.mp (I.Gj b hb) with e | hb
 ·rw [e];exact I.free
 ·obtain⟨_,o,ho,_⟩:=I.ok.si.mem hb;exact I.base.free b o ho (I.ok.XS b hb) λz=>I.ok.OC b z hb
def Inv.step {g':Array GenState}{t':Nat}{d':Drawn}{ch:List db} (I:Inv X Z σ H s)
  (P5:∀b∈ch,(b∈X.ex\/X.s₀.heap.objs.size<=b)/\b≠X.env.locals/\(∀x c,X.env.cells.lookup x=ap c->c≠b)/\∀p∈X.pn++Z,p.1≠b)
  (keep:∀b o,b≠X.env.locals->b∉X.fs->b∉ch->s.heap.get? b=ap o->H b=bv->h'.get? b=ap o)
  (slot:∀b o,b≠X.env.locals->b∈X.fs->b∉ch->s.heap.get? b=ap o->H b=bv->∃sl,h'.get? b=ap {o with slots:=sl}) (free:∀b o,b∉ch->s.heap.get? b=ap o->H b=bv->H' b=bv)
  (there:∀b o,b∉ch->s.heap.get? b=ap o->∃o',h'.get? b=ap o')
  (eK:∀b xs,H b=ap (.tup xs)->H' b=ap (.tup xs)) (pT:∀b o u,H b=ap (.cO o u)->H' b=ap (.cO o u)) (vH:∀b ps,H b=ap (.UP ps)->∃more,H' b=ap (.UP (ps++more)))
  (ns:∀m,s.heap.Ns X.env.locals m->h'.Ns X.env.locals m) (bI:lV X.prog X.w H' h') (hg:IR g') :
  Inv X Z σ H' {s with heap:=h',gens:=g',drawn:=d',toks:=t'}:=by
 have neL:∀b o,X.s₀.heap.get? b=ap o->b≠X.env.locals:=λb o e=>AJ (Az (Ar e) I.ok.above);have ö:∀b o,X.s₀.heap.get? b=ap o->b∉X.ex->b∉ch:=λb o e hx hb=>by
  rcases (P5 b hb).1 with z | z
  ·exact hx z
  ·exact absurd (Az (Ar e) z) (A9 _)
 have Þ:∀x c,X.env.cells.lookup x=ap c->∀v,s.heap.IsCell c v->h'.IsCell c v:=λx c e v ⟨o,ho,hd⟩=>by
  have Zv:c∉ch:=λz=>(P5 c z).2.2.1 x c e rfl;by_cases hc:c∈X.fs
  ·obtain⟨sl,q⟩:=slot c o (I.Xa x c e) hc Zv ho (I.ke x c e);exact⟨_,q,hd⟩
  ·exact⟨o,keep c o (I.Xa x c e) hc Zv ho (I.ke x c e),hd⟩
 refine⟨I.ok,I.os,hg,⟨λb o e n hb hx=>?_,λb o e n hb hx=>?_,λb o e n hx=>?_,λb o e hx=>?_,λb xs e=>eK b xs (I.base.eK b xs e),λb o xs e=>pT b o xs (I.base.pT b o xs e),λb ps e=>?_⟩,?_,λx c e=>?_,?_,λx c e=>?_,λp hp=>?_,bI,I.len⟩
 ·exact keep b o (neL b o e) hb (ö b o e hx) (I.base.keep b o e n hb hx) (I.base.free b o e n hx)
 ·obtain⟨sl,e1⟩:=I.base.slot b o e n hb hx;obtain⟨sl',e2⟩:=slot b _ (neL b o e) hb (ö b o e hx) e1 (I.base.free b o e n hx);exact⟨sl',e2⟩
 ·obtain⟨o',e1⟩:=I.base.there b o e hx;exact free b o' (ö b o e hx) e1 (I.base.free b o e n hx)
 ·obtain⟨o',e1⟩:=I.base.there b o e hx;exact there b o' (ö b o e hx) e1
 ·obtain⟨m1,e1⟩:=I.base.vH b ps e;obtain⟨m2,e2⟩:=vH b _ e1;exact⟨m1++m2,by rw [e2,Array.append_assoc]⟩
 ·obtain⟨m,hn,hl⟩:=I.loc;refine⟨m,ns m hn,λi x v e1 e2 e3=>?_⟩;obtain⟨u,r,l⟩:=hl i x v e1 e2 e3;refine⟨u,r,?_⟩;rcases l with l | ⟨k,c,e,z⟩
  ·exact .inl l
  ·exact .inr ⟨k,c,e,Þ x c e _ z⟩
 ·obtain⟨v,z⟩:=I.cell x c e;exact⟨v,Þ x c e v z⟩
 ·obtain⟨m,⟨o,_,_,ho,_⟩,_⟩:=I.loc;exact free _ o (λz=>(P5 _ z).2.1 rfl) ho I.free
 ·obtain⟨v,o,ho,hd⟩:=I.cell x c e;exact free c o (λz=>(P5 c z).2.2.1 x c e rfl) ho (I.ke x c e)
 ·obtain⟨e,n,ne,nf,d⟩:=I.pin p hp;have Zv:p.1∉ch:=λz=>(P5 p.1 z).2.2.2 p hp rfl;exact⟨keep p.1 p.2 ne nf Zv e n,free p.1 p.2 Zv e n,ne,nf,d⟩
def Inv.un {t':Nat} (I:Inv X Z σ H s) (u:Un X.fs [] H H' s.heap h') (bI:lV X.prog X.w H' h'):Inv X Z σ H' {s with heap:=h',toks:=t'}:=by
 obtain⟨m,⟨o,es,ep,ho,r⟩,_⟩:=id I.loc;obtain⟨sl,hL⟩:=u.any ho I.free (by simp);exact I.step (g':=s.gens) (d':=s.drawn) (ch:=[]) (λ_ z=>nomatch z) (λb o _ hb _ e n=>u.keep b o e n hb (by simp)) (λb o _ hb _ e n=>u.slot b o e n hb (by simp)) (λb o _ e n=>u.free b o e n (by simp)) (λb o _ e=>u.there b o e (by simp)) u.eK u.pT u.vH (λm' hm=>by
  obtain⟨o',ą,Ć,N9,r'⟩:=hm;rw [ho] at N9;cases N9;exact⟨_,ą,Ć,hL,r'⟩) bI I.bare
def Inv.call {g':Array GenState}{t':Nat}{d':Drawn} (I:Inv X Z σ H s) (u:Un (L5 X.stack) ch H H' s.heap h') (bI:lV X.prog X.w H' h') (hg:IR g')
  (P5:∀b∈ch,(b∈X.ex\/X.s₀.heap.objs.size<=b)/\b≠X.env.locals/\(∀x c,X.env.cells.lookup x=ap c->c≠b)/\∀p∈X.pn++Z,p.1≠b) :
  Inv X Z σ H' {s with heap:=h',gens:=g',drawn:=d',toks:=t'}:=by
 obtain⟨m,⟨o,es,ep,ho,r⟩,_⟩:=id I.loc;obtain⟨sl,hL⟩:=u.any ho I.free λz=>(P5 _ z).2.1 rfl;exact I.step (ch:=ch) P5 (λb o hL hb hc e n=>u.keep b o e n (λz=>(AA.mp (I.Gj b z)).elim hL hb) hc) (λb o _ _ hc e n=>u.any e n hc) (λb o hc e n=>u.free b o e n hc) (λb o hc e=>u.there b o e hc) u.eK u.pT u.vH (λm' hm=>by
  obtain⟨o',ą,Ć,N9,r'⟩:=hm;rw [ho] at N9;cases N9;exact⟨_,ą,Ć,hL,r'⟩) bI hg
def Inv.turned {t':Nat} (I:Inv X Z σ H s) (k:∀b o,b≠it->s.heap.get? b=ap o->h'.get? b=ap o) (hn:H it=bv) (hL:it≠X.env.locals)
  (h1:it∈X.ex\/X.s₀.heap.objs.size<=it) (h2:∀x c,X.env.cells.lookup x=ap c->c≠it) (h3:∀p∈X.pn++Z,p.1≠it):Inv X Z σ H {s with heap:=h',toks:=t'}:=by
 have TV:∀b u,H b=ap u->b≠it:=λb u e z=>by rw [z,hn] at e;cases e
 refine I.step (g':=s.gens) (d':=s.drawn) (ch:=[it]) (λb hb=>?_) (λb o _ _ hc e _=>k b o (λz=>hc (by simp [z])) e) (λb o _ _ hc e _=>⟨o.slots,k b o (λz=>hc (by simp [z])) e⟩) (λ_ _ _ _ n=>n)
  (λb o hc e=>⟨o,k b o (λz=>hc (by simp [z])) e⟩) (λ_ _ e=>e) (λ_ _ _ e=>e) (λb ps e=>⟨#[],by rw [e];simp⟩) (λm hm=>?_) (λb u e=>?_) I.bare
 ·have e:b=it:=by simpa using hb
  subst e;exact⟨h1,hL,h2,h3⟩
 ·obtain⟨o,es,ep,ho,r⟩:=hm;exact⟨o,es,ep,k _ o (BF hL) ho,r⟩
 ·refine (I.bI b u e).vN (λc v hc q=>k c v ?_ q) (λ_ q=>q) λ_ _ q=>q;rcases hc with z | z
  ·rw [z];exact TV b u e
  ·exact TV c _ z
def Inv.tok (I:Inv X Z σ H s) (t:Nat):Inv X Z σ H {s with toks:=t}:=I.un (h':=s.heap) (t':=t) Un.refl I.bI
def Inv.kept {t':Nat} (I:Inv X Z σ H s) (k:∀b u,s.heap.get? b=ap u->h'.get? b=ap u):Inv X Z σ H {s with heap:=h',toks:=t'}:=I.un (Un.kept k) (I.bI.kept k)
def Inv.laid {o:HO}{t':Nat} (I:Inv X Z σ H s) (k:∀b u,s.heap.get? b=ap u->h'.get? b=ap u) (hp:s.heap.objs.size<=a) (new:bx X.prog X.w (upd H a o) h' a o) :
  Inv X Z σ (upd H a o) {s with heap:=h',toks:=t'}:=I.un (Un.laid k hp (I.bI.fresh hp)) (I.bI.laid k hp new)
def Inv.write {x:db}{o:HO}{t':Nat} (I:Inv X Z σ H s) (mu:Mut (H x)) (he:e=x\/H e=ap (.own x)) (k:∀b u,b≠e->s.heap.get? b=ap u->h'.get? b=ap u) (XN:∃u,h'.get? e=ap u)
  (new:bx X.prog X.w (upd H x o) h' x o):Inv X Z σ (upd H x o) {s with heap:=h',toks:=t'}:=I.un (Un.write mu he k XN) (I.bI.write mu he k XN new)
def Inv.IP {yJ:List (db×Obj)} (I:Inv X Z σ H s) (h:∀p∈yJ,s.heap.get? p.1=ap p.2/\H p.1=bv/\p.1≠X.env.locals/\p.1∉X.fs/\∀v,p.2.data≠.cell v):Inv X yJ σ H s:=
 ⟨I.ok,I.os,I.bare,I.base,I.loc,I.cell,I.free,I.ke,λp hp=>(AX.mp hp).elim (λz=>I.pin p (Br _ z)) (h p),I.bI,I.len⟩
def yV {N:List Str} (hN:N.Nodup) {x:Str} (a:N[i]?=ap x) (b:N[j]?=ap x):i=j:=by
 obtain⟨h1,e1⟩:=Ak.mp a;obtain⟨h2,e2⟩:=Ak.mp b;exact (ED hN).mp (e1.trans e2.symm)
def uE {x:Str} (I:Inv X Z σ H s) (hN:X.N.Nodup) (hi:X.N[i]?=ap x) (hx:Loc X.env.scope x) (r:RelV v u)
  (h:∀s',Inv X Z (σ.set i (ap v)) H s'->(∃a,Cb a s.heap s'.heap/\(a=X.env.locals\/X.env.cells.lookup x=ap a))->Q () s') (hf:X.fn x=true\/X.env.scope.names.lookup x=ap .local:=by first | exact .inl rfl | exact .inr rfl | assumption):d5 M A (storeName X.env x u) Q E s:=by
 obtain⟨m,hn,hl⟩:=id I.loc;have adU:(X.env.scope.kind==.class||(X.env.scope.kind==.module&&X.env.locals != X.env.globals))=false:=by rw [I.ok.kind];rfl
 have Z7:i < σ.length:=by rw [I.len];exact (Ak.mp hi).1
 have Xa:=I.Xa;have Ó:∀{a:db}{h':r9},(∃o,s.heap.get? a=ap o/\H a=bv)->Cb a s.heap h'->lV X.prog X.w H h':=λ{a h'} ha hs b ob e=>by
  obtain⟨_,_,Ue⟩:=ha;refine (I.bI b ob e).vN (λc w' hc q=>(hs.2 c ?_).trans q) (λ_ q=>q) λ_ _ q=>q;rintro rfl;rcases hc with rfl | hc
  ·rw [Ue] at e;cases e
  ·rw [Ue] at hc;cases hc
 rcases hx with hk | hk
 ·refine wpAny_storeName_local hk hn (λh' hn' hs=>?_) adU;obtain⟨oL,_,_,þ,_⟩:=id hn;refine h _ ⟨I.ok,I.os,I.bare,⟨λb o e n hb hx=>?_,λb o e n hb hx=>?_,I.base.free,λb o e hx=>?_,I.base.eK,I.base.pT,I.base.vH⟩,⟨_,hn',λj y v' e1 e2 e3=>?_⟩,λy c e=>?_,I.free,I.ke,λp hp=>?_,Ó ⟨oL,þ,I.free⟩ hs,by simpa using I.len⟩ ⟨_,hs,.inl rfl⟩
  ·exact (hs.2 b (AJ (Az (Ar e) I.ok.above))).trans (I.base.keep b o e n hb hx)
  ·obtain⟨sl,e1⟩:=I.base.slot b o e n hb hx;exact⟨sl,(hs.2 b (AJ (Az (Ar e) I.ok.above))).trans e1⟩
  ·obtain⟨o',e1⟩:=I.base.there b o e hx;exact⟨o',(hs.2 b (AJ (Az (Ar e) I.ok.above))).trans e1⟩
  ·by_cases hj:j=i
   ·subst hj;rw [hi] at e1;cases e1;rw [Bu Z7] at e2;cases e2;exact⟨u,r,.inl ⟨hk,by simp⟩⟩
   ·rw [Bb (BF hj)] at e2;obtain⟨u',r',q⟩:=hl j y v' e1 e2 e3;refine⟨u',r',?_⟩;rcases q with⟨k,e⟩ | ⟨k,c,e,z⟩
    ·refine .inl ⟨k,?_⟩;have:y≠x:=λe=>hj (yV hN e1 (e▸hi));simp [this,e]
    ·exact .inr ⟨k,c,e,z.sameBut hs (Xa y c e)⟩
  ·obtain⟨w',z⟩:=I.cell y c e;exact⟨w',z.sameBut hs (Xa y c e)⟩
  ·obtain⟨e,n,ne,nf,d⟩:=I.pin p hp;exact⟨(hs.2 p.1 ne).trans e,n,ne,nf,d⟩
 ·have è:X.fn x=true:=by
   rcases hf with z | z
   ·exact z
   ·rw [z] at hk;cases hk
  obtain⟨c,hc⟩:=I.ok.has x (.inl hk);obtain⟨w',z⟩:=I.cell x c hc;refine wpAny_storeName_cell I.ok.kind hk hc z (λh' P6 hs=>?_);obtain⟨oc,hoc,adF⟩:=id z;refine h {s with heap:=h'} ⟨I.ok,I.os,I.bare,⟨λb o e n hb hx=>?_,λb o e n hb hx=>?_,I.base.free,λb o e hx=>?_,I.base.eK,I.base.pT,I.base.vH⟩,⟨m,hn.sameBut hs (BF (Xa x c hc)),λj y v' e1 e2 e3=>?_⟩,λy c' e=>?_,I.free,I.ke,λp hp=>?_,Ó ⟨oc,hoc,I.ke x c hc⟩ hs,by simpa using I.len⟩ ⟨c,hs,.inr hc⟩
  ·exact (hs.2 b (AJ (Az (Ar e) (I.ok.cab x c è hc)))).trans (I.base.keep b o e n hb hx)
  ·obtain⟨sl,e1⟩:=I.base.slot b o e n hb hx;exact⟨sl,(hs.2 b (AJ (Az (Ar e) (I.ok.cab x c è hc)))).trans e1⟩
  ·obtain⟨o',e1⟩:=I.base.there b o e hx;exact⟨o',(hs.2 b (AJ (Az (Ar e) (I.ok.cab x c è hc)))).trans e1⟩
  ·by_cases hj:j=i
   ·subst hj;rw [hi] at e1;cases e1;rw [Bu Z7] at e2;cases e2;exact⟨u,r,.inr ⟨.inl hk,c,hc,P6⟩⟩
   ·rw [Bb (BF hj)] at e2;obtain⟨u',r',q⟩:=hl j y v' e1 e2 e3;refine⟨u',r',?_⟩;rcases q with q | ⟨k,c',e,z'⟩
    ·exact .inl q
    ·refine .inr ⟨k,c',e,z'.sameBut hs ?_⟩;rintro rfl;exact hj (yV hN e1 (I.ok.inj _ _ _ e hc▸hi))
  ·by_cases hcc:c'=c
   ·subst hcc;exact⟨_,P6⟩
   ·obtain⟨w2,z2⟩:=I.cell y c' e;exact⟨w2,z2.sameBut hs hcc⟩
  ·obtain⟨e,n,ne,nf,d⟩:=I.pin p hp;refine⟨(hs.2 p.1 ?_).trans e,n,ne,nf,d⟩;intro q;rw [q,hoc] at e;have q':oc=p.2:=Option.some.inj e;exact d w' (by rw [<- q'];exact adF)
def kG {x:Str} (I:Inv X Z σ H s) (hN:X.N.Nodup) (hi:X.N[i]?=ap x) (hx:Loc X.env.scope x) (r:RelV v u)
  (h:∀s',Inv X Z (σ.set i (ap v)) H s'->Q () s') (hf:X.fn x=true\/X.env.scope.names.lookup x=ap .local:=by first | exact .inl rfl | exact .inr rfl | assumption):d5 M A (storeName X.env x u) Q E s:=
 uE I hN hi hx r (λs' I' _=>h s' I') hf
def Inv.aaP (I:Inv X Z σ H s) (ho:s'.os=s.os) (u:Un (L5 X.stack) ch H H' s.heap s'.heap) (bI:lV X.prog X.w H' s'.heap) (hg:IR s'.gens)
  (P5:∀b∈ch,(b∈X.ex\/X.s₀.heap.objs.size<=b)/\b≠X.env.locals/\(∀x c,X.env.cells.lookup x=ap c->c≠b)/\∀p∈X.pn++Z,p.1≠b):Inv X Z σ H' s':=by
 obtain⟨h',g',d',t',o'⟩:=s';have e:o'=s.os:=ho;subst e;exact I.call (g':=g') (t':=t') (d':=d') u bI hg P5
end
abbrev XK:=ci->Option db->Hp->Prop
abbrev St:=List (Option V)
abbrev VK:=V->Hp->Prop
abbrev TE:=St->Hp->VK->Prop
abbrev TT:=St->Hp->(Bool->Hp->Prop)->Prop
abbrev TA:=St->Hp->(List V->Hp->Prop)->Prop
structure Ends where
 nx:St->Hp->Prop
 rt:VK
 bk:St->Hp->Prop:=λ_ _=>False
 ct:St->Hp->Prop:=λ_ _=>False
abbrev TS:=Ends->St->Hp->Prop
def EP (X:Cx) (Z:List (db×Obj)) (σ:St) (Q:VK) (u:ci) (s':dL):Prop:=∃v H',Inv X Z σ H' s'/\RelV v u/\Q v H'
def TP (X:Cx) (Z:List (db×Obj)) (σ:St) (Q:Bool->Hp->Prop) (b:Bool) (s':dL):Prop:=∃H',Inv X Z σ H' s'/\Q b H'
def AP (X:Cx) (Z:List (db×Obj)) (σ:St) (Q:List V->Hp->Prop) (us:List ci) (s':dL):Prop:=∃vs H',Inv X Z σ H' s'/\Vals vs us/\Q vs H'
def SP (X:Cx) (Z:List (db×Obj)) (D:Ends) (f:Flow) (s':dL):Prop:=
 match f with
 | .next=>∃σ' H',Inv X Z σ' H' s'/\D.nx σ' H'
 | .brk=>∃σ' H',Inv X Z σ' H' s'/\D.bk σ' H'
 | .cont=>∃σ' H',Inv X Z σ' H' s'/\D.ct σ' H'
 | .ret u=>∃v σ' H',Inv X Z σ' H' s'/\RelV v u/\D.rt v H'
def PE (X:Cx) (e:lw) (t:TE):Prop:=
 ∀(Z:List (db×Obj)) (s:dL) (σ:St) (H:Hp) (Q:VK),Inv X Z σ H s->t σ H Q->d5 (ev X.prog X.w) X.A (kw e X.env) (EP X Z σ Q) X.xe s
def PT (X:Cx) (e:lw) (t:TT):Prop:=
 ∀(Z:List (db×Obj)) (s:dL) (σ:St) (H:Hp) (Q:Bool->Hp->Prop),Inv X Z σ H s->t σ H Q->d5 (ev X.prog X.w) X.A (isTrue e X.env (kw e X.env)) (TP X Z σ Q) X.xe s
def PW (X:Cx) (e:lw) (t:TT):Prop:=
 ∀(Æ:Sem ci) (Z:List (db×Obj)) (s:dL) (σ:St) (H:Hp) (Q:Bool->Hp->Prop),Inv X Z σ H s->t σ H Q->d5 (ev X.prog X.w) X.A (isTrue e X.env Æ) (TP X Z σ Q) X.xe s
def PW.pt {X:Cx}{e:lw}{t:TT} (h:PW X e t):PT X e t:=h _
def PA (X:Cx) (es:List lw) (t:TA):Prop:=
 ∀(pos:Pos) (Z:List (db×Obj)) (s:dL) (σ:St) (H:Hp) (Q:List V->Hp->Prop),Inv X Z σ H s->t σ H Q->d5 (ev X.prog X.w) X.A (spliced (lm pos (ce es X.env))) (AP X Z σ Q) X.xe s
def PS (X:Cx) (st:u8) (t:TS):Prop:=
 ∀(Z:List (db×Obj)) (s:dL) (σ:St) (H:Hp) (D:Ends),Inv X Z σ H s->t D σ H->d5 (ev X.prog X.w) X.A (exec st X.env) (SP X Z D) X.xe s
def qI (X:Cx) (st:List u8) (t:TS):Prop:=
 ∀(Z:List (db×Obj)) (s:dL) (σ:St) (H:Hp) (D:Ends),Inv X Z σ H s->t D σ H->d5 (ev X.prog X.w) X.A (execs st X.env) (SP X Z D) X.xe s
def bE {t:Sem α}{Q Q':α->dL->Prop} (h:d5 M A t Q E s) (hQ:∀a s,Q a s->Q' a s):d5 M A t Q' E s:=BQ h hQ λ_ _ x=>x
end L2
variable {x:Ce}{H:L2.Hp}{a:BD}{Q:A8->DW->Prop}{X:L2.Cx}{ta tb:L2.TE}{Z:List (BK×FJ)}{σ:L2.St}{R:L2.V->L2.V->L2.Hp->Prop}{pos:Cv}{op:PySem.CmpOp}
namespace L2
open PySem PySem.Spec PyProof.Rows
section
def bin {b:lw} (ha:PE X a ta) (hb:PE X b tb) (I:Inv X Z σ H s) (h:ta σ H λx H1=>tb σ H1 λy H2=>R x y H2) {Q:α->dL->Prop}{f:ci->ci->Sem α}
  (hf:∀v u s2 x y H2,Inv X Z σ H2 s2->RelV x v->RelV y u->R x y H2->d5 (ev X.prog X.w) X.A (f v u) Q X.xe s2) :
  d5 (ev X.prog X.w) X.A (kw a X.env) (λv s₁=>d5 (ev X.prog X.w) X.A (kw b X.env) (λu s₂=>d5 (ev X.prog X.w) X.A (f v u) Q X.xe s₂) X.xe s₁) X.xe s:=by
 refine bE (ha Z s σ H _ I h) λv s1 ⟨x,H1,I1,r1,q1⟩=>?_;refine bE (hb Z s1 σ H1 _ I1 q1) λu s2 ⟨y,H2,I2,r2,q2⟩=>?_;exact hf v u s2 x y H2 I2 r1 r2 q2
def Yr (i:Nat):TE:=λσ H Q=>∃v,σ[i]?=ap (ap v)/\Q v H
def tC (v:V):TE:=λ_ H Q=>Q v H
def cV (hN:X.N[i]?=ap x) (hv:tH X.env.scope x) (hd:(x==("__debug__":Str))=false:=by decide) (hJ:(x==("__classdict__":Str))=false:=by decide):PE X (.Name x pos) (Yr i):=by
 intro Z s σ H Q I h;obtain⟨v,e,h⟩:=h;obtain⟨m,hn,hl⟩:=I.loc;obtain⟨u,r,l⟩:=hl i x v hN e hv;have fin:EP X Z σ Q u s:=⟨v,H,I,r,h⟩;rcases l with⟨hk,hm⟩ | ⟨hk,c,hc,Jy⟩
 ·exact wpAny_Name (wpAny_loadName_local I.ok.kind hk hn hm fin) hd
 ·rcases hk with hk | hk
  ·exact wpAny_Name (wpAny_loadName_cell I.ok.kind hk hc Jy fin) hd
  ·exact wpAny_Name (wpAny_loadName_free I.ok.kind hk hc Jy fin hJ) hd
def rj {i j pos}:PE X (.Constant (.int i) j pos) (tC (.int i)):=λ_ _ _ H _ I h=>wpAny_Constant_int ⟨.int i,H,I.tok _,⟨_,rfl⟩,h⟩
def Zg {b j pos}:PE X (.Constant (.bool b) j pos) (tC (.bl b)):=λ_ _ _ H _ I h=>Constant_bool ⟨.bl b,H,I,rfl,h⟩
def Vu {j pos}:PE X (.Constant .none j pos) (tC .aX):=λ_ _ _ H _ I h=>Constant_none ⟨.aX,H,I,rfl,h⟩
def rh {x j pos}:PE X (.Constant (.str x) j pos) (tC (.str x)):=λ_ _ _ H _ I h=>Calls.Constant_str ⟨.str x,H,I.tok _,⟨_,rfl⟩,h⟩
def Gl (X:Cx) (x:Str):Prop:=X.env.kindOf x=ap .globalImplicit
def Jg (I:Inv X Z σ H s) (hg:Gl X x) (hm:X.mg x=ap u) (h:Q u s)
  (hd:(x==("__debug__":Str))=false:=by decide):d5 (ev X.prog X.w) X.A (kw (.Name x pos) X.env) Q E s:=
 D7 I.ok.kind hg (Calls.loadGlobal_global (by rw [I.ok.glob];exact I.mod.glob.keeps I.bk) hm h) hd
def jP (I:Inv X Z σ H s) (hg:Gl X x) (hm:X.mg x=bv) (hv:pr x=ap u) (h:Q u s)
  (hn:x≠"__name__":=by decide) (hd:(x==("__debug__":Str))=false:=by decide):d5 (ev X.prog X.w) X.A (kw (.Name x pos) X.env) Q E s:=by
 obtain⟨mb,h1,h2⟩:=I.mod.blt;exact D7 I.ok.kind hg (Calls.loadGlobal_builtin (by rw [I.ok.glob];exact I.mod.glob.keeps I.bk) hm (by rw [I.ok.blt];exact h1.keeps I.bk) ((h2 x hn).trans hv) h) hd
def qf (hg:Gl X x) (hm:X.mg x=ap u) (r:RelV v u) (hd:(x==("__debug__":Str))=false:=by decide):PE X (.Name x pos) (tC v):=
 λ_ _ _ H _ I h=>Jg I hg hm ⟨v,H,I,r,h⟩ hd
def Q9 (hg:Gl X x) (hm:X.mg x=bv) (hv:pr x=ap u) (r:RelV v u) (hn:x≠"__name__":=by decide) (hd:(x==("__debug__":Str))=false:=by decide):PE X (.Name x pos) (tC v):=
 λ_ _ _ H _ I h=>jP I hg hm hv ⟨v,H,I,r,h⟩ hn hd
variable {b:lw}
def PC (X:Cx) (op:CmpOp) (a b:lw) (t:TE):Prop:=
 ∀(Z:List (db×Obj)) (s:dL) (σ:St) (H:Hp) (Q:VK),Inv X Z σ H s->t σ H Q->
  d5 (ev X.prog X.w) X.A (kw a X.env) (λv s₁=>d5 (ev X.prog X.w) X.A (kw b X.env) (λu s₂=>d5 (ev X.prog X.w) X.A (mo op v u) (EP X Z σ Q) X.xe s₂) X.xe s₁) X.xe s
def tB (t:TE):TT:=λσ H Q=>t σ H λx H1=>∃c,x=.bl c/\Q c H1
def Vl {t:TE} (h:PC X op a b t) (h1:nw op b=false:=by first | exact Zt _ ⋯ ⋯ | rfl):PT X (.Compare a [op] [b] pos) (tB t):=by
 intro Z s σ H Q I hw;refine wpAny_isTrue_Compare1 (bE (h Z s σ H _ I hw) λv s1 h1=>bE h1 λu s2 h2=>bE h2 λc s3 ⟨x,H1,I1,r1,q1⟩=>?_) h1;obtain⟨d,rfl,q⟩:=q1;cases r1;exact Bp ⟨H1,I1,q⟩
variable {tA ñ:TT}{rest:List lw}
def acE (t u:TT):TT:=λσ H Q=>t σ H λc H1=>if c=true then u σ H1 Q else Q false H1
def tOr (t u:TT):TT:=λσ H Q=>t σ H λc H1=>if c=true then Q true H1 else u σ H1 Q
def acx (t:TT):TT:=λσ H Q=>t σ H λc H1=>Q (!c) H1
def QU (ha:PT X a tA):PW X (.BoolOp .And [a] pos) tA:=by
 intro wh Z s σ H Q I h;refine isTrue_and (bE (ha Z s σ H Q I h) λc s1 e=>?_);cases c with
 | true=>exact isTrue_and_nil e
 | false=>exact e
def Vh (ha:PT X a tA):PW X (.BoolOp .Or [a] pos) tA:=by
 intro wh Z s σ H Q I h;refine isTrue_or (bE (ha Z s σ H Q I h) λc s1 e=>?_);cases c with
 | false=>exact isTrue_or_nil e
 | true=>exact e
def Vi (ha:PT X a tA) (hb:PW X (.BoolOp .And (b::rest) pos) ñ):PW X (.BoolOp .And (a::b::rest) pos) (acE tA ñ):=by
 intro wh Z s σ H Q I h;refine isTrue_and (bE (ha Z s σ H _ I h) λc s1 ⟨H1,I1,q1⟩=>?_);cases c with
 | true=>exact hb wh Z s1 σ H1 Q I1 q1
 | false=>exact⟨H1,I1,q1⟩
def Y9 (ha:PT X a tA) (hb:PW X (.BoolOp .Or (b::rest) pos) ñ):PW X (.BoolOp .Or (a::b::rest) pos) (tOr tA ñ):=by
 intro wh Z s σ H Q I h;refine isTrue_or (bE (ha Z s σ H _ I h) λc s1 ⟨H1,I1,q1⟩=>?_);cases c with
 | true=>exact⟨H1,I1,q1⟩
 | false=>exact hb wh Z s1 σ H1 Q I1 q1
def Vk (ha:PT X a tA):PT X (.UnaryOp .Not a pos) (acx tA):=by
 intro Z s σ H Q I h;exact isTrue_not (ha Z s σ H (λc H1=>Q (!c) H1) I h)
def YF (ta tb:TE):TE:=λσ H Q=>ta σ H λx H1=>∃c,x=.bl c/\if c=true then tb σ H1 Q else Q (.bl false) H1
def acw (ta tb:TE):TE:=λσ H Q=>ta σ H λx H1=>∃c,x=.bl c/\if c=true then Q (.bl true) H1 else tb σ H1 Q
def Yu (ta:TE):TE:=λσ H Q=>ta σ H λx H1=>∃c,x=.bl c/\Q (.bl (!c)) H1
def Vs {op}{t:TE} (h:PE X a t):PE X (.BoolOp op [a] pos) t:=λZ s σ H Q I hw=>BoolOp_one (h Z s σ H Q I hw)
def Vw (ha:PE X a ta) (hb:PE X (.BoolOp .And (b::rest) pos) tb):PE X (.BoolOp .And (a::b::rest) pos) (YF ta tb):=by
 intro Z s σ H Q I h;refine BoolOp_and (bE (ha Z s σ H _ I h) λv s1 ⟨x,H1,I1,r1,q1⟩=>?_);obtain⟨c,rfl,q1⟩:=q1;cases r1;refine Bp ?_;cases c with
 | true=>exact hb Z s1 σ H1 Q I1 q1
 | false=>exact⟨.bl false,H1,I1,rfl,q1⟩
def Zd (ha:PE X a ta) (hb:PE X (.BoolOp .Or (b::rest) pos) tb):PE X (.BoolOp .Or (a::b::rest) pos) (acw ta tb):=by
 intro Z s σ H Q I h;refine BoolOp_or (bE (ha Z s σ H _ I h) λv s1 ⟨x,H1,I1,r1,q1⟩=>?_);obtain⟨c,rfl,q1⟩:=q1;cases r1;refine Bp ?_;cases c with
 | false=>exact hb Z s1 σ H1 Q I1 q1
 | true=>exact⟨.bl true,H1,I1,rfl,q1⟩
def Vt (ha:PE X a ta):PE X (.UnaryOp .Not a pos) (Yu ta):=by
 intro Z s σ H Q I h;refine UnaryOp_ (bE (ha Z s σ H _ I h) λv s1 ⟨x,H1,I1,r1,q1⟩=>?_);obtain⟨c,rfl,q1⟩:=q1;cases r1;exact not_of (Bp ⟨.bl (!c),H1,I1,rfl,q1⟩)
def tIf (t:TT) (ta tb:TE):TE:=λσ H Q=>t σ H λc H1=>if c=true then ta σ H1 Q else tb σ H1 Q
def yL {c:lw} (hc:PT X c tA) (ha:PE X a ta) (hb:PE X b tb):PE X (.IfExp c a b pos) (tIf tA ta tb):=by
 intro Z s σ H Q I h;refine wpAny_IfExp (bE (hc Z s σ H _ I h) λd s1 ⟨H1,I1,q1⟩=>?_);cases d with
 | true=>exact ha Z s1 σ H1 Q I1 q1
 | false=>exact hb Z s1 σ H1 Q I1 q1
end
end L2
variable {xs ys:List L2.V}{H':L2.Hp}{e tg:BD}{y:L2.V}{D:L2.Ends}{te to ti:L2.TE}{es:List BD}{n:Nat}{Õ px py pt fH:Cv}{body:List PySem.Stmt}
namespace L2
open PySem PySem.Spec PyProof.Rows
def c6 (K:Ab) (H:Hp) (a:db) (xs:List V):Prop:=
 Rd H a (.lst xs)\/
  ∃(o:Obj) (aw:Array ci) (n:Nat),K.lookup a=ap o/\o.cls=.type "list"/\o.dict=bv/\o.data=.seq aw n/\aw.size<=sizeLine/\Vals xs aw.toList
def d7 (K:Ab) (H:Hp) (a:db) (xs:List V):Prop:=
 Rd H a (.tup xs)\/
  ∃(o:Obj) (aw:Array ci) (n:Nat),K.lookup a=ap o/\o.cls=.type "tuple"/\o.data=.seq aw n/\aw.size<=sizeLine/\Vals xs aw.toList
def aes:ci->Option V
 | .none=>ap .aX
 | .bool b=>ap (.bl b)
 | .int i _=>ap (.int i)
 | .str x _=>ap (.str x)
 | .bytes b _=>ap (.Xd b)
 | .float b _=>ap (.XW b)
 | .ref a=>ap (.ref a)
 | .type n=>ap (.ty n)
 | _=>bv
def RelV.abs {x:V} (r:RelV x u):aes u=ap x:=by
 cases x with
 | aX=>cases r;rfl
 | bl _=>cases r;rfl
 | int _=>obtain⟨t,rfl⟩:=r;rfl
 | str _=>obtain⟨t,rfl⟩:=r;rfl
 | Xd _=>obtain⟨t,rfl⟩:=r;rfl
 | XW _=>obtain⟨t,rfl⟩:=r;rfl
 | ref _=>cases r;rfl
 | ty _=>cases r;rfl
def RelV.inj {x:V} (r:RelV x u) (q:RelV y u):x=y:=Option.some.inj (r.abs.symm.trans q.abs)
theorem Vals.inj:∀{xs ys:List V}{us:List ci},Vals xs us->Vals ys us->xs=ys
 | _,_,_,.nil,.nil=>rfl
 | _,_,_,.cons r t,.cons r' t'=>by rw [r.inj r',Vals.inj t t']
section
variable {a:db}
def c6.of {K:Ab} (h:H a=ap (.lst xs)):c6 K H a xs:=.inl (.inl h)
def d7.of {K:Ab} (h:H a=ap (.tup xs)):d7 K H a xs:=.inl (.inl h)
theorem Inv.list (I:Inv X Z σ H s) (h:c6 X.K H a xs):∃aw:List ci,Vals xs aw/\PlainL s.heap a aw.toArray/\xs.length<=sizeLine:=by
 rcases h with h | ⟨o,aw,n,hk,hc,hd,hs,hz,r⟩
 ·obtain⟨z,aw,n,r,e⟩:=h.ok I.bI;exact⟨aw,r,⟨_,n,e,rfl,rfl,rfl⟩,z⟩
 ·refine⟨aw.toList,r,⟨o,n,I.t4 a o hk,hc,hd,by simpa using hs⟩,?_⟩;have e:=r.length;simp only [DT] at e;omega
theorem Inv.tuple (I:Inv X Z σ H s) (h:d7 X.K H a xs):∃aw:List ci,Vals xs aw/\IsTup s.heap a aw.toArray/\xs.length<=sizeLine:=by
 rcases h with h | ⟨o,aw,n,hk,hc,hs,hz,r⟩
 ·obtain⟨z,aw,r,p⟩:=h.ok I.bI;exact⟨aw,r,p,z⟩
 ·refine⟨aw.toList,r,⟨o,I.t4 a o hk,hc,n,by simpa using hs⟩,?_⟩;have e:=r.length;simp only [DT] at e;omega
def Inv.y7 (I:Inv X Z σ H s) (h:c6 X.K H a xs) (h':c6 X.K H a ys):xs=ys:=by
 obtain⟨aw,r,⟨o,n,e,_,_,d⟩,_⟩:=I.list h;obtain⟨its',r',⟨o',n',e',_,_,d'⟩,_⟩:=I.list h';rw [e] at e';cases e';rw [d] at d';injection d' with d1 _;have:aw=its':=by simpa using congrArg Array.toList d1
 subst this;exact r.inj r'
def Inv.ly (I:Inv X Z σ H s) (h:d7 X.K H a xs) (h':d7 X.K H a ys):xs=ys:=by
 obtain⟨aw,r,⟨o,e,_,n,d⟩,_⟩:=I.tuple h;obtain⟨its',r',⟨o',e',_,n',d'⟩,_⟩:=I.tuple h';rw [e] at e';cases e';rw [d] at d';injection d' with d1 _;have:aw=its':=by simpa using congrArg Array.toList d1
 subst this;exact r.inj r'
end
abbrev Cx.tP (X:Cx) (E:ci->dL->Prop):Cx:={X with xe:=E}
abbrev Cx.yh (X:Cx):Cx:=X.tP λ_ _=>False
def Cx.Ok.tP (ok:X.Ok) (E:ci->dL->Prop):(X.tP E).Ok:=
 ⟨ok.mod,ok.kind,ok.glob,ok.blt,ok.above,ok.inj,ok.has,ok.cab,ok.hd,ok.frames,ok.stk,ok.exf,ok.bs,ok.Uw,ok.Nz,ok.OC,ok.si,ok.XS⟩
def Cx.Ok.kA (ok:(X.tP E).Ok):X.Ok:=
 ⟨ok.mod,ok.kind,ok.glob,ok.blt,ok.above,ok.inj,ok.has,ok.cab,ok.hd,ok.frames,ok.stk,ok.exf,ok.bs,ok.Uw,ok.Nz,ok.OC,ok.si,ok.XS⟩
section
def Inv.tP (I:Inv X Z σ H s) (E:ci->dL->Prop):Inv (X.tP E) Z σ H s:=⟨I.ok.tP E,I.os,I.bare,I.base,I.loc,I.cell,I.free,I.ke,I.pin,I.bI,I.len⟩
def Inv.kA (I:Inv (X.tP E) Z σ H s):Inv X Z σ H s:=⟨I.ok.kA,I.os,I.bare,I.base,I.loc,I.cell,I.free,I.ke,I.pin,I.bI,I.len⟩
def SP.kA {f:Flow} (h:SP (X.tP E) Z D f s'):SP X Z D f s':=by
 cases f with
 | next=>obtain⟨σ',H',I,q⟩:=h;exact⟨σ',H',I.kA,q⟩
 | brk=>obtain⟨σ',H',I,q⟩:=h;exact⟨σ',H',I.kA,q⟩
 | cont=>obtain⟨σ',H',I,q⟩:=h;exact⟨σ',H',I.kA,q⟩
 | ret u=>obtain⟨v,σ',H',I,r,q⟩:=h;exact⟨v,σ',H',I.kA,r,q⟩
def qI.yh {st:List u8}{t:TS} (h:qI X.yh st t):qI X st t:=λZ s σ H D I hw=>
 BQ (h Z s σ H D (I.tP _) hw) (λ_ _ q=>q.kA) λ_ _ z=>Bo z
end
section
variable {st:u8}{rest:List u8}{t u:TS}
def Yw:TS:=λD σ H=>D.nx σ H
def acs (t u:TS):TS:=λD σ H=>t {D with nx:=u D} σ H
def vZ:qI X [] Yw:=λ_ _ σ H _ I h=>DL ⟨σ,H,I,h⟩
def yF (h1:PS X st t) (h2:qI X rest u):qI X (st::rest) (acs t u):=by
 intro Z s σ H D I h;refine wpAny_execs_cons (bE (h1 Z s σ H {D with nx:=u D} I h) λf s1 q=>?_);cases f with
 | next=>
  obtain⟨σ',H',I',q⟩:=q;exact h2 Z s1 σ' H' D I' q
 | ret v=>exact q
 | brk=>exact q
 | cont=>exact q
def QW (h1:PS X st t):qI X [st] t:=by
 intro Z s σ H D I h;refine wpAny_execs_cons (bE (h1 Z s σ H D I h) λf s1 q=>?_);cases f with
 | next=>exact DL q
 | ret v=>exact q
 | brk=>exact q
 | cont=>exact q
def YB:TS:=λD σ H=>D.ct σ H
def yI:PS X (.Continue pos) YB:=λ_ _ σ H _ I h=>wpAny_Continue ⟨σ,H,I,h⟩
def Inv.quiet (I:Inv X Z σ H s):interactive X.env=false:=by simp [interactive,I.ok.kind]
def Yy (te:TE):TS:=λD σ H=>te σ H λ_ H1=>D.nx σ H1
def m5 (he:PE X e te) (hs:nn e bv pos.line X.env=pure false:=by rfl):PS X (.Expr e pos) (Yy te):=by
 intro Z s σ H D I h;exact wpAny_Expr_any (bE (he Z s σ H _ I h) λv s1 ⟨x,H1,I1,r1,q1⟩=>⟨σ,H1,I1,q1⟩) I.quiet hs
def acu (te:TE):TS:=λD σ H=>te σ H D.rt
def v8 (he:PE X e te):PS X (.Return (ap e) pos) (acu te):=by
 intro Z s σ H D I h;exact wpAny_Return_some (bE (he Z s σ H _ I h) λv s1 ⟨x,H1,I1,r1,q1⟩=>⟨x,σ,H1,I1,r1,q1⟩)
def acz (c:TT) (t u:TS):TS:=λD σ H=>c σ H λb H1=>if b=true then t D σ H1 else u D σ H1
def M8 {c:lw}{a b:List u8}{tc:TT} (hc:PT X c tc) (ha:qI X a t) (hb:qI X b u):PS X (.If c a b pos) (acz tc t u):=by
 intro Z s σ H D I h;refine wpAny_If (bE (hc Z s σ H _ I h) λd s1 ⟨H1,I1,q1⟩=>?_);cases d with
 | true=>exact ha Z s1 σ H1 D I1 q1
 | false=>exact hb Z s1 σ H1 D I1 q1
def UR:TS:=λ_ _ _=>False
end
abbrev TG:=V->St->Hp->(St->Hp->Prop)->Prop
abbrev Xo:=List V->St->Hp->(St->Hp->Prop)->Prop
def PG (X:Cx) (Ë:lw) (t:TG):Prop:=
 ∀(Z:List (db×Obj)) (s:dL) (σ:St) (H:Hp) (v:V) (u:ci) (Q:St->Hp->Prop),Inv X Z σ H s->RelV v u->t v σ H Q->
  d5 (ev X.prog X.w) X.A (Da Ë X.env u) (λ_ s'=>∃σ' H',Inv X Z σ' H' s'/\Q σ' H') X.xe s
def PGs (X:Cx) (ts:List lw) (t:Xo):Prop:=
 ∀(Z:List (db×Obj)) (s:dL) (σ:St) (H:Hp) (vs:List V) (us:List ci) (Q:St->Hp->Prop),Inv X Z σ H s->Vals vs us->t vs σ H Q->
  d5 (ev X.prog X.w) X.A (assignInOrder ((wT ts X.env).map (·.2)) us) (λ_ s'=>∃σ' H',Inv X Z σ' H' s'/\Q σ' H') X.xe s
abbrev FX:=V->V->V->Hp->(Hp->Prop)->Prop
def FY (X:Cx) (t:FX):Prop:=
 ∀(Z:List (db×Obj)) (s:dL) (σ:St) (H:Hp) (o i v:V) (ov iv u:ci) (Q:Hp->Prop),Inv X Z σ H s->RelV o ov->RelV i iv->RelV v u->t o i v H Q->
  d5 (ev X.prog X.w) X.A (Ev ov iv u) (λ_ s'=>∃H',Inv X Z σ H' s'/\Q H') X.xe s
abbrev Xn:=V->V->Hp->VK->Prop
def X7 (X:Cx) (op:Operator) (t:Xn):Prop:=
 ∀(Z:List (db×Obj)) (s:dL) (σ:St) (H:Hp) (x y:V) (v u:ci) (Q:VK),Inv X Z σ H s->RelV x v->RelV y u->t x y H Q->
  d5 (ev X.prog X.w) X.A (inplaceOp op v u) (EP X Z σ Q) X.xe s
section
def dM (i:Nat):TG:=λv σ H Q=>Q (σ.set i (ap v)) H
def Q3 (hN:X.N.Nodup) (hi:X.N[i]?=ap x) (hx:Loc X.env.scope x) (hf:X.fn x=true\/X.env.scope.names.lookup x=ap .local:=by first | exact .inl rfl | exact .inr rfl | assumption):PG X (.Name x pos) (dM i):=by
 intro Z s σ H v u Q I r h;exact wpAny_assign_Name (kG I hN hi hx r (λs' I'=>⟨_,H,I',h⟩) hf)
def Sf:Xo:=λvs σ H Q=>vs=[]/\Q σ H
def mh (t:TG) (u:Xo):Xo:=λvs σ H Q=>∃v r,vs=v::r/\t v σ H λσ' H'=>u r σ' H' Q
def cT:PGs X [] Sf:=by
 intro Z s σ H vs us Q I r h;obtain⟨e,h⟩:=h;subst e;cases r;exact assignInOrder_nil ⟨σ,H,I,h⟩
def aK {t:TG}{u:Xo} (h1:PG X e t) (h2:PGs X es u)
  (hs:(wT (e::es) X.env).map (·.2)=Da e X.env::(wT es X.env).map (·.2):=by rfl):PGs X (e::es) (mh t u):=by
 intro Z s σ H vs us Q I r h;obtain⟨v,vr,e1,h⟩:=h;subst e1;cases r with
 | cons r rr=>
  rw [hs];refine assignInOrder_cons (bE (h1 Z s σ H _ _ _ I r h) λ_ s1 ⟨σ1,H1,I1,q1⟩=>?_);exact h2 Z s1 σ1 H1 _ _ Q I1 rr q1
def Se (K:Ab) (n:Nat) (t:Xo):TG:=λv σ H Q=>∃a xs,v=.ref a/\d7 K H a xs/\xs.length=n/\t xs σ H Q
def d9 {k:Nat}{t:Xo} (hc:X.calm=true) (h:PGs X es t)
  (hn:(wT es X.env).length=n:=by rfl) (tF:(wT es X.env).findIdx? (·.1)=bv:=by rfl):PG X (.Tuple es k pos) (Se X.K n t):=by
 intro Z s σ H v u Q I r hw;obtain⟨a,xs,e1,hq,hl,hw⟩:=hw;subst e1;cases r;obtain⟨aw,rv,ht,hz⟩:=I.tuple hq;refine assign_Tuple_tuple (I.ok.hd hc) ht (by simp [hn,<- hl,rv.length]) tF λh' hx=>?_;have I1:Inv X Z σ H {s with heap:=h'}:=I.kept (t':=s.toks) λb o e=>hx b o (AJ (Ar e)) e;exact h Z _ σ H xs _ Q I1 (by simpa using rv) hw
def ad6 (to ti:TE) (t:FX):TG:=λv σ H Q=>to σ H λo H1=>ti σ H1 λi H2=>t o i v H2 λH3=>Q σ H3
def Nd {o i:lw}{t:FX} (ho:PE X o to) (hi:PE X i ti) (hs:FY X t)
  (ha:∀v,Da (.Subscript o i pos) X.env v=(do
   let ov <- sB [v] (kw o X.env)
   let iv <- sB [v,ov] (kw i X.env)
   GT pos
   sB [v,ov,iv] (Ev ov iv v)
   release [v,ov,iv] []):=by intro _;rfl):PG X (.Subscript o i pos) (ad6 to ti t):=by
 intro Z s σ H v u Q I r h;refine Aa (Be (bE (ho Z s σ H _ I h) λov s1 ⟨x,H1,I1,r1,q1⟩=>?_));refine Aa (Be (bE (hi Z s1 σ H1 _ I1 q1) λiv s2 ⟨y,H2,I2,r2,q2⟩=>?_));refine Aa (Ds (Aa (Be (bE (hs Z s2 σ H2 x y v ov iv u _ I2 r1 r2 r q2) λ_ s3 ⟨H3,I3,q3⟩=>?_))));exact wpAny_release ⟨σ,H3,I3,q3⟩
def UW (te:TE) (g:TG):TS:=λD σ H=>te σ H λx H1=>g x σ H1 D.nx
def v9 {g:TG} (he:PE X e te) (hg:PG X tg g) (hs:xL [tg] e pos.line X.env=pure false:=by rfl) (hw:zn [tg] e X.env=pure bv:=by rfl)
  (h1:(wT [tg] X.env).map (·.2)=[Da tg X.env]:=by rfl):PS X (.Assign [tg] e pos) (UW te g):=by
 intro Z s σ H D I h;refine wpAny_Assign_stores (bE (he Z s σ H _ I h) λv s1 ⟨x,H1,I1,r1,q1⟩=>?_) hs hw;rw [h1];exact bE (hg Z s1 σ H1 x v _ I1 r1 q1) λ_ s2 q=>q
def oz (hN:X.N.Nodup) (hi:X.N[i]?=ap x) (hx:Loc X.env.scope x) (he:PE X e te) (hs:nn e (ap (.Name x Õ)) pos.line X.env=pure false:=by rfl) (hf:X.fn x=true\/X.env.scope.names.lookup x=ap .local:=by first | exact .inl rfl | exact .inr rfl | assumption) :
  PS X (.Assign [.Name x Õ] e pos) (UW te (dM i)):=by
 intro Z s σ H D I h;refine wpAny_Assign_Name (bE (he Z s σ H _ I h) λv s1 ⟨y,H1,I1,r1,q1⟩=>?_) hs;exact kG I1 hN hi hx r1 (λs2 I2=>⟨_,H1,I2,q1⟩) hf
def acv (i j:Nat) (ta:TA):TS:=λD σ H=>ta σ H λvs H1=>∃v w,vs=[v,w]/\D.nx ((σ.set i (ap v)).set j (ap w)) H1
def Vn {y:Str}{b:lw}{ta:TA}{kt k2 Vm} (hc:X.calm=true) (hN:X.N.Nodup) (hi:X.N[i]?=ap x) (hj:X.N[j]?=ap y) (Ă:i≠j)
  (hx:X.env.scope.names.lookup x=ap .local) (hy:X.env.scope.names.lookup y=ap .local) (ha:PA X [a,b] ta)
  (hw:zn [.Tuple [.Name x px,.Name y py] kt pt] (.Tuple [a,b] k2 Vm) X.env=pure (ap [x,y]))
  (hs:xL [.Tuple [.Name x px,.Name y py] kt pt] (.Tuple [a,b] k2 Vm) pos.line X.env=pure false:=by rfl) :
  PS X (.Assign [.Tuple [.Name x px,.Name y py] kt pt] (.Tuple [a,b] k2 Vm) pos) (acv i j ta):=by
 intro Z s σ H D I h;refine Aa (Ds ?_);refine Aa (Ag ?_);rw [if_neg ⋯];refine Aa (Tuple_ (bE (ha _ Z s σ H _ I h) λus s1 ⟨vs,H1,I1,r1,q1⟩=>?_));obtain⟨v,w,e1,q1⟩:=q1;subst e1;obtain⟨u1,u2,rfl,rv,ib⟩:∃u1 u2,us=[u1,u2]/\RelV v u1/\RelV w u2:=by
  cases r1 with
  | cons p q=>
   cases q with
   | cons p' q'=>
    cases q';exact⟨_,_,rfl,p,p'⟩
 refine Bh ?_ (by show 2<=sizeLine;decide);have I2:Inv X Z σ H1 {s1 with heap:=s1.heap.push {cls:=.type "tuple",data:=.seq [u1,u2].toArray}}:=I1.kept (t':=s1.toks) λb o e=>Ah _ e;rw [hw];refine Aa (Ag ?_);refine Aa (CK (Aa (unpackItems_tuple (items:=#[u1,u2]) (I.ok.hd hc) (FK s1.heap _) λh' tE=>?_)));have I3:=I2.kept (h':=h') (t':=s1.toks) λb o e=>tE b o (AJ (Ar e)) e;show d5 _ _ (assignInOrder [λv=>bindName X.env y v,λv=>bindName X.env x v] [u2,u1] >>= λ_=>pure Flow.next) _ _ _;refine Aa (assignInOrder_cons (wpAny_bindName (kG I3 hN hj (.inl hy) ib (λs2 I4=>?_) (.inr hy))));refine assignInOrder_cons (wpAny_bindName (kG I4 hN hi (.inl hx) rv (λs3 I5=>assignInOrder_nil (Ag ?_)) (.inr hx)));rw [List.set_comm _ _ (BF Ă)] at I5;exact⟨_,H1,I5,q1⟩
def acD (i:Nat) (te:TE) (ti:Xn):TS:=λD σ H=>∃x,σ[i]?=ap (ap x)/\te σ H λy H1=>ti x y H1 λz H2=>D.nx (σ.set i (ap z)) H2
def Vo {op:Operator}{ti:Xn} (hN:X.N.Nodup) (hi:X.N[i]?=ap x) (hx:Loc X.env.scope x) (he:PE X e te) (ho:X7 X op ti) (hf:X.fn x=true\/X.env.scope.names.lookup x=ap .local:=by first | exact .inl rfl | exact .inr rfl | assumption) :
  PS X (.AugAssign (.Name x Õ) op e pos) (acD i te ti):=by
 intro Z s σ H D I h;obtain⟨v,e1,h⟩:=h;obtain⟨m,hn,hl⟩:=I.loc;have vis:tH X.env.scope x:=by rcases hx with k | k;exact .inl k;exact .inr (.inl k)
 obtain⟨u,r,l⟩:=hl i x v hi e1 vis;refine wpAny_AugAssign_Name ?_;have go:d5 (ev X.prog X.w) X.A (kw e X.env) (λw s₂=>d5 (ev X.prog X.w) X.A (inplaceOp op u w) (λr s₃=>d5 (ev X.prog X.w) X.A (storeName X.env x r) (λ_=>SP X Z D .next) X.xe s₃) X.xe s₂) X.xe s:=by
  refine bE (he Z s σ H _ I h) λw s1 ⟨y,H1,I1,r1,q1⟩=>?_;refine bE (ho Z s1 σ H1 v y u w _ I1 r r1 q1) λz s2 ⟨zv,H2,I2,r2,q2⟩=>?_;exact kG I2 hN hi hx r2 (λs3 I3=>⟨_,H2,I3,q2⟩) hf
 rcases l with⟨hk,hm⟩ | ⟨hk,c,hc,Jy⟩
 ·exact wpAny_loadName_local I.ok.kind hk hn hm go
 ·rcases hk with hk | hk
  ·exact wpAny_loadName_cell I.ok.kind hk hc Jy go
  ·rcases hx with k | k
   ·have:X.env.scope.names.lookup x=ap .free:=hk;rw [k] at this;cases this
   ·have:X.env.scope.names.lookup x=ap .free:=hk;rw [k] at this;cases this
def YE (to ti te:TE) (Qp:V->V->Hp->VK->Prop) (ð:Xn) (Qn:FX):TS:=λD σ H=>to σ H λo H1=>ti σ H1 λi H2=>Qp o i H2 λx H3=>te σ H3 λy H4=>ð x y H4 λz H5=>Qn o i z H5 λH6=>D.nx σ H6
def Xq (X:Cx) (t:V->V->Hp->VK->Prop):Prop:=
 ∀(Z:List (db×Obj)) (s:dL) (σ:St) (H:Hp) (o i:V) (ov iv:ci) (Q:VK),Inv X Z σ H s->RelV o ov->RelV i iv->t o i H Q->
  d5 (ev X.prog X.w) X.A (Gf ov iv) (EP X Z σ Q) X.xe s
def IK {o i:lw}{Qp:V->V->Hp->VK->Prop}{ð:Xn}{Qn:FX}{op:Operator} (ho:PE X o to) (hi:PE X i ti) (hg:Xq X Qp) (he:PE X e te) (hp:X7 X op ð) (hs:FY X Qn)
  (ha:∀ov iv new,augStore i ov iv new=(do sB [new,ov,iv] (Ev ov iv new);release [new,ov,iv] [];pure .next):=by intros;rfl):PS X (.AugAssign (.Subscript o i fH) op e pos) (YE to ti te Qp ð Qn):=by
 intro Z s σ H D I h;refine wpAny_AugAssign_SubscriptAny (bE (ho Z s σ H _ I h) λov s1 ⟨x1,H1,I1,r1,q1⟩=>?_) ha;refine bE (hi Z s1 σ H1 _ I1 q1) λiv s2 ⟨x2,H2,I2,r2,q2⟩=>?_;refine bE (hg Z s2 σ H2 x1 x2 ov iv _ I2 r1 r2 q2) λÎ s3 ⟨x3,H3,I3,r3,q3⟩=>?_;refine bE (he Z s3 σ H3 _ I3 q3) λv s4 ⟨x4,H4,I4,r4,q4⟩=>?_;refine bE (hp Z s4 σ H4 x3 x4 Î v _ I4 r3 r4 q4) λnew s5 ⟨x5,H5,I5,r5,q5⟩=>?_;exact bE (hs Z s5 σ H5 x1 x2 x5 ov iv new _ I5 r1 r2 r5 q5) λ_ s6 ⟨H6,I6,q6⟩=>⟨σ,H6,I6,q6⟩
def ipI (f:Int->Int->Int):Xn:=λx y H Q=>∃i j,x=.int i/\y=.int j/\Q (.int (f i j)) H
def G1:X7 X .Add (ipI λi j=>i+j):=by
 intro Z s σ H x y v u Q I r1 r2 h;obtain⟨i,j,e1,e2,q⟩:=h;subst e1;subst e2;obtain⟨t,rfl⟩:=r1;obtain⟨t',rfl⟩:=r2;exact iadd_int ⟨.int _,H,I.tok _,⟨_,rfl⟩,q⟩
end
section
def UQ (c:TT) (tb:TS):TS:=λD σ H=>∃W:Nat->St->Hp->Prop,(∃m,W m σ H)/\∀m σ H,W m σ H->
 c σ H λb H1=>if b=true then ∃N:St->Hp->Prop,(∀σ' H',N σ' H'->∃m',m' < m/\W m' σ' H')/\tb {D with nx:=N,ct:=N,bk:=D.nx} σ H1 else D.nx σ H1
def yG {c:lw}{tc:TT}{tb:TS} (hp:FB (ev X.prog X.w) X.A X.env X.xe) (hc:PT X c tc) (hb:qI X body tb):PS X (.While c body [] pos) (UQ tc tb):=by
 intro Z s σ H D I h;obtain⟨W,⟨m0,w0⟩,turn⟩:=h;refine wpAny_While (codeAny_whileLoop (λn s'=>∃σ' H',Inv X Z σ' H' s'/\W n σ' H') ?_ m0 ⟨σ,H,I,w0⟩);rintro n s1 ⟨σ1,H1,I1,w1⟩;refine Cj hp (bE (hc Z s1 σ1 H1 _ I1 (turn n σ1 H1 w1)) λb s2 ⟨H2,I2,q2⟩=>?_);cases b with
 | true=>
  obtain⟨N,hN,q2⟩:=q2;refine Cj hp (bE (hb Z s2 σ1 H2 _ I2 q2) λf s3 q3=>?_);cases f with
  | next=>
   obtain⟨σ3,H3,I3,n3⟩:=q3;obtain⟨m',hm,w3⟩:=hN σ3 H3 n3;exact⟨m',hm,σ3,H3,I3,w3⟩
  | cont=>
   obtain⟨σ3,H3,I3,n3⟩:=q3;obtain⟨m',hm,w3⟩:=hN σ3 H3 n3;exact⟨m',hm,σ3,H3,I3,w3⟩
  | brk=>exact q3
  | ret v=>exact q3
 | false=>
  exact DL ⟨σ1,H2,I2,q2⟩
end
structure It where
 go:Nat->Hp->Prop
 Ti:Nat->Hp->V->Hp->Prop
 stop:Nat->Hp->Prop
def uA (X:Cx) (Z:List (db×Obj)) (H:Hp) (b:db):Prop:=
 H b=bv/\b≠X.env.locals/\b∉X.fs/\(b∈X.ex\/X.s₀.heap.objs.size<=b)/\(∀x c,X.env.cells.lookup x=ap c->c≠b)/\∀p∈X.pn++Z,p.1≠b
def Inv.uj (I:Inv X Z σ H s) (hb:s.heap.objs.size<=b) (hn:H' b=bv):uA X Z H' b:=by
 refine⟨hn,Nat.ne_of_gt (Az I.lt hb),I.acZ hb,.inr (Bt I.sz hb),λx c e z=>?_,λp hp z=>?_⟩
 ·obtain⟨v,q⟩:=I.cell x c e;exact absurd (Az q.lt (by rw [z];exact hb)) (A9 _)
 ·exact absurd (Az (Ar (I.pin p hp).1) (by rw [z];exact hb)) (A9 _)
structure Turn (P:ul) (w:wv) (K:Ab) (tg:lw) (J:It) (fp:List db) (it:db) (tn:Nat->r9->Prop):Prop where
 mem:it∈fp
 obj:∀i h,tn i h->∀b∈fp,∃o,h.get? b=ap o/\∀v,o.data≠.cell v
 keep:∀i h h',tn i h->(∀b∈fp,∀o,h.get? b=ap o->h'.get? b=ap o)->tn i h'
 item:∀(X:Cx),X.prog=P->X.w=w->X.K=K->X.calm=true->∀(i:Nat) (Z:List (db×Obj)) (s:dL) (σ:St) (H:Hp) (E:ci->dL->Prop),Inv X Z σ H s->(∀b∈fp,uA X Z H b)->tn i s.heap->J.go i H->
  d5 (ev P w) X.A (pyNext (.ref it)) (λr s1=>∃u,r=ap u/\
   d5 (ev P w) X.A (KB tg (.ref it) u) (λ_ s2=>∃x H',Inv X Z σ H' s2/\RelV x u/\J.Ti i H x H'/\tn (i+1) s2.heap/\∀b∈fp,H' b=bv) E s1) E s
 done:∀(X:Cx),X.prog=P->X.w=w->X.K=K->X.calm=true->∀(i:Nat) (Z:List (db×Obj)) (s:dL) (σ:St) (H:Hp) (E:ci->dL->Prop),Inv X Z σ H s->(∀b∈fp,uA X Z H b)->tn i s.heap->J.stop i H->
  d5 (ev P w) X.A (pyNext (.ref it)) (λr s1=>r=bv/\Inv X Z σ H s1) E s
 self:∀(A:tt) (i:Nat) (s:dL) (Q:ci->dL->Prop) (E:ci->dL->Prop),tn i s.heap->Q (.ref it) s->d5 (ev P w) A (pyIter (.ref it)) Q E s
abbrev TI:=St->Hp->(It->Hp->Prop)->Prop
def PIE (X:Cx) (Z:List (db×Obj)) (σ:St) (tg:lw) (R:It->Hp->Prop) (ù:ci) (s2:dL):Prop:=
 ∃(it:db) (fp:List db) (tn:Nat->r9->Prop) (J:It) (H':Hp),ù=.ref it/\Inv X Z σ H' s2/\Turn X.prog X.w X.K tg J fp it tn/\tn 0 s2.heap/\(∀b∈fp,uA X Z H' b)/\R J H'
def PI (X:Cx) (tg iter:lw) (wi:TI):Prop:=
 ∀(Z:List (db×Obj)) (s:dL) (σ:St) (H:Hp) (R:It->Hp->Prop),Inv X Z σ H s->wi σ H R->
  d5 (ev X.prog X.w) X.A (kw iter X.env) (λv s1=>d5 (ev X.prog X.w) X.A (pyIter v) (PIE X Z σ tg R) X.xe s1) X.xe s
def se {n:String}{vs:Array ci}{Q:Unit->dL->Prop} (ho:s.heap.get? it=ap o) (hc:o.cls=.type n) (hd:o.data=.fields vs)
  (hn:["enumerate","zip","dict_itemiterator","dict_reverseitemiterator","odict_iterator","itertools.zip_longest","itertools.pairwise"].contains n=false) (hQ:Q () s):d5 M A (KB tg (.ref it) u) Q E s:=by
 unfold KB;cases tg <;> first
  | exact Ag hQ
  | (cases u <;> first
    | exact Ag hQ
    | (
      refine Aa (wpAny_load ho ?_);rw [hc,hd];show d5 M A (if (["enumerate","zip","dict_itemiterator","dict_reverseitemiterator","odict_iterator","itertools.zip_longest","itertools.pairwise"].contains n&&vs[0]?==ap (wP _))=true then _ else _) Q E s;rw [if_neg (by intro h;rw [hn,Fi] at h;cases h)];exact Ag hQ))
def Itl (K:Ab) (a:db):It:=
 ⟨λi H=>∃xs x,c6 K H a xs/\xs[i]?=ap x,λi H x H'=>H'=H/\∀xs,c6 K H a xs->xs[i]?=ap x,λi H=>∃xs,c6 K H a xs/\xs.length<=i⟩
def Itt (K:Ab) (a:db):It:=
 ⟨λi H=>∃xs x,d7 K H a xs/\xs[i]?=ap x,λi H x H'=>H'=H/\∀xs,d7 K H a xs->xs[i]?=ap x,λi H=>∃xs,d7 K H a xs/\xs.length<=i⟩
def Itr (lo:Int) (n:Nat):It:=⟨λi _=>i < n,λi H x H'=>H'=H/\x=.int (lo+i),λi _=>n<=i⟩
theorem JY {K:Ab} (a it:db):Turn P w K tg (Itl K a) [it] it (λi h=>h.IsListIter it a i) where
 mem:=by simp
 obj:=λi h st b hb=>by
  have e:b=it:=by simpa using hb
  subst e;obtain⟨o,e,c,d⟩:=st;exact⟨o,e,λv z=>by rw [d] at z;cases z⟩
 keep:=λi h h' st k=>st.at λo e=>k it (by simp) o e
 item:=by
  intro X hP hw hK hc i Z s σ H E I hf st hg;subst hP hw hK;obtain⟨xs,x,hq,hx⟩:=hg;obtain⟨aw,rv,p,hz⟩:=I.list hq;obtain⟨u,hu,ru⟩:=rv.get hx;obtain⟨f0,f1,f2,f3,f4,f5⟩:=hf it (by simp);refine wpAny_pyNext_list_item st p.isList (x:=u) (by simpa using hu) λh' mN sb=>?_;have I1:Inv X Z σ H {s with heap:=h'}:=I.turned (t':=s.toks) (λb o hb e=>(sb.2 b hb).trans e) f0 f1 f3 f4 f5;obtain⟨o,e,c,d⟩:=id mN;exact⟨u,rfl,se (s:={s with heap:=h'}) e c d ⋯ ⟨x,H,I1,ru,⟨rfl,λys hy=>by rw [I.y7 hy hq];exact hx⟩,mN,λb hb=>(hf b hb).1⟩⟩
 done:=by
  intro X hP hw hK hc i Z s σ H E I hf st hg;subst hP hw hK;obtain⟨xs,hq,hx⟩:=hg;obtain⟨aw,rv,p,hz⟩:=I.list hq;obtain⟨f0,f1,f2,f3,f4,f5⟩:=hf it (by simp);have hl:=rv.length;exact wpAny_pyNext_list_end (I.ok.hd hc) st p.isList (by simp;omega) λh' eb=>⟨rfl,I.turned (t':=s.toks) (λb o hb e=>eb b o hb e) f0 f1 f3 f4 f5⟩
 self:=λ_ _ _ _ _ st h=>wpAny_pyIter_listiter st h
theorem qP {K:Ab} (a it:db):Turn P w K tg (Itt K a) [it] it (λi h=>h.IsTupleIter it a i) where
 mem:=by simp
 obj:=λi h st b hb=>by
  have e:b=it:=by simpa using hb
  subst e;obtain⟨o,e,c,d⟩:=st;exact⟨o,e,λv z=>by rw [d] at z;cases z⟩
 keep:=λi h h' st k=>st.at λo e=>k it (by simp) o e
 item:=by
  intro X hP hw hK hc i Z s σ H E I hf st hg;subst hP hw hK;obtain⟨xs,x,hq,hx⟩:=hg;obtain⟨aw,rv,p,hz⟩:=I.tuple hq;obtain⟨u,hu,ru⟩:=rv.get hx;obtain⟨f0,f1,f2,f3,f4,f5⟩:=hf it (by simp);refine wpAny_pyNext_tuple_item st (show s.heap.IsTuple a aw.toArray from p) (x:=u) (by simpa using hu) λh' mN sb=>?_;have I1:Inv X Z σ H {s with heap:=h'}:=I.turned (t':=s.toks) (λb o hb e=>(sb.2 b hb).trans e) f0 f1 f3 f4 f5;obtain⟨o,e,c,d⟩:=id mN;exact⟨u,rfl,se (s:={s with heap:=h'}) e c d ⋯ ⟨x,H,I1,ru,⟨rfl,λys hy=>by rw [I.ly hy hq];exact hx⟩,mN,λb hb=>(hf b hb).1⟩⟩
 done:=by
  intro X hP hw hK hc i Z s σ H E I hf st hg;subst hP hw hK;obtain⟨xs,hq,hx⟩:=hg;obtain⟨aw,rv,p,hz⟩:=I.tuple hq;obtain⟨f0,f1,f2,f3,f4,f5⟩:=hf it (by simp);have hl:=rv.length;exact wpAny_pyNext_tuple_end (I.ok.hd hc) st (show s.heap.IsTuple a aw.toArray from p) (by simp;omega) λh' eb=>⟨rfl,I.turned (t':=s.toks) (λb o hb e=>eb b o hb e) f0 f1 f3 f4 f5⟩
 self:=λ_ _ _ _ _ st h=>wpAny_pyIter_tupleiter st h
theorem F9 {K:Ab} (it:db) (lo:Int) (n:Nat):Turn P w K tg (Itr lo n) [it] it (λi h=>IsRangeIter h it (lo+(i:Nat)*1) ((n:Int)-(i:Nat)) 1) where
 mem:=by simp
 obj:=λi h st b hb=>by
  have e:b=it:=by simpa using hb
  subst e;exact⟨_,st,λv z=>by
   have z':=z;cases z'⟩
 keep:=λi h h' st k=>k it (by simp) _ st
 item:=by
  intro X hP hw hK hc i Z s σ H E I hf st hg;subst hP hw hK;obtain⟨f0,f1,f2,f3,f4,f5⟩:=hf it (by simp);have W:=Walks.range (prog:=X.prog) (w:=X.w) (I.ok.hd hc) it lo 1 n;refine W.item i s _ _ hg st λv h' tk hv mN kk=>?_;obtain⟨t,rfl⟩:=hv;have I1:Inv X Z σ H {s with heap:=h',toks:=tk}:=I.turned (λb o hb e=>kk b o (by simpa using hb) e) f0 f1 f3 f4 f5;refine⟨_,rfl,se (s:={s with heap:=h',toks:=tk}) (n:="range_iterator") mN rfl rfl ⋯ ⟨.int (lo+i),H,I1,⟨t,?_⟩,⟨rfl,rfl⟩,mN,λb hb=>(hf b hb).1⟩⟩;rw [Int.mul_one]
 done:=by
  intro X hP hw hK hc i Z s σ H E I hf st hg;obtain⟨f0,f1,f2,f3,f4,f5⟩:=hf it (by simp);exact wpAny_pyNext_range_end (I.ok.hd hc) st (by have:n<=i:=hg;omega) λh' eb=>⟨rfl,I.turned (t':=s.toks) (λb o hb e=>eb b o hb e) f0 f1 f3 f4 f5⟩
 self:=λ_ _ _ _ _ st h=>wpAny_pyIter_rangeiter st h
end L2
variable {p:Cv}{fp:List BK}{iter:BD}{wi:L2.TI}
namespace L2
open PySem PySem.Spec PyProof.Rows
section
theorem MU {R:It->Hp->Prop}{lo hi:Int}{t u v:Tok}{tk:Nat} (I:Inv X Z σ H s) (h1:-(2 ^ 62)<=lo) (h2:lo < 2 ^ 62) (h3:-(2 ^ 62)<=hi) (h4:hi < 2 ^ 62)
  (q:R (Itr lo (hi-lo).toNat) H):d5 (ev X.prog X.w) X.A (pyIter (.ref s.heap.objs.size)) (PIE X Z σ tg R) E {s with heap:=s.heap.push {cls:=.type "range",data:=.fields #[.int lo t,.int hi u,.int 1 v]},toks:=tk}:=by
 refine wpAny_pyIter_range (IsRange.new ..) (small_one h1 h2 h3 h4) ?_;have I1:Inv X Z σ H {s with heap:=s.heap.push {cls:=.type "range",data:=.fields #[.int lo t,.int hi u,.int 1 v]},toks:=tk}:=I.kept λb o e=>Ah _ e;refine⟨(s.heap.push {cls:=.type "range",data:=.fields #[.int lo t,.int hi u,.int 1 v]}).objs.size,[(s.heap.push {cls:=.type "range",data:=.fields #[.int lo t,.int hi u,.int 1 v]}).objs.size],_,_,H,rfl,
  I1.kept (t':=tk) λb o e=>Ah _ e,F9 _ lo (hi-lo).toNat,?_,λb hb=>?_,q⟩
 ·have e1:lo+((0:Nat):Int)*1=lo:=by simp
  have e2:(((hi-lo).toNat:Nat):Int)-((0:Nat):Int)=Builtin.Range.rangeSize lo hi 1:=by rw [rangeSize_one];split <;> omega
  show IsRangeIter _ _ (lo+((0:Nat):Int)*1) ((((hi-lo).toNat:Nat):Int)-((0:Nat):Int)) 1;rw [e1,e2];exact Aq _ rfl
 ·have e:b=(s.heap.push {cls:=.type "range",data:=.fields #[.int lo t,.int hi u,.int 1 v]}).objs.size:=by simpa using hb
  subst e;exact I1.uj (An _) (I1.bI.fresh (An _))
def ZR (ta:TA):TI:=λσ H R=>ta σ H λvs H1=>∃j:Int,vs=[.int j]/\-(2 ^ 62)<=j/\j < 2 ^ 62/\R (Itr 0 j.toNat) H1
theorem Km {ta:TA} (hg:Gl X "range") (hm:X.mg "range"=bv) (ha:PA X [a] ta) (hs:ce [a] X.env=[(false,kw a X.env)]:=by rfl):PI X tg (.Call (.Name "range" p) [a] [] pos) (ZR ta):=by
 intro Z s σ H R I h;refine Call_ (jP I hg hm boot_range (Bk (bE (ha pos Z s σ H _ I h) λus s1 ⟨vs,H1,I1,r1,q1⟩=>?_) hs rfl));obtain⟨j,e,q1,q2,q⟩:=q1;subst e;cases r1 with
 | cons r rr=>
  cases rr;obtain⟨t,rfl⟩:=r;exact call_range_1 (MU I1 ∅ ∅ q1 q2 (by simpa using q))
def acA (wi:TI) (g:TG) (tb:TS):TS:=λD σ H=>wi σ H λJ H1=>∃W:Nat->Nat->St->Hp->Prop,(∃m,W 0 m σ H1)/\∀i m σ H,W i m σ H->
 (J.stop i H/\D.nx σ H)\/(J.go i H/\∃N:St->Hp->Prop,(∀σ' H',N σ' H'->∃m',m' < m/\W (i+1) m' σ' H')/\∀x H',J.Ti i H x H'->g x σ H' λσ2 H2=>tb {D with nx:=N,ct:=N,bk:=D.nx} σ2 H2)
def oC (fp:List db) (h:r9):List (db×Obj):=fp.filterMap λb=>(h.get? b).map λo=>(b,o)
def jN (hb:b∈fp) (e:h.get? b=ap o):(b,o)∈oC fp h:=CZ.mpr ⟨b,hb,by rw [e];rfl⟩
def Kq {p:db×Obj} (hp:p∈oC fp h):p.1∈fp/\h.get? p.1=ap p.2:=by
 obtain⟨b,hb,e⟩:=CZ.mp hp;cases q:h.get? b with
 | none=>rw [q] at e;cases e
 | some o=>
  rw [q] at e;have e':=Option.some.inj e;subst e';exact⟨hb,q⟩
def Inv.pinned (I:Inv X Z σ H s) (hf:∀b∈fp,uA X Z H b) (ho:∀b∈fp,∃o,s.heap.get? b=ap o/\∀v,o.data≠.cell v):Inv X (Z++oC fp s.heap) σ H s:=
 I.IP λp hp=>(AX.mp hp).elim (λz=>I.pin p (AH _ z)) λz=>by
  obtain⟨hb,e⟩:=Kq z;obtain⟨f0,f1,f2,_⟩:=hf p.1 hb;obtain⟨o,e',d⟩:=ho p.1 hb;rw [e] at e';cases e';exact⟨e,f0,f1,f2,d⟩
def Inv.kB {pl:List (db×Obj)} (I:Inv X (Z++pl) σ H s):Inv X Z σ H s:=I.IP λp hp=>I.pin p (AH _ (Br _ hp))
def M9 {g:TG}{tb:TS} (hp:FB (ev X.prog X.w) X.A X.env X.xe) (hc:X.calm=true) (hi:PI X tg iter wi) (hg:PG X tg g) (hb:qI X body tb)
  (hs:∀x,im iter X.env x=pure x:=by intro _;rfl):PS X (.For tg iter body [] pos) (acA wi g tb):=by
 intro Z s σ H D I h;refine wpAny_For (bE (hi Z s σ H _ I h) λv s1 h1=>bE h1 λù s2 h2=>?_) hs;obtain⟨it,fp,tn,J,H2,e,I2,T,J7,f2,W,⟨m0,w0⟩,turn⟩:=h2;subst e;have UX:∀{H':Hp},(∀b∈fp,H' b=bv)->∀b∈fp,uA X Z H' b:=λhn b hb=>⟨hn b hb,(f2 b hb).2⟩;refine codeAny_forLoop_any (λn s'=>∃i σ' H',Inv X Z σ' H' s'/\tn i s'.heap/\(∀b∈fp,H' b=bv)/\W i n σ' H') ?_ m0 ⟨0,σ,H2,I2,J7,λb hb=>(f2 b hb).1,w0⟩;rintro n s3 ⟨i,σ3,H3,I3,YJ,í,w3⟩;rcases turn i n σ3 H3 w3 with⟨stop,qn⟩ | ⟨go,N,hN,step⟩
 ·refine Cj hp (bE (T.done X rfl rfl rfl hc i Z s3 σ3 H3 X.xe I3 (UX í) YJ stop) λr s4 ⟨hr,I4⟩=>?_);subst hr;exact DL ⟨σ3,H3,I4,qn⟩
 ·refine Cj hp (bE (T.item X rfl rfl rfl hc i Z s3 σ3 H3 X.xe I3 (UX í) YJ go) λr s4 ⟨u,hr,h4⟩=>?_);subst hr;refine Cj hp (bE h4 λ_ s5 ⟨x,H5,I5,r5,y5,UY,ı⟩=>?_);have ĵ:=I5.pinned (UX ı) (T.obj _ _ UY);refine Cj hp (bE (hg _ s5 σ3 H5 x u _ ĵ r5 (step x H5 y5)) λ_ s6 ⟨σ6,H6,I6,q6⟩=>?_);refine Cj hp (bE (hb _ s6 σ6 H6 _ I6 q6) λf s7 q7=>?_);have again:∀{σ7:St}{H7:Hp},Inv X (Z++oC fp s5.heap) σ7 H7 s7->N σ7 H7->∃m,m < n/\∃i σ' H',Inv X Z σ' H' s7/\tn i s7.heap/\(∀b∈fp,H' b=bv)/\W i m σ' H':=λ{σ7 H7} I7 n7=>by
   obtain⟨m',hm,w7⟩:=hN σ7 H7 n7;refine⟨m',hm,i+1,σ7,H7,I7.kB,T.keep _ _ _ UY λb hb o e=>(I7.pin (b,o) (AH _ (AH _ (jN hb e)))).1,λb hb=>?_,w7⟩;obtain⟨o,e,d⟩:=T.obj _ _ UY b hb;exact (I7.pin (b,o) (AH _ (AH _ (jN hb e)))).2.1
  cases f with
  | next=>obtain⟨σ7,H7,I7,n7⟩:=q7;exact again I7 n7
  | cont=>obtain⟨σ7,H7,I7,n7⟩:=q7;exact again I7 n7
  | brk=>obtain⟨σ7,H7,I7,q7⟩:=q7;exact⟨σ7,H7,I7.kB,q7⟩
  | ret v=>obtain⟨x7,σ7,H7,I7,r7,q7⟩:=q7;exact⟨x7,σ7,H7,I7.kB,r7,q7⟩
end
end L2
variable {i:Int}{g:Int->Int->Int}{LY:PySem.CmpOp}{aw:List A8}
namespace L2
open PySem PySem.Spec PyProof.Rows
abbrev R2:=V->V->Hp->VK->Prop
def hZ (X:Cx) (f:ci->ci->Sem ci) (r:R2):Prop:=
 ∀(Z:List (db×Obj)) (s:dL) (σ:St) (H:Hp) (x y:V) (v u:ci) (Q:VK),Inv X Z σ H s->RelV x v->RelV y u->r x y H Q->
  d5 (ev X.prog X.w) X.A (f v u) (EP X Z σ Q) X.xe s
def UnR (X:Cx) (f:ci->Sem ci) (r:V->Hp->VK->Prop):Prop:=
 ∀(Z:List (db×Obj)) (s:dL) (σ:St) (H:Hp) (x:V) (v:ci) (Q:VK),Inv X Z σ H s->RelV x v->r x H Q->
  d5 (ev X.prog X.w) X.A (f v) (EP X Z σ Q) X.xe s
def bR (X:Cx) (f:ci) (r:List V->Hp->VK->Prop):Prop:=
 ∀(Z:List (db×Obj)) (s:dL) (σ:St) (H:Hp) (xs:List V) (us:List ci) (Q:VK),Inv X Z σ H s->Vals xs us->r xs H Q->
  d5 (ev X.prog X.w) X.A (call f us) (EP X Z σ Q) X.xe s
def aev (X:Cx) (r:V->Hp->(Bool->Hp->Prop)->Prop):Prop:=
 ∀(Z:List (db×Obj)) (s:dL) (σ:St) (H:Hp) (x:V) (v:ci) (Q:Bool->Hp->Prop),Inv X Z σ H s->RelV x v->r x H Q->
  d5 (ev X.prog X.w) X.A (truthy v) (TP X Z σ Q) X.xe s
def Tu (r:R2) (ta tb:TE):TE:=λσ H Q=>ta σ H λx H1=>tb σ H1 λy H2=>r x y H2 Q
def tUn (r:V->Hp->VK->Prop) (ta:TE):TE:=λσ H Q=>ta σ H λx H1=>r x H1 Q
def rI (C:Int->Int->Prop) (g:Int->Int->V):R2:=λx y H Q=>∃i j,x=.int i/\y=.int j/\C i j/\Q (g i j) H
def QQ (g:Int->Int->V):R2:=λx y H Q=>∃i j,x=.int i/\y=.int j/\Q (g i j) H
def rU (g:Int->V):V->Hp->VK->Prop:=λx H Q=>∃i,x=.int i/\Q (g i) H
section
variable {b:lw}
def Xf (ha:PE X a ta) (hb:PE X b tb) (I:Inv X Z σ H s)
  (h:ta σ H λx H1=>tb σ H1 λy H2=>R x y H2) {f:ci->ci->Sem ci}
  (hf:∀v u s2 x y H2,Inv X Z σ H2 s2->RelV x v->RelV y u->R x y H2->d5 (ev X.prog X.w) X.A (f v u) Q X.xe s2) :
  d5 (ev X.prog X.w) X.A (kw a X.env) (λv s₁=>d5 (ev X.prog X.w) X.A (kw b X.env) (λu s₂=>d5 (ev X.prog X.w) X.A (f v u) Q X.xe s₂) X.xe s₁) X.xe s:=by
 refine bE (ha Z s σ H _ I h) λv s1 ⟨x,H1,I1,r1,q1⟩=>?_;refine bE (hb Z s1 σ H1 _ I1 q1) λu s2 ⟨y,H2,I2,r2,q2⟩=>?_;exact hf v u s2 x y H2 I2 r1 r2 q2
def IQ {op:Operator}{r:R2} (ho:hZ X (tz op) r) (ha:PE X a ta) (hb:PE X b tb):PE X (.BinOp a op b pos) (Tu r ta tb):=by
 intro Z s σ H Q I h;exact wpAny_BinOp (Xf ha hb I h λv u s2 x y H2 I2 rx ry q=>ho Z s2 σ H2 x y v u Q I2 rx ry q)
def Zc {op:UnaryOp}{r:V->Hp->VK->Prop} (ho:UnR X (unaryOp op) r) (ha:PE X a ta):PE X (.UnaryOp op a pos) (tUn r ta):=by
 intro Z s σ H Q I h;exact UnaryOp_ (bE (ha Z s σ H _ I h) λv s1 ⟨x,H1,I1,r1,q1⟩=>ho Z s1 σ H1 x v Q I1 r1 q1)
def opI {f:ci->ci->Sem ci}{C:Int->Int->Prop}
  (rule:∀(i j:Int) (t u:Tok) (s:dL) (Q:ci->dL->Prop) (E:ci->dL->Prop),C i j->Q (.int (g i j) s.toks) {s with toks:=s.toks+1}->d5 (ev X.prog X.w) X.A (f (.int i t) (.int j u)) Q E s) :
  hZ X f (rI C λi j=>.int (g i j)):=by
 intro Z s σ H x y v u Q I rx ry h;obtain⟨i,j,rfl,rfl,hc,q⟩:=h;obtain⟨t,rfl⟩:=rx;obtain⟨t',rfl⟩:=ry;exact rule i j t t' s _ _ hc ⟨.int (g i j),H,I.tok _,⟨_,rfl⟩,q⟩
def Zo {f:ci->ci->Sem ci}
  (rule:∀(i j:Int) (t u:Tok) (s:dL) (Q:ci->dL->Prop) (E:ci->dL->Prop),Q (.int (g i j) s.toks) {s with toks:=s.toks+1}->d5 (ev X.prog X.w) X.A (f (.int i t) (.int j u)) Q E s) :
  hZ X f (QQ λi j=>.int (g i j)):=by
 intro Z s σ H x y v u Q I rx ry h;obtain⟨i,j,rfl,rfl,q⟩:=h;obtain⟨t,rfl⟩:=rx;obtain⟨t',rfl⟩:=ry;exact rule i j t t' s _ _ ⟨.int (g i j),H,I.tok _,⟨_,rfl⟩,q⟩
def Rl {f:ci->ci->Sem ci}{g:Int->Int->Bool}
  (rule:∀(i j:Int) (t u:Tok) (s:dL) (Q:ci->dL->Prop) (E:ci->dL->Prop),Q (.bool (g i j)) s->d5 (ev X.prog X.w) X.A (f (.int i t) (.int j u)) Q E s) :
  hZ X f (QQ λi j=>.bl (g i j)):=by
 intro Z s σ H x y v u Q I rx ry h;obtain⟨i,j,rfl,rfl,q⟩:=h;obtain⟨t,rfl⟩:=rx;obtain⟨t',rfl⟩:=ry;exact rule i j t t' s _ _ ⟨.bl (g i j),H,I,rfl,q⟩
def Th (i j:Int):Prop:=0 < j/\j < 1073741824
def PX (i j:Int):Prop:=0<=j/\j<=1000000/\i.natAbs < 2 ^ 64
def Tg (i j:Int):Prop:=(-(2 ^ 64) < i/\i < 2 ^ 64)\/(-(2 ^ 64) < j/\j < 2 ^ 64)
def Tg.ok {j:Int} (h:Tg i j):t0 i j:=by
 rcases h with⟨h1,h2⟩ | ⟨h1,h2⟩
 ·exact .of_left (intBits_le_64 h1 h2)
 ·exact .of_right (intBits_le_64 h1 h2)
def VH:hZ X (tz .Add) (QQ λi j=>.int (i+j)):=Zo λ_ _ _ _ _ _ _ q=>add_int q
def Vy:hZ X (tz .Sub) (QQ λi j=>.int (i-j)):=Zo λ_ _ _ _ _ _ _ q=>sub_int q
theorem Rg:hZ X (tz .FloorDiv) (rI Th λi j=>.int (i / j)):=opI λi j _ _ _ _ _ hc q=>by
 have h1:(0:Int) < j:=hc.1;have h2:j < 1073741824:=hc.2;exact floordiv_int ∅ (by rw [Int.fdiv_eq_ediv_of_nonneg i ∅];exact q) (.inl (PyProof.noPylong_small ∅))
theorem VC:hZ X (tz .Mod) (rI (λ_ j=>0 < j) λi j=>.int (i % j)):=opI λi j _ _ _ _ _ hc q=>by
 have h1:(0:Int) < j:=hc;exact mod_int' ∅ (by rw [Int.fmod_eq_emod_of_nonneg i ∅];exact q)
def VA:hZ X (tz .Pow) (rI PX λi j=>.int (i ^ j.toNat)):=opI λ_ _ _ _ _ _ _ hc q=>pow_int_small hc.1 hc.2.1 hc.2.2 q
def unI {f:ci->Sem ci}{g:Int->Int}
  (rule:∀(i:Int) (t:Tok) (s:dL) (Q:ci->dL->Prop) (E:ci->dL->Prop),Q (.int (g i) s.toks) {s with toks:=s.toks+1}->d5 (ev X.prog X.w) X.A (f (.int i t)) Q E s) :
  UnR X f (rU λi=>.int (g i)):=by
 intro Z s σ H x v Q I rx h;obtain⟨i,rfl,q⟩:=h;obtain⟨t,rfl⟩:=rx;exact rule i t s _ _ ⟨.int (g i),H,I.tok _,⟨_,rfl⟩,q⟩
def UL:UnR X (unaryOp .USub) (rU λi=>.int (-i)):=unI λ_ _ _ _ _ q=>neg_int q
end
section
variable {b c:lw}{tc:TE}
def Ox {Q:VK}{k k':Bool} (I:Inv X Z σ H s) (q:Q (.bl k) H) (e:k=k'):EP X Z σ Q (.bool k') s:=by
 subst e;exact⟨.bl k,H,I,rfl,q⟩
def Zk:hZ X (mo .Lt) (QQ λi j=>.bl (decide (i < j))):=Rl λ_ _ _ _ _ _ _ q=>lt_int q
def Zl:hZ X (mo .LtE) (QQ λi j=>.bl (decide (i<=j))):=Rl λ_ _ _ _ _ _ _ q=>le_int q
def Zm:hZ X (mo .Gt) (QQ λi j=>.bl (decide (j < i))):=Rl λ_ _ _ _ _ _ _ q=>gt_int q
def Zn:hZ X (mo .GtE) (QQ λi j=>.bl (decide (j<=i))):=Rl λ_ _ _ _ _ _ _ q=>ge_int q
def Kp:hZ X (mo .In) (λx y H Q=>∃i j,x=.str i/\y=.str j/\Q (.bl (!(Builtin.Str.occurrences j i 0 j.length 1).isEmpty)) H):=by
 intro Z s σ H x y v u Q I rx ry h;obtain⟨i,j,rfl,rfl,q⟩:=h;obtain⟨t,rfl⟩:=rx;obtain⟨t',rfl⟩:=ry;exact in_str (Ox I q rfl)
def VD:hZ X (mo .Is) (λx y H Q=>y=.aX/\Q (.bl (decide (x=.aX))) H):=by
 intro Z s σ H x y v u Q I rx ry h;obtain⟨rfl,q⟩:=h;cases ry;refine is_none_gen (Ox I q ?_);cases x <;> first
  | (cases rx;rfl)
  | (obtain⟨t,rfl⟩:=rx;rfl)
def hZ.or {f:ci->ci->Sem ci}{r r':R2} (h:hZ X f r) (h':hZ X f r'):hZ X f (λx y H Q=>r x y H Q\/r' x y H Q):=by
 intro Z s σ H x y v u Q I rx ry q;rcases q with q | q
 ·exact h Z s σ H x y v u Q I rx ry q
 ·exact h' Z s σ H x y v u Q I rx ry q
def kL (b:lw) (h:op≠.In:=by decide) (h2:op≠.NotIn:=by decide):nw op b=false:=by
 have e1:(op==CmpOp.In)=false:=by cases op <;> first | rfl | exact absurd rfl h
 have e2:(op==CmpOp.NotIn)=false:=by cases op <;> first | rfl | exact absurd rfl h2
 cases b <;> simp [nw,e1,e2]
def qg {r:R2} (ho:hZ X (mo op) r) (ha:PE X a ta) (hb:PE X b tb) (hm:nw op b=false):PE X (.Compare a [op] [b] pos) (Tu r ta tb):=by
 intro Z s σ H Q I h;exact wpAny_Compare1 (Xf ha hb I h λv u s2 x y H2 I2 rx ry q=>ho Z s2 σ H2 x y v u Q I2 rx ry q) hm
def Tt (t:TE):TT:=λσ H Q=>t σ H λx H'=>∃k,x=.bl k/\Q k H'
def qe {r:R2} (ho:hZ X (mo op) r) (ha:PE X a ta) (hb:PE X b tb) (hm:nw op b=false):PT X (.Compare a [op] [b] pos) (Tt (Tu r ta tb)):=by
 intro Z s σ H Q I h;refine wpAny_isTrue_Compare1 (bE (ha Z s σ H _ I h) λv s1 ⟨x,H1,I1,r1,q1⟩=>bE (hb Z s1 σ H1 _ I1 q1) λu s2 ⟨y,H2,I2,r2,q2⟩=>
  bE (ho Z s2 σ H2 x y v u _ I2 r1 r2 q2) λc s3 ⟨z,H3,I3,r3,k,e,q3⟩=>?_) hm
 subst e;cases r3;exact Bp ⟨H3,I3,q3⟩
def Gh (r r':R2) (ta tb tc:TE):TE:=λσ H Q=>ta σ H λx H1=>tb σ H1 λy H2=>r x y H2 λz H3=>∃k,z=.bl k/\
 (if k=true then tc σ H3 λw' H4=>r' y w' H4 Q else Q (.bl false) H3)
def Nk {r r':R2} (ho:hZ X (mo op) r) (N9:hZ X (mo LY) r') (ha:PE X a ta) (hb:PE X b tb) (hc:PE X c tc)
  (hm:lastMarks [op,LY] [b,c]=false:=by with_unfolding_all rfl):PE X (.Compare a [op,LY] [b,c] pos) (Gh r r' ta tb tc):=by
 intro Z s σ H Q I h;refine Compare_chain (bE (ha Z s σ H _ I h) λv s1 ⟨x,H1,I1,r1,q1⟩=>chain_link (bE (hb Z s1 σ H1 _ I1 q1) λu s2 ⟨y,H2,I2,r2,q2⟩=>
  bE (ho Z s2 σ H2 x y v u _ I2 r1 r2 q2) λd s3 ⟨z,H3,I3,r3,k,e,q3⟩=>?_)) hm
 subst e;cases r3;refine Bp ?_;cases k with
 | false=>exact ite_ff ⟨.bl false,H3,I3,rfl,q3⟩
 | true=>exact ite_tt (chain_last (bE (hc Z s3 σ H3 _ I3 q3) λw' s4 ⟨z',H4,I4,r4,q4⟩=>N9 Z s4 σ H4 y z' u w' Q I4 r2 r4 q4))
def M7 {r r':R2} (ho:hZ X (mo op) r) (N9:hZ X (mo LY) r') (ha:PE X a ta) (hb:PE X b tb) (hc:PE X c tc)
  (hm:lastMarks [op,LY] [b,c]=false:=by with_unfolding_all rfl):PT X (.Compare a [op,LY] [b,c] pos) (Tt (Gh r r' ta tb tc)):=by
 intro Z s σ H Q I h;refine isTrue_chain (bE (ha Z s σ H _ I h) λv s1 ⟨x,H1,I1,r1,q1⟩=>test_link (bE (hb Z s1 σ H1 _ I1 q1) λu s2 ⟨y,H2,I2,r2,q2⟩=>
  bE (ho Z s2 σ H2 x y v u _ I2 r1 r2 q2) λd s3 ⟨z,H3,I3,r3,k,e,q3⟩=>?_)) hm
 subst e;cases r3;refine Bp ?_;cases k with
 | false=>
  obtain⟨k',e',q'⟩:=q3;cases e';exact ite_ff ⟨H3,I3,q'⟩
 | true=>
  refine ite_tt (test_last (bE (hc Z s3 σ H3 _ I3 q3) λw' s4 ⟨z',H4,I4,r4,q4⟩=>bE (N9 Z s4 σ H4 y z' u w' _ I4 r2 r4 q4) λd' s5 ⟨z2,H5,I5,r5,k2,e2,q5⟩=>?_));subst e2;cases r5;exact Bp ⟨H5,I5,q5⟩
def Xm (K:Ab) (x:V) (H:Hp) (k:Bool):Prop:=
 match x with
 | .aX=>k=false
 | .bl b=>k=b
 | .int i=>k=(i != 0)
 | .str y=>y.length<=sizeLine/\k=((y.length:Int) != 0)
 | .Xd y=>y.size<=sizeLine/\k=((y.size:Int) != 0)
 | .ref p=>(∃xs,c6 K H p xs/\k=!xs.isEmpty)\/(∃xs,d7 K H p xs/\k=!xs.isEmpty)\/∃kvs,H p=ap (.dK kvs)/\k=!kvs.isEmpty
 | _=>False
def GZ {kvs:List (κ×V)}{vs:List (κ×ci)} (r:KV kvs vs):(!vs.isEmpty)=!kvs.isEmpty:=by
 cases r <;> rfl
def rS (r:Vals xs aw):(!aw.toArray.isEmpty)=!xs.isEmpty:=by
 cases r <;> simp
def wI:(sizeLine:Nat) < 2 ^ 63:=by rw [Ge];decide
theorem UN:aev X (λx H Q=>∃k,Xm X.K x H k/\Q k H):=by
 intro Z s σ H x v Q I rx h;obtain⟨k,e,q⟩:=h;have hs:=Ge;cases x with
 | aX=>
  cases rx;have e':=e;subst e';exact truthy_none ⟨H,I,q⟩
 | bl b=>
  cases rx;have e':=e;subst e';exact Bp ⟨H,I,q⟩
 | int i=>
  obtain⟨t,rfl⟩:=rx;have e':=e;subst e';exact PySem.P.truthy_int ⟨H,I,q⟩
 | str y=>
  obtain⟨t,rfl⟩:=rx;obtain⟨hy,e'⟩:y.length<=sizeLine/\k=((y.length:Int) != 0):=e;subst e';exact PySem.P.truthy_str ∅ ⟨H,I.tok _,q⟩
 | Xd y=>
  obtain⟨t,rfl⟩:=rx;obtain⟨hy,e'⟩:y.size<=sizeLine/\k=((y.size:Int) != 0):=e;subst e';exact PySem.W.truthy_bytes ∅ ⟨H,I.tok _,q⟩
 | ref p=>
  cases rx;have e':=e;rcases e' with⟨xs,hx,e'⟩ | ⟨xs,hx,e'⟩ | ⟨kvs,hx,e'⟩
  ·subst e';obtain⟨aw,r,pl,hz⟩:=I.list hx;have Á:=r.length;exact wpAny_truthy_list pl.isList (by simp only [Aj];omega) ⟨H,I.tok _,by rw [rS r];exact q⟩
  ·subst e';obtain⟨aw,r,pl,hz⟩:=I.tuple hx;have Á:=r.length;exact truthy_tuple pl (by simp only [Aj];omega) ⟨H,I.tok _,by rw [rS r];exact q⟩
  ·subst e';obtain⟨hz,hS,vs,r,m⟩:kvs.length<=sizeLine/\(p==wf)=false/\∃vs,KV kvs vs/\s.heap.DictOf (bN X.prog X.w) p vs:=I.bI p _ hx;have Á:=Paired.length r;exact wpAny_truthy_dict hS m ∅ ⟨H,I.tok _,by rw [GZ r];exact q⟩
 | _=>exact (show False from e).elim
def M6 (ha:PE X a ta) (he:∀Æ,isTrue a X.env Æ=(do let v <- Æ;GT a.pos;sB [v] (truthy v))) :
  PT X a (λσ H Q=>ta σ H λx H'=>∃k,Xm X.K x H' k/\Q k H'):=by
 intro Z s σ H Q I h;exact isTrue_plain (bE (ha Z s σ H _ I h) λv s1 ⟨x,H1,I1,r1,q1⟩=>UN Z s1 σ H1 x v Q I1 r1 q1) (he _)
def Gv:hZ X (tz .Add) (λx y H Q=>∃i j,x=.str i/\y=.str j/\i.length+j.length<=sizeLine/\Q (.str (i++j)) H):=by
 intro Z s σ H x y v u Q I rx ry h;obtain⟨i,j,rfl,rfl,hz,q⟩:=h;obtain⟨t,rfl⟩:=rx;obtain⟨t',rfl⟩:=ry;exact add_str (λt' tk=>⟨.str (i++j),H,I.tok _,⟨_,rfl⟩,q⟩) hz
def vals1 {x:V} (r:Vals [x] us):∃u,us=[u]/\RelV x u:=by
 cases r with
 | cons r1 r2=>cases r2;exact⟨_,rfl,r1⟩
def vals2 {x:V} (r:Vals [x,y] us):∃u w',us=[u,w']/\RelV x u/\RelV y w':=by
 cases r with
 | cons r1 r2=>
  cases r2 with
  | cons r3 r4=>cases r4;exact⟨_,_,rfl,r1,r3⟩
def Pn:bR X (.builtin "abs") (λxs H Q=>∃i,xs=[.int i]/\Q (.int (if i < 0 then -i else i)) H):=by
 intro Z s σ H xs us Q I r h;obtain⟨i,rfl,q⟩:=h;obtain⟨u,rfl,t,rfl⟩:=vals1 r;exact call_abs_int λu tk=>⟨.int (if i < 0 then -i else i),H,I.tok _,⟨_,rfl⟩,q⟩
def Lx (hc:X.calm=true):bR X (.builtin "max") (λxs H Q=>∃i j,xs=[.int i,.int j]/\Q (.int (if j > i then j else i)) H):=by
 intro Z s σ H xs us Q I r h;obtain⟨i,j,rfl,q⟩:=h;obtain⟨u,w',rfl,⟨t,rfl⟩,⟨t',rfl⟩⟩:=vals2 r;refine max_two_ints (I.ok.hd hc) λh' tk k=>⟨_,H,I.kept k,?_,q⟩;by_cases hj:j > i
 ·rw [if_pos hj,if_pos hj];exact⟨_,rfl⟩
 ·rw [if_neg hj,if_neg hj];exact⟨_,rfl⟩
def Lw (hc:X.calm=true):bR X (.builtin "min") (λxs H Q=>∃i j,xs=[.int i,.int j]/\Q (.int (if j < i then j else i)) H):=by
 intro Z s σ H xs us Q I r h;obtain⟨i,j,rfl,q⟩:=h;obtain⟨u,w',rfl,⟨t,rfl⟩,⟨t',rfl⟩⟩:=vals2 r;refine min_two_ints (I.ok.hd hc) λh' tk k=>⟨_,H,I.kept k,?_,q⟩;by_cases hj:j < i
 ·rw [if_pos hj,if_pos hj];exact⟨_,rfl⟩
 ·rw [if_neg hj,if_neg hj];exact⟨_,rfl⟩
def LB:bR X (.type "int") (λxs H Q=>(∃i,xs=[.int i]/\Q (.int i) H)\/∃k,xs=[.bl k]/\Q (.int (if k then 1 else 0)) H):=by
 intro Z s σ H xs us Q I r h;rcases h with⟨i,rfl,q⟩ | ⟨k,rfl,q⟩
 ·obtain⟨u,rfl,t,rfl⟩:=vals1 r;exact call_int_int ⟨.int i,H,I,⟨_,rfl⟩,q⟩
 ·obtain⟨u,rfl,r1⟩:=vals1 r;cases r1;exact call_int_bool ⟨.int (if k then 1 else 0),H,I.tok _,⟨_,rfl⟩,q⟩
def aaX (K:Ab) (x:V) (H:Hp) (n:Nat):Prop:=
 match x with
 | .str y=>y.length<=sizeLine/\n=y.length
 | .Xd y=>y.size<=sizeLine/\n=y.size
 | .ref p=>(∃xs,c6 K H p xs/\n=xs.length)\/∃xs,d7 K H p xs/\n=xs.length
 | _=>False
theorem Pm:bR X (.builtin "len") (λxs H Q=>∃x n,xs=[x]/\aaX X.K x H n/\Q (.int n) H):=by
 intro Z s σ H xs us Q I r h;obtain⟨x,n,rfl,e,q⟩:=h;obtain⟨u,rfl,rx⟩:=vals1 r;have hs:=Ge;cases x with
 | str y=>
  obtain⟨t,rfl⟩:=rx;obtain⟨hy,e'⟩:y.length<=sizeLine/\n=y.length:=e;subst e';exact len_str ∅ ⟨.int _,H,I.tok _,⟨_,rfl⟩,q⟩
 | Xd y=>
  obtain⟨t,rfl⟩:=rx;obtain⟨hy,e'⟩:y.size<=sizeLine/\n=y.size:=e;subst e';exact PySem.W.len_bytes ∅ ⟨.int _,H,I.tok _,⟨_,rfl⟩,q⟩
 | ref p=>
  cases rx;have e':=e;rcases e' with⟨xs,hx,e'⟩ | ⟨xs,hx,e'⟩
  ·subst e';obtain⟨aw,r',pl,hz⟩:=I.list hx;have Á:=r'.length;exact Calls.call_len_list pl.isList (by simp only [Aj];omega) ⟨.int xs.length,H,I.tok _,⟨_,by simp only [Aj];rw [Á]⟩,q⟩
  ·subst e';obtain⟨aw,r',pl,hz⟩:=I.tuple hx;have Á:=r'.length;exact len_tuple pl (by simp only [Aj];omega) ⟨.int xs.length,H,I.tok _,⟨_,by simp only [Aj];rw [Á]⟩,q⟩
 | _=>exact (show False from e).elim
end
end L2
variable {a:BK}{mA:Ce->Option A8}
namespace L2
open PySem PySem.Spec PyProof.Rows
structure Xr (h:r9) (x dx C:db) (mA:Str->Option ci):Prop where
 obj:h.get? x=ap (EX C dx)
 ns:h.Ns1 dx mA
 ne:dx≠x
def Kt {dx:db} (n:h.Ns1 dx mA):∃od,h.get? dx=ap od/\∀name,Fc name od=ap (mA name):=by
 obtain⟨o,es,ep,ho,hd,hk,_,hm⟩:=n;refine⟨o,ho,λname=>?_⟩;have e:=hm name;unfold nsFind findBy at e;rw [<- Array.find?_toList] at e;unfold Fc;rw [hd];dsimp only
 split
 ·rename_i y q;rw [q] at e;exact congrArg ap e
 ·rename_i q;rw [q] at e;have a:es.toList.any (·.refKey)=false:=by
   rw [List.any_eq_false];intro y hy;obtain⟨z,t,adL⟩:=hk y (Array.mem_toList_iff.mp hy);simp [DictEntry.refKey,adL]
  have a':¬es.toList.any (·.refKey)=true:=by rw [a];exact AU
  rw [if_neg a'];exact congrArg ap e
def Xr.look {x dx C:db} (I:Xr h x dx C mA):∃od,PySem.W.InstAt h x (EX C dx) C (ap od)/\∀name,Fc name od=ap (mA name):=
 let ⟨od,ho,hl⟩:=Kt I.ns
 ⟨od,⟨I.obj,rfl,rfl,ho⟩,hl⟩
def tq.some_of {o:Option ci} (r:tq (ap v) o):∃u,o=ap u/\RelV v u:=by
 cases o with
 | none=>exact (show False from r).elim
 | some u=>exact⟨u,rfl,r⟩
section
variable {C dx:db}{fs:List (Str×V)}
def RX (bI:lV P w H h) (e:H a=ap (.ins C dx fs)):∃mA,Xr h a dx C mA/\(∀f,tq (fs.lookup f) (mA f))/\PySem.Within mA (fs.map (·.1))/\fs.length<=1000/\H dx=ap (.own a):=by
 obtain⟨d,z,ne,ob,mA,n,r,q⟩:=(show bx P w H h a (.ins C dx fs) from bI a _ e);exact⟨mA,⟨ob,n,ne⟩,r,q,z,d⟩
end
structure Cls (K:Ab) (C:db):Prop where
 pg:FD K C Str.empty=true
 hd:PySem.W.hasDictIn K C=true
 po:PySem.W.plainOver K C=true
 sa:PySem.W.findIn K (.ref C) "__setattr__"=ap (ap (.builtin "object.__setattr__"))
def Cls.get {K:Ab}{C:db} (c:Cls K C) (f:Str):FD K C f=true:=c.pg
section
variable {c:ci}{b:Bool}
inductive ma (K:Ab) (H:Hp):V->ci->Prop where
 | aX:ma K H .aX (.type "NoneType")
 | bl (x:Bool):ma K H (.bl x) (.type "bool")
 | int (i:Int):ma K H (.int i) (.type "int")
 | str (x:Str):ma K H (.str x) (.type "str")
 | XW (x:UInt64):ma K H (.XW x) (.type "float")
 | lst {a:db}{xs:List V} (e:H a=ap (.lst xs)):ma K H (.ref a) (.type "list")
 | cO {a:db}{o:Obj}{xs:List V} (e:H a=ap (.cO o (.lst xs))):ma K H (.ref a) (.type "list")
 | tup {a:db}{xs:List V} (e:H a=ap (.tup xs)):ma K H (.ref a) (.type "tuple")
 | dK {a:db}{kvs:List (Key×V)} (e:H a=ap (.dK kvs)):ma K H (.ref a) (.type "dict")
 | dT {a:db}{kvs:List (List Key×V)} (e:H a=ap (.dT kvs)):ma K H (.ref a) (.type "dict")
 | ins {a C dx:db}{fs:List (Str×V)} (e:H a=ap (.ins C dx fs)) (cl:Cls K C) (ha:PySem.W.findIn K (.ref C) "__class__"=ap (ap (.builtin "object.__class__")))
   (hn:PySem.W.specialIn K (.builtin "object.__class__") "__get__"=ap (ap (.builtin "getset_descriptor.__get__"))) (htk:PySem.W.takesIn K (.builtin "object.__class__")=ap true)
   (hm:PySem.W.mroIn K C (.type "object")=ap true):ma K H (.ref a) (.ref C)
def KC {x:V}{t:ci} (I:Inv X Z σ H s) (rx:RelV x u) (ty:ma X.K H x t) (e:Bz X.K t c=ap b) (h:∀tk,Q (.bool b) {s with toks:=tk}) :
  d5 (ev X.prog X.w) A (call (.builtin "isinstance") [u,c]) Q E s:=by
 cases ty with
 | aX=>cases (show u=AW from rx);exact Bf PySem.W.kitx_none I.t4 BX e (λz=>nomatch z) h
 | bl y=>cases (show u=B7 y from rx);exact Bf PySem.W.kitx_bool I.t4 BX e (λz=>nomatch z) h
 | int i=>obtain⟨t,q⟩:=(show ∃t,u=D2 i t from rx);cases q;exact Bf PySem.W.kitx_int I.t4 BX e (λz=>nomatch z) h
 | str y=>obtain⟨t,q⟩:=(show ∃t,u=D1 y t from rx);cases q;exact Bf PySem.W.kitx_str I.t4 BX e (λz=>nomatch z) h
 | XW y=>obtain⟨t,q⟩:=(show ∃t,u=Value.float y t from rx);cases q;exact Bf PySem.W.kitx_float I.t4 BX e (λz=>nomatch z) h
 | @lst a xs ea=>
  cases (show u=AD a from rx);obtain⟨_,_,n,_,h1⟩:=(show bx X.prog X.w H s.heap a (.lst xs) from I.bI a _ ea);exact Bf Eh I.t4 ⟨_,h1,rfl⟩ e (λz=>nomatch z) h
 | @cO a ob xs ea=>
  cases (show u=AD a from rx);obtain⟨_,_,_,n,_,h1⟩:=(show bx X.prog X.w H s.heap a (.cO ob (.lst xs)) from I.bI a _ ea);exact Bf Eh I.t4 ⟨_,h1,rfl⟩ e (λz=>nomatch z) h
 | @tup a xs ea=>
  cases (show u=AD a from rx);obtain⟨_,_,_,p⟩:=(show bx X.prog X.w H s.heap a (.tup xs) from I.bI a _ ea);obtain⟨o,h1,h2,_⟩:=p;exact Bf Ft I.t4 ⟨o,h1,h2⟩ e (λz=>nomatch z) h
 | @dK a kvs ea=>
  cases (show u=AD a from rx);obtain⟨_,_,vs,_,p⟩:=(show bx X.prog X.w H s.heap a (.dK kvs) from I.bI a _ ea);obtain⟨o,es,ep,h1,h2,_⟩:=p;exact Bf Ei I.t4 ⟨o,h1,h2.1⟩ e (λz=>nomatch z) h
 | @dT a kvs ea=>
  cases (show u=AD a from rx);obtain⟨_,_,xs,_,o,es,ep,h1,h2,_⟩:=(show bx X.prog X.w H s.heap a (.dT kvs) from I.bI a _ ea);exact Bf Ei I.t4 ⟨o,h1,h2.1⟩ e (λz=>nomatch z) h
 | @ins a C dx fs ea cl ha hn htk hm=>
  cases (show u=AD a from rx);obtain⟨mA,O,_⟩:=RX I.bI ea;obtain⟨od,J,_⟩:=O.look;exact Bf (PySem.W.kitx_own (cl.get _) cl.hd ha hn htk hm) I.t4 J e (λz=>nomatch z) h
end
end L2
variable {v Ê pm cS ct oc:A8}{vs:List L2.V}{mg:Ce->Option A8}{base:Fx}{fd:PySem.FuncData}{ps:List Ce}{Â:Cv}{sc scope:PySem.Scope}{qual:Ce}{an od:Option BK}{P0:Array (Option A8)}
namespace L2
open PySem PySem.Spec PyProof.Rows
structure c7 (k:Nat) (A:tt):Prop where
 hd:A.handled=bv
 dp:A.depth+3*k+5 < recursionLimit
 un:A.units+16*k+200 < pc
 gd:A.guards=ap []
theorem c7.mono {k:Nat} (r:c7 k A) (h:j<=k):c7 j A:=⟨r.hd,by have:=r.dp;omega,by have:=r.un;omega,r.gd⟩
theorem c7.deeper {k:Nat} (r:c7 (k+1) A) (env:Env):c7 k (A.deeper env):=
 ⟨r.hd,by have:=r.dp;show A.depth+1+3*k+5 < _;omega,by have:=r.un;show A.units+3+16*k+200 < _;omega,r.gd⟩
theorem c7.depth {k:Nat} (r:c7 k A):A.depth < recursionLimit:=by have:=r.dp;omega
def Yv:TA:=λ_ H Q=>Q [] H
def Tv (ta:TE) (tr:TA):TA:=λσ H Q=>ta σ H λx H1=>tr σ H1 λxs H2=>Q (x::xs) H2
section
variable {t:TA}
def cG:PA X [] Yv:=λ_ _ _ _ H Q I h=>CG ⟨[],H,I,.nil,h⟩
def bp (ha:PE X e te) (hr:PA X es t) (hs:ce (e::es) X.env=(false,kw e X.env)::ce es X.env:=by rfl):PA X (e::es) (Tv te t):=by
 intro pos Z s σ H Q I h;rw [hs];refine Cg (bE (ha Z s σ H _ I h) λu s1 ⟨x,H1,I1,r1,q1⟩=>?_);exact bE (hr pos Z s1 σ H1 _ I1 q1) λus s2 ⟨xs,H2,I2,r2,q2⟩=>⟨x::xs,H2,I2,.cons r1 r2,q2⟩
end
abbrev Sp:=List V->Hp->VK->XK->Prop
abbrev L8:=List Env->Hp->dL->XK->ci->dL->Prop
structure Td (P:ul) (w:wv) (K:Ab) (mg:Str->Option ci) (base:r9) (A:tt) (outer:List Env) (s:dL) (H:Hp):Prop where
 frames:A.frames=ap outer
 mod:Mod K mg base
 bs:∀b o,base.get? b=ap o->s.heap.get? b=ap o/\H b=bv
 Uw:base.objs.size<=s.heap.objs.size
 si:s.heap.FunFrames base outer
 XS:∀b∈L5 outer,H b=bv
 bI:lV P w H s.heap
 bare:IR s.gens
def CE (outer:List Env) (P:ul) (w:wv) (H:Hp) (s:dL) (Q:VK) (u:ci) (s':dL):Prop:=
 ∃v H',s'.os=s.os/\IR s'.gens/\Un (L5 outer) [] H H' s.heap s'.heap/\lV P w H' s'.heap/\RelV v u/\Q v H'
def CR (CX:L8) (outer:List Env) (P:ul) (w:wv) (H:Hp) (s:dL) (Q:VK) (E:XK) (r:Result) (s':dL):Prop:=
 match r with
 | .ok (.ret u)=>CE outer P w H s Q u s'
 | .ok _=>False
 | .error e=>CX outer H s E e s'
structure fu (P:ul) (w:wv) (K:Ab) (mg:Str->Option ci) (base:r9) (CX:L8) (k:Nat) (f:db) (fd:FS) (ps:List Str) (sp:Sp):Prop where
 len:∀vs H Q E,sp vs H Q E->vs.length=ps.length
 run:∀(A:tt) (outer:List Env) (s:dL) (H:Hp) (args:Args) (us:List ci) (vs:List V) (Q:VK) (E:XK),c7 k A->Td P w K mg base A outer s H->BindsTo s fd args (ps.zip us)->Vals vs us->sp vs H Q E->
  Ix (ev P w) A (.call (.ref f) args) (CR CX outer P w H s Q E) s
def fu.imp {K:Ab}{CX:L8}{k:Nat}{f:db}{sp sp':Sp} (F:fu P w K mg base CX k f fd ps sp)
  (h:∀vs H Q E,sp' vs H Q E->sp vs H Q E):fu P w K mg base CX k f fd ps sp':=
 ⟨λvs H Q E q=>F.len vs H Q E (h _ _ _ _ q),λA outer s H args us vs Q E hr he hb hv hs=>F.run A outer s H args us vs Q E hr he hb hv (h _ _ _ _ hs)⟩
section
def Inv.aek (I:Inv X Z σ H s):Td X.prog X.w X.K X.mg X.base X.A X.stack s H:=
 ⟨I.ok.frames,I.ok.mod,I.bs,Bt I.ok.Uw I.sz,I.stack,I.Iy,I.bI,I.bare⟩
def Inv.after {Q:VK} (I:Inv X Z σ H s) (h:CE X.stack X.prog X.w H s Q u s'):EP X Z σ Q u s':=by
 obtain⟨v,H',os,bare,un,bI,r,q⟩:=h;obtain⟨hh,g,d,t,os'⟩:=s';obtain rfl:os'=s.os:=os;exact⟨v,H',I.call (h':=hh) (g':=g) (d':=d) (t':=t) (ch:=[]) un bI bare (λb z=>absurd z (by simp)),r,q⟩
end
def Binds (K:Ab) (fd:FS) (ps:List Str) (ds:List ci):Prop:=
 ∀(s:dL) (us:List ci),K.In s.heap->(us++ds).length=ps.length->BindsTo s fd ⟨us,[]⟩ (ps.zip (us++ds))
def Binds.all {K:Ab} (h:∀us:List ci,us.length=ps.length->bindArgs fd ⟨us,[]⟩=pure (ps.zip us)):Binds K fd ps []:=λs us _ hl=>by
 rw [CV] at hl ⊢;exact .of_eq (h us hl)
def Passes (CX:L8) (X:Cx) (E:XK):Prop:=∀(Z:List (db×Obj)) (σ:St) (H:Hp) (s:dL) (e:ci) (s':dL),Inv X Z σ H s->CX X.stack H s E e s'->X.xe e s'
section
variable {CX:L8}{k:Nat}{f:db}{sp:Sp}{dvs:List V}{ds:List ci}{E:XK}
def MK {Q:VK} (F:fu X.prog X.w X.K X.mg X.base CX k f fd ps sp) (hr:c7 k X.A) (hb:Binds X.K fd ps ds) (hd:Vals dvs ds) (hx:Passes CX X E)
  (I:Inv X Z σ H s) (r:Vals vs us) (h:sp (vs++dvs) H Q E):d5 (ev X.prog X.w) X.A (call (.ref f) us) (EP X Z σ Q) X.xe s:=by
 have r2:Vals (vs++dvs) (us++ds):=r.append hd;have hl:(us++ds).length=ps.length:=by rw [<- r2.length];exact F.len _ _ _ _ h
 refine wpAny_call (codeAny_mono (F.run X.A X.stack s H ⟨us,[]⟩ (us++ds) (vs++dvs) Q E hr I.aek (hb s us I.t4 hl) r2 h) λr s' hq=>?_);cases r with
 | error e=>exact hx Z σ H s e s' I hq
 | ok fl=>
  cases fl with
  | ret u=>exact I.after hq
  | next=>exact Bo hq
  | brk=>exact Bo hq
  | cont=>exact Bo hq
end
structure aq (N P:List Str) (sc:o0):Prop where
 kind:sc.kind=.function
 co:sc.isCoroutine=false
 gen:sc.isGenerator=false
 nd:N.Nodup
 pre:N.take P.length=P
 par:∀x∈P,sc.names.lookup x=ap .local\/sc.names.lookup x=ap .cell
 VL:∀y∈sc.names,y.2≠.free
theorem vh {kindOf:Str->Option Fa}:∀{binds:List (Str×ci)}{m:Str->Option ci},(∀v,(x,v)∉binds)->bindL kindOf binds m x=m x
 | [],_,_=>rfl
 | (n,v)::r,m,h=>by
  unfold bindL;rw [vh λw hw=>h w (AV _ hw)]
  split
  ·have:x≠n:=by rintro rfl;exact h v BA
   simp [this]
  ·rfl
theorem vj {kindOf:Str->Option Fa}:∀{binds:List (Str×ci)}{m:Str->Option ci},(∀v,(x,v)∉binds)->bindC kindOf binds m x=m x
 | [],_,_=>rfl
 | (n,v)::r,m,h=>by
  unfold bindC;rw [vj λw hw=>h w (AV _ hw)]
  split
  ·rfl
  ·have:x≠n:=by rintro rfl;exact h v BA
   simp [this]
theorem vi {kindOf:Str->Option Fa}:∀{P:List Str}{vs:List ci}{i:Nat}{m:Str->Option ci},P.Nodup->P[i]?=ap x->vs[i]?=ap v->kindOf x=ap .local->
  bindL kindOf (P.zip vs) m x=ap v
 | [],_,_,_,_,h,_,_=>by simp at h
 | _::_,[],_,_,_,_,h,_=>by simp at h
 | p::P,w::vs,0,m,nd,h1,h2,hk=>by
  simp at h1 h2;subst h1;subst h2;show bindL kindOf ((p,w)::P.zip vs) m p=_;unfold bindL;rw [vh λv hv=>(DN.mp nd).1 (E3 hv).1,if_pos hk];simp
 | p::P,w::vs,i+1,m,nd,h1,h2,hk=>by
  show bindL kindOf ((p,w)::P.zip vs) m x=_;unfold bindL;exact vi (i:=i) (DN.mp nd).2 (by simpa using h1) (by simpa using h2) hk
theorem vk {kindOf:Str->Option Fa}:∀{P:List Str}{vs:List ci}{i:Nat}{m:Str->Option ci},P.Nodup->P[i]?=ap x->vs[i]?=ap v->kindOf x≠ap .local->
  bindC kindOf (P.zip vs) m x=ap v
 | [],_,_,_,_,h,_,_=>by simp at h
 | _::_,[],_,_,_,_,h,_=>by simp at h
 | p::P,w::vs,0,m,nd,h1,h2,hk=>by
  simp at h1 h2;subst h1;subst h2;show bindC kindOf ((p,w)::P.zip vs) m p=_;unfold bindC;rw [vj λv hv=>(DN.mp nd).1 (E3 hv).1,if_neg hk];simp
 | p::P,w::vs,i+1,m,nd,h1,h2,hk=>by
  show bindC kindOf ((p,w)::P.zip vs) m x=_;unfold bindC;exact vk (i:=i) (DN.mp nd).2 (by simpa using h1) (by simpa using h2) hk
def start (N:List Str) (vs:List V):St:=vs.map ap++Am (N.length-vs.length) bv
def ju (CX:L8) (P:ul) (w:wv) (K:Ab) (mg:Str->Option ci) (base:r9) (N:List Str) (qual:Str) (scope:o0) (f:db) (cd:ci) (A:tt) (outer:List Env) (s:dL) (H:Hp) (E:XK):Cx where
 prog:=P
 w:=w
 K:=K
 mg:=mg
 base:=base
 A:=A.deeper (ut qual scope s.heap.objs.size f cd)
 N:=N
 s₀:=s
 H₀:=H
 env:=ut qual scope s.heap.objs.size f cd
 outer:=outer
 stack:=ut qual scope s.heap.objs.size f cd::outer
 ex:=[]
 calm:=true
 fn:=λ_=>true
 pn:=[]
 xe:=λe s'=>d5 (ev P w) (A.deeper (ut qual scope s.heap.objs.size f cd)) (leaving (ut qual scope s.heap.objs.size f cd) e) (λ_ YS=>CX outer H s E e YS) (λe' YS=>CX outer H s E e' YS) s'
def zR (h:sc.names.lookup x=ap .cell):∃c,(cellsFrom n sc.names []).lookup x=ap c:=by
 have q:=EJ sc.names n [] (.inl h);exact Option.isSome_iff_exists.mp q
theorem KG {CX:L8}{K:Ab}{N:List Str}{f:db}{cd:ci}{outer:List Env}{s1:dL}{E:XK}
  (S:aq N ps scope) (hd:A.handled=bv) (e0:Td P w K mg base A outer s H) (hl:vs.length=ps.length) (r:Vals vs us)
  (x:InCallC s s.heap.objs.size (bindL (ut qual scope s.heap.objs.size f cd).kindOf (ps.zip us) λ_=>bv) (cellsFrom (s.heap.objs.size+1) scope.names []) (bindC (ut qual scope s.heap.objs.size f cd).kindOf (ps.zip us) λ_=>bv) s1) :
  Inv (ju CX P w K mg base N qual scope f cd A outer s H E) [] (start N vs) H s1:=by
 have dJ:ps.length<=N.length:=by have:=congrArg BV S.pre;rw [B2] at this;omega
 obtain⟨h1,tk,rfl,hk⟩:=x.done;have Zu:∀b:db,b∉(ju CX P w K mg base N qual scope f cd A outer s H E).ex:=λb z=>absurd (show b∈([]:List db) from z) (by simp);refine⟨⟨e0.mod,S.kind,rfl,rfl,An _,λy z c h1 h2=>?_,λy hy=>?_,λy c _ h=>?_,λ_=>hd,Around.frames_deeper e0.frames,.inr ⟨rfl,rfl⟩,λb z=>absurd z (Zu b),e0.bs,e0.Uw,λb _ _=>Zu b,λb z=>absurd z (Zu b),e0.si,e0.XS⟩,
  rfl,e0.bare,Un.kept hk,⟨_,x.toInCall.ns,λi y v h1 h2 h3=>?_⟩,λy c h=>⟨_,x.cell y c h⟩,e0.bI.fresh (An _),λy c h=>?_,λp hp=>absurd (show p∈([]:List (db×Obj)) from hp) (by simp),e0.bI.kept hk,?_⟩
 ·exact name_of_addr x.apart (BS h1) (BS h2)
 ·rcases hy with hy | hy
  ·exact zR hy
  ·exact absurd rfl (S.VL _ (BS hy))
 ·exact DZ (x.above y c (BS h))
 ·have hi:i < vs.length:=by
   unfold start at h2;by_cases hi:i < vs.length
   ·exact hi
   ·rw [AB (by simpa using hi)] at h2;rw [Bx] at h2
    split at h2 <;> cases h2
  have ha:vs[i]?=ap v:=by
   unfold start at h2;rw [Ay (by simpa using hi),Ai] at h2;cases e:vs[i]? with
   | none=>rw [e] at h2;cases h2
   | some a=>rw [e] at h2;cases h2;rfl
  obtain⟨u,hu,rv⟩:=r.get ha;have hp:ps[i]?=ap y:=by
   rw [<- S.pre,List.getElem?_take_of_lt ∅];exact h1
  have ndP:ps.Nodup:=by rw [<- S.pre];exact S.nd.sublist (List.take_sublist _ _)
  refine⟨u,rv,?_⟩;rcases S.par y (Ba hp) with k | k
  ·exact .inl ⟨k,vi ndP hp hu k⟩
  ·obtain⟨c,e⟩:=zR (n:=s.heap.objs.size+1) k;refine .inr ⟨.inl k,c,e,?_⟩;have q:=x.cell y c e;rw [vk ndP hp hu (by show scope.names.lookup y≠_;rw [k];decide)] at q;exact q
 ·exact e0.bI.fresh (DZ (x.above y c (BS h)))
 ·unfold start;show _=N.length;rw [Ae,Af,Bd];omega
def aar {CX:L8}{K:Ab}{k:Nat}{f:db}{name:Str}{params:Arguments}{dV kV:ci}{N:List Str}{sp:Sp} (lk:K.lookup f=ap ⟨oc,od,.func (B4 name qual params body scope dV kV Ê pm an cS ct),P0⟩) (hJ:D3 K cS qual=true) (S:aq N ps scope)
  (len:∀vs H Q E,sp vs H Q E->vs.length=ps.length)
  (Oh:∀(A:tt) (outer:List Env) (s:dL) (H:Hp) (vs:List V) (Q:VK) (E:XK),c7 k (A.deeper (ut qual scope s.heap.objs.size f cS))->sp vs H Q E->
   ∃t,qI (ju CX P w K mg base N qual scope f cS A outer s H E) body t/\t {nx:=λ_ H'=>Q .aX H',rt:=Q} (start N vs) H) :
  fu P w K mg base CX (k+1) f (B4 name qual params body scope dV kV Ê pm an cS ct) ps sp:=by
 refine⟨len,λA outer s H args us vs Q E hr e0 hb r R4=>?_⟩;have hl:=len _ _ _ _ R4;have KX:K.In s.heap:=e0.mod.kin.keeps λb o e=>(e0.bs b o e).1;have lim:s.heap.NoLimit:=e0.mod.nolimit.keeps λb o e=>(e0.bs b o e).1;have Z6:∀y∈ps.zip us,scope.names.lookup y.1=ap .local\/(scope.names.lookup y.1=ap .cell/\((cellsFrom (s.heap.objs.size+1) scope.names []).lookup y.1).isSome=true):=λ⟨n,v⟩ hy=>by
  rcases S.par n (E3 hy).1 with q | q
  ·exact .inl q
  ·exact .inr ⟨q,EJ _ _ _ (.inl q)⟩
 refine codeAny_call_function hr.depth (KX _ _ lk) rfl S.co S.gen rfl (PySem.W.codeRec_of KX hJ) (hb _ _ _ _ ?_);refine wpAny_newFunctionEnv_cells S.kind Z6 λenv he s1 x=>?_;subst he;refine⟨lim.keeps x.toInCall.keep,codeAny_func ?_⟩;obtain⟨t,ht,hq⟩:=Oh A outer s H vs Q E (hr.deeper _) R4;have I:Inv (ju CX P w K mg base N qual scope f cS A outer s H E) [] (start N vs) H s1:=KG S hr.hd e0 hl r x;refine BQ (ht [] s1 (start N vs) H _ I hq) (λfl s' hs=>?_) λe s' hs=>hs;have fin:∀{σ':St}{H':Hp}{v:V}{u:ci},Inv (ju CX P w K mg base N qual scope f cS A outer s H E) [] σ' H' s'->RelV v u->Q v H'->CE outer P w H s Q u s':=
  λ{σ' H' v u} J rv q=>⟨v,H',J.os,J.bare,J.base,J.bI,rv,q⟩
 cases fl with
 | ret u=>
  obtain⟨v,σ',H',J,rv,q⟩:=hs;exact fin J rv q
 | next=>
  obtain⟨σ',H',J,q⟩:=hs;exact fin (v:=V.aX) (u:=AW) J rfl q
 | brk=>
  obtain⟨_,_,_,q⟩:=hs;exact Bo q
 | cont=>
  obtain⟨_,_,_,q⟩:=hs;exact Bo q
end L2
variable {T:String}
namespace L2
open PySem PySem.Spec PyProof.Rows
section
variable {t:TA}{id:String}{r:List V->Hp->VK->Prop}
def tCB (r:List V->Hp->VK->Prop) (t:TA):TE:=λσ H Q=>t σ H λvs H1=>r vs H1 Q
def eO (hc:bR X (.builtin id) r) (hg:Gl X x) (hm:X.mg x=bv) (hv:pr x=ap (.builtin id)) (ha:PA X (e::es) t) (hn:x≠"__name__":=by decide) (nF:(x==("__debug__":Str))=false:=by decide)
  (he:ce (e::es) X.env=(false,kw e X.env)::ce es X.env:=by rfl) (dJ:(lm pos (ce es X.env)).any (·.1)=false:=by rfl):PE X (.Call (.Name x p) (e::es) [] pos) (tCB r t):=by
 intro Z s σ H Q I h;refine BL (jP I hg hm hv ?_ hn nF);exact PyProof.Rows.callWith_builtin1 (bE (ha pos Z s σ H _ I h) λus s1 ⟨vs,H1,I1,r1,q1⟩=>hc Z s1 σ H1 vs us Q I1 r1 q1) he dJ
def lE (hc:bR X (.type T) r) (hg:Gl X x) (hm:X.mg x=bv) (hv:pr x=ap (.type T)) (ha:PA X (e::es) t) (hn:x≠"__name__":=by decide) (nF:(x==("__debug__":Str))=false:=by decide)
  (he:ce (e::es) X.env=(false,kw e X.env)::ce es X.env:=by rfl) (dJ:(lm pos (ce es X.env)).any (·.1)=false:=by rfl):PE X (.Call (.Name x p) (e::es) [] pos) (tCB r t):=by
 intro Z s σ H Q I h;refine BL (jP I hg hm hv ?_ hn nF);exact Bk (bE (ha pos Z s σ H _ I h) λus s1 ⟨vs,H1,I1,r1,q1⟩=>hc Z s1 σ H1 vs us Q I1 r1 q1) he dJ
end
end L2
variable {hi:Option Int}{prog:PySem.Program}{l:BK}{items:Array A8}{ns ms:List Int}{vl vu:A8}
namespace HT
open PySem PyProof.Rows
def lexLt:List Int->List Int->Bool
 | [],[]=>false
 | [],_::_=>true
 | _::_,[]=>false
 | x::xs,y::ys=>if x=y then lexLt xs ys else decide (x < y)
theorem GR (x y:Int) (xs ys:List Int):lexLt (x::xs) (y::ys)=if x=y then lexLt xs ys else decide (x < y):=rfl
def OO (A:tt) (s:dL) (a:Int) (t:Tok) (c:Int) (u:Tok):∃e,Dj A s (.int a t) (.int c u) e/\(e=true↔a=c):=
 ⟨(a==c),D5 a t c u,by simp⟩
def MR (A:tt) (s:dL) (a:Int) (t:Tok) (c:Int) (u:Tok) (prog:ul) (w:wv) (E:ci->dL->Prop) (Q:ci->dL->Prop) (h:Q (.bool (decide (a < c))) s) :
  d5 (ev prog w) A (richCompare .Lt (.int a t) (.int c u)) Q E s:=
 (PyProof.Rows.lt_int h:d5 (ev prog w) A (mo .Lt (.int a t) (.int c u)) Q E s)
section
open PySem.SeqAt
open PySem.AutoSeq1 (wpAny_loadPart')
open PySem.MeetsSeq PySem.MeetsSeq2 PySem.MeetsSeq3
theorem tR (l b:db) (items cp:Array ci) (n n2:Nat) (dd SO:Option db) (sl PZ:Array (Option ci)) (ns ms:List Int) (hi:xz items.toList ns) (hj:xz cp.toList ms) :
  Meets (Fk.«tuple.__lt__» ⟨[.ref l,.ref b],[]⟩)
   (λ_ R s=>s.heap.get? l=ap {cls:=.type "tuple",dict:=dd,data:=.seq items n,slots:=sl}/\s.heap.get? b=ap {cls:=.type "tuple",dict:=SO,data:=.seq cp n2,slots:=PZ}/\
    R (.ok (.ret (.bool (lexLt ns ms)))) s):=
 .of_wp λprog w A R s h=>by
  obtain⟨hp,g,d,tk,os⟩:=s;obtain⟨hl,hb,h⟩:=h;have f2:=AutoSeq1.sub_tuple_tuple;have z1:items.size=ns.length:=by rw [<- hi.length];simp
  have z2:cp.size=ms.length:=by rw [<- hj.length];simp
  wp_walk using wpAny_loadPart' hl,wpAny_loadPart' hb,wpAny_forIn_list _ (λrest b s'=>b.1=bv/\s'=⟨hp,g,d,tk,os⟩/\∃(vs ws:List ci) (Ja XE:List Int),rest=vs.zip ws/\
   xz vs Ja/\xz ws XE/\Ja.length+cp.size=XE.length+items.size/\R (.ok (.ret (.bool (lexLt Ja XE)))) ⟨hp,g,d,tk,os⟩) _
  case turn=>
   rintro⟨y,x⟩ rest b s' ⟨Ą,rfl,vs,ws,Ja,XE,hz,hvi,hwi,Á,hR⟩;cases hvi with
   | nil=>rw [List.zip_nil_left] at hz;cases hz
   | cons a t ado=>
    cases hwi with
    | nil=>rw [List.zip_nil_right] at hz;cases hz
    | cons c u adn=>
     rw [List.zip_cons_cons] at hz;injection hz with hyx Z0;injection hyx with hy hx;subst hy hx;rw [GR] at hR;simp only [Ao] at Á;obtain⟨e,he,Z9⟩:=OO A.in1 ⟨hp,g,d,tk,os⟩ a t c u;refine Aa (he prog w _ _ ?_);cases e with
     | true=>
      rw [if_pos (Z9.mp rfl)] at hR
      wp_walk
      exact⟨rfl,rfl,_,_,_,_,Z0,ado,adn,by omega,hR⟩
     | false=>
      rw [if_neg (λq=>absurd (Z9.mpr q) AU)] at hR;have hri:=MR A.in1 ⟨hp,g,d,tk,os⟩ a t c u prog w
      wp_walk using hri
      exact⟨_,rfl,by simpa using hR⟩
  case fin=>
   rintro⟨b1,b2⟩ s' ⟨Ą,rfl,vs,ws,Ja,XE,hz,hvi,hwi,Á,hR⟩;simp only at Ą;subst Ą;have hv:lexLt Ja XE=decide (items.size < cp.size):=by
    cases hvi with
    | nil=>
     cases hwi with
     | nil=>
      exact (decide_eq_false ∅).symm
     | cons c u hw=>
      simp only [A2,Ao] at Á;exact (decide_eq_true ∅).symm
    | cons a t hv=>
     cases hwi with
     | nil=>
      simp only [A2,Ao] at Á;exact (decide_eq_false ∅).symm
     | cons c u hw=>
      rw [List.zip_cons_cons] at hz;cases hz
   rw [hv] at hR
   wp_walk
   exact⟨_,rfl,by simpa [Builtin.Tuple.tupleCompareSizes] using hR⟩
  case h=>
   exact⟨rfl,rfl,items.toList,cp.toList,ns,ms,rfl,hi,hj,by omega,h⟩
end
section
def GN {cp:Array ci} (hl:IsTup s.heap l items) (hb:IsTup s.heap b cp) (hi:xz items.toList ns) (hj:xz cp.toList ms)
  (hu:A.units < pc) (h:Q (.bool (lexLt ns ms)) s):d5 (ev prog w) A (mo .Lt (.ref l) (.ref b)) Q E s:=by
 obtain⟨⟨cls,dd,data,sl⟩,ho,hc,n,hd⟩:=id hl;obtain⟨⟨Xc,SO,data2,PZ⟩,KL,Og,n2,Ñ⟩:=id hb;simp only at hc hd Og Ñ;subst hc hd Og Ñ;exact richCompare_meets_room (op:=.Lt) ⟨_,ho,rfl⟩ ⟨_,KL,rfl⟩ PySem.F.slot_tuple_lt PySem.F.entry_tuple_lt (PySem.F.args_tuple_lt_2 _ _) (tR l b items cp n n2 dd SO sl PZ ns ms hi hj)
  ⟨ho,KL,show B7 (lexLt ns ms)≠Value.notImplemented/\Q (.bool (lexLt ns ms)) s from⟨(λx=>nomatch x),h⟩⟩ hu
def SS {t:db}{vs ws:List ci} (ht:IsTup s.heap t vs.toArray) (hb:IsTup s.heap b ws.toArray) (hv:vs≠[])
  (h1:ws=[]->Q (.ref t) s) (h2:ws≠[]->Q (.ref s.heap.objs.size) {s with heap:=s.heap.push {cls:=.type "tuple",data:=.seq (vs++ws).toArray}})
  (hsz:vs.length+ws.length<=sizeLine):d5 (ev prog w) A (tz .Add (.ref t) (.ref b)) Q E s:=by
 obtain⟨⟨cls,dd,data,sl⟩,ho,hc,n,hd⟩:=id ht;obtain⟨⟨Xc,SO,data2,PZ⟩,KL,Og,n2,Ñ⟩:=id hb;simp only at hc hd Og Ñ;subst hc hd Og Ñ;have e:vs.toArray++ws.toArray=(vs++ws).toArray:=by simp
 by_cases hw:ws=[]
 ·exact concat_meets ⟨_,ho,rfl⟩ ⟨_,KL,rfl⟩ noFill_tuple_add seq_tuple_add C4 C1 (CS _ _)
   (tuple_addW1 t b vs.toArray ws.toArray n n2 dd SO sl PZ (by simpa using hv) (by simp [hw])) ⟨ho,KL,h1 hw⟩
 ·refine concat_meets ⟨_,ho,rfl⟩ ⟨_,KL,rfl⟩ noFill_tuple_add seq_tuple_add C4 C1 (CS _ _)
   (tuple_addW2 t b vs.toArray ws.toArray n n2 dd SO sl PZ (by simpa using hv) (by simpa using hw) (by rw [Aj,Aj];exact hsz)) ⟨ho,KL,?_⟩
  rw [e];exact h2 hw
def dR (n d:Nat):Option Int->Nat
 | none=>d
 | some v=>if v < 0 then (v+(n:Int)).toNat else min v.toNat n
theorem qY (n d:Nat):dR n d bv=d:=rfl
theorem vV (n d k:Nat):dR n d (ap (k:Int))=min k n:=by
 show (if (k:Int) < 0 then ((k:Int)+(n:Int)).toNat else min (k:Int).toNat n)=min k n;rw [if_neg ∅,A1]
theorem JO (v:Int) (n d:Nat):(if v < 0 then max (v+(n:Int)) 0 else min v (n:Int))=((dR n d (ap v):Nat):Int):=by
 show (if v < 0 then max (v+(n:Int)) 0 else min v (n:Int))=(((if v < 0 then (v+(n:Int)).toNat else min v.toNat n):Nat):Int);by_cases hv:v < 0
 ·simp only [if_pos hv];omega
 ·simp only [if_neg hv];omega
theorem HY (lo hi:Option Int) (n:Nat):Builtin.Slice.sliceAdjust lo hi 1 (n:Int)=(((dR n 0 lo:Nat):Int),((dR n n hi:Nat):Int)):=by
 have h1:¬((1:Int) < 0):=by omega
 unfold Builtin.Slice.sliceAdjust;refine Prod.ext ?_ ?_
 ·cases lo with
  | none=>rfl
  | some v=>exact JO v n 0
 ·cases hi with
  | none=>rfl
  | some v=>exact JO v n n
theorem Gs (i j:Nat):Builtin.Slice.slicePlaces (i:Int) (j:Int) 1=j-i:=by
 unfold Builtin.Slice.slicePlaces;have h1:(1:Int) > 0:=by omega
 split <;> omega
def qV {o:Option Int}{Q:Option Int->dL->Prop} (p:IsPart v o) (h:Q o s):d5 (ev prog w) A (Builtin.Slice.slicePartIndex v) Q E s:=by
 cases p with
 | none=>exact slicePart_none h
 | int i t=>exact slicePart_int h
def iW {sl:db}{lo:Option Int}{Q:Int×Int×Nat->dL->Prop} (hs:s.heap.IsSliceOf sl vl vu .none) (pl:IsPart vl lo) (pu:IsPart vu hi)
  (h:Q (((dR n 0 lo:Nat):Int),1,dR n n hi-dR n 0 lo) s):d5 (ev prog w) A (Builtin.Slice.sliceApplied (.ref sl) (pure (n:Int))) Q E s:=by
 obtain⟨os,L1,XO,R9⟩:=id hs;refine Aa (Aa (A4 L1 R9 (x:=vl) rfl (Aa (A4 L1 R9 (x:=vu) rfl (Aa (A4 L1 R9 (x:=.none) rfl (Ag ?_)))))));refine Aa (slicePart_none ?_);refine Aa (qV pl (Aa (qV pu (Aa (Ag ?_)))));show d5 _ _ (match Builtin.Slice.sliceAdjust lo hi 1 (n:Int) with | (lo,hi)=>pure (lo,(1:Int),Builtin.Slice.slicePlaces lo hi 1)) _ _ s;rw [HY lo hi n];show d5 _ _ (pure (((dR n 0 lo:Nat):Int),(1:Int),Builtin.Slice.slicePlaces ((dR n 0 lo:Nat):Int) ((dR n n hi:Nat):Int) 1)) _ _ s;rw [Gs];exact Ag h
theorem Na (xs:Array ci) (i k:Nat):((Av k).filterMap λ(m:Nat)=>xs[((i:Int)+(m:Int)*1).toNat]?).toArray=((xs.toList.drop i).take k).toArray:=by
 have e:(λ(m:Nat)=>xs[((i:Int)+(m:Int)*1).toNat]?)=λm=>xs[i+m]?:=by
  funext m;have:((i:Int)+(m:Int)*1).toNat=i+m:=by omega
  rw [this]
 rw [e];have:=pick_run xs i k;rw [List.filterMap_map] at this;have e2:((λx=>xs[x]?)∘λx=>i+x)=λm=>xs[i+m]?:=rfl;rw [e2] at this;rw [this]
theorem nG {t sl:db}{lo:Option Int} (ht:IsTup s.heap t items) (hs:s.heap.IsSliceOf sl vl vu .none) (pl:IsPart vl lo) (pu:IsPart vu hi)
  (hw:¬(dR items.size 0 lo=0/\dR items.size items.size hi=items.size))
  (h:Q (.ref s.heap.objs.size) {s with heap:=s.heap.push {cls:=.type "tuple",data:=.seq ((items.toList.drop (dR items.size 0 lo)).take (dR items.size items.size hi-dR items.size 0 lo)).toArray}})
  (hsz:items.size<=sizeLine):d5 (ev prog w) A (Gf (.ref t) (.ref sl)) Q E s:=by
 have Ju:sizeOk (.seq ((items.toList.drop (dR items.size 0 lo)).take (dR items.size items.size hi-dR items.size 0 lo)).toArray):=by
  show ((items.toList.drop (dR items.size 0 lo)).take (dR items.size items.size hi-dR items.size 0 lo)).toArray.size<=sizeLine;rw [Aj,B2,Cy,DT];omega
 obtain⟨os,L1,XO,R9⟩:=id hs;have XR:s.TypeIs (.ref sl) "slice":=⟨os,L1,XO⟩;unfold Gf
 try with_reducible refine Be ?_
 first | refine Aa (Ag ?_) | skip
 refine Aa (Ek ht.typeIs ⋯ ?_);refine Aa (AZ (name:=Cn "__getitem__") ht.typeIs Bl
  (Bg Bl ht.typeIs entry_tuple_getitem ?_ (args_tuple_getitem _ _)))
 show d5 _ _ (Builtin.Tuple.tupleItemsOf (.ref t) >>= _) _ _ s;refine Aa (tupleItemsOf_ ht ?_);refine Aa (Co XR ?_);refine Aa (iW hs pl pu ?_);have hno:¬((((dR items.size 0 lo:Nat):Int)==0&&(1:Int)==1&&(dR items.size items.size hi-dR items.size 0 lo)==items.size)=true):=by
  intro q;rw [AO,AO] at q;have q1:=eq_of_beq q.1.1;have q2:=eq_of_beq q.2;exact hw ⟨by omega,by omega⟩
 show d5 _ _ (if (((dR items.size 0 lo:Nat):Int)==0&&(1:Int)==1&&(dR items.size items.size hi-dR items.size 0 lo)==items.size)=true then _ else _) _ _ s;rw [if_neg hno,Na]
 first
  | exact Aa (m:=Builtin.Tuple.tupleExact _) (Bh (Ag ⟨_,rfl,Ag h⟩) Ju)
  | exact Aa (m:=Builtin.Tuple.tupleExact _) (Bh (Aa (Ag (Ag ⟨_,rfl,Ag h⟩))) Ju)
  | exact Aa (Aa (m:=Builtin.Tuple.tupleExact _) (Bh (Ag (Ag ⟨_,rfl,Ag h⟩)) Ju))
  | exact Aa (Aa (m:=Builtin.Tuple.tupleExact _) (Bh (Ag ⟨_,rfl,Ag h⟩) Ju))
end
end HT
variable {p2:Cv}
namespace L2
open PySem PySem.Spec PyProof.Rows
abbrev TO:=St->Hp->(Option Int->Hp->Prop)->Prop
def PO (X:Cx) (e:Option lw) (t:TO):Prop:=
 ∀(Z:List (db×Obj)) (s:dL) (σ:St) (H:Hp) (Q:Option Int->Hp->Prop),Inv X Z σ H s->t σ H Q->
  d5 (ev X.prog X.w) X.A (evalPart e X.env) (λu s'=>∃o H',Inv X Z σ H' s'/\IsPart u o/\Q o H') X.xe s
def Qt:TO:=λ_ H Q=>Q bv H
def Yt (t:TE):TO:=λσ H Q=>t σ H λx H1=>∃i,x=.int i/\Q (ap i) H1
def intsAre_of:∀{us:List ci},Vals (ns.map V.int) us->xz us ns:=by
 induction ns with
 | nil=>intro us r;rw [Df] at r;cases r;exact .nil
 | cons n ns ih=>
  intro us r;rw [Au] at r;cases r with
  | cons r1 r2=>
   obtain⟨t,e⟩:=r1;subst e;exact .cons n t (ih r2)
section
variable {lo hi:Option lw}{tl th:TO}
def Q1:PO X bv Qt:=by
 intro Z s σ H Q I h;exact Ag ⟨bv,H,I,.none,h⟩
def Q0 (h:PE X e te):PO X (ap e) (Yt te):=by
 intro Z s σ H Q I hw;refine bE (h Z s σ H _ I hw) λu s1 ⟨x,H1,I1,r1,q1⟩=>?_;obtain⟨i,rfl,q⟩:=q1;obtain⟨t,rfl⟩:=r1;exact⟨ap i,H1,I1,.int i t,q⟩
def S7 (X:Cx) (r:V->Option Int->Option Int->Hp->VK->Prop):Prop:=
 ∀(Z:List (db×Obj)) (s:dL) (σ:St) (H:Hp) (x:V) (v vl vu:ci) (lo hi:Option Int) (sl:db) (Q:VK),Inv X Z σ H s->RelV x v->s.heap.IsSliceOf sl vl vu .none->IsPart vl lo->IsPart vu hi->r x lo hi H Q->
  ∃T id,GM (.type T) "__getitem__"=pure (ap (.builtin id))/\s.TypeIs v T/\d5 (ev X.prog X.w) X.A (Gf v (.ref sl)) (EP X Z σ Q) X.xe s
def tSl (r:V->Option Int->Option Int->Hp->VK->Prop) (te:TE) (tl th:TO):TE:=λσ H Q=>te σ H λx H1=>tl σ H1 λl H2=>th σ H2 λu H3=>r x l u H3 Q
def yK {r:V->Option Int->Option Int->Hp->VK->Prop} (hr:S7 X r) (he:PE X e te) (hl:PO X lo tl) (hu:PO X hi th):PE X (.Subscript e (.Slice lo hi bv p2) pos) (tSl r te tl th):=by
 intro Z s σ H Q I h;refine Subscript_ (bE (he Z s σ H _ I h) λv s1 ⟨x,H1,I1,r1,q1⟩=>?_);refine wpAny_Slice (bE (hl Z s1 σ H1 _ I1 q1) λvl s2 ⟨l,H2,I2,pl,q2⟩=>bE (hu Z s2 σ H2 _ I2 q2) λvu s3 ⟨u,H3,I3,pu,q3⟩=>?_);rw [evalPart_none];refine Ag ?_;have I4:Inv X Z σ H3 {s3 with heap:=s3.heap.push {cls:=.type "slice",data:=.fields #[vl,vu,.none]}}:=I3.kept (t':=s3.toks) λb ob q=>Ah _ q;obtain⟨T,id,hT,ht,hg⟩:=hr Z {s3 with heap:=s3.heap.push {cls:=.type "slice",data:=.fields #[vl,vu,.none]}} σ H3 x v vl vu l u s3.heap.objs.size Q I4 r1 (Heap.IsSliceOf.new ..) pl pu q3;show d5 (ev X.prog X.w) X.A (subscriptTail e (.Slice lo hi bv p2) v (.ref s3.heap.objs.size)) (EP X Z σ Q) X.xe {s3 with heap:=s3.heap.push {cls:=.type "slice",data:=.fields #[vl,vu,.none]}};exact tail_any (ops:=[.ref s3.heap.objs.size,v]) ht hT hg (by with_unfolding_all rfl)
def ur (xs:List V) (lo hi:Option Int):List V:=(xs.drop (HT.dR xs.length 0 lo)).take (HT.dR xs.length xs.length hi-HT.dR xs.length 0 lo)
theorem pC (xs:List V) (lo hi:Option Int):(ur xs lo hi).length<=xs.length:=by
 unfold ur;rw [B2,Cy];omega
def acP (K:Ab):V->Option Int->Option Int->Hp->VK->Prop:=λx lo hi H Q=>∃a xs,x=.ref a/\d7 K H a xs/\
 ¬(HT.dR xs.length 0 lo=0/\HT.dR xs.length xs.length hi=xs.length)/\∀p,H p=bv->Q (.ref p) (upd H p (.tup (ur xs lo hi)))
def UZ:S7 X (acP X.K):=by
 intro Z s σ H x v vl vu lo hi sl Q I rx hs pl pu h;obtain⟨a,xs,rfl,hx,hw,q⟩:=h;cases rx;obtain⟨aw,r,ht,hz⟩:=I.tuple hx;have Á:aw.toArray.size=xs.length:=by rw [Aj];exact r.length.symm
 refine⟨"tuple",_,Bl.lookup,ht.typeIs,?_⟩;refine HT.nG ht hs pl pu (by rw [Á];exact hw) ?_ (by rw [Á];exact hz);rw [Á];refine⟨.ref s.heap.objs.size,_,I.laid (t':=s.toks) (o:=.tup (ur xs lo hi)) (λb ob q=>Ah _ q) (An _) ?_,rfl,q _ (I.bI.fresh (An _))⟩;exact⟨Bt (pC xs lo hi) hz,_,(r.drop (HT.dR xs.length 0 lo)).take (HT.dR xs.length xs.length hi-HT.dR xs.length 0 lo),FK _ _⟩
def TL (K:Ab):R2:=λx y H Q=>∃a b xs ys,x=.ref a/\y=.ref b/\d7 K H a xs/\d7 K H b ys/\xs≠[]/\xs.length+ys.length<=sizeLine/\
 (ys=[]->Q (.ref a) H)/\(ys≠[]->∀p,H p=bv->Q (.ref p) (upd H p (.tup (xs++ys))))
def Vals.jL (r:Vals xs us):us=[]↔xs=[]:=by
 cases r with
 | nil=>simp
 | cons _ _=>simp
def I0:hZ X (tz .Add) (TL X.K):=by
 intro Z s σ H x y v u Q I rx ry h;obtain⟨a,b,xs,ys,rfl,rfl,ha,hb,hx,hz,q1,q2⟩:=h;cases rx;cases ry;obtain⟨aw,r1,p1,_⟩:=I.tuple ha;obtain⟨cH,r2,p2,_⟩:=I.tuple hb;refine HT.SS p1 p2 (λz=>hx (r1.jL.mp z)) (λz=>⟨.ref a,H,I,rfl,q1 (r2.jL.mp z)⟩) (λz=>?_) (by rw [<- r1.length,<- r2.length];exact hz);refine⟨.ref s.heap.objs.size,_,I.laid (t':=s.toks) (o:=.tup (xs++ys)) (λb ob q=>Ah _ q) (An _) ?_,rfl,q2 (λw=>z (r2.jL.mpr w)) _ (I.bI.fresh (An _))⟩;exact⟨by rw [Ae];exact hz,_,r1.append r2,FK _ _⟩
end
end L2
variable {r':L2.R2}{its':List A8}
namespace L2
open PySem PySem.Spec PyProof.Rows
def nA (n:Nat) (i:Int):Option Nat:=if 0<=i then (if i < n then ap i.toNat else bv) else if -(n:Int)<=i then ap (i+n).toNat else bv
def bW (xs:List α) (i:Int):Option α:=(nA xs.length i).bind λj=>xs[j]?
theorem wU (h:nA n i=ap j):seqIndex? i n=ap j/\j < n/\-(n:Int)<=i/\i < n:=by
 unfold nA at h;by_cases h0:0<=i
 ·rw [if_pos h0] at h;by_cases h1:i < n
  ·rw [if_pos h1] at h;have e:=Option.some.inj h;exact⟨by rw [seqIndex_of h0 h1,e],by omega,by omega,h1⟩
  ·rw [if_neg h1] at h;cases h
 ·rw [if_neg h0] at h;by_cases h1:-(n:Int)<=i
  ·rw [if_pos h1] at h;have e:=Option.some.inj h;exact⟨by rw [seqIndex_neg ∅ h1,e],by omega,h1,by omega⟩
  ·rw [if_neg h1] at h;cases h
def xN {xs:List α}{v:α} (h:bW xs i=ap v):∃j,seqIndex? i xs.length=ap j/\xs[j]?=ap v/\j < xs.length/\-(xs.length:Int)<=i/\i < xs.length:=by
 unfold bW at h;cases e:nA xs.length i with
 | none=>rw [e] at h;cases h
 | some j=>
  rw [e] at h;obtain⟨h1,h2,h3,h4⟩:=wU e;exact⟨j,h1,h,h2,h3,h4⟩
theorem bV {xs:List α}{v:α} (h:xs[j]?=ap v):bW xs (j:Int)=ap v:=by
 have hj:=(Ak.mp h).1;have e:nA xs.length (j:Int)=ap j:=by
  unfold nA;rw [if_pos ∅,if_pos ∅];simp
 unfold bW;rw [e];exact h
theorem sY (xs:List α) (v:α):bW (xs++[v]) (-1)=ap v:=by
 have hl:(xs++[v]).length=xs.length+1:=by simp
 have e:nA (xs++[v]).length (-1)=ap xs.length:=by
  unfold nA;rw [hl,if_neg ⋯,if_pos ∅];congr 1;omega
 unfold bW;rw [e];simp
def qH (b:lw):Prop:=∀o i,subscripted b false o i=operate [o,i] (Gf o i)
def P8 (X:Cx) (r:R2):Prop:=
 ∀(value Ç:lw) (Z:List (db×Obj)) (s:dL) (σ:St) (H:Hp) (x y:V) (v u:ci) (Q:VK),Inv X Z σ H s->RelV x v->RelV y u->r x y H Q->
  subscripted Ç false v u=operate [v,u] (Gf v u)->d5 (ev X.prog X.w) X.A (subscriptTail value Ç v u) (EP X Z σ Q) X.xe s
def MtR (X:Cx) (id:String) (r:V->List V->Hp->VK->Prop):Prop:=
 ∀(Z:List (db×Obj)) (s:dL) (σ:St) (H:Hp) (x:V) (xs:List V) (v:ci) (us:List ci) (Q:VK),Inv X Z σ H s->RelV x v->Vals xs us->r x xs H Q->
  d5 (ev X.prog X.w) X.A (call (.builtin id) (v::us)) (EP X Z σ Q) X.xe s
section
variable {X:Cx}{a b:lw}{ta tb:TE}{pos:Pos}
def P8.or {r:R2} (h:P8 X r) (h':P8 X r'):P8 X (λx y H Q=>r x y H Q\/r' x y H Q):=by
 intro value Ç Z s σ H x y v u Q I rx ry q hs;rcases q with q | q
 ·exact h value Ç Z s σ H x y v u Q I rx ry q hs
 ·exact h' value Ç Z s σ H x y v u Q I rx ry q hs
def Nh {r:R2} (hr:P8 X r) (ha:PE X a ta) (hb:PE X b tb) (hs:qH b):PE X (.Subscript a b pos) (Tu r ta tb):=by
 intro Z s σ H Q I h;exact Subscript_ (Xf ha hb I h λv u s2 x y H2 I2 rx ry q=>hr a b Z s2 σ H2 x y v u Q I2 rx ry q (hs _ _))
def Y0 (K:Ab):R2:=λx y H Q=>∃p xs i v,x=.ref p/\y=.int i/\c6 K H p xs/\bW xs i=ap v/\Q v H
def YZ (K:Ab):R2:=λx y H Q=>∃p xs i v,x=.ref p/\y=.int i/\d7 K H p xs/\bW xs i=ap v/\Q v H
def Ve:R2:=λx y H Q=>∃z i c,x=.str z/\y=.int i/\z.length<=sizeLine/\bW z.cps.toList i=ap c/\Q (.str ⟨#[c]⟩) H
theorem RS:P8 X (Y0 X.K):=by
 intro value Ç Z s σ H x y v u Q I rx ry h hs;obtain⟨p,xs,i,z,rfl,rfl,hq,he,q⟩:=h;cases rx;obtain⟨t,rfl⟩:=ry;obtain⟨aw,r,pl,hz⟩:=I.list hq;obtain⟨j,h1,h2,h3,h4,h5⟩:=xN he;obtain⟨w,ew,ib⟩:=r.get h2;have hl:=r.length;have hn:=wI;have fin:EP X Z σ Q w s:=⟨z,H,I,ib,q⟩;by_cases h0:0<=i
 ·have hj:i.toNat=j:=by
   rw [seqIndex_of h0 h5] at h1;exact Option.some.inj h1
  exact item_listR pl.isList h0 ∅ (by rw [hj];simpa using ew) fin hs
 ·have hj:(i+(aw.toArray.size:Int)).toNat=j:=by
   rw [seqIndex_neg ∅ h4] at h1;rw [Aj,<- hl];exact Option.some.inj h1
  exact subscriptTail_builtinR (x:=w) pl.isList.typeIs slot_list_getitem.lookup
   (wpAny_getItem_list_neg (Q:=λr s'=>r=w/\EP X Z σ Q r s') pl.isList ∅ (by rw [Aj] <;> omega) ∅ (by rw [hj];simpa using ew) ⟨rfl,fin⟩) hs
theorem Wm:P8 X (YZ X.K):=by
 intro value Ç Z s σ H x y v u Q I rx ry h hs;obtain⟨p,xs,i,z,rfl,rfl,hq,he,q⟩:=h;cases rx;obtain⟨t,rfl⟩:=ry;obtain⟨aw,r,pl,hz⟩:=I.tuple hq;obtain⟨j,h1,h2,h3,h4,h5⟩:=xN he;obtain⟨w,ew,ib⟩:=r.get h2;have hl:=r.length;have hn:=wI;have fin:EP X Z σ Q w s:=⟨z,H,I,ib,q⟩;exact subscriptTail_builtinR (x:=w) pl.typeIs slot_tuple_getitem.lookup
  (getItem_tuple (j:=j) (Q:=λr s'=>r=w/\EP X Z σ Q r s') pl ∅ ∅ (by rw [Aj,<- hl];exact h1) (by simpa using ew) ⟨rfl,fin⟩) hs
theorem NX:P8 X Ve:=by
 intro value Ç Z s σ H x y v u Q I rx ry h hs;obtain⟨z,i,c,rfl,rfl,hz,he,q⟩:=h;obtain⟨t,rfl⟩:=rx;obtain⟨t',rfl⟩:=ry;obtain⟨j,h1,h2,h3,h4,h5⟩:=xN he;have hl:z.cps.toList.length=z.length:=by simp [Str.length]
 rw [hl] at h1 h4 h5;have hn:=wI;exact tail_any (typeIs_str s z t) slot_str_getitem.lookup (getItem_str (c:=c) (by
  have e1:decide (i < -(2 ^ 63:Int))=false:=decide_eq_false ∅;have e2:decide (i≥2 ^ 63)=false:=decide_eq_false ∅;rw [e1,e2,Bool.or_false]) (by rw [h1];simpa using h2) ⟨.str ⟨#[c]⟩,H,I.tok _,⟨_,rfl⟩,q⟩) hs
def rIx (K:Ab):R2:=λx y H Q=>Y0 K x y H Q\/YZ K x y H Q\/Ve x y H Q
def Wn:P8 X (rIx X.K):=RS.or (Wm.or NX)
def GL (aw:List ci) (n j:Nat) (u:ci):Bm (·.setIfInBounds j u) {cls:=.type "list",data:=.seq aw.toArray n}={cls:=.type "list",data:=.seq (aw.set j u).toArray n}:=by
 simp [Bm]
def Inv.lst {Z:List (db×Obj)}{σ:St}{H:Hp}{s:dL}{p:db}{xs:List V} (I:Inv X Z σ H s) (h:H p=ap (.lst xs)) :
  ∃(aw:List ci) (n:Nat),Vals xs aw/\s.heap.get? p=ap {cls:=.type "list",data:=.seq aw.toArray n}/\xs.length<=sizeLine:=by
 obtain⟨z,aw,n,r,e⟩:=I.bI p _ h;exact⟨aw,n,r,e,z⟩
def Inv.VU {p:db}{n':Nat}{f:Obj->Obj} (I:Inv X Z σ H s) (h:H p=ap (.lst xs))
  (ho:s.heap.get? p=ap {cls:=.type "list",data:=.seq aw.toArray n}) (hf:f {cls:=.type "list",data:=.seq aw.toArray n}={cls:=.type "list",data:=.seq its'.toArray n'}) (r:Vals ys its') (hz:ys.length<=sizeLine) (t:Nat) :
  Inv X Z σ (upd H p (.lst ys)) {s with heap:=s.heap.update p f,toks:=t}:=by
 have e:(s.heap.update p f).get? p=ap {cls:=.type "list",data:=.seq its'.toArray n'}:=by
  rw [CD f ho (by rw [hf] <;> rfl),hf]
 refine I.write (x:=p) (e:=p) (by rw [h];trivial) (.inl rfl) (λb u hb q=>(C3 _ _ (BF hb)).trans q) ⟨_,e⟩ ?_;exact⟨hz,its',n',r,e⟩
def YX:V->V->V->Hp->(Hp->Prop)->Prop:=λo i v H Q=>∃p xs k j,o=.ref p/\i=.int k/\H p=ap (.lst xs)/\nA xs.length k=ap j/\Q (upd H p (.lst (xs.set j v)))
theorem set_list:FY X YX:=by
 intro Z s σ H o i v ov iv u Q I ro ri rv h;obtain⟨p,xs,k,j,rfl,rfl,hp,hj,q⟩:=h;cases ro;obtain⟨t,rfl⟩:=ri;obtain⟨aw,n,r,ho,hz⟩:=I.lst hp;obtain⟨h1,h2,h3,h4⟩:=wU hj;have hl:=r.length;have hn:=wI;have I':Inv X Z σ (upd H p (.lst (xs.set j v))) {s with heap:=s.heap.update p (Bm (·.setIfInBounds j u))}:=
  I.VU hp ho (GL aw n j u) (r.set rv j) (by rw [BU];exact hz) s.toks
 by_cases h0:0<=k
 ·have hk:k.toNat=j:=by
   rw [seqIndex_of h0 h4] at h1;exact Option.some.inj h1
  exact PySem.W.ki_setAt ho h0 ∅ (by rw [Aj,<- hl];exact h4) (by rw [hk];exact⟨_,I',q⟩)
 ·have hk:(k+(aw.toArray.size:Int)).toNat=j:=by
   rw [seqIndex_neg ∅ h3] at h1;rw [Aj,<- hl];exact Option.some.inj h1
  exact PySem.W.ki_setBack ho ∅ (by rw [Aj,<- hl];exact h3) ∅ (by rw [hk];exact⟨_,I',q⟩)
theorem vT (lo hi:Option Int) (n:Nat):(wE lo hi bv n).1=((HT.dR n 0 lo:Nat):Int)/\(wE lo hi bv n).2.1=((HT.dR n n hi:Nat):Int)/\(wE lo hi bv n).2.2=1:=by
 refine⟨?_,?_,rfl⟩
 ·cases lo with
  | none=>simp [wE,HT.dR]
  | some i=>
   simp only [wE,HT.dR,Ey,show (1:Int) > 0 by decide,if_true];by_cases h:i < 0
   ·simp only [h,if_true] <;> omega
   ·simp only [h,if_false] <;> omega
 ·cases hi with
  | none=>simp [wE,HT.dR]
  | some i=>
   simp only [wE,HT.dR,Ey,show (1:Int) > 0 by decide,if_true];by_cases h:i < 0
   ·simp only [h,if_true] <;> omega
   ·simp only [h,if_false] <;> omega
def tU (aw:List ci) (lo hi:Option Int):slicePick aw.toArray lo hi bv=((aw.drop (HT.dR aw.length 0 lo)).take (HT.dR aw.length aw.length hi-HT.dR aw.length 0 lo)).toArray:=by
 obtain⟨h1,h2,h3⟩:=vT lo hi aw.toArray.size;unfold slicePick;rw [h1,h2,h3];simp only [sliceRange_one,pick_run,Aj] <;> rfl
def acQ (K:Ab):V->Option Int->Option Int->Hp->VK->Prop:=λx lo hi H Q=>∃a xs,x=.ref a/\c6 K H a xs/\∀p,H p=bv->Q (.ref p) (upd H p (.lst (ur xs lo hi)))
theorem QG:S7 X (acQ X.K):=by
 intro Z s σ H x v vl vu lo hi sl Q I rx hs pl pu h;obtain⟨a,xs,rfl,hx,q⟩:=h;cases rx;obtain⟨aw,r,ht,hz⟩:=I.list hx;have Á:=r.length;refine⟨"list",_,slot_list_getitem.lookup,ht.isList.typeIs,?_⟩;refine wpAny_getItem_list_slice ht.isList hs pl pu .none (by simp) ?_ (by rw [Aj] <;> omega);rw [tU,<- Á];refine⟨.ref s.heap.objs.size,_,I.laid (t':=s.toks) (o:=.lst (ur xs lo hi)) (λb ob q=>Ah _ q) (An _) ?_,rfl,q _ (I.bI.fresh (An _))⟩;exact⟨Bt (pC xs lo hi) hz,_,0,(r.drop (HT.dR xs.length 0 lo)).take (HT.dR xs.length xs.length hi-HT.dR xs.length 0 lo),Aq _ rfl⟩
theorem xJ:bR X (.type "list") (λxs H Q=>∃p ys,xs=[.ref p]/\(c6 X.K H p ys\/d7 X.K H p ys)/\∀l,H l=bv->Q (.ref l) (upd H l (.lst ys))):=by
 intro Z s σ H xs us Q I r h;obtain⟨p,ys,rfl,hq,q⟩:=h;obtain⟨u,rfl,rx⟩:=vals1 r;cases rx;have fin:∀(aw:List ci),Vals ys aw->ys.length<=sizeLine->∀(h':r9) (c':Nat),(∀b o',s.heap.get? b=ap o'->h'.get? b=ap o')->
   h'.get? s.heap.objs.size=ap {cls:=.type "list",dict:=bv,data:=.seq aw.toArray c',slots:=#[]}->EP X Z σ Q (.ref s.heap.objs.size) {s with heap:=h'}:=λaw r' hz h' c' kp e=>
  ⟨.ref s.heap.objs.size,_,I.laid (t':=s.toks) kp (An _) (show bx X.prog X.w _ h' _ (.lst ys) from⟨hz,aw,c',r',e⟩),rfl,q _ (I.bI.fresh (An _))⟩
 rcases hq with hq | hq
 ·obtain⟨aw,r',pl,hz⟩:=I.list hq;have Á:=r'.length;obtain⟨o,ho,hc,n,hd⟩:=pl.isList;exact call_list_seq p (.inl rfl) ho hc hd (λh' c' kp e=>fin aw r' hz h' c' kp e) (by simp only [Aj] <;> omega)
 ·obtain⟨aw,r',pl,hz⟩:=I.tuple hq;have Á:=r'.length;obtain⟨o,ho,hc,n,hd⟩:=pl;exact call_list_seq p (.inr rfl) ho hc hd (λh' c' kp e=>fin aw r' hz h' c' kp e) (by simp only [Aj] <;> omega)
theorem uu:bR X (.type "tuple") (λxs H Q=>∃p ys,xs=[.ref p]/\((c6 X.K H p ys/\∀l,H l=bv->Q (.ref l) (upd H l (.tup ys)))\/(d7 X.K H p ys/\Q (.ref p) H))):=by
 intro Z s σ H xs us Q I r h;obtain⟨p,ys,rfl,h⟩:=h;obtain⟨u,rfl,rx⟩:=vals1 r;cases rx;rcases h with⟨hq,q⟩ | ⟨hq,q⟩
 ·obtain⟨aw,r',pl,hz⟩:=I.list hq;have Á:=r'.length;refine call_tuple_list pl.isList (λh' kp=>?_) (by simp only [Aj] <;> omega);have I1:Inv X Z σ H {s with heap:=h'}:=I.kept (t':=s.toks) kp;have I2:Inv X Z σ (upd H h'.objs.size (.tup ys)) {s with heap:=h'.push {cls:=.type "tuple",data:=.seq aw.toArray}}:=
   I1.laid (t':=s.toks) (λb o e=>Ah _ e) (An _) (show bx X.prog X.w _ _ _ (.tup ys) from⟨hz,aw,r',FK _ _⟩)
  exact⟨.ref h'.objs.size,_,I2,rfl,q _ (I1.bI.fresh (An _))⟩
 ·obtain⟨aw,r',pl,hz⟩:=I.tuple hq;exact call_tuple_same pl ⟨.ref p,H,I,rfl,q⟩
def tyV (K:Ab) (T:String) (x:V) (H:Hp):Prop:=match x with
 | .str _=>T="str"
 | .int _=>T="int"
 | .ref p=>(T="list"/\∃xs,c6 K H p xs)\/(T="tuple"/\∃o,K.lookup p=ap o/\o.cls=.type "tuple"/\o.dict=bv)\/
   (T="dict"/\((∃kvs,H p=ap (.dK kvs))\/∃kvs,H p=ap (.dT kvs)))\/(T="set"/\∃S n,H p=ap (.set S n))
 | _=>False
def Mh {x:V} (I:Inv X Z σ H s) (r:RelV x v) (ty:tyV X.K T x H) :
  s.TypeIs v T/\∀a,v=.ref a->∃ob,s.heap.get? a=ap ob/\ob.dict=bv:=by
 cases x with
 | str z=>
  obtain⟨t,rfl⟩:=r;cases (show T="str" from ty);exact⟨typeIs_str s z t,λ_ e=>nomatch e⟩
 | int i=>
  obtain⟨t,rfl⟩:=r;cases (show T="int" from ty);exact⟨typeIs_int s i t,λ_ e=>nomatch e⟩
 | ref p=>
  cases r;rcases ty with⟨rfl,xs,hq⟩ | ⟨rfl,o,hk,hc,hd⟩ | ⟨rfl,hk⟩ | ⟨rfl,S,n,hk⟩
  ·obtain⟨aw,_,pl,_⟩:=I.list hq;refine⟨pl.isList.typeIs,λa e=>?_⟩;cases e;obtain⟨o,n,e,c,hd,_⟩:=pl;exact⟨o,e,hd⟩
  ·refine⟨⟨o,I.t4 p o hk,hc⟩,λa e=>?_⟩;cases e;exact⟨o,I.t4 _ o hk,hd⟩
  ·have z:∃o,s.heap.get? p=ap o/\o.ExactDict:=by
    rcases hk with⟨kvs,hk⟩ | ⟨kvs,hk⟩
    ·obtain⟨_,_,_,_,o,_,_,e,ex,_⟩:=I.bI p _ hk;exact⟨o,e,ex⟩
    ·obtain⟨_,_,_,_,o,_,_,e,ex,_⟩:=I.bI p _ hk;exact⟨o,e,ex⟩
   obtain⟨o,e,ex⟩:=z;refine⟨⟨o,e,ex.1⟩,λa e2=>?_⟩;cases e2;exact⟨o,e,ex.2.1⟩
  ·obtain⟨o,_,_,_,e,ex,_⟩:=I.bI p _ hk;refine⟨⟨o,e,ex.1⟩,λa e2=>?_⟩;cases e2;exact⟨o,e,ex.2.1⟩
 | _=>exact Bo ty
def YD (K:Ab) (T:String) (r:V->List V->Hp->VK->Prop) (to:TE):TE:=λσ H Q=>to σ H λx H1=>tyV K T x H1/\r x [] H1 Q
def tBM (K:Ab) (T:String) (r:V->List V->Hp->VK->Prop) (to:TE) (t:TA):TE:=λσ H Q=>to σ H λx H1=>tyV K T x H1/\t σ H1 λxs H2=>r x xs H2 Q
variable {o e:lw}{es:List lw}{to:TE}{t:TA}{name:Str}{Â bK:Pos}{T id:String}{r:V->List V->Hp->VK->Prop}
def Vv (pa:PlainAttrs T) (slot:Slot T name id) (Jt:typeOf (.builtin id)=pure (.type "method_descriptor")) (hm:MtR X id r) (ho:PE X o to)
  (eV:sw o name X.env (kw o X.env)=kw o X.env:=by rfl) (eU:(Â.endLine==bK.line)=true:=by rfl):PE X (.Call (.Attribute o name Â) [] [] bK) (YD X.K T r to):=by
 intro Z s σ H Q I h;refine wpAny_Call_method0_late eV eU (bE (ho Z s σ H _ I h) λv s1 ⟨x,H1,I1,r1,ty,q1⟩=>?_);obtain⟨h1,h2⟩:=Mh I1 r1 ty;exact⟨T,id,pa,slot,Jt,h1,h2,EL rfl (PySem.evalArgs_none (hm Z s1 σ H1 x [] v [] Q I1 r1 .nil q1))⟩
def Zf (pa:PlainAttrs T) (slot:Slot T name id) (Jt:typeOf (.builtin id)=pure (.type "method_descriptor")) (hm:MtR X id r) (ho:PE X o to) (ha:PA X (e::es) t)
  (eV:sw o name X.env (kw o X.env)=kw o X.env:=by rfl)
  (oQ:((lm bK (ce (e::es) X.env)).all (λx=>!x.1)&&(GE bK (Db [] X.env)).all (λx=>x.1.isSome)
   && decide ((e::es).length+([]:List ww).length+(if ([]:List ww).isEmpty then 0 else 1) < 30))=true:=by rfl)
  (eU:(Â.endLine==bK.line)=true:=by rfl) (hs:ce (e::es) X.env=(false,kw e X.env)::ce es X.env:=by rfl) (fo:(lm bK (ce es X.env)).any (·.1)=false:=by rfl) :
  PE X (.Call (.Attribute o name Â) (e::es) [] bK) (tBM X.K T r to t):=by
 intro Z s σ H Q I h;refine wpAny_Call_method_late eV oQ eU rfl (bE (ho Z s σ H _ I h) λv s1 ⟨x,H1,I1,r1,ty,q1⟩=>?_);obtain⟨h1,h2⟩:=Mh I1 r1 ty;refine⟨T,id,pa,slot,Jt,h1,h2,?_⟩;have hA:=ha bK Z s1 σ H1 _ I1 q1;rw [hs] at hA ⊢;refine EL (by show (false||(lm bK (ce es X.env)).any (·.1))=false;rw [fo] <;> rfl) (Calls.evalArgs_plain ?_);exact bE hA λus s2 ⟨vs,H2,I2,r2,q2⟩=>hm Z s2 σ H2 x vs v us Q I2 r1 r2 q2
end
def LR (X:Cx) (id:String) (r:V->List V->Hp->VK->Prop):Prop:=
 ∀(Z:List (db×Obj)) (s:dL) (σ:St) (H:Hp) (x:V) (xs:List V) (v:ci) (us:List ci) (Q:VK),Inv X Z σ H s->RelV x v->Vals xs us->r x xs H Q->
  d5 (ev X.prog X.w) X.A (call (.builtin id) (v::us)) (EP X Z σ Q) X.xe s
def Vals.one:∀{x:V}{us:List ci},Vals [x] us->∃u,us=[u]/\RelV x u
 | _,_,.cons r .nil=>⟨_,rfl,r⟩
def Vals.zero:∀{us:List ci},Vals [] us->us=[]
 | _,.nil=>rfl
def Vals.dropLast (h:Vals xs us):Vals xs.dropLast us.dropLast:=by
 induction h with
 | nil=>exact .nil
 | cons r t ih=>
  cases t with
  | nil=>exact .nil
  | cons q t'=>exact .cons r ih
theorem Vals.rep (h:Vals xs us):∀k:Nat,Vals (Am k xs).flatten (Am k us).flatten
 | 0=>.nil
 | k+1=>by
  rw [Bv,Bv,B6,B6];exact Vals.append h (Vals.rep h k)
theorem Ht (l:List α):l.eraseIdx (l.length-1)=l.dropLast:=by
 induction l with
 | nil=>rfl
 | cons a r ih=>
  cases r with
  | nil=>rfl
  | cons b r=>
   have e:(a::b::r).length-1=((b::r).length-1)+1:=by
    have h1:(a::b::r).length=r.length+2:=rfl;have h2:(b::r).length=r.length+1:=rfl;omega
   rw [e,List.eraseIdx_cons_succ,ih]
   all_goals rfl
theorem foldl_rep (aw:List ci):∀(k:Nat) (Ä:List ci),
  List.foldl (λx1 x2=>x1++x2) Ä.toArray (Am k aw.toArray)=(Ä++(Am k aw).flatten).toArray
 | 0,Ä=>by simp
 | k+1,Ä=>by
  have e:Ä.toArray++aw.toArray=(Ä++aw).toArray:=by simp
  have e2:(Ä++aw)++(Am k aw).flatten=Ä++(Am (k+1) aw).flatten:=by
   rw [Bv,B6,AR]
  rw [<- e2,<- foldl_rep aw k (Ä++aw),<- e,Bv,List.foldl_cons]
section
def Inv.GO {f:Array ci->Array ci}{t':Nat} (I:Inv X Z σ H s) (hH:H l=ap (.lst xs))
  (e:s.heap.get? l=ap {cls:=.type "list",data:=.seq aw.toArray n}) (hf:f aw.toArray=its'.toArray) (hv:Vals ys its') (hz:ys.length<=sizeLine) :
  Inv X Z σ (upd H l (.lst ys)) {s with heap:=s.heap.update l (Bm f),toks:=t'}:=by
 have q:=PySem.IsL.update e f;rw [hf] at q;refine I.write (x:=l) (e:=l) (by rw [hH];exact trivial) (.inl rfl) (λb' u hb hu=>(C3 s.heap (Bm f) (BF hb)).trans hu) ⟨_,q⟩ ?_;exact⟨hz,its',_,hv,q⟩
def Inv.VX {t':Nat} (I:Inv X Z σ H s) (hv:Vals ys aw) (hz:ys.length<=sizeLine) :
  Inv X Z σ (upd H s.heap.objs.size (.lst ys)) {s with heap:=s.heap.push {cls:=.type "list",data:=.seq aw.toArray},toks:=t'}:=
 I.laid (λ_ _ q=>Ah _ q) (An _) ⟨hz,aw,0,hv,Aq _ rfl⟩
def Inv.fresh (I:Inv X Z σ H s):H s.heap.objs.size=bv:=I.bI.fresh (An _)
def Inv.oG (I:Inv X Z σ H s) (hH:H l=ap (.lst xs)):xs.length<=sizeLine/\∃(aw:List ci) (n:Nat),Vals xs aw/\xs.length=aw.length/\s.heap.get? l=ap {cls:=.type "list",data:=.seq aw.toArray n}:=by
 obtain⟨z,aw,n,r,e⟩:=I.bI l _ hH;exact⟨z,aw,n,r,r.length,e⟩
theorem iZ (h:n<=sizeLine):Builtin.List.listTooLong n=false:=by
 exact decide_eq_false ∅
end
section
def QT:V->List V->Hp->VK->Prop:=λx vs H Q=>∃l xs y,x=.ref l/\vs=[y]/\H l=ap (.lst xs)/\xs.length < sizeLine/\Q .aX (upd H l (.lst (xs++[y])))
theorem Kr:LR X "list.append" QT:=by
 intro Z s σ H x vs v us Q I rx rv h;obtain⟨l,xs,y,rfl,rfl,hH,hz,q⟩:=h;cases rx;obtain⟨u,rfl,ru⟩:=rv.one;obtain⟨z,aw,n,r,hl,e⟩:=I.oG hH;refine wS F.slot_list_append ⟨_,e,rfl⟩ F.entry_list_append (F.args_list_append_2 _ _) (PySem.list_append l aw.toArray n u (by rw [Aj];omega)) ⟨e,?_⟩;refine⟨.aX,_,I.GO (its':=aw++[u]) hH e (by simp) (r.append (.cons ru .nil)) ?_,rfl,q⟩;rw [Ae,E8];omega
def QR:V->List V->Hp->VK->Prop:=λx vs H Q=>∃l b xs zs,x=.ref l/\vs=[.ref b]/\H l=ap (.lst xs)/\H b=ap (.lst zs)/\xs.length+zs.length<=sizeLine/\Q .aX (upd H l (.lst (xs++zs)))
theorem XD:LR X "list.extend" QR:=by
 intro Z s σ H x vs v us Q I rx rv h;obtain⟨l,b,xs,zs,rfl,rfl,hH,hB,hz,q⟩:=h;cases rx;obtain⟨u,rfl,ru⟩:=rv.one;cases ru;obtain⟨z,aw,n,r,hl,e⟩:=I.oG hH;obtain⟨z2,cH,n2,r2,KN,e2⟩:=I.oG hB;have hsz:aw.toArray.size+cH.toArray.size<=sizeLine:=by rw [Aj,Aj];omega
 have rZ:¬(!aw.toArray.isEmpty&&Builtin.List.listTooLong (aw.toArray.size+cH.toArray.size))=true:=by
  rw [iZ hsz,Ee];exact AU
 refine wS D6 ⟨_,e,rfl⟩ DQ (Dv _ _)
  (AutoSeq1.list_extend_list_list_0 l aw.toArray n b cH.toArray n2 rZ (by rw [Aj];omega) ∅) ⟨e,e2,?_⟩
 refine⟨.aX,_,I.GO (its':=aw++cH) hH e (by simp) (r.append r2) ?_,rfl,q⟩;rw [Ae];omega
def acS:V->List V->Hp->VK->Prop:=λx vs H Q=>∃l xs y,x=.ref l/\vs=[]/\H l=ap (.lst xs)/\xs[xs.length-1]?=ap y/\Q y (upd H l (.lst xs.dropLast))
theorem VQ:LR X "list.pop" acS:=by
 intro Z s σ H x vs v us Q I rx rv h;obtain⟨l,xs,y,rfl,rfl,hH,hy,q⟩:=h;cases rx;have hus:=rv.zero;subst hus;obtain⟨z,aw,n,r,hl,e⟩:=I.oG hH;obtain⟨u,hu,ru⟩:=r.get hy;have R1:aw.toArray[aw.toArray.size-1]?=ap u:=by
  show aw.toArray[aw.length-1]?=ap u;rw [<- Fb,<- hl];exact hu
 refine wS F.slot_list_pop ⟨_,e,rfl⟩ F.entry_list_pop (F.args_list_pop_1 _) (MeetsSeq.list_pop_last l aw.toArray n u R1 (by rw [Aj];omega)) ⟨e,?_⟩;refine⟨y,_,I.GO (its':=aw.dropLast) hH e ?_ r.dropLast ?_,ru,q⟩
 ·rw [Aj,List.eraseIdxIfInBounds_toArray,Ht]
 ·rw [List.length_dropLast];omega
def acT:R2:=λx y H Q=>∃l b xs zs,x=.ref l/\y=.ref b/\H l=ap (.lst xs)/\H b=ap (.lst zs)/\xs.length+zs.length<=sizeLine/\∀p,H p=bv->Q (.ref p) (upd H p (.lst (xs++zs)))
theorem VG:hZ X (tz .Add) acT:=by
 intro Z s σ H x y v u Q I rx ry h;obtain⟨l,b,xs,zs,rfl,rfl,hH,hB,hz,q⟩:=h;cases rx;cases ry;obtain⟨z,aw,n,r,hl,e⟩:=I.oG hH;obtain⟨z2,cH,n2,r2,KN,e2⟩:=I.oG hB;refine PySem.P.add_list e e2 ?_ (by rw [Aj,Aj];omega);have ea:aw.toArray++cH.toArray=(aw++cH).toArray:=by simp
 rw [ea];exact⟨.ref _,_,I.VX (t':=s.toks) (r.append r2) (by rw [Ae];omega),rfl,q _ I.fresh⟩
def acR:R2:=λx y H Q=>∃l k xs,x=.ref l/\y=.int k/\H l=ap (.lst xs)/\-(2 ^ 63)<=k/\k < 2 ^ 63/\xs.length*k.toNat<=sizeLine/\
 ∀p,H p=bv->Q (.ref p) (upd H p (.lst (Am k.toNat xs).flatten))
def len_rep (xs:List α) (k:Nat):(Am k xs).flatten.length=k*xs.length:=by
 induction k with
 | zero=>simp
 | succ k ih=>rw [Bv,B6,Ae,ih,FA,Nat.add_comm]
theorem Vz:hZ X (tz .Mult) acR:=by
 intro Z s σ H x y v u Q I rx ry h;obtain⟨l,k,xs,rfl,rfl,hH,h1,h2,hz,q⟩:=h;cases rx;obtain⟨t,rfl⟩:=ry;obtain⟨z,aw,n,r,hl,e⟩:=I.oG hH;have Á:aw.toArray.size*k.toNat<=sizeLine:=by rw [Aj,<- hl];exact hz
 have adW:¬aw.toArray.size*k.toNat > (2 ^ 63-1) / 8:=by
  have:(sizeLine:Nat)<=(2 ^ 63-1) / 8:=by decide
  omega
 have adQ:¬(!Builtin.List.listFitsIndex k)=true:=by
  rw [fitsIndex_both h1 h2];exact AU
 have rZ:¬Builtin.List.listTooLong (aw.toArray.size*k.toNat)=true:=by
  rw [iZ Á];exact AU
 have R8:List.foldl (λx1 x2=>x1++x2) #[] (Am (if aw.toArray.isEmpty=true then 0 else k.toNat) aw.toArray)=(Am k.toNat aw).flatten.toArray:=by
  have f0:∀m:Nat,List.foldl (λx1 x2=>x1++x2) #[] (Am m aw.toArray)=(Am m aw).flatten.toArray:=λm=>by
   have:=foldl_rep aw m [];exact this
  rw [f0];cases aw with
  | nil=>simp
  | cons a r'=>rw [if_neg (by simp)]
 refine wpAny_binaryOp_repeat_ref (T:="list") (U:="int") ⋯ ⟨_,e,rfl⟩ (λs'=>typeIs_int s' k t) noFill_list_mul F.fills_int_mul F.slot_int_rmul repeat_list F.slot_int_index.lookup
  (wS F.slot_int_rmul (typeIs_int s k t) F.entry_int_rmul (F.args_int_rmul_2 _ _) (int___rmul___int_list k t l aw.toArray n)
   ⟨e,rfl,⟨_,e,rfl⟩,wS F.slot_list_mul ⟨_,e,rfl⟩ F.entry_list_mul (F.args_list_mul_2 _ _) (AutoListH.list___mul___list_int_3 l aw.toArray n k t adQ adW rZ) ⟨e,?_⟩⟩)
 rw [R8];exact⟨.ref _,_,I.VX (t':=s.toks) (r.rep k.toNat) (by rw [len_rep,Nat.mul_comm];exact hz),rfl,q _ I.fresh⟩
end
section
def J8 (aw cH:List ci) (a c:Nat):aw.toArray.extract 0 a++cH.toArray++aw.toArray.extract c aw.toArray.size=(aw.take a++cH++aw.drop c).toArray:=by
 apply EH.mp
 first
  | (
    simp;exact Cd (by simp))
  | simp [Cd]
  | simp
theorem HU {a c:Nat} (XQ:a<=c) (hc:c<=n):wE (ap (a:Int)) (ap (c:Int)) bv n=((a:Int),(c:Int),1):=by
 simp only [wE,Ey];have h1:¬((a:Int) < 0):=by omega
 have h2:¬((c:Int) < 0):=by omega
 congr 1
 ·omega
 ·congr 1;omega
set_option maxRecDepth 100000 in
theorem tV {l b sl:db}{items new:Array ci}{n n2:Nat}{vl vu:ci}{a c:Nat}{Q:Unit->dL->Prop}
  (e:s.heap.get? l=ap {cls:=.type "list",data:=.seq items n}) (e2:s.heap.get? b=ap {cls:=.type "list",data:=.seq new n2}) (Oa:l≠b)
  (hs:s.heap.IsSliceOf sl vl vu .none) (pl:IsPart vl (ap (a:Int))) (pu:IsPart vu (ap (c:Int))) (XQ:a<=c) (hc:c<=items.size)
  (hsz:items.size+new.size<=sizeLine) (h:Q () {s with heap:=s.heap.update l (Bm λxs=>xs.extract 0 a++new++xs.extract c xs.size)}) :
  d5 (ev prog w) A (Ev (.ref l) (.ref sl) (.ref b)) Q E s:=by
 have hl:s.heap.IsList l items:=FI e;have hb:s.heap.IsList b new:=FI e2;obtain⟨os,L1,XO,R9⟩:=id hs;have XR:s.TypeIs (.ref sl) "slice":=⟨os,L1,XO⟩;have ZY:¬((rawPart bv==wP 0)=true):=AU;have N8:Builtin.List.listSameRef (.ref l) (.ref b)=false:=by
  unfold Builtin.List.listSameRef;exact beq_eq_false_iff_ne.mpr Oa
 have adG:(max (a:Int) (c:Int)).toNat=c:=by omega
 have G7:((λxs:Array ci=>xs.extract 0 a++new++xs.extract c xs.size) items).size<=sizeLine+1:=by
  simp only [En,Array.size_extract];omega
 unfold Ev
 try with_reducible refine Be ?_
 first | refine Aa (Ag ?_) | skip
 refine Aa (Ek hl.typeIs ⋯ ?_);refine Aa (AZ (name:=Cn "__setitem__") hl.typeIs slot_list_setitem
  (Bg slot_list_setitem hl.typeIs entry_list_setitem ?_ (args_list_setitem _ _ _)))
 show d5 _ _ (Builtin.List.listSubscript? (.ref sl) >>= _) _ _ s;refine Aa ?_;unfold Builtin.List.listSubscript?;refine Aa (DK XR slice_no_index ?_);simp only [Option.isNone_none,if_true];refine Ag ?_;show d5 _ _ (typeOf (.ref sl) >>= _) _ _ s;refine Aa (Co XR ?_)
 first
  | rw [if_neg ⋯]
  | refine PySem.W.KFB.if_not ⋯ ?_
 rw [listSliceParts_eq];refine Aa (Aa (A4 L1 R9 (x:=.none) rfl (Aa (Fe .none ?_))));rw [if_neg ZY];refine Aa (A4 L1 R9 (x:=vl) rfl (Aa (Fe pl ?_)));refine Aa (A4 L1 R9 (x:=vu) rfl (Aa (Fe pu (Ag ?_))))
 first
  | simp only [N8,Al,if_false]
  | refine PySem.W.KFB.if_not N8 ?_
  | (
    dsimp only;rw [if_neg (by rw [N8];exact AU)])
 refine Aa (m:=Builtin.List.listAllItems (.ref b) "must assign iterable to extended slice") ?_;unfold Builtin.List.listAllItems;refine Aa (Co hb.typeIs ?_)
 first
  | refine PySem.W.KFB.if_so ⋯ ?_
  | rw [if_pos ⋯]
  | simp only [beq_self_eq_true,Bool.true_or,if_true]
 unfold Builtin.List.listItems;refine Aa (BH e2 rfl (Ag ?_));refine Aa (Aa (BH e rfl (Ag ?_)));refine Aa (CB ((sliceIndices_raw (ap (a:Int)) (ap (c:Int)) bv items.size (by simp)).trans (congrArg (pure:Int×Int×Int->Sem (Int×Int×Int)) (HU XQ hc))) ?_);show d5 _ _ (if ((1:Int)==1)=true then _ else _) _ _ s;rw [if_pos ⋯];refine Aa (CK ?_)
 first
  | simp only [iZ hsz,Al,if_false]
  | refine PySem.W.KFB.if_not (iZ hsz) ?_
 first | refine Aa (Ag ?_) | skip
 show d5 _ _ (updateSeq l (λxs=>xs.extract 0 ((a:Int)).toNat++new++xs.extract (max (a:Int) (c:Int)).toNat xs.size) >>= _) _ _ s;rw [adG,A1];refine Aa (DJ (hz:=Bt (BB _ _) hsz) (_hz':=G7) e rfl ?_);refine Aa (Dz ?_)
 first
  | exact Aa (Ag (Ag ⟨.none,rfl,Ag h⟩))
  | exact Ag ⟨.none,rfl,Ag h⟩
end
section
theorem Kb {sl:db}{a c:Int}{Q:Unit->dL->Prop} (I:Inv X Z σ H s)
  (hH:H l=ap (.lst xs)) (hB:H b=ap (.lst ys)) (Oa:l≠b) (hs:s.heap.IsSliceOf sl vl vu .none) (ra:RelV (.int a) vl) (rc:RelV (.int c) vu) (h0:0<=a) (XQ:a<=c) (hc:c<=xs.length)
  (hz:xs.length+ys.length<=sizeLine) (h:∀s',Inv X Z σ (upd H l (.lst (xs.take a.toNat++ys++xs.drop c.toNat))) s'->Q () s') :
  d5 (ev X.prog X.w) X.A (Ev (.ref l) (.ref sl) (.ref b)) Q X.xe s:=by
 obtain⟨ta,rfl⟩:=ra;obtain⟨tc,rfl⟩:=rc;obtain⟨z,aw,n,r,hl,e⟩:=I.oG hH;obtain⟨z2,cH,n2,r2,KN,e2⟩:=I.oG hB;obtain⟨a',rfl⟩:=EG h0;obtain⟨c',rfl⟩:=EG (Int.le_trans h0 XQ);simp only [A1] at h;refine tV (a:=a') (c:=c') e e2 Oa hs (.int _ _) (.int _ _) ∅ (by rw [Aj];omega) (by rw [Aj,Aj];omega) (h _ ?_);refine I.GO (its':=aw.take a'++cH++aw.drop c') (t':=s.toks) hH e ?_ (Vals.append (Vals.append (r.take _) r2) (r.drop _)) ?_
 ·exact J8 aw cH a' c'
 ·rw [Ae,Ae,B2,Cy];omega
end
end L2
variable {xs:List (List L2.Key×BK×A8)}{o:Option L2.V}{v:L2.V}{kvs:List (List L2.Key×L2.V)}{env:PySem.Env}{value:BD}{Tp:List (L2.TE×L2.TE)}{É:List (Option BD)}{È:List BD}
namespace L2
open PySem PySem.Spec PyProof.Rows
section
variable {κ:Type} [DecidableEq κ]
def iE (kvs:List (κ×V)) (k:κ):Option V:=(kvs.find? λkv=>decide (kv.1=k)).map (·.2)
def putK (kvs:List (κ×V)) (k:κ) (v:V):List (κ×V):=
 if (kvs.any λkv=>decide (kv.1=k))=true then kvs.map (λkv=>if kv.1=k then (kv.1,v) else kv) else kvs++[(k,v)]
def ku {p:κ×V}{r:List (κ×V)}{k:κ} (e:p.1=k):iE (p::r) k=ap p.2:=by simp [iE,BJ,e]
def kz {p:κ×V}{r:List (κ×V)}{k:κ} (e:¬p.1=k):iE (p::r) k=iE r k:=by simp [iE,BJ,e]
theorem mS (k:κ):∀kvs:List (κ×V),(kvs.any λkv=>decide (kv.1=k))=(iE kvs k).isSome
 | []=>rfl
 | p::r=>by
  rw [Cs];by_cases e:p.1=k
  ·simp only [ku e,decide_eq_true e,Bool.true_or,Option.isSome_some]
  ·rw [kz e,decide_eq_false e,Bool.false_or];exact mS k r
theorem kT (kvs:List (κ×V)) (k:κ) (v:V):(putK kvs k v).length<=kvs.length+1:=by
 unfold putK
 split
 ·rw [Af];omega
 ·rw [Ae,Ao,A2];omega
def tq.oK {u:Option ci} (r:tq o u):o.isSome=u.isSome:=by
 cases o with
 | none=>cases u with
  | none=>rfl
  | some _=>exact (show False from r).elim
 | some _=>cases u with
  | none=>exact (show False from r).elim
  | some _=>rfl
def KV.val {kvs:List (κ×V)}{vs:List (κ×ci)} (r:KV kvs vs) (k:κ):tq (iE kvs k) (valueAt vs k):=by
 unfold KV at r
 induction r with
 | nil=>exact BX
 | @cons p q ps qs h t ih=>
  obtain⟨h1,h2⟩:=h;by_cases e:p.1=k
  ·have e':q.1=k:=h1.symm.trans e;have b:valueAt (q::qs) k=ap q.2:=by simp [valueAt,BJ,e']
   rw [ku e,b];exact h2
  ·have e':¬q.1=k:=λz=>e (h1.trans z);have b:valueAt (q::qs) k=valueAt qs k:=by simp [valueAt,BJ,e']
   rw [kz e,b];exact ih
def KV.any {kvs:List (κ×V)}{vs:List (κ×ci)} (r:KV kvs vs) (k:κ):(kvs.any λkv=>decide (kv.1=k))=vs.any λkv=>decide (kv.1=k):=by
 induction r with
 | nil=>rfl
 | cons h t ih=>rw [Cs,Cs,ih,h.1]
def KV.U6 {kvs:List (κ×V)}{vs:List (κ×ci)} (r:KV kvs vs) (k:κ) (ry:RelV y u) :
  KV (kvs.map λkv=>if kv.1=k then (kv.1,y) else kv) (vs.map λkv=>if kv.1=k then (kv.1,u) else kv):=by
 induction r with
 | nil=>exact .nil
 | @cons p q ps qs h t ih=>
  rw [Au,Au];refine .cons ?_ ih;obtain⟨h1,h2⟩:=h;by_cases e:p.1=k
  ·rw [if_pos e,if_pos (h1.symm.trans e)];exact⟨h1,ry⟩
  ·rw [if_neg e,if_neg (λz=>e (h1.trans z))];exact⟨h1,h2⟩
def KV.put {kvs:List (κ×V)}{vs:List (κ×ci)} (r:KV kvs vs) (k:κ) (ry:RelV y u):KV (putK kvs k y) (stored vs k u):=by
 unfold putK stored;rw [r.any k];by_cases e:(vs.any λkv=>decide (kv.1=k))=true
 ·rw [if_pos e,if_pos e];exact r.U6 k ry
 ·rw [if_neg e,if_neg e];exact Paired.snoc r ⟨rfl,ry⟩
def KV.length {kvs:List (κ×V)}{vs:List (κ×ci)} (r:KV kvs vs):kvs.length=vs.length:=Paired.length r
end
def zb {k:Key} (r:RelV (kV k) u):(bN P w).is k u=true:=by
 cases k with
 | inl i=>obtain⟨t,e⟩:=(show ∃t,u=D2 i t from r);subst e;exact yZ P w i t
 | inr x=>obtain⟨t,e⟩:=(show ∃t,u=D1 x t from r);subst e;exact yY P w x t
theorem uT:∀{ks:List Key}{us:List ci},Vals (ks.map kV) us->ItemsAre (bN P w) ks us
 | [],_,r=>by rw [Df] at r;cases r;exact .nil
 | k::ks,_,r=>by
  rw [Au] at r;cases r with
  | cons h t=>exact .cons (zb h) (uT t)
abbrev KT (H:Hp):List (List Key×V)->List (List Key×db×ci)->Prop:=Paired λp q=>p.1=q.1/\H q.2.1=ap (.tup (p.1.map kV))/\RelV p.2 q.2.2
def KT.val (r:KT H kvs xs) (k:List Key):tq (iE kvs k) ((atKey xs k).map (·.2)):=by
 induction r with
 | nil=>exact BX
 | @cons p q ps qs h t ih=>
  obtain⟨h1,_,h2⟩:=h;by_cases e:p.1=k
  ·have e':q.1=k:=h1.symm.trans e;have b:atKey (q::qs) k=ap q.2:=by simp [atKey,BJ,e']
   rw [ku e,b];exact h2
  ·have e':¬q.1=k:=λz=>e (h1.trans z);have b:atKey (q::qs) k=atKey qs k:=by simp [atKey,BJ,e']
   rw [kz e,b];exact ih
def KT.U6 (r:KT H kvs xs) (k:List Key) (ry:RelV y u) :
  KT H (kvs.map λkv=>if kv.1=k then (kv.1,y) else kv) (xs.map (putAt k u)):=by
 induction r with
 | nil=>exact .nil
 | @cons p q ps qs h t ih=>
  rw [Au,Au];refine .cons ?_ ih;obtain⟨h1,h2,h3⟩:=h;unfold putAt;by_cases e:p.1=k
  ·rw [if_pos e,if_pos (h1.symm.trans e)];exact⟨h1,h2,ry⟩
  ·rw [if_neg e,if_neg (λz=>e (h1.trans z))];exact⟨h1,h2,h3⟩
def KT.put (r:KT H kvs xs) (k:List Key) (hb:H b=ap (.tup (k.map kV))) (ry:RelV y u) :
  KT H (putK kvs k y) (Gc xs k b u):=by
 have e:(kvs.any λkv=>decide (kv.1=k))=(atKey xs k).isSome:=by
  rw [mS,(r.val k).oK,Fz]
 unfold putK Gc;rw [e];by_cases q:(atKey xs k).isSome=true
 ·rw [if_pos q,if_pos q];exact r.U6 k ry
 ·rw [if_neg q,if_neg q];exact Paired.snoc r ⟨rfl,hb,ry⟩
def KT.keeps (r:KT H kvs xs) (ht:∀b ys,H b=ap (.tup ys)->H' b=ap (.tup ys)):KT H' kvs xs:=
 Paired.VT r λ_ _ z=>⟨z.1,ht _ _ z.2.1,z.2.2⟩
section
def TC {u:HO} (ok:lV P w H h) (e:Rd H a u):bx P w H h a u:=e.ok ok
def sQ {kvs:List (Key×V)} (ok:lV P w H h) (e:Rd H a (.dK kvs)):kvs.length<=sizeLine/\(a==wf)=false/\∃vs,KV kvs vs/\h.DictOf (bN P w) a vs:=
 show bx P w H h a (.dK kvs) from TC ok e
def Ut {kvs:List (Key×V)} (ok:lV P w H h) (e:H a=ap (.dK kvs)):kvs.length<=sizeLine/\(a==wf)=false/\∃vs,KV kvs vs/\h.DictOf (bN P w) a vs:=sQ ok (.inl e)
def rQ {ks:List Key} (ok:lV P w H h) (e:H a=ap (.tup (ks.map kV))):(sn (bN P w)).is h ks a:=by
 obtain⟨_,aw,r,o,h1,h2,n,h3⟩:=(show bx P w H h a (.tup (ks.map kV)) from ok a _ e);exact⟨o,aw.toArray,n,h1,h2,h3,by simpa using uT r⟩
def sP (ok:lV P w H h) (e:Rd H a (.dT kvs)):kvs.length<=sizeLine/\(a==wf)=false/\
  ∃xs,KT H kvs xs/\h.DictOfH (sn (bN P w)) a xs:=by
 obtain⟨z,y,xs,r,o,es,ep,h1,h2,h3,h4,h5⟩:=(show bx P w H h a (.dT kvs) from TC ok e);refine⟨z,y,xs,r,o,es,ep,h1,h2,h3,h4,λx hx=>?_,h5⟩;have all:∀{l:List (List Key×V)}{m:List (List Key×db×ci)},KT H l m->∀x∈m,(sn (bN P w)).is h x.1 x.2.1:=by
  intro l m q
  induction q with
  | nil=>intro x hx;exact nomatch hx
  | @cons p q ps qs hq t ih=>
   intro x hx;rcases AA.mp hx with e | hx
   ·subst e;exact rQ ok (by rw [<- hq.1];exact hq.2.1)
   ·exact ih x hx
 exact all r x hx
def aaK (ok:lV P w H h) (e:H a=ap (.dT kvs)):kvs.length<=sizeLine/\(a==wf)=false/\
  ∃xs,KT H kvs xs/\h.DictOfH (sn (bN P w)) a xs:=sP ok (.inl e)
end
def o9 (H:Hp) (a:db) (y:V) (r:Option V):Prop:=
 (∃kvs k,Rd H a (.dK kvs)/\y=kV k/\r=iE kvs k)\/∃kvs k b,Rd H a (.dT kvs)/\y=.ref b/\H b=ap (.tup (k.map kV))/\r=iE kvs k
def LS (H:Hp) (a:db) (y v:V) (H':Hp):Prop:=
 (∃kvs k,H a=ap (.dK kvs)/\y=kV k/\kvs.length < sizeLine/\H'=upd H a (.dK (putK kvs k v)))\/
 ∃kvs k b,H a=ap (.dT kvs)/\y=.ref b/\H b=ap (.tup (k.map kV))/\kvs.length < sizeLine/\H'=upd H a (.dT (putK kvs k v))
theorem o9.k {kvs:List (Key×V)}{k:Key} (e:H a=ap (.dK kvs)):o9 H a (kV k) (iE kvs k):=.inl ⟨kvs,k,.inl e,rfl,rfl⟩
theorem LS.k {kvs:List (Key×V)}{k:Key} (e:H a=ap (.dK kvs)) (hl:kvs.length < sizeLine):LS H a (kV k) v (upd H a (.dK (putK kvs k v))):=.inl ⟨kvs,k,e,rfl,hl,rfl⟩
section
variable {r:ci}
def Inv.big (I:Inv X Z σ H s):wf < s.heap.objs.size:=by
 have h:=(I.mod.glob.keeps I.bk).lt;exact Nat.lt_trans ⋯ h
def vf (hu:A.units+1 < pc) (I:Inv X Z σ H s) (g:o9 H a y (ap v)) (ry:RelV y u) (h:∀w' s',Inv X Z σ H s'->RelV v w'->Q w' s') :
  d5 (ev X.prog X.w) A (Gf (.ref a) u) Q E s:=by
 rcases g with⟨kvs,k,e,ey,l⟩ | ⟨kvs,k,b,e,ey,eb,l⟩
 ·subst ey;obtain⟨z,hd,vs,Ï,dd⟩:=sQ I.bI e;obtain⟨w',hw,ib⟩:=tq.some_of (v:=v) (o:=valueAt vs k) (by rw [l];exact Ï.val k);exact wpAny_getItem_of (zb ry) dd.mapOf hw (h w' _ (I.tok _) ib)
 ·subst ey;cases (show u=AD b from ry);obtain⟨z,hd,xs,Ï,dd⟩:=sP I.bI e;obtain⟨w',hw,ib⟩:=tq.some_of (v:=v) (o:=(atKey xs k).map (·.2)) (by rw [l];exact Ï.val k);obtain⟨p,hp,wX⟩:=C6.mp hw;refine wpAny_getItem_heap (FM hu) (rQ I.bI eb) dd hp ?_;rw [wX];exact h w' _ (I.tok _) ib
def aep (hu:A.units+1 < pc) (I:Inv X Z σ H s) (g:o9 H a y o) (ry:RelV y u) (h:∀s',Inv X Z σ H s'->Q (.bool o.isSome) s') :
  d5 (ev X.prog X.w) A (mo .In u (.ref a)) Q E s:=by
 rcases g with⟨kvs,k,e,ey,l⟩ | ⟨kvs,k,b,e,ey,eb,l⟩
 ·subst ey;obtain⟨z,hd,vs,Ï,dd⟩:=sQ I.bI e;refine wpAny_in_of (zb ry) hd dd.mapOf ?_;rw [<- (Ï.val k).oK,<- l];exact h _ (I.tok _)
 ·subst ey;cases (show u=AD b from ry);obtain⟨z,hd,xs,Ï,dd⟩:=sP I.bI e;refine wpAny_in_heap (FM hu) (rQ I.bI eb) hd dd ?_;have q:=(Ï.val k).oK;rw [Fz] at q;rw [<- q,<- l];exact h _ (I.tok _)
def xI {t':Nat}{ob:HO} (I:Inv X Z σ H s) (mu:Mut (H a)) (hs:Cb a s.heap h') (he:∃q,h'.get? a=ap q) (new:bx X.prog X.w (upd H a ob) h' a ob) :
  Inv X Z σ (upd H a ob) {s with heap:=h',toks:=t'}:=
 I.write (x:=a) (e:=a) mu (.inl rfl) (λb q hb z=>(hs.2 b hb).trans z) he new
def Pa {kvs:List (Key×V)}{vs:List (Key×ci)} (z:kvs.length<=sizeLine) (hd:(a==wf)=false) (Ï:KV kvs vs) (dd:h'.DictOf (bN P w) a vs) :
  bx P w H' h' a (.dK kvs):=⟨z,hd,vs,Ï,dd⟩
theorem ve {Q:Unit->dL->Prop} (hu:A.units+1 < pc) (I:Inv X Z σ H s) (g:LS H a y v H') (ry:RelV y u) (rv:RelV v r) (h:∀s',Inv X Z σ H' s'->Q () s') :
  d5 (ev X.prog X.w) A (Ev (.ref a) u r) Q E s:=by
 rcases g with⟨kvs,k,e,ey,l,eH⟩ | ⟨kvs,k,b,e,ey,eb,l,eH⟩
 ·subst ey eH;obtain⟨z,hd,vs,Ï,dd⟩:=Ut I.bI e;have hz:vs.length<=sizeLine:=by rw [<- Ï.length];exact z
  have hl:(putK kvs k v).length<=sizeLine:=by have:=kT kvs k v;omega
  refine wpAny_setItem_pairs (hsz:=hz) (zb ry) dd λh' W7 hs=>h _ ?_;have he:∃q,h'.get? a=ap q:=let ⟨q,_,_,hq,_⟩:=W7;⟨q,hq⟩;exact xI I (by rw [e];exact BX) hs he (Pa hl hd (Ï.put k rv) W7)
 ·subst ey eH;cases (show u=AD b from ry);obtain⟨z,hd,xs,Ï,dd⟩:=aaK I.bI e;have hz:xs.length<=sizeLine:=by rw [<- Paired.length Ï];exact z
  have hl:(putK kvs k v).length<=sizeLine:=by have:=kT kvs k v;omega
  refine wpAny_setItem_heap (hsz:=hz) (FM hu) (rQ I.bI eb) dd λh' W7 hs=>h _ ?_;obtain⟨q,es,ep,hq,h2,h3,h4,_,h5⟩:=W7;refine xI I (by rw [e];exact BX) hs ⟨q,hq⟩ ⟨hl,hd,_,(Ï.put k eb rv).keeps λc ys ec=>?_,q,es,ep,hq,h2,h3,h4,h5⟩;rw [aB (Jc ec e (λz=>nomatch z))];exact ec
end
def Ta (i:lw):Prop:=∀ov iv,subscripted i false ov iv=operate [ov,iv] (Gf ov iv)
def Qv {Ç:lw}{id:String}
  (hl:GM (.type T) "__getitem__"=pure (ap (.builtin id))) (hs:Ta Ç)
  (h:d5 (ev prog w) A (kw value env) (λo s₁=>d5 (ev prog w) A (kw Ç env) (λi s₂=>s₂.TypeIs o T/\d5 (ev prog w) A (Gf o i) Q E s₂) E s₁) E s) :
  d5 (ev prog w) A (kw (.Subscript value Ç pos) env) Q E s:=by
 refine Subscript_ (BQ h (λo s₁ h₁=>BQ h₁ (λi s₂ h₂=>?_) λ_ _ x=>x) λ_ _ x=>x);obtain⟨hT,h₂⟩:=h₂;refine Aa ?_;refine Aa (DK hT hl ?_);have fin:d5 (ev prog w) A (subscripted Ç false o i) (λr s₃=>d5 (ev prog w) A (letTemporaryGo value o r >>= λ_=>pure r) Q E s₃) E s₂:=by
  rw [hs o i];exact wpAny_operating (BQ h₂ (λr s₃ h₃=>Aa (wpAny_letTemporaryGo (Ag h₃))) λ_ _ x=>x)
 first
  | exact Ag (Aa fin)
  | exact Aa (Ag (Aa fin))
  | exact Aa fin
def zP (I:Inv X Z σ H s) (g:o9 H a y o):s.TypeIs (.ref a) "dict":=by
 rcases g with⟨kvs,k,e,_,_⟩ | ⟨kvs,k,b,e,_,_,_⟩
 ·obtain⟨_,_,vs,_,dd⟩:=sQ I.bI e;exact dd.typeIs
 ·obtain⟨_,_,xs,_,dd⟩:=sP I.bI e;exact dd.typeIs
def YA (td ty:TE):TE:=λσ H Q=>td σ H λx H1=>ty σ H1 λy H2=>∃a v,x=.ref a/\o9 H2 a y (ap v)/\Q v H2
def acB (ty td:TE):TE:=λσ H Q=>ty σ H λy H1=>td σ H1 λx H2=>∃a o,x=.ref a/\o9 H2 a y o/\Q (.bl o.isSome) H2
def YQ (td ty tv:TE):TS:=λD σ H=>tv σ H λv H1=>td σ H1 λx H2=>ty σ H2 λy H3=>∃a H4,x=.ref a/\LS H3 a y v H4/\D.nx σ H4
section
variable {o i:lw}{td ty tv:TE}
def IU (hu:X.A.units+1 < pc) (ho:PE X o td) (hi:PE X i ty) (hs:Ta i):PE X (.Subscript o i pos) (YA td ty):=by
 intro Z s σ H Q I h;refine Qv PySem.F.slot_dict_getitem.lookup hs (bE (ho Z s σ H _ I h) λu s1 ⟨x,H1,I1,rx,q1⟩=>bE (hi Z s1 σ H1 _ I1 q1) λiv s2 ⟨y,H2,I2,ry,a,v,ex,g,q2⟩=>?_);subst ex;obtain rfl:u=AD a:=rx;exact⟨zP I2 g,vf hu I2 g ry λw' s3 I3 ib=>⟨v,H2,I3,ib,q2⟩⟩
def Vx (hu:X.A.units+1 < pc) (hi:PE X i ty) (ho:PE X o td):PC X .In i o (acB ty td):=by
 intro Z s σ H Q I h;refine bE (hi Z s σ H _ I h) λiv s1 ⟨y,H1,I1,ry,q1⟩=>bE (ho Z s1 σ H1 _ I1 q1) λu s2 ⟨x,H2,I2,rx,a,ov,ex,g,q2⟩=>?_;subst ex;obtain rfl:u=AD a:=rx;exact aep hu I2 g ry λs3 I3=>⟨.bl ov.isSome,H2,I3,rfl,q2⟩
def QX (hu:X.A.units+1 < pc) (ho:PE X o td) (hi:PE X i ty) (hv:PE X value tv) (hs:nn value (ap (.Subscript o i Õ)) pos.line X.env=pure false) :
  PS X (.Assign [.Subscript o i Õ] value pos) (YQ td ty tv):=by
 intro Z s σ H D I h;refine wpAny_Assign_Subscript (bE (hv Z s σ H _ I h) λr s1 ⟨v,H1,I1,rv,q1⟩=>bE (ho Z s1 σ H1 _ I1 q1) λu s2 ⟨x,H2,I2,rx,q2⟩=>bE (hi Z s2 σ H2 _ I2 q2) λiv s3 ⟨y,H3,I3,ry,a,H4,ex,g,q3⟩=>?_) hs;subst ex;obtain rfl:u=AD a:=rx;exact ve hu I3 g ry rv λs4 I4=>⟨σ,H4,I4,q3⟩
end
def zO (h:r9) (hb:wf < h.objs.size):bx P w H (h.push {cls:=.type "dict",data:=.dict #[]}) h.objs.size (.dK []):=
 ⟨A7 _,beq_eq_false_iff_ne.mpr (BF (AJ hb)),[],.nil,Heap.DictOf.new h⟩
def UT:TE:=λ_ H Q=>∀p,H p=bv->Q (.ref p) (upd H p (.dK []))
section
def Ni:PE X (.Dict [] [] pos) UT:=λZ s σ H Q I h=>
 wpAny_Dict_empty ⟨.ref s.heap.objs.size,_,I.laid (a:=s.heap.objs.size) (o:=.dK []) (t':=s.toks) (λ_ _ q=>Ah _ q) (An _) (zO s.heap I.big),rfl,h _ (I.bI.fresh (An _))⟩
end
def vK:List (TE×TE)->St->Hp->(List (V×V)->Hp->Prop)->Prop
 | [],_,H,Q=>Q [] H
 | (tk,tv)::r,σ,H,Q=>tk σ H λx H1=>tv σ H1 λy H2=>vK r σ H2 λps H3=>Q ((x,y)::ps) H3
abbrev VV:List (V×V)->List (ci×ci)->Prop:=Paired λp q=>RelV p.1 q.1/\RelV p.2 q.2
def PPs (X:Cx) (pos:Pos) (É:List (Option lw)) (È:List lw) (Tp:List (TE×TE)):Prop:=
 ∀(Z:List (db×Obj)) (s:dL) (σ:St) (H:Hp) (Q:List (V×V)->Hp->Prop),Inv X Z σ H s->vK Tp σ H Q->
  d5 (ev X.prog X.w) X.A (evalPairs (pairTrees É È X.env pos)) (λvs s'=>∃ps H',Inv X Z σ H' s'/\VV ps vs/\Q ps H') X.xe s
def QY:PPs X pos [] [] []:=λZ s σ H Q I h=>pairTrees_nil_walk ⟨[],H,I,.nil,h⟩
def m6 {k v:lw}{ks:List (Option lw)}{vs:List lw}{tk tv:TE} (hk:PE X k tk) (hv:PE X v tv) (hr:PPs X pos ks vs Tp) :
  PPs X pos (ap k::ks) (v::vs) ((tk,tv)::Tp):=λZ s σ H Q I h=>
 pairTrees_cons_walk (bE (hk Z s σ H _ I h) λu s1 ⟨x,H1,I1,rx,q1⟩=>bE (hv Z s1 σ H1 _ I1 q1) λw2 s2 ⟨y,H2,I2,ry,q2⟩=>
  bE (hr Z s2 σ H2 _ I2 q2) λws s3 ⟨ps,H3,I3,Ï,q3⟩=>⟨(x,y)::ps,H3,I3,.cons ⟨rx,ry⟩ Ï,q3⟩)
def mergeK (kvs more:List (Key×V)):List (Key×V):=more.foldl (λÄ kv=>putK Ä kv.1 kv.2) kvs
def KV.merge:∀{more:List (Key×V)}{rs:List (Key×ci)}{kvs:List (Key×V)}{vs:List (Key×ci)},KV more rs->KV kvs vs->KV (mergeK kvs more) (merged vs rs):=by
 intro more rs kvs vs r
 induction r generalizing kvs vs with
 | nil=>intro q;exact q
 | @cons p q ps qs h t ih=>
  intro r0;have e:KV (putK kvs p.1 p.2) (stored vs q.1 q.2):=by
   have:=r0.put p.1 h.2;rw [<- h.1];exact this
  exact ih e
theorem md:∀(more kvs:List (Key×V)),(mergeK kvs more).length<=kvs.length+more.length
 | [],kvs=>by show kvs.length<=kvs.length+0;omega
 | p::r,kvs=>by
  have h1:=md r (putK kvs p.1 p.2);have h2:=kT kvs p.1 p.2;show (mergeK (putK kvs p.1 p.2) r).length<=_;rw [Ao];omega
theorem sT {P:ul}{w:wv}:∀{kvs:List (Key×V)}{ws:List (ci×ci)},VV (kvs.map λkv=>(kV kv.1,kv.2)) ws->∃rs,Carries (bN P w) ws rs/\KV kvs rs
 | [],_,r=>by rw [Df] at r;cases r;exact⟨[],BX,.nil⟩
 | p::kvs,_,r=>by
  rw [Au] at r;cases r with
  | @cons a b as bs h t=>
   obtain⟨rs,c,q⟩:=sT (P:=P) (w:=w) t;obtain⟨b1,b2⟩:=b;exact⟨(p.1,b2)::rs,⟨zb h.1,rfl,c⟩,.cons ⟨rfl,h.2⟩ q⟩
def Yz (Tp:List (TE×TE)):TE:=λσ H Q=>∀p,H p=bv->vK Tp σ (upd H p (.dK [])) λps H2=>H2 p=ap (.dK [])/\∃kvs:List (Key×V),ps=kvs.map (λkv=>(kV kv.1,kv.2))/\kvs.length<=15/\Q (.ref p) (upd H2 p (.dK (mergeK [] kvs)))
theorem Q7 (h:PPs X pos É È Tp) (Oi:É.all (·.isSome)=true) (hl:É.length=È.length) (h0:É≠[])
  (İ:É.length<=15):PE X (.Dict É È pos) (Yz Tp):=by
 intro Z s σ H Q I q;have hn:=I.bI.fresh (An s.heap.objs.size);have I1:=I.laid (a:=s.heap.objs.size) (o:=.dK []) (h':=s.heap.push {cls:=.type "dict",data:=.dict #[]}) (t':=s.toks) (λ_ _ q=>Ah _ q) (An _) (zO s.heap I.big);refine wpAny_Dict_walk (knd:=bN X.prog X.w) Oi hl h0 İ (bE (h Z _ σ _ _ I1 (q _ hn)) λws s2 ⟨ps,H2,I2,Ï,e,kvs,ep,lk,q2⟩=>?_);subst ep;obtain⟨rs,c,rk⟩:=sT (P:=X.prog) (w:=X.w) Ï;obtain⟨z,hd,vs0,r0,dd⟩:=Ut I2.bI e;cases r0;refine⟨rs,c,dd,λh' W7 hs=>⟨.ref s.heap.objs.size,_,?_,rfl,q2⟩⟩;have hz:(mergeK [] kvs).length<=sizeLine:=by
  have h1:=md kvs [];rw [A2] at h1;rw [Ge];omega
 have he:∃q,h'.get? s.heap.objs.size=ap q:=let ⟨q,_,_,hq,_⟩:=W7;⟨q,hq⟩;exact xI I2 (by rw [e];exact BX) hs he (Pa hz hd (rk.merge .nil) W7)
structure M2 (X:Cx) (o:lw) (m:Str) (Â:Pos) (e f:lw) (bK:Pos):Prop where
 base:sw o m X.env (kw o X.env)=kw o X.env
 few:((lm bK (ce [e,f] X.env)).all (λx=>!x.1)&&(GE bK (Db [] X.env)).all (λx=>x.1.isSome)
  && decide (([e,f]:List lw).length+([]:List ww).length+(if ([]:List ww).isEmpty then 0 else 1) < 30))=true
 line:(Â.endLine==bK.line)=true
 trees:lm bK (ce [e,f] X.env)=[(false,kw e X.env),(false,kw f X.env)]
def IsD (H:Hp) (a:db):Prop:=(∃kvs,Rd H a (.dK kvs))\/∃kvs,Rd H a (.dT kvs)
end L2
variable {Ô:List Ce}{XP:(Ce->Option A8)->Fx->Prop}{YP:PySem.World->Fx->Prop}{d:PySem.DefRec}
namespace Att
open PySem PySem.W PySem.Calls PyProof.Rows
def pO {P:Params}:∀(ns:List Int) (vs:List ci),WellAll P h vs (ns.map WData.int)->xz vs ns:=by
 intro ns
 induction ns with
 | nil=>
  intro vs w;cases w;exact .nil
 | cons n ns ih=>
  intro vs w;cases w with
  | cons a b=>
   cases a;exact .cons _ _ (ih _ b)
theorem Ke {l:OpenLaw} (hn:l.most=ap n) {P:Params}{args:List WData}{ß:List ci}
  (R5:l.row.toRowW.claim.pre args=true) (Ę:WellAll P h ß args) :
  ∃a vs ns,ß=[AD a]/\args=[WData.list (ns.map WData.int)]/\h.get? a=ap {cls:=.type "list",data:=.seq vs.toArray}/\xz vs ns/\ns.length<=n:=by
 have hsh:=(pre_splitW R5).1;have hc:l.pre.holds [] {args:=args}=true:=(pre_splitW R5).2;obtain⟨d,r,rfl,h1,h2⟩:=hasAllW_cons hsh;obtain rfl:=hasAllW_nil h2;obtain⟨xs,rfl,h3⟩:=hasW_list h1;obtain⟨ns,rfl⟩:=items_int h3;have Á:ns.length<=n:=by
  unfold OpenLaw.pre at hc;have h4:(WTm.not (.lt (.lit (.int (n:Int))) (.len (.arg 0)))).holds [] {args:=[.list (ns.map .int)]}=true:=by
   have h4:=(holds_andW hc).1;rw [hn] at h4;exact h4
  have h5:=condW_of h4 (w_not (w_lt w_lit (w_len_list (w_arg rfl))));refine Nat.le_of_not_lt λq=>?_
  first
   | (rw [decide_eq_true q'] at h5;exact absurd h5 ⋯)
   | (simp at h5;omega)
 cases Ę with
 | cons w1 w2=>
  cases w2;cases w1 with
  | list ho Oi=>exact⟨_,_,ns,rfl,rfl,ho,pO ns _ Oi,Á⟩
def Kk (l:OpenLaw) (args:List WData):l.row.toRowW.claim.post args (.bool true) args=true:=
 postW_of (r:=l.row.toRowW) (X:=(true==true))
  (show WShape.has [] (.bool true) .bool=true by first | rfl | decide | simp [WShape.has,WShape.arms,WShape.armsAll])
  (show (WTm.eq .res (.lit (.bool true))).value [] {args:=args,res:=ap (.bool true),after:=args}=ap (.bool (true==true)) from w_eq_bool (w_res rfl) w_lit) rfl
def zT {l:OpenLaw}{q:ul}
  (hn:l.most=ap n) (é:d.params.defaults=[])
  (call:∀(w:wv) (s₀ s₁:dL) (mg mb:Str->Option ci) (fa:db) (o:Obj) (pm cd Ê:ci) (a:db) (vs:List ci) (ns:List Int),
   Ground q Ô [] XP w s₀ mg mb s₁.heap->YP w s₁.heap->
   s₁.heap.get? fa=ap o->o.data=.func (docDef d.name d.params d.body d.scope pm cd Ê)->s₁.heap.CodeRec cd d.name->mg d.name=ap (.ref fa)->
   s₁.heap.get? a=ap {cls:=.type "list",data:=.seq vs.toArray}->xz vs ns->ns.length<=n->s₁.gens=#[]->
   Ix (ev l.prog w) callerA (.call (.ref fa) ⟨[.ref a],[]⟩) (λr s'=>r=.ok (.ret (.bool true))/\OldK s₁.heap s'.heap/\s'.os=s₁.os/\IR s'.gens) s₁) :
  WalkO q Ô XP YP l.row.toRowW d [] (λf vs=>FR f vs):=by
 intro w s₀ s₁ mg mb G Y fa o pm cd Ê dV kV ho hd hJ hD hmg hg args ß as R5 ahC hrd Ę hlo;obtain rfl:dV=.none:=Dflts.none hD é;obtain rfl:kV=.none:=Dflts.noKw hD;obtain⟨a,vs,ns,rfl,rfl,Wx,Ø,Á⟩:=Ke hn R5 Ę;refine enter_call (codeAny_mono (call w s₀ s₁ mg mb fa o pm cd Ê a vs ns G Y ho (fd_plain hd) hJ hmg Wx Ø Á hg) λr s' hq=>?_);obtain⟨rfl,h2,h3,h4⟩:=hq;exact⟨.inl ⟨.bool true,.bool true,[],rfl,λ_=>rfl,.bool true,Kk l _,λ_=>⟨List.Pairwise.nil,λ_ hm=>(nomatch hm)⟩⟩,h2,h3,h4⟩
end Att
variable {k:Nat}{sp:L2.Sp}
namespace L2
open PySem PySem.Spec PyProof.Rows
theorem oh:∀{vs:List ci}{ns:List Int},xz vs ns->Vals (ns.map V.int) vs
 | _,_,.nil=>.nil
 | _,_,.cons n t h=>.cons ⟨t,rfl⟩ (oh h)
def S9 (H:Hp):Prop:=∀b,H b=bv\/∃o xs,H b=ap (.cO o (.lst xs))
def NN {K:Ab}{mb:Str->Option ci}{CX:L8}{fa:db}{s₁:dL}{vs:List ci}
  (KX:K.In s₁.heap) (Ā:s₁.heap.Ns f8 mg) (hb:s₁.heap.Ns builtinsNs mb) (hbb:∀x:Str,x≠"__name__"->mb x=pr x) (adI:s₁.heap.NoLimit) (hg:s₁.gens=#[])
  (ha:s₁.heap.get? a=ap {cls:=.type "list",data:=.seq vs.toArray}) (hi:xz vs ns) (hl:ns.length<=sizeLine) (hr:c7 k callerA)
  (F:∀base:r9,K.In base->base.Ns f8 mg->fu P w K mg base CX k fa fd [x] sp) (aag:∀(s:dL) (u:ci),BindsTo s fd ⟨[u],[]⟩ [(x,u)])
  (R4:∀H:Hp,S9 H->c6 K H a (ns.map V.int)->sp [.ref a] H (λv _=>v=.bl true) λ_ _ _=>False)
  (Į:∀H e s',CX [] H s₁ (λ_ _ _=>False) e s'->False) :
  Ix (ev P w) callerA (.call (.ref fa) ⟨[.ref a],[]⟩) (λr s'=>r=.ok (.ret (.bool true))/\OldK s₁.heap s'.heap/\s'.os=s₁.os/\IR s'.gens) s₁:=by
 have rv:=oh hi;have ac5:=hi.length;have Ú:∀H:Hp,S9 H->c6 K H a (ns.map V.int)->lV P w H s₁.heap->(∀b,H b≠bv->b=a)->(H a≠bv->K.lookup a=bv)->
   Ix (ev P w) callerA (.call (.ref fa) ⟨[.ref a],[]⟩) (λr s'=>r=.ok (.ret (.bool true))/\OldK s₁.heap s'.heap/\s'.os=s₁.os/\IR s'.gens) s₁:=by
  intro H hO hS bI hA hK;have JP:∀{b:db}{o:Obj},s₁.heap.get? b=ap o->H b=bv->(wY s₁.heap H).get? b=ap o:=λe n=>Od e n;have Zu:∀{b:db}{o:Obj}{es:Array DictEntry}{ep:Nat},s₁.heap.get? b=ap o->o.data=.dict es ep->H b=bv:=λ{b o es ep} e d=>by
   cases q:H b with
   | none=>rfl
   | some u=>
    have e':b=a:=hA b (by rw [q];simp);subst e';rw [ha] at e;cases e;have d':Fd vs.toArray _=Data.dict es ep:=d;cases d'
  have õ:∀{b:db}{m:Str->Option ci},s₁.heap.Ns b m->(wY s₁.heap H).Ns b m:=λ{b m} ⟨o,es,ep,e,d,r⟩=>⟨o,es,ep,JP e (Zu e d),d,r⟩;have hKb:K.In (wY s₁.heap H):=λb o e=>JP (KX b o e) (by
   cases q:H b with
   | none=>rfl
   | some u=>
    have e':b=a:=hA b (by rw [q];simp);subst e';rw [hK (by rw [q];simp)] at e;cases e)
  have hM:Mod K mg (wY s₁.heap H):=⟨hKb,õ Ā,⟨mb,õ hb,hbb⟩,let ⟨mc,h1,h2⟩:=adI;⟨mc,õ h1,h2⟩⟩;have e0:Td P w K mg (wY s₁.heap H) callerA [] s₁ H:=⟨rfl,hM,λb o e=>Rm e,Nat.le_of_eq (KO _ _),trivial,λb hb=>absurd (show b∈([]:List db) from hb) (by simp),bI,.of_eq hg⟩;refine codeAny_mono ((F _ hKb (õ Ā)).run callerA [] s₁ H ⟨[.ref a],[]⟩ [.ref a] [.ref a] _ _ hr e0 (aag s₁ (.ref a)) (.cons rfl .nil) (R4 H hO hS)) λr s' h=>?_;cases r with
  | error e=>exact (Į H e s' h).elim
  | ok fl=>
   cases fl with
   | next=>exact Bo h
   | brk=>exact Bo h
   | cont=>exact Bo h
   | ret u=>
    obtain⟨v,H',os,bare,un,adE,r',q⟩:=h;have q':v=.bl true:=q;subst q';obtain rfl:u=B7 true:=r';refine⟨rfl,OldK.of_keep λb o e=>?_,os,bare⟩;cases q:H b with
    | none=>exact un.keep b o e q (by intro z;exact absurd (show b∈([]:List db) from z) (by simp)) (by simp)
    | some u=>
     rcases hO b with z | ⟨ob,xs,z⟩
     ·rw [q] at z;cases z
     ·have z2:=un.pT b ob _ z;obtain⟨e1,_⟩:=bI b _ z;obtain⟨e2,_⟩:=adE b _ z2;rw [e] at e1;cases e1;exact e2
 cases hk:K.lookup a with
 | some o=>
  have e:=KX a o hk;rw [ha] at e;cases e;refine Ú (λ_=>bv) (λ_=>.inl rfl) (.inr ⟨_,vs.toArray,_,hk,rfl,rfl,rfl,by rw [Aj,ac5];exact hl,by simpa using rv⟩) (λb u z=>by have z':(bv:Option HO)=ap u:=z;cases z') (λb z=>absurd rfl z) λz=>absurd rfl z
 | none=>
  refine Ú (λb=>if b=a then ap (.cO {cls:=.type "list",data:=.seq vs.toArray} (.lst (ns.map V.int))) else bv) (λb=>?_) (.inl (.inr ⟨{cls:=.type "list",data:=.seq vs.toArray},if_pos rfl⟩)) (λb u z=>?_) (λb z=>?_) λ_=>hk
  ·by_cases hb:b=a
   ·exact .inr ⟨_,_,if_pos hb⟩
   ·exact .inl (if_neg hb)
  ·by_cases hb:b=a
   ·have z':=(if_pos hb).symm.trans z;cases z';subst hb;exact⟨ha,by rw [Af];exact hl,vs,_,rv,ha⟩
   ·have z':=(if_neg hb).symm.trans z;cases z'
  ·by_cases hb:b=a
   ·exact hb
   ·exact absurd (if_neg hb) z
def Qi {l:EY}{q:ul}{K:Params->Ab}{CX:wv->L8}{sp:wv->Sp}
  (hn:l.most=ap n) (hn2:n<=sizeLine) (é:d.params.defaults=[]) (hr:c7 k callerA)
  (hY:∀(w:wv) (h:r9),YP w h->(K w.params).In h)
  (F:∀(w:wv) (mg:Str->Option ci) (fa:db) (h:r9),(K w.params).In h->h.Ns f8 mg->mg d.name=ap (.ref fa)->
   ∃fd:FS,(∀(s:dL) (u:ci),BindsTo s fd ⟨[u],[]⟩ [(x,u)])/\
    ∀base:r9,(K w.params).In base->base.Ns f8 mg->fu l.prog w (K w.params) mg base (CX w) k fa fd [x] (sp w))
  (R4:∀(w:wv) (H:Hp) (a:db) (ns:List Int),ns.length<=n->S9 H->c6 (K w.params) H a (ns.map V.int)->sp w [.ref a] H (λv _=>v=.bl true) λ_ _ _=>False)
  (Į:∀(w:wv) (H:Hp) (s:dL) (e:ci) (s':dL),CX w [] H s (λ_ _ _=>False) e s'->False) :
  PySem.W.WalkO q Ô XP YP l.row.toRowW d [] (λf vs=>FR f vs):=by
 refine Att.zT hn é λw s₀ s₁ mg mb fa o pm cd Ê a vs ns G Y ho hd hJ hmg Wx Ø Á hg=>?_;have KX:=hY w _ Y;obtain⟨fd,hb,hF⟩:=F w mg fa _ KX G.T.g hmg;exact NN KX G.T.g G.T.b G.T.builtins G.T.nolimit hg Wx Ø (Bt Á hn2) hr hF hb (λH hO hS=>R4 w H a ns Á hO hS) λH e s'=>Į w H s₁ e s'
end L2
variable {B:Prop}
namespace L2
open PySem PySem.Spec PyProof.Rows
def gG (s:u8):Arguments:=match s with
 | .FunctionDef _ a _ _ _ _ _ _ _ _=>a
 | _=>{posonlyargs:=[],args:=[],vararg:=bv,kwonlyargs:=[],kw_defaults:=[],kwarg:=bv,defaults:=[]}
def bu (s:u8):List u8:=match s with
 | .FunctionDef _ _ b _ _ _ _ _ _ _=>b
 | _=>[]
def ag (s:u8):o0:=match s with
 | .FunctionDef _ _ _ _ _ _ sc _ _ _=>sc
 | _=>{kind:=.function,names:=[],isGenerator:=false,isCoroutine:=false}
abbrev km:L8:=λ_ _ _ _ _ _=>False
abbrev E0:XK:=λ_ _ _=>False
def TQ:Passes km X E0:=λ_ _ _ _ _ _ _ h=>h.elim
structure P9 (K:Ab) (x qual:Str) (st:u8) (f:db) (fd:FS):Prop where
 ex:∃(oc:ci) (od:Option db) (kV Ê pm:ci) (an:Option db) (cS ct:ci) (P0:Array (Option ci)),
  fd=B4 x qual (gG st) (bu st) (ag st) .none kV Ê pm an cS ct/\K.lookup f=ap ⟨oc,od,.func fd,P0⟩/\D3 K cS qual=true
 kp:CI K (.ref f)=true
section
variable {K:Ab}
def P9.ok {st:u8}{f:db}{N:List Str} (F:P9 K x qual st f fd) (S:aq N ps (ag st)) (len:∀vs H Q E,sp vs H Q E->vs.length=ps.length)
  (Oh:∀(cS:ci) (A:tt) (outer:List Env) (s:dL) (H:Hp) (vs:List V) (Q:VK) (E:XK),c7 k (A.deeper (ut qual (ag st) s.heap.objs.size f cS))->sp vs H Q E->
   ∃t,qI (ju km P w K mg base N qual (ag st) f cS A outer s H E).yh (bu st) t/\t {nx:=λ_ H'=>Q .aX H',rt:=Q} (start N vs) H):fu P w K mg base km (k+1) f fd ps sp:=by
 obtain⟨oc,od,kV,Ê,pm,an,cS,ct,P0,rfl,lk,hJ⟩:=F.ex;refine aar lk hJ S len λA outer s H vs Q E hr R4=>?_;obtain⟨t,h,q⟩:=Oh cS A outer s H vs Q E hr R4;exact⟨t,h.yh,q⟩
def P9.binds {st:u8}{f:db} (F:P9 K x qual st f fd)
  (h:∀(kV Ê pm:ci) (an:Option db) (cS ct:ci) (us:List ci),us.length=ps.length->bindArgs (B4 x qual (gG st) (bu st) (ag st) .none kV Ê pm an cS ct) ⟨us,[]⟩=pure (ps.zip us)):Binds K fd ps []:=by
 obtain⟨oc,od,kV,Ê,pm,an,cS,ct,P0,rfl,lk,hJ⟩:=F.ex;exact .all (h kV Ê pm an cS ct)
def WJ {st:u8}{f:db}{kV:ci} (l:K.lookup f=ap ⟨oc,od,.func (B4 x qual (gG st) (bu st) (ag st) .none kV Ê pm an cS ct),P0⟩)
  (c:D3 K cS qual=true) (k:CI K (.ref f)=true):P9 K x qual st f (B4 x qual (gG st) (bu st) (ag st) .none kV Ê pm an cS ct):=⟨⟨oc,od,kV,Ê,pm,an,cS,ct,P0,rfl,l,c⟩,k⟩
end
def uG (h:n<=1000):n < sizeLine:=Nat.lt_of_le_of_lt h ⋯
def ub {A:Prop} (h:B):if false=true then A else B:=by
 exact h
def t6 {A:Prop} (h:A):if true=true then A else B:=by
 exact h
def jx (H H':Hp):Prop:=∀b o,H b=ap o->H' b=ap o
def jx.refl (H:Hp):jx H H:=λ_ _ h=>h
end L2
variable {a b:Nat}{H2:L2.Hp}{R:PySem.Result->DW->Prop}{Xs:PySem.Scope}{N':List Ce}{ix:List (Option Nat)}{Å:BD}{Ì:List BD}{mX:Cv}
namespace L2
open PySem PySem.Spec PyProof.Rows
def lsz {o:Obj} (e:h.get? b=ap o):b < h.objs.size:=Ar e
def neN (h:a≠b):a≠b:=h
def ltN (h:a < b):a < b:=h
def Uv {c:Nat}{v:Option ci} (q:h.IsCell c v):c < h.objs.size:=q.lt
structure aA (Xs:o0) (N:List Str) (sc:o0) (N':List Str) (ix:List (Option Nat)):Prop where
 kind:sc.kind=.function
 nc:∀y∈sc.names,y.2≠.cell
 loc:∀y∈sc.names,y.2=.local->sc.names.lookup y.1=ap .local
 fr:∀y∈sc.names,y.2=.free->(Xs.names.lookup y.1=ap .cell\/Xs.names.lookup y.1=ap .free)
 nd:N'.Nodup
 len:ix.length=N'.length
 map:((ix.zip N').all λp=>match p.1 with | none=>true | some j=>decide (N[j]?=ap p.2)&&decide (sc.names.lookup p.2=ap .free))=true
def aA.at {N:List Str} (S:aA Xs N sc N' ix) {i:Nat} (h1:ix[i]?=ap (ap j)) (h2:N'[i]?=ap x) :
  N[j]?=ap x/\sc.names.lookup x=ap .free:=by
 have hm:((ap j,x):Option Nat×Str)∈ix.zip N':=by
  refine Ba (i:=i) ?_;rw [List.getElem?_zip_eq_some];exact⟨h1,h2⟩
 have q:=Cz.mp S.map _ hm;simp only [AO,decide_eq_true_eq] at q;exact q
def nY (ix:List (Option Nat)) (σ:St):St:=ix.map λo=>match o with | some j=>(σ[j]?).getD bv | none=>bv
def gk (X:Cx) (sc:o0) (N':List Str) (cl:List (Str×db)) (C:db) (s2:dL) (H2:Hp) (fp:List db):Cx where
 prog:=X.prog
 w:=X.w
 K:=X.K
 mg:=X.mg
 base:=X.base
 A:=X.A
 N:=N'
 s₀:=s2
 H₀:=H2
 env:=compEnvC sc cl C X.env
 outer:=X.stack
 stack:=X.stack
 ex:=fp
 calm:=X.calm
 fn:=λ_=>false
 pn:=[]
 xe:=λ_ _=>False
theorem mJ:∀(names:List (Str×Fa)) (cs:List (Str×db)),(∀y∈names,y.2=.free->∃c,env.cells.lookup y.1=ap c)->
  ∃cl,(forIn names cs λ(x:Str×Fa) (c:List (Str×db))=>(match x with | (name,kind)=>do
    let c <- if (kind==Bj)=true then do let a <- cellOf env name;pure ((name,a)::c) else pure c
    pure (Ck c):Sem (ForInStep (List (Str×db)))))=pure cl/\(∀x c,cl.lookup x=ap c->cs.lookup x=ap c\/(env.cells.lookup x=ap c/\(x,Bj)∈names))/\(∀x,((x,Bj)∈names\/(∃c,cs.lookup x=ap c))->∃c,cl.lookup x=ap c)
 | [],cs,_=>⟨cs,rfl,λ_ _ h=>.inl h,λx h=>h.elim (λz=>nomatch z) λz=>z⟩
 | (n,k)::r,cs,h=>by
  by_cases hk:k=.free
  ·subst hk;obtain⟨c,hc⟩:=h (n,.free) BA rfl;obtain⟨cl,e,h1,h2⟩:=mJ r ((n,c)::cs) λy hy=>h y (AV _ hy);refine⟨cl,?_,λx d hd=>?_,λx hx=>?_⟩
   ·rw [B8,<- e];simp only [beq_self_eq_true,if_true,cellOf,hc,pure_bind]
   ·rcases h1 x d hd with z | ⟨z1,z2⟩
    ·rw [Bn] at z;by_cases hx:(x==n)=true
     ·rw [hx] at z;have tE:x=n:=eq_of_beq hx;subst tE;cases z;exact .inr ⟨hc,BA⟩
     ·have tE:(x==n)=false:=by simpa using hx
      rw [tE] at z;exact .inl z
    ·exact .inr ⟨z1,AV _ z2⟩
   ·refine h2 x ?_;rcases hx with hx | ⟨d,hd⟩
    ·rcases AA.mp hx with z | z
     ·injection z with z1 _;subst z1;exact .inr ⟨c,by rw [Bn];simp⟩
     ·exact .inl z
    ·by_cases hx:(x==n)=true
     ·exact .inr ⟨c,by rw [Bn,hx]⟩
     ·have tE:(x==n)=false:=by simpa using hx
      exact .inr ⟨d,by rw [Bn,tE];exact hd⟩
  ·obtain⟨cl,e,h1,h2⟩:=mJ r cs λy hy=>h y (AV _ hy);refine⟨cl,?_,λx d hd=>?_,λx hx=>?_⟩
   ·have hb:(k==Bj)=false:=by simpa using hk
    rw [B8,<- e];simp only [hb,Al,if_false,pure_bind]
   ·rcases h1 x d hd with z | ⟨z1,z2⟩
    ·exact .inl z
    ·exact .inr ⟨z1,AV _ z2⟩
   ·refine h2 x ?_;rcases hx with hx | hx
    ·rcases AA.mp hx with z | z
     ·injection z with _ z2;exact absurd z2.symm hk
     ·exact .inl z
    ·exact .inr hx
def mn (h:∀y∈sc.names,y.2=.free->∃c,env.cells.lookup y.1=ap c) :
  ∃cl,closureFor sc env=pure cl/\(∀x c,cl.lookup x=ap c->env.cells.lookup x=ap c/\(x,Bj)∈sc.names)/\(∀x,(x,Bj)∈sc.names->∃c,cl.lookup x=ap c):=by
 obtain⟨cl,e,h1,h2⟩:=mJ (env:=env) sc.names [] h;refine⟨cl,?_,λx c hc=>(h1 x c hc).resolve_left (λz=>nomatch z),λx hx=>h2 x (.inl hx)⟩;unfold closureFor;have e':(forIn sc.names ([]:List (Str×db)) λx r=>(match x with | (name,kind)=>if (kind==Bj)=true then do let a <- cellOf env name;pure (Ck ((name,a)::r)) else pure (Ck r):Sem (ForInStep (List (Str×db)))))=pure cl:=by
  rw [<- e]
  first
   | rfl
   | (
     congr 1;funext x r;obtain⟨n,k⟩:=x;by_cases hk:(k==Bj)=true
     ·simp only [hk,if_true,pure_bind]
     ·simp only [hk,if_false,pure_bind,Al])
   | simp only [pure_bind]
 simpa using e'
theorem g8 {env:Env}:∀{names:List (Str×Fa)}{x:Str},
  (names.map λ(n,k)=>if (k==Bj&&env.scope.kind==.function&&env.kindOf n==ap .cell) then (n,Fq) else (n,k)).lookup x =
   (names.lookup x).map λk=>if (k==Bj&&env.scope.kind==.function&&env.kindOf x==ap .cell) then Fq else k
 | [],_=>rfl
 | (n,k)::r,x=>by
  have ih:=@g8 env r x;show List.lookup x ((if (k==Bj&&env.scope.kind==.function&&env.kindOf n==ap .cell)=true then (n,Fq) else (n,k))::_)=_;cases hx:x==n with
  | true=>
   have e:=eq_of_beq hx;subst e;by_cases hc:(k==Bj&&env.scope.kind==.function&&env.kindOf x==ap .cell)=true
   ·rw [if_pos hc,Bn,Bn,hx];simp only [CC,hc,if_true]
   ·rw [if_neg hc,Bn,Bn,hx];simp only [CC,hc,if_false];simp
  | false=>
   by_cases hc:(k==Bj&&env.scope.kind==.function&&env.kindOf n==ap .cell)=true
   ·rw [if_pos hc,Bn,Bn,hx];exact ih
   ·rw [if_neg hc,Bn,Bn,hx];exact ih
def X8 (X:Cx) (Ì:List lw) (t:TT):Prop:=
 ∀(Z:List (db×Obj)) (s:dL) (σ:St) (H:Hp) (Q:Bool->Hp->Prop),Inv X Z σ H s->t σ H Q->
  d5 (ev X.prog X.w) X.A (forIn Ì true λc r=>if r=true then do let ok <- isTrue c X.env (kw c X.env);pure (Ck ok) else pure (Ck r)) (TP X Z σ Q) X.xe s
def acF:TT:=λ_ H Q=>Q true H
def Q5:X8 X [] acF:=λZ s σ H Q I h=>by
 exact Ag ⟨H,I,h⟩
def Q4 {c:lw}{t:TT} (hc:PT X c t):X8 X [c] t:=λZ s σ H Q I h=>by
 rw [B8];simp only [if_true,bind_assoc,pure_bind];refine Aa (bE (hc Z s σ H Q I h) λb s1 q=>?_);exact Ag q
def tLc (ix:List (Option Nat)) (wi:TI) (g:TG) (tf:TT) (te:TE):TE:=λσ H Q=>wi σ H λJ H1=>∀D,H1 D=bv->∃W:Nat->Nat->St->List V->Hp->Prop,
 (∃m,W 0 m (nY ix σ) [] (upd H1 D (.lst [])))/\∀i m σ' ys H,W i m σ' ys H->H D=ap (.lst ys)/\
  ((J.stop i H/\Q (.ref D) H)\/(J.go i H/\∀x H',J.Ti i H x H'->g x σ' H' λσ2 H2=>tf σ2 H2 λb H3=>
   if b=true then te σ2 H3 λy H4=>H4 D=ap (.lst ys)/\ys.length+1<=sizeLine/\∃m',m' < m/\W (i+1) m' σ2 (ys++[y]) (upd H4 D (.lst (ys++[y]))) else ∃m',m' < m/\W (i+1) m' σ2 ys H3))
def lZ {Ë:lw}{it Ä:ci} (I:Nat->dL->Prop)
  (turn:∀n s,I n s->d5 (ev prog w) A (pyNext it) (λr s₁=>match r with
   | none=>R (.ok .next) s₁
   | some v=>d5 (ev prog w) A (KB Ë it v) (λ_ Tw=>d5 (ev prog w) A (Da Ë env v) (λ_ s₂=>
     d5 (ev prog w) A (forIn Ì true λc r=>if r=true then do let ok <- isTrue c env (kw c env);pure (Ck ok) else pure (Ck r)) (λok s₃=>
      if ok=true then d5 (ev prog w) A (kw Å env) (λx s₄=>
       d5 (ev prog w) A (call (.builtin "list.append") [Ä,x]) (λ_ s₅=>∃m,m < n/\I m s₅) (λ_ _=>False) s₄) (λ_ _=>False) s₃
      else ∃m,m < n/\I m s₃) (λ_ _=>False) s₂) (λ_ _=>False) Tw) (λ_ _=>False) s₁) (λ_ _=>False) s)
  (n:Nat) (h:I n s) :
  Ix (ev prog w) A (.compLoop (.ListComp Å [⟨Ë,iter,Ì,0⟩] scope pos) 0 it Ä env) R s:=by
 refine codeAny_loop rfl I (λn s hI=>?_) n h;refine wpAny_noted ?_;rw [compTurn_list];refine Aa (Ds (Aa (BQ (turn n s hI) (λr s₁ h₁=>?_) λ_ _ h'=>h'.elim)));cases r with
 | none=>exact Ag h₁
 | some v=>
  refine Aa (BQ h₁ (λ_ Tw ZT=>?_) λ_ _ h'=>h'.elim);refine Aa (BQ ZT (λ_ s₂ h₂=>Aa (BQ h₂ (λok s₃ h₃=>?_) λ_ _ h'=>h'.elim)) λ_ _ h'=>h'.elim);cases ok with
  | false=>exact Ag ⟨rfl,h₃⟩
  | true=>
   have ZS:d5 (ev prog w) A (kw Å env) (λx s₄=>
       d5 (ev prog w) A (call (.builtin "list.append") [Ä,x]) (λ_ s₅=>∃m,m < n/\I m s₅) (λ_ _=>False) s₄) (λ_ _=>False) s₃:=h₃
   exact Aa (Aa (BQ ZS (λx s₄ h₄=>Aa (BQ h₄ (λ_ s₅ h₅=>Ag (Ag ⟨rfl,h₅⟩)) λ_ _ h'=>h'.elim)) λ_ _ h'=>h'.elim))
section
variable {g:TG}{tf:TT}
structure aa2 (X:Cx) (Z:List (db×Obj)) (H:Hp) (C:db):Prop where
 hn:H C=bv
 hL:C≠X.env.locals
 ab:X.s₀.heap.objs.size<=C
 cl:∀x c,X.env.cells.lookup x=ap c->c≠C
 pn:∀p∈X.pn++Z,p.1≠C
theorem Jh (hc:X.calm=true) (S:aA X.env.scope X.N sc N' ix)
  (hg:∀cl C s2 H2 fp,PG (gk X sc N' cl C s2 H2 fp) tg g) (hf:∀cl C s2 H2 fp,X8 (gk X sc N' cl C s2 H2 fp) Ì tf) (he:∀cl C s2 H2 fp,PE (gk X sc N' cl C s2 H2 fp) Å te) {s2:dL}{cl:List (Str×db)} (sd:∀x c,cl.lookup x=ap c->X.env.cells.lookup x=ap c/\(x,Bj)∈sc.names) (KP:∀x,(x,Bj)∈sc.names->∃c,cl.lookup x=ap c) {tn:Nat->r9->Prop}{J:It}{Q:VK} (I2:Inv X Z σ H2 s2) (T:Turn X.prog X.w X.K tg J fp it tn) (J7:tn 0 s2.heap) (f2:∀b∈fp,uA X Z H2 b)
  (hW:∀D,H2 D=bv->∃W:Nat->Nat->St->List V->Hp->Prop,
   (∃m,W 0 m (nY ix σ) [] (upd H2 D (.lst [])))/\∀i m σ' ys H,W i m σ' ys H->H D=ap (.lst ys)/\
    ((J.stop i H/\Q (.ref D) H)\/(J.go i H/\∀x H',J.Ti i H x H'->g x σ' H' λσ2 H2=>tf σ2 H2 λb H3=>
     if b=true then te σ2 H3 λy H4=>H4 D=ap (.lst ys)/\ys.length+1<=sizeLine/\∃m',m' < m/\W (i+1) m' σ2 (ys++[y]) (upd H4 D (.lst (ys++[y]))) else ∃m',m' < m/\W (i+1) m' σ2 ys H3)))
  {RR:ci->db->Result->dL->Prop}{E:ci->dL->Prop}
  (hRR:∀D C m s' H',Inv X Z σ H' s'->Q (.ref D) H'->s'.heap.Ns C m->aa2 X Z H' C->RR (.ref D) C (.ok .next) s') :
  d5 (ev X.prog X.w) X.A (newList []) (λÄ s₃=>d5 (ev X.prog X.w) X.A (newFunctionEnv sc X.env.globals cl [] X.env.qual bv .none (ap X.env)) (λaaO s₄=>
   Ix (ev X.prog X.w) X.A (.compStart (.ListComp Å [⟨tg,iter,Ì,0⟩] sc pos) 0 (.ref it) Ä {aaO with scope:=relabel sc X.env}) (RR Ä aaO.locals) s₄) E s₃) E s2:=by
 refine Bh (wpAny_newFunctionEnv S.nc (by intro y hy;simp at hy) (λh₁ G9 wW=>?_) S.kind);generalize hH2:s2.heap.push {cls:=.type "list",dict:=bv,data:=.seq ([]:List ci).toArray}=G2 at G9 wW ⊢;have hC:G2.objs.size=s2.heap.objs.size+1:=by rw [<- hH2,CJ]
 obtain⟨D,hD⟩:∃D:Nat,s2.heap.objs.size=D:=⟨_,rfl⟩;obtain⟨C,hCC⟩:∃C:Nat,G2.objs.size=C:=⟨_,rfl⟩;simp only [hD,hCC] at G9 wW hC ⊢;have hDC:D≠C:=by omega
 have Î:∀b o,s2.heap.get? b=ap o->h₁.get? b=ap o:=λb o e=>by
  have hb:=lsz e;exact wW.extBut b o (neN ∅) (Ah _ (hH2▸Ah _ e))
 have aah:h₁.get? D=ap {cls:=.type "list",data:=.seq ([]:List ci).toArray}:=by
  refine wW.extBut D _ hDC (Ah _ ?_);rw [<- hH2,<- hD];exact Aq _ rfl
 have hD2:H2 D=bv:=I2.bI.fresh ∅;have hC2:H2 C=bv:=I2.bI.fresh ∅;obtain⟨W,⟨m0,w0⟩,turn⟩:=hW D hD2;have Uu:∀x c,cl.lookup x=ap c->∃v,s2.heap.IsCell c v:=λx c e=>I2.cell x c (sd x c e).1;have aeq:∀x c,cl.lookup x=ap c->c < D:=λx c e=>by
  obtain⟨v,q⟩:=Uu x c e;have:=Uv q;exact ltN ∅
 have ĳ:∀b∈fp,b < D:=λb hb=>by
  obtain⟨o,e,_⟩:=T.obj 0 _ J7 b hb;have:=lsz e;exact ltN ∅
 have Yok:(gk X sc N' cl C s2 H2 fp).Ok:=by
  refine⟨I2.ok.mod,S.kind,I2.ok.glob,I2.ok.blt,?_,?_,?_,?_,I2.ok.hd,I2.ok.frames,.inl rfl,?_,I2.bs,?_,?_,?_,I2.stack,I2.Iy⟩
  ·show s2.heap.objs.size<=C;omega
  ·intro x y c e1 e2;exact I2.ok.inj x y c (sd x c e1).1 (sd y c e2).1
  ·intro x hx;have tE:(relabel sc X.env).names.lookup x=ap .cell\/(relabel sc X.env).names.lookup x=ap .free:=hx;unfold relabel at tE;rw [g8] at tE;cases q:sc.names.lookup x with
   | none=>rw [q] at tE;simp at tE
   | some k=>
    have hm:=BS q;by_cases hk:k=.free
    ·subst hk;exact KP x hm
    ·have ā:k≠.cell:=S.nc _ hm;rw [q] at tE;have hb:(k==Bj)=false:=by simpa using hk
     simp only [CC,hb,Fi,Al,if_false] at tE;rcases tE with z | z
     ·exact absurd (Option.some.inj z) ā
     ·exact absurd (Option.some.inj z) hk
  ·intro x c è;exact absurd è AU
  ·intro b hb;refine⟨?_,λx c e z=>(f2 b hb).2.2.2.2.1 x c (sd x c e).1 z⟩;show b≠C;have:=ltN (ĳ b hb);exact neN ∅
  ·exact Bt I2.ok.Uw I2.sz
  ·intro b o e hb;rcases (f2 b hb).2.2.2.1 with z | z
   ·exact I2.ok.Nz b o e z
   ·have h1:=lsz (h:=X.base) e;have h2:=I2.ok.Uw;omega
  ·intro b hb z;rcases AA.mp (I2.Gj b z) with q | q
   ·exact (f2 b hb).2.1 q
   ·exact (f2 b hb).2.2.1 q
 have un0:Un (L5 X.stack) fp H2 (upd H2 D (.lst [])) s2.heap h₁:=Un.laid Î ∅ hD2;have adD:lV X.prog X.w (upd H2 D (.lst [])) h₁:=I2.bI.laid Î ∅ ⟨A7 _,[],0,.nil,aah⟩;have IY:∀tk,Inv (gk X sc N' cl C s2 H2 fp) [] (nY ix σ) (upd H2 D (.lst [])) {s2 with heap:=h₁,toks:=tk}:=λtk=>by
  refine⟨Yok,rfl,I2.bare,un0,⟨_,G9,λi x v e1 e2 e3=>?_⟩,λx c e=>?_,?_,λx c e=>?_,λp hp=>absurd (show p∈([]:List (db×Obj)) from hp) (by simp),adD,?_⟩
  ·have kl:N'[i]?=ap x:=e1;unfold nY at e2;rw [Ai] at e2;cases q:ix[i]? with
   | none=>rw [q] at e2;cases e2
   | some o=>
    cases o with
    | none=>rw [q] at e2;cases e2
    | some j=>
     rw [q] at e2;have W3:(σ[j]?).getD bv=ap v:=Option.some.inj e2;have e4:σ[j]?=ap (ap v):=by
      cases z:σ[j]? with
      | none=>rw [z] at W3;cases W3
      | some y=>rw [z] at W3;exact congrArg ap W3
     obtain⟨a1,a2⟩:=S.at q kl;have Z4:=BS a2;have hk:=S.fr _ Z4 rfl;obtain⟨m,_,hl⟩:=I2.loc;obtain⟨u,r,l⟩:=hl j x v a1 e4 (.inr hk);refine⟨u,r,.inr ⟨?_,?_⟩⟩
     ·show (relabel sc X.env).names.lookup x=ap .cell\/(relabel sc X.env).names.lookup x=ap .free;unfold relabel;rw [g8,a2];by_cases hb:(X.env.scope.kind==.function&&X.env.kindOf x==ap .cell)=true
      ·left
       simp only [CC,beq_self_eq_true,Fs,hb,if_true]
      ·right
       simp only [CC,beq_self_eq_true,Fs,hb,if_false,Al]
     ·obtain⟨c,hcx⟩:=KP x Z4;have hcX:=(sd x c hcx).1;refine⟨c,hcx,?_⟩;rcases l with⟨k,_⟩ | ⟨k,c',e',z⟩
      ·have k':X.env.scope.names.lookup x=ap .local:=k;rcases hk with y | y <;> rw [k'] at y <;> cases y
      ·rw [hcX] at e';cases e';obtain⟨o,ho,hd⟩:=z;exact⟨o,Î _ _ ho,hd⟩
  ·obtain⟨v,o,ho,hd⟩:=Uu x c e;exact⟨v,o,Î _ _ ho,hd⟩
  ·show upd H2 D (.lst []) C=bv;rw [aB (BF hDC)];exact hC2
  ·have lP:=ltN (aeq x c e);show upd H2 D (.lst []) c=bv;rw [aB (neN ∅)];exact I2.ke x c (sd x c e).1
  ·unfold nY;rw [Af];exact S.len
 have Ĳ:∀{yJ:List (db×Obj)}{H':Hp},(∀b∈fp,H' b=bv)->(∀p∈yJ,p.1∉fp)->∀b∈fp,uA (gk X sc N' cl C s2 H2 fp) yJ H' b:=λhn hp b hb=>by
  refine⟨hn b hb,?_,?_,.inl hb,λx c e z=>(f2 b hb).2.2.2.2.1 x c (sd x c e).1 z,λp Ġ z=>?_⟩
  ·show b≠C;have:=ltN (ĳ b hb);exact neN ∅
  ·exact Yok.OC b hb
  ·have ady:p∈([]:List (db×Obj))++_:=Ġ;exact hp p ady (z▸hb)
 have ä:∀s₃:dL,s₃={s2 with heap:=h₁,toks:=s2.toks+([]:List (Str×ci)).length}->
   Ix (ev X.prog X.w) X.A (.compLoop (.ListComp Å [⟨tg,iter,Ì,0⟩] sc pos) 0 (.ref it) (.ref D) (compEnvC sc cl C X.env)) (RR (.ref D) C) s₃:=by
  rintro s₃ rfl;refine lZ (λn s'=>∃i σ' ys H',Inv (gk X sc N' cl C s2 H2 fp) [] σ' H' s'/\tn i s'.heap/\(∀b∈fp,H' b=bv)/\W i n σ' ys H') ?_ m0
   ⟨0,_,[],_,IY _,T.keep _ _ _ J7 (λb _ o e=>Î b o e),λb hb=>by rw [aB (AJ (ĳ b hb))];exact (f2 b hb).1,w0⟩
  rintro n s3 ⟨i,σ3,ys,H3,I3,YJ,í,w3⟩;obtain⟨hDl,w3⟩:=turn i n σ3 ys H3 w3;rcases w3 with⟨stop,qn⟩ | ⟨go,step⟩
  ·refine bE (T.done (gk X sc N' cl C s2 H2 fp) rfl rfl rfl hc i [] s3 σ3 H3 _ I3 (Ĳ í (by simp)) YJ stop) λr s4 ⟨hr,I4⟩=>?_;subst hr;obtain⟨m,hn,_⟩:=I4.loc;refine hRR D C m s4 H3 (I2.aaP (ch:=fp) I4.os I4.base I4.bI I4.bare λb hb=>?_) qn hn ?_
   ·obtain⟨a0,a1,a2,a3,a4,a5⟩:=f2 b hb;exact⟨a3,a1,a4,a5⟩
   ·refine⟨I4.free,?_,?_,λx c e z=>?_,λp hp z=>?_⟩
    ·have:=ltN I2.lt;exact neN ∅
    ·have:=I2.sz;omega
    ·obtain⟨v,q⟩:=I2.cell x c e;have:=Uv q;exact neN (a:=c) (b:=C) ∅ z
    ·have:=lsz (I2.pin p hp).1;exact neN (a:=p.1) (b:=C) ∅ z
  ·refine bE (T.item (gk X sc N' cl C s2 H2 fp) rfl rfl rfl hc i [] s3 σ3 H3 (λ_ _=>False) I3 (Ĳ í (by simp)) YJ go) λr s4 ⟨u,hr,h4⟩=>?_;subst hr;refine bE h4 λ_ s5 ⟨x,H5,I5,r5,y5,UY,ı⟩=>?_;have ĵ:=I5.pinned (Ĳ ı (by simp)) (T.obj _ _ UY);refine bE (hg _ _ _ _ _ _ s5 σ3 H5 x u _ ĵ r5 (step x H5 y5)) λ_ s6 ⟨σ6,H6,I6,q6⟩=>?_;refine bE (hf _ _ _ _ _ _ s6 σ6 H6 _ I6 q6) λb s7 ⟨H7,I7,q7⟩=>?_;have NS:∀{s8:dL}{σ8:St}{H8:Hp},Inv (gk X sc N' cl C s2 H2 fp) ([]++oC fp s5.heap) σ8 H8 s8->tn (i+1) s8.heap/\∀b∈fp,H8 b=bv:=λ{s8 σ8 H8} I8=>by
    refine⟨T.keep _ _ _ UY λb hb o e=>(I8.pin (b,o) (AH _ (AH _ (jN hb e)))).1,λb hb=>?_⟩;obtain⟨o,e,d⟩:=T.obj _ _ UY b hb;exact (I8.pin (b,o) (AH _ (AH _ (jN hb e)))).2.1
   cases b with
   | false=>
    have q7':=q7;obtain⟨m',hm,w7⟩:=q7';obtain⟨t7,fr7⟩:=NS I7;exact⟨m',hm,i+1,σ6,ys,H7,I7.kB,t7,fr7,w7⟩
   | true=>
    refine bE (he _ _ _ _ _ _ s7 σ6 H7 _ I7 q7) λyv s8 ⟨y,H8,I8,r8,hD8,hz8,m',hm,w8⟩=>?_;obtain⟨z,aw,k,rv,hl8,e8⟩:=I8.oG hD8;obtain⟨t8,fr8⟩:=NS I8;refine wpAny_list_append_plain (s:=s8) (items:=aw.toArray) (hsz:=by rw [Aj];omega) ⟨_,e8⟩ λh9 hl9 hs9=>?_;obtain⟨k9,e9⟩:=hl9;have hv9:=Vals.append rv (.cons r8 .nil);have I9:Inv (gk X sc N' cl C s2 H2 fp) ([]++oC fp s5.heap) σ6 (upd H8 D (.lst (ys++[y]))) {s8 with heap:=h9,toks:=s8.toks}:=by
     refine I8.write (x:=D) (e:=D) (by rw [hD8];exact trivial) (.inl rfl) (λb u hb hu=>(hs9.2 b hb).trans hu) ⟨_,e9⟩ ?_;refine⟨by rw [Ae,E8];exact hz8,aw++[yv],k9,hv9,?_⟩;rw [e9];simp
    obtain⟨t9,fr9⟩:=NS I9;exact⟨m',hm,i+1,σ6,_,_,I9.kB,t9,fr9,w8⟩
 exact codeAny_compStart_list (ä _ rfl) (T.self _ 0 _ _ _ (T.keep _ _ _ J7 λb _ o e=>Î b o e) (ä _ rfl))
def Ze (hc:X.calm=true) (S:aA X.env.scope X.N sc N' ix) (hi:PI X tg iter wi)
  (hg:∀cl C s2 H2 fp,PG (gk X sc N' cl C s2 H2 fp) tg g) (hf:∀cl C s2 H2 fp,X8 (gk X sc N' cl C s2 H2 fp) Ì tf) (he:∀cl C s2 H2 fp,PE (gk X sc N' cl C s2 H2 fp) Å te)
  (hs:∀x,im iter X.env x=pure x:=by intro _;rfl):PE X (.ListComp Å [⟨tg,iter,Ì,0⟩] sc pos) (tLc ix wi g tf te):=by
 intro Z s σ H Q I h;have Hb:∀y∈sc.names,y.2=.free->∃c,X.env.cells.lookup y.1=ap c:=λy hy hk=>I.ok.has y.1 (S.fr y hy hk);obtain⟨cl,Oe,sd,KP⟩:=mn Hb;refine Et (use:=bv) rfl hs Oe S.kind S.loc (bE (hi Z s σ H _ I h) λv s1 h1=>bE h1 λù s2 h2=>?_);obtain⟨it,fp,tn,J,H2,rfl,I2,T,J7,f2,hW⟩:=h2;refine Jh (RR:=λÄ C=>compPost (ev X.prog X.w) X.A X.xe bv (EP X Z σ Q) Ä C) hc S hg hf he sd KP I2 T J7 f2 hW λD C m s' H' I' q hn F=>?_;refine⟨m,hn,λh' ğ=>⟨.ref D,H',?_,rfl,q⟩⟩;exact I'.turned (it:=C) (t':=s'.toks) (λb o hb e=>(ğ.2 b hb).trans e) F.hn F.hL (.inr F.ab) F.cl F.pn
def yH {i:Nat} (hc:X.calm=true) (hN:X.N.Nodup) (zf:X.N[i]?=ap x) (hx:X.env.scope.names.lookup x=ap .local) (S:aA X.env.scope X.N sc N' ix) (hi:PI X tg iter wi)
  (hg:∀cl C s2 H2 fp,PG (gk X sc N' cl C s2 H2 fp) tg g) (hf:∀cl C s2 H2 fp,X8 (gk X sc N' cl C s2 H2 fp) Ì tf) (he:∀cl C s2 H2 fp,PE (gk X sc N' cl C s2 H2 fp) Å te)
  (pP:nn (.ListComp Å [⟨tg,iter,Ì,0⟩] sc pos) (ap (.Name x px)) mX.line X.env=pure true:=by rfl)
  (hs:∀x,im iter X.env x=pure x:=by intro _;rfl):PS X (.Assign [.Name x px] (.ListComp Å [⟨tg,iter,Ì,0⟩] sc pos) mX) (UW (tLc ix wi g tf te) (dM i)):=by
 intro Z s σ H D0 I h;rw [exec_Assign_Name_used _ _ _ _ pP];refine Aa (Ds (Aa ?_));show d5 _ X.A (do let _ <- comprehension (.ListComp Å [⟨tg,iter,Ì,0⟩] sc pos) sc X.env _ (newList []) false (kw iter X.env) (ap (Da (.Name x px) X.env))) _ _ s;have Hb:∀y∈sc.names,y.2=.free->∃c,X.env.cells.lookup y.1=ap c:=λy hy hk=>I.ok.has y.1 (S.fr y hy hk);obtain⟨cl,Oe,sd,KP⟩:=mn Hb;refine Aa (BQ (Et (use:=ap (Da (.Name x px) X.env)) (Q:=λ_ s'=>SP X Z D0 .next s') rfl hs Oe S.kind S.loc (bE (hi Z s σ H _ I h) λv s1 h1=>bE h1 λù s2 h2=>?_)) (λ_ s' hq=>Ag (Ag hq)) λ_ _ e=>e);obtain⟨it,fp,tn,J,H2,rfl,I2,T,J7,f2,hW⟩:=h2;refine Jh (RR:=λÄ C=>compPost (ev X.prog X.w) X.A X.xe (ap (Da (.Name x px) X.env)) (λ_ s'=>SP X Z D0 .next s') Ä C) (Q:=λx H1=>dM i x σ H1 D0.nx) hc S hg hf he sd KP I2 T J7 f2 hW λD C m s' H' I' q hn F=>?_;show d5 _ X.A (Da (.Name x px) X.env (.ref D)) _ _ _;refine wpAny_assign_Name (uE (v:=.ref D) I' hN zf (.inl hx) rfl (λYS I'' Ğ=>?_) (.inr hx));obtain⟨a,Ğ,ha⟩:=Ğ;have haC:C≠a:=by
  rcases ha with z | z
  ·rw [z];exact F.hL
  ·exact BF (F.cl _ _ z)
 refine⟨m,hn.sameBut Ğ haC,λh' ğ=>⟨_,H',?_,q⟩⟩;exact I''.turned (it:=C) (t':=YS.toks) (λb o hb e=>(ğ.2 b hb).trans e) F.hn F.hL (.inr F.ab) F.cl F.pn
end
end L2
variable {a o b:BD}{tl:L2.TE}
namespace L2
open PySem PySem.Spec PyProof.Rows
section
def pD:bR X (.builtin "isinstance") (λxs H Q=>∃x c t b,xs=[x,.ty c]/\ma X.K H x t/\Bz X.K t (.type c)=ap b/\Q (.bl b) H):=by
 intro Z s σ H xs us Q I r h;obtain⟨x,c,t,b,rfl,ty,hk,q⟩:=h;obtain⟨u,w',rfl,ru,ib⟩:=vals2 r;cases (show w'=BZ c from ib);exact KC I ru ty hk λtk=>⟨.bl b,H,I.tok _,rfl,q⟩
def yS:hZ X (mo .IsNot) (λx y H Q=>∃i j,x=.bl i/\y=.bl j/\Q (.bl (!(i==j))) H):=by
 intro Z s σ H x y v u Q I rx ry h;obtain⟨i,j,rfl,rfl,q⟩:=h;cases rx;cases ry;exact Ag ⟨.bl (!(i==j)),H,I,by cases i <;> cases j <;> rfl,q⟩
def Ko (hu:X.A.units < pc):hZ X (mo .NotEq) (λx y H Q=>∃p q xs,x=.ref p/\y=.ref q/\c6 X.K H p xs/\c6 X.K H q []/\Q (.bl (!xs.isEmpty)) H):=by
 intro Z s σ H x y v u Q I rx ry h;obtain⟨p,q,xs,rfl,rfl,hp,hq,k⟩:=h;cases rx;cases ry;obtain⟨aw,r,pl,hz⟩:=I.list hp;obtain⟨cH,r2,Zb,hz2⟩:=I.list hq;cases r2;cases xs with
 | nil=>
  cases r;refine Ej (Fv (e:=λ_=>true) pl.isList Zb.isList rfl hu λj h1=>absurd h1 (by simp)) ?_;exact⟨.bl false,H,I,rfl,k⟩
 | cons y ys=>
  have hl:=r.length;refine Ej (D4 pl.isList Zb.isList (by simp at hl ⊢;intro z;subst z;simp at hl) hu) ?_;exact⟨.bl true,H,I,rfl,k⟩
def zS {bs:List Bool}:∀{us:List ci},Vals (bs.map V.bl) us->us=bs.map B7:=by
 induction bs with
 | nil=>intro us r;rw [Df] at r;cases r;rfl
 | cons n ns ih=>
  intro us r;cases r with
  | cons r1 r2=>
   cases r1;rw [ih r2];rfl
def HS (hc:X.calm=true):bR X (.builtin "all") (λxs H Q=>∃(p:db) (bs:List Bool),xs=[.ref p]/\c6 X.K H p (bs.map V.bl)/\Q (.bl (bs.all id)) H):=by
 intro Z s σ H xs us Q I r h;obtain⟨p,bs,rfl,hp,q⟩:=h;obtain⟨u,rfl,ru⟩:=vals1 r;cases ru;obtain⟨aw,rv,pl,hz⟩:=I.list hp;have eb:=zS rv;subst eb;have hl:=pl.isList;have lP:p < s.heap.objs.size:=by obtain⟨_,e,_⟩:=hl;exact Ar e
 refine call_all_walk (CH hl ?_);refine⟨s.heap.objs.size,[s.heap.objs.size,p],[s.heap.objs.size],(bs.map B7).toArray.size,_,_,λi=>(bs[i]?).getD true,rfl,Walks.list (A:=X.A.in1) (I.ok.hd hc) _ p (AJ lP) (bs.map B7).toArray,
  ⟨⟨_,Aq _ rfl,rfl,rfl⟩,hl.push _⟩,λi v s' Q' E' hP hQ=>?_,λh' tk hk=>?_⟩
 ·have Oj:(bs.map B7)[i]?=ap v:=by simpa using hP
  rw [Ai] at Oj;cases e:bs[i]? with
  | none=>rw [e] at Oj;cases Oj
  | some b=>
   rw [e] at Oj;cases Oj;simp only [e,Option.getD_some] at hQ;exact Bp hQ
 ·have e:((Av (bs.map B7).toArray.size).all λi=>(bs[i]?).getD true)=bs.all id:=by
   rw [Aj,Af];exact LSm.range_all bs
  rw [e];exact⟨.bl (bs.all id),H,I.kept (LSm.kept_iter hk),rfl,q⟩
def HQ (hc:X.calm=true):bR X (.builtin "any") (λxs H Q=>∃(p:db) (bs:List Bool),xs=[.ref p]/\c6 X.K H p (bs.map V.bl)/\Q (.bl (bs.any id)) H):=by
 intro Z s σ H xs us Q I r h;obtain⟨p,bs,rfl,hp,q⟩:=h;obtain⟨u,rfl,ru⟩:=vals1 r;cases ru;obtain⟨aw,rv,pl,hz⟩:=I.list hp;have eb:=zS rv;subst eb;have hl:=pl.isList;have lP:p < s.heap.objs.size:=by obtain⟨_,e,_⟩:=hl;exact Ar e
 refine call_any_walk (CH hl ?_);refine⟨s.heap.objs.size,[s.heap.objs.size,p],[s.heap.objs.size],(bs.map B7).toArray.size,_,_,λi=>(bs[i]?).getD false,rfl,Walks.list (A:=X.A.in1) (I.ok.hd hc) _ p (AJ lP) (bs.map B7).toArray,
  ⟨⟨_,Aq _ rfl,rfl,rfl⟩,hl.push _⟩,λi v s' Q' E' hP hQ=>?_,λh' tk hk=>?_⟩
 ·have Oj:(bs.map B7)[i]?=ap v:=by simpa using hP
  rw [Ai] at Oj;cases e:bs[i]? with
  | none=>rw [e] at Oj;cases Oj
  | some b=>
   rw [e] at Oj;cases Oj;simp only [e,Option.getD_some] at hQ;exact Bp hQ
 ·have e:((Av (bs.map B7).toArray.size).any λi=>(bs[i]?).getD false)=bs.any id:=by
   rw [Aj,Af];exact LSm.range_any bs
  rw [e];exact⟨.bl (bs.any id),H,I.kept (LSm.kept_iter hk),rfl,q⟩
def pM (l:db) (items:Array ci) (n:Nat) (b:db) (cp:Array ci) (n2:Nat) (dd:Option db) (sl:Array (Option ci)) (hs0:¬(!items.isEmpty&&Builtin.List.listTooLong (items.size+cp.size))=true) (F1:items.size<=sizeLine) (qx:items.size+cp.size<=sizeLine+1) :
  Meets (Fk.«list.extend» ⟨[.ref l,.ref b],[]⟩) (λ_ R s=>s.heap.get? l=ap {cls:=.type "list",dict:=bv,data:=.seq items n,slots:=#[]}/\s.heap.get? b=ap {cls:=.type "tuple",dict:=dd,data:=.seq cp n2,slots:=sl}/\R (.ok (.ret AW)) {s with heap:=s.heap.update l (Bm λx=>x++cp),toks:=s.toks}):=
 .of_wp λprog w A R s h=>by
  obtain⟨hp,g,d,tk,os⟩:=s;obtain⟨hl,hb,h⟩:=h;have f1:=EM;have f2:=Dl;have f3:=DH;have f4:=Dw;have f5:=Dx;have G7:(items++cp).size<=sizeLine+1:=by rw [En];exact qx
  wp_walk using (DJ hl rfl (hz:=F1) (_hz':=G7)),B1 hl,B1 hb;exact⟨_,rfl,h⟩
def MZ (K:Ab):V->List V->Hp->VK->Prop:=λx vs H Q=>∃l b xs zs,x=.ref l/\vs=[.ref b]/\H l=ap (.lst xs)/\d7 K H b zs/\xs.length+zs.length<=sizeLine/\Q .aX (upd H l (.lst (xs++zs)))
theorem GG:LR X "list.extend" (MZ X.K):=by
 intro Z s σ H x vs v us Q I rx rv h;obtain⟨l,b,xs,zs,rfl,rfl,hH,hB,hz,q⟩:=h;cases rx;obtain⟨u,rfl,ru⟩:=rv.one;cases ru;obtain⟨z,aw,n,r,hl,e⟩:=I.oG hH;obtain⟨cH,r2,⟨⟨cls,dd,data,sl⟩,e2,hc,n2,hd⟩,z2⟩:=I.tuple hB;simp only at hc hd;subst hc hd;have KN:=r2.length;have hsz:aw.toArray.size+cH.toArray.size<=sizeLine:=by rw [Aj,Aj];omega
 have rZ:¬(!aw.toArray.isEmpty&&Builtin.List.listTooLong (aw.toArray.size+cH.toArray.size))=true:=by
  rw [iZ hsz,Ee];exact AU
 refine wS D6 ⟨_,e,rfl⟩ DQ (Dv _ _)
  (pM l aw.toArray n b cH.toArray n2 dd sl rZ (by rw [Aj];omega) ∅) ⟨e,e2,?_⟩
 refine⟨.aX,_,I.GO (its':=aw++cH) hH e (by simp) (r.append r2) ?_,rfl,q⟩;rw [Ae];omega
def Its (x:Str):It:=⟨λi _=>i < x.cps.size,λi H v H'=>H'=H/\∃c,x.cps[i]?=ap c/\v=.str ⟨#[c]⟩,λi _=>x.cps.size<=i⟩
def F8 {K:Ab} (it:db) (x:Str) (t:Tok) (ty:String) (Jt:ty="str_ascii_iterator"\/ty="str_iterator"):Turn P w K tg (Its x) [it] it (λi h=>h.IsStrIter it ty x t i/\i<=x.cps.size) where
 mem:=by simp
 obj:=λi h st b hb=>by
  have e:b=it:=by simpa using hb
  subst e;obtain⟨⟨o,e,c,d⟩,_⟩:=st;exact⟨o,e,λv z=>by rw [d] at z;cases z⟩
 keep:=λi h h' st k=>⟨let ⟨o,ho,r⟩:=st.1;⟨o,k it (by simp) o ho,r⟩,st.2⟩
 item:=by
  intro X hP hw hK hc i Z s σ H E I hf st hg;subst hP hw hK;obtain⟨f0,f1,f2,f3,f4,f5⟩:=hf it (by simp);have Ud:i < x.cps.size:=hg;obtain⟨st,_⟩:=st;rcases Jt with rfl | rfl
  ·refine wpAny_pyNext_ascii_item st (c:=x.cps[i]) (by simp [Ud]) λh' mN sb=>?_;have I1:Inv X Z σ H {s with heap:=h',toks:=s.toks+1}:=I.turned (λb o hb e=>(sb.2 b hb).trans e) f0 f1 f3 f4 f5;obtain⟨o,e,c,d⟩:=id mN;exact⟨_,rfl,se (s:={s with heap:=h',toks:=s.toks+1}) e c d ⋯ ⟨.str ⟨#[x.cps[i]]⟩,H,I1,⟨_,rfl⟩,⟨rfl,_,by simp [Ud],rfl⟩,⟨mN,Ud⟩,λb hb=>(hf b hb).1⟩⟩
  ·refine wpAny_pyNext_wide_item st (c:=x.cps[i]) (by simp [Ud]) λh' mN sb=>?_;have I1:Inv X Z σ H {s with heap:=h',toks:=s.toks+1}:=I.turned (λb o hb e=>(sb.2 b hb).trans e) f0 f1 f3 f4 f5;obtain⟨o,e,c,d⟩:=id mN;exact⟨_,rfl,se (s:={s with heap:=h',toks:=s.toks+1}) e c d ⋯ ⟨.str ⟨#[x.cps[i]]⟩,H,I1,⟨_,rfl⟩,⟨rfl,_,by simp [Ud],rfl⟩,⟨mN,Ud⟩,λb hb=>(hf b hb).1⟩⟩
 done:=by
  intro X hP hw hK hc i Z s σ H E I hf st hg;obtain⟨f0,f1,f2,f3,f4,f5⟩:=hf it (by simp);obtain⟨st,_⟩:=st;have hn:x.cps[i]?=bv:=by
   have Ud:x.cps.size<=i:=hg;simp [Ud]
  rcases Jt with rfl | rfl
  ·exact wpAny_pyNext_ascii_end (I.ok.hd hc) st hn λh' eb=>⟨rfl,I.turned (t':=s.toks) (λb o hb e=>eb b o hb e) f0 f1 f3 f4 f5⟩
  ·exact wpAny_pyNext_wide_end (I.ok.hd hc) st hn λh' eb=>⟨rfl,I.turned (t':=s.toks) (λb o hb e=>eb b o hb e) f0 f1 f3 f4 f5⟩
 self:=λ_ _ _ _ _ st h=>by
  obtain⟨st,_⟩:=st;rcases Jt with rfl | rfl
  ·exact wpAny_pyIter_striter_ascii st h
  ·exact wpAny_pyIter_striter_wide st h
def adi (tl:TE):TI:=λσ H R=>tl σ H λx H1=>∃z,x=.str z/\R (Its z) H1
def Vr {l:lw} (hl:PE X l tl):PI X tg l (adi tl):=by
 intro Z s σ H R I h;refine bE (hl Z s σ H _ I h) λv s1 ⟨x,H1,I1,r1,q1⟩=>?_;obtain⟨z,e,q⟩:=q1;subst e;obtain⟨t,rfl⟩:=r1;have fin:∀(ty:String) (Jt:ty="str_ascii_iterator"\/ty="str_iterator") (o:Obj),(s1.heap.push o).IsStrIter s1.heap.objs.size ty z t 0->PIE X Z σ tg R (.ref s1.heap.objs.size) {s1 with heap:=s1.heap.push o}:=λty Jt o st=>by
  refine⟨s1.heap.objs.size,[s1.heap.objs.size],_,_,H1,rfl,I1.kept (t':=s1.toks) λb o e=>Ah _ e,F8 _ z t ty Jt,⟨st,A7 _⟩,λb hb=>?_,q⟩;have e:b=s1.heap.objs.size:=by simpa using hb
  subst e;exact I1.uj (An _) (I1.bI.fresh (An _))
 cases ha:z.cps.all (· < 128)
 ·exact wpAny_pyIter_wide ha (fin _ (.inr rfl) _ ⟨_,Aq _ rfl,rfl,rfl⟩)
 ·exact wpAny_pyIter_ascii ha (fin _ (.inl rfl) _ ⟨_,Aq _ rfl,rfl,rfl⟩)
end
section
variable {CX:L8}{f:db}{dvs:List V}{ds:List ci}{E:XK}{t:TA}
def UU (f:db) (sp:Sp) (dvs:List V) (E:XK) (ta:TE) (t:TA):TE:=λσ H Q=>ta σ H λx H1=>x=.ref f/\t σ H1 λvs H2=>sp (vs++dvs) H2 Q E
def Nl (F:fu X.prog X.w X.K X.mg X.base CX k f fd ps sp) (hr:c7 k X.A) (hf:PE X (.Name x p) ta) (hk:CI X.K (.ref f)=true) (hb:Binds X.K fd ps ds) (hd:Vals dvs ds) (hx:Passes CX X E)
  (ha:PA X (e::es) t) (he:ce (e::es) X.env=(false,kw e X.env)::ce es X.env:=by rfl) (dJ:(lm pos (ce es X.env)).any (·.1)=false:=by rfl) :
  PE X (.Call (.Name x p) (e::es) [] pos) (UU f sp dvs E ta t):=by
 intro Z s σ H Q I h;refine BL (bE (hf Z s σ H _ I h) λv s1 ⟨y,H1,I1,r1,ey,q1⟩=>?_);subst ey;cases r1;refine Fu (h₀:=X.base) I.ok.mod.kin hk (bE (ha pos Z s1 σ H1 _ I1 q1) λus s2 ⟨vs,H2,I2,r,q⟩=>⟨I2.t4,?_⟩) he dJ;exact MK F hr hb hd hx I2 r q
end
section
variable {lo hi:lw}{th:TE}
def WI (to tl th:TE):TG:=λv σ H Q=>to σ H λx H1=>tl σ H1 λi H2=>th σ H2 λj H3=>∃l b xs ys a c,x=.ref l/\v=.ref b/\i=.int a/\j=.int c/\H3 l=ap (.lst xs)/\H3 b=ap (.lst ys)/\l≠b/\0<=a/\a<=c/\c<=xs.length/\xs.length+ys.length<=sizeLine/\
 Q σ (upd H3 l (.lst (xs.take a.toNat++ys++xs.drop c.toNat)))
def Nf (ho:PE X o to) (hl:PE X lo tl) (hh:PE X hi th)
  (ha:∀v,Da (.Subscript o (.Slice (ap lo) (ap hi) bv p2) pos) X.env v=(do
   let ov <- sB [v] (kw o X.env)
   let iv <- sB [v,ov] (kw (.Slice (ap lo) (ap hi) bv p2) X.env)
   GT pos
   sB [v,ov,iv] (Ev ov iv v)
   release [iv,v,ov] []):=by intro _;rfl):PG X (.Subscript o (.Slice (ap lo) (ap hi) bv p2) pos) (WI to tl th):=by
 intro Z s σ H v u Q I r h;refine Aa (Be (bE (ho Z s σ H _ I h) λov s1 ⟨x,H1,I1,r1,q1⟩=>?_));refine Aa (Be (wpAny_Slice ?_));rw [evalPart_some,evalPart_some,evalPart_none];refine bE (hl Z s1 σ H1 _ I1 q1) λvl s2 ⟨i,H2,I2,r2,q2⟩=>bE (hh Z s2 σ H2 _ I2 q2) λvu s3 ⟨j,H3,I3,r3,q3⟩=>Ag ?_;obtain⟨l,b,xs,ys,a,c,rfl,rfl,rfl,rfl,hH,hB,Oa,h0,XQ,hc,hz,q⟩:=q3;cases r;cases r1;have I4:Inv X Z σ H3 {s3 with heap:=s3.heap.push {cls:=.type "slice",data:=.fields #[vl,vu,.none]}}:=I3.kept (t':=s3.toks) λb ob q=>Ah _ q;refine Aa (Ds (Aa (Be (Kb I4 hH hB Oa (Heap.IsSliceOf.new ..) r2 r3 h0 XQ hc hz λs' I'=>?_))));exact wpAny_release ⟨σ,_,I',q⟩
end
end L2
variable {k':Nat}{bK:Cv}
namespace L2
open PySem PySem.Spec PyProof.Rows
def oe (l:db) (H H':Hp):Prop:=∀b u,b≠l->H b=ap u->H' b=ap u
def kH {p:db} (h:H p=bv) (o:HO):jx H (upd H p o):=λb u q=>by rw [aB (bO q h)];exact q
def Kf {p:db} (o:HO):oe p H (upd H p o):=λb u n q=>by rw [aB n];exact q
def kg (H:Hp) (o:HO) (Q:VK):Prop:=∀p H',jx H H'->H' p=ap o->H p=bv->Q (.ref p) H'
def kg.at {o:HO}{Q:VK} (h:kg H o Q) (p:db) (hp:H p=bv):Q (.ref p) (upd H p o):=h p _ (kH hp o) aP hp
def vD (H:Hp) (l:db) (o:HO) (Q:Hp->Prop):Prop:=∀H',oe l H H'->H' l=ap o->Q H'
def vD.at {o:HO}{Q:Hp->Prop} (h:vD H l o Q):Q (upd H l o):=h _ (Kf o) aP
def hZ.mono {f:ci->ci->Sem ci}{r:R2} (h:hZ X f r) (hr:∀x y H Q,r' x y H Q->r x y H Q):hZ X f r':=λZ s σ H x y v u Q I rx ry q=>h Z s σ H x y v u Q I rx ry (hr _ _ _ _ q)
def bR.mono {f:ci}{r r':List V->Hp->VK->Prop} (h:bR X f r) (hr:∀xs H Q,r' xs H Q->r xs H Q):bR X f r':=λZ s σ H xs us Q I rx q=>h Z s σ H xs us Q I rx (hr _ _ _ q)
def LR.mono {id:String}{r r':V->List V->Hp->VK->Prop} (h:LR X id r) (hr:∀x xs H Q,r' x xs H Q->r x xs H Q):LR X id r':=λZ s σ H x xs v us Q I rx rv q=>h Z s σ H x xs v us Q I rx rv (hr _ _ _ _ q)
def FY.mono {r r':FX} (h:FY X r) (hr:∀o i v H Q,r' o i v H Q->r o i v H Q):FY X r':=λZ s σ H o i v ov iv u Q I ro ri rv q=>h Z s σ H o i v ov iv u Q I ro ri rv (hr _ _ _ _ _ q)
def S7.mono {r r':V->Option Int->Option Int->Hp->VK->Prop} (h:S7 X r) (hr:∀x lo hi H Q,r' x lo hi H Q->r x lo hi H Q):S7 X r':=λZ s σ H x v vl vu lo hi sl Q I rx hs pl pu q=>h Z s σ H x v vl vu lo hi sl Q I rx hs pl pu (hr _ _ _ _ _ q)
section
variable {t:TA}
def Ys (t:TA):TE:=λσ H Q=>t σ H λxs H1=>xs.length<=sizeLine/\kg H1 (.tup xs) Q
def Yx (t:TA):TE:=λσ H Q=>t σ H λxs H1=>xs.length<=sizeLine/\kg H1 (.lst xs) Q
def Q6 {x1} (h:PA X es t):PE X (.Tuple es x1 pos) (Ys t):=by
 intro Z s σ H Q I hq;refine wpAny_Tuple_spliced (bE (h pos Z s σ H _ I hq) λus s1 ⟨xs,H1,I1,r,z,q⟩=>⟨by rw [<- r.length];exact z,?_⟩);have hf:=I1.bI.fresh (An _);refine⟨.ref s1.heap.objs.size,upd H1 s1.heap.objs.size (.tup xs),I1.laid (t':=s1.toks) (λb u e=>Ah _ e) (An _) ?_,rfl,q.at _ hf⟩;exact⟨z,us,r,⟨_,Aq _ rfl,rfl,_,rfl⟩⟩
def IT (h:PA X es t):PE X (.List es pos) (Yx t):=by
 intro Z s σ H Q I hq;refine wpAny_List_spliced (bE (h pos Z s σ H _ I hq) λus s1 ⟨xs,H1,I1,r,z,q⟩=>⟨by rw [<- r.length];exact z,?_⟩);have hf:=I1.bI.fresh (An _);refine⟨.ref s1.heap.objs.size,upd H1 s1.heap.objs.size (.lst xs),I1.laid (t':=s1.toks) (λb u e=>Ah _ e) (An _) ?_,rfl,q.at _ hf⟩;exact⟨z,us,0,r,Aq _ rfl⟩
def US:TE:=λ_ H Q=>kg H (.dK []) Q
def Nj:PE X (.Dict [] [] pos) US:=λZ s σ H Q I h=>Ni Z s σ H Q I λp hp=>h.at p hp
def TJ (K:Ab):R2:=λx y H Q=>match x with
 | .int i=>∃j,y=.int j/\Q (.int (i+j)) H
 | .str i=>∃j,y=.str j/\i.length+j.length<=sizeLine/\Q (.str (i++j)) H
 | .ref a=>(∃b xs zs,y=.ref b/\H a=ap (.lst xs)/\H b=ap (.lst zs)/\xs.length+zs.length<=sizeLine/\kg H (.lst (xs++zs)) Q)\/TL K x y H Q
 | _=>False
def Rk:hZ X (tz .Add) (TJ X.K):=by
 refine ((VH.or Gv).or (VG.or I0)).mono λx y H Q h=>?_;cases x with
 | int i=>obtain⟨j,rfl,q⟩:=h;exact .inl (.inl ⟨i,j,rfl,rfl,q⟩)
 | str i=>obtain⟨j,rfl,hl,q⟩:=h;exact .inl (.inr ⟨i,j,rfl,rfl,hl,q⟩)
 | ref a=>
  rcases h with⟨b,xs,zs,rfl,h1,h2,hz,q⟩ | h
  ·exact .inr (.inl ⟨a,b,xs,zs,rfl,rfl,h1,h2,hz,λp hp=>q.at p hp⟩)
  ·exact .inr (.inr h)
 | _=>exact h.elim
def Rf:hZ X (tz .Mult) (rI t0 λi j=>.int (i*j)):=opI λ_ _ _ _ _ _ _ hc q=>mul_int q hc
def TH (K:Ab):V->Option Int->Option Int->Hp->VK->Prop:=λx lo hi H Q=>∃a xs,x=.ref a/\c6 K H a xs/\kg H (.lst (ur xs lo hi)) Q
def MD:S7 X (TH X.K):=QG.mono λx lo hi H Q ⟨a,xs,e,h,q⟩=>⟨a,xs,e,h,λp hp=>q.at p hp⟩
def HM:bR X (.type "list") (λxs H Q=>∃p ys,xs=[.ref p]/\(c6 X.K H p ys\/d7 X.K H p ys)/\kg H (.lst ys) Q):=xJ.mono λxs H Q ⟨p,ys,e,h,q⟩=>⟨p,ys,e,h,λl hl=>q.at l hl⟩
def M3:V->List V->Hp->VK->Prop:=λx vs H Q=>∃l xs y,x=.ref l/\vs=[y]/\H l=ap (.lst xs)/\xs.length < sizeLine/\vD H l (.lst (xs++[y])) (Q .aX)
def rH:LR X "list.append" M3:=Kr.mono λx xs H Q ⟨l,ys,y,e1,e2,h,hz,q⟩=>⟨l,ys,y,e1,e2,h,hz,q.at⟩
def Ki (K:Ab):V->List V->Hp->VK->Prop:=λx vs H Q=>∃l b xs zs,x=.ref l/\vs=[.ref b]/\H l=ap (.lst xs)/\d7 K H b zs/\xs.length+zs.length<=sizeLine/\vD H l (.lst (xs++zs)) (Q .aX)
def yX:LR X "list.extend" (Ki X.K):=GG.mono λx xs H Q ⟨l,b,ys,zs,e1,e2,h1,h2,hz,q⟩=>⟨l,b,ys,zs,e1,e2,h1,h2,hz,q.at⟩
def YY:V->List V->Hp->VK->Prop:=λx vs H Q=>∃l xs y,x=.ref l/\vs=[]/\H l=ap (.lst (xs++[y]))/\vD H l (.lst xs) (Q y)
def Rv:LR X "list.pop" YY:=VQ.mono λx xs H Q ⟨l,ys,y,e1,e2,h,q⟩=>⟨l,ys++[y],y,e1,e2,h,by simp,by rw [List.dropLast_concat];exact q.at⟩
def Va:FX:=λo i v H Q=>∃p xs k j,o=.ref p/\i=.int k/\H p=ap (.lst xs)/\nA xs.length k=ap j/\vD H p (.lst (xs.set j v)) Q
def oq:FY X Va:=set_list.mono λo i v H Q ⟨p,xs,k,j,e1,e2,h,hj,q⟩=>⟨p,xs,k,j,e1,e2,h,hj,q.at⟩
def Vb:FX:=λo i v H Q=>∃p kvs k,o=.ref p/\i=kV k/\H p=ap (.dK kvs)/\kvs.length < sizeLine/\vD H p (.dK (putK kvs k v)) Q
def Kc (hu:X.A.units+1 < pc):FY X Vb:=λZ s σ H o i v ov iv u Q I ro ri rv h=>by
 obtain⟨p,kvs,k,rfl,rfl,hp,hz,q⟩:=h;cases ro;exact ve hu I (LS.k hp hz) ri rv λs' I'=>⟨_,I',q.at⟩
end
section
variable (K:Ab) (hK:X.K=K) {t:TA}{name:Str}{XI:String}{r:V->List V->Hp->VK->Prop}
include hK
def Jo:P8 X (rIx K):=hK▸Wn
def Rj:hZ X (tz .Add) (TJ K):=hK▸Rk
def MC:S7 X (TH K):=hK▸MD
def Vd (K:Ab):List V->Hp->VK->Prop:=λxs H Q=>∃x n,xs=[x]/\aaX K x H n/\Q (.int n) H
def vg:bR X (.builtin "len") (Vd K):=hK▸Pm
def MX (K:Ab):List V->Hp->VK->Prop:=λxs H Q=>∃p ys,xs=[.ref p]/\(c6 K H p ys\/d7 K H p ys)/\kg H (.lst ys) Q
def HL:bR X (.type "list") (MX K):=hK▸HM
def Y8 (K:Ab):List V->Hp->VK->Prop:=λxs H Q=>∃(p:db) (bs:List Bool),xs=[.ref p]/\c6 K H p (bs.map V.bl)/\Q (.bl (bs.all id)) H
def LD (hc:X.calm=true):bR X (.builtin "all") (Y8 K):=hK▸HS hc
def Y7 (K:Ab):List V->Hp->VK->Prop:=λxs H Q=>∃(p:db) (bs:List Bool),xs=[.ref p]/\c6 K H p (bs.map V.bl)/\Q (.bl (bs.any id)) H
def LC (hc:X.calm=true):bR X (.builtin "any") (Y7 K):=hK▸HQ hc
def Vc (K:Ab):R2:=λx y H Q=>∃p q xs,x=.ref p/\y=.ref q/\c6 K H p xs/\c6 K H q []/\Q (.bl (!xs.isEmpty)) H
def rA (hu:X.A.units < pc):hZ X (mo .NotEq) (Vc K):=hK▸Ko hu
def acr (K:Ab) (ta:TE):TT:=λσ H Q=>ta σ H λx H'=>∃k,Xm K x H' k/\Q k H'
def uJ (ha:PE X a ta) (he:∀Æ,isTrue a X.env Æ=(do let v <- Æ;GT a.pos;sB [v] (truthy v))):PT X a (acr K ta):=hK▸M6 ha he
def Q8 (pa:PlainAttrs T) (slot:Slot T name XI) (Jt:typeOf (.builtin XI)=pure (.type "method_descriptor")) (hm:MtR X XI r) (ho:PE X o to)
  (eV:sw o name X.env (kw o X.env)=kw o X.env:=by rfl) (eU:(Â.endLine==bK.line)=true:=by rfl):PE X (.Call (.Attribute o name Â) [] [] bK) (YD K T r to):=hK▸Vv pa slot Jt hm ho eV eU
def rm (pa:PlainAttrs T) (slot:Slot T name XI) (Jt:typeOf (.builtin XI)=pure (.type "method_descriptor")) (hm:MtR X XI r) (ho:PE X o to) (ha:PA X (e::es) t)
  (eV:sw o name X.env (kw o X.env)=kw o X.env:=by rfl)
  (oQ:((lm bK (ce (e::es) X.env)).all (λx=>!x.1)&&(GE bK (Db [] X.env)).all (λx=>x.1.isSome)
   && decide ((e::es).length+([]:List ww).length+(if ([]:List ww).isEmpty then 0 else 1) < 30))=true:=by rfl)
  (eU:(Â.endLine==bK.line)=true:=by rfl) (hs:ce (e::es) X.env=(false,kw e X.env)::ce es X.env:=by rfl) (fo:(lm bK (ce es X.env)).any (·.1)=false:=by rfl) :
  PE X (.Call (.Attribute o name Â) (e::es) [] bK) (tBM K T r to t):=hK▸Zf pa slot Jt hm ho ha eV oQ eU hs fo
omit hK
end
structure Tf (P:ul) (w:wv) (K:Ab) (mg:Str->Option ci) (base:r9) (x:Str) (k:Nat) (ps:List Str) (sp:Sp) where
 f:db
 fd:FS
 ok:fu P w K mg base km k f fd ps sp
 bi:Binds K fd ps []
 kp:CI K (.ref f)=true
 at':mg x=ap (.ref f)
section
variable {t:TA}
def YC (sp:Sp) (t:TA):TE:=λσ H Q=>t σ H λvs H1=>sp vs H1 Q E0
def Nm (G:Tf X.prog X.w X.K X.mg X.base x k ps sp) (hr:c7 k' X.A) (hk:k<=k') (hg:Gl X x) (ha:PA X (e::es) t) (nF:(x==("__debug__":Str))=false:=by decide)
  (he:ce (e::es) X.env=(false,kw e X.env)::ce es X.env:=by rfl) (dJ:(lm pos (ce es X.env)).any (·.1)=false:=by rfl) :
  PE X (.Call (.Name x p) (e::es) [] pos) (YC sp t):=by
 intro Z s σ H Q I h;refine BL (Jg I hg G.at' ?_ nF);refine Fu (h₀:=X.base) I.ok.mod.kin G.kp (bE (ha pos Z s σ H _ I h) λus s1 ⟨vs,H1,I1,r,q⟩=>⟨I1.t4,?_⟩) he dJ;refine MK (dvs:=[]) (ds:=[]) G.ok (hr.mono hk) G.bi .nil TQ I1 r ?_;rw [CV];exact q
end
section
theorem Pu {xs:List α} (h0:0<=i) (h1:i < xs.length):∃v,bW xs i=ap v/\xs[i.toNat]?=ap v:=by
 have hk:i.toNat < xs.length:=by omega
 have q:=bV (by rw [Ad hk]);have e:((i.toNat:Nat):Int)=i:=by omega
 rw [e] at q;exact⟨_,q,by rw [Ad hk]⟩
def TX {j:Int} (h1:-18446744073709551616 < i) (h2:i < 18446744073709551616):t0 i j:=Tg.ok (.inl ⟨h1,h2⟩)
def mul_r {j:Int} (h1:-18446744073709551616 < j) (h2:j < 18446744073709551616):t0 i j:=Tg.ok (.inr ⟨h1,h2⟩)
end
def a9 (h:n<=1000):n<=sizeLine:=DZ (uG h)
section
variable (K:Ab) (hK:X.K=K)
include hK
def Vf (K:Ab):R2:=λx y H Q=>∃p q xs,x=.ref p/\y=.ref q/\c6 K H p xs/\c6 K H q []/\Q (.bl xs.isEmpty) H
def rB (hu:X.A.units < pc):hZ X (mo .Eq) (Vf K):=by
 subst hK;intro Z s σ H x y v u Q I rx ry h;obtain⟨p,q,xs,rfl,rfl,hp,hq,k⟩:=h;cases rx;cases ry;obtain⟨aw,r,pl,hz⟩:=I.list hp;obtain⟨cH,r2,Zb,hz2⟩:=I.list hq;cases r2;cases xs with
 | nil=>
  cases r;refine EZ (FH (e:=λ_=>true) pl.isList Zb.isList rfl hu λj h1=>absurd h1 (by simp)) ?_;exact⟨.bl true,H,I,rfl,k⟩
 | cons y ys=>
  have hl:=r.length;refine EZ (Eo pl.isList Zb.isList (by simp at hl ⊢;intro z;subst z;simp at hl) hu) ?_;exact⟨.bl false,H,I,rfl,k⟩
omit hK
end
end L2
variable {p1:Cv}
namespace L2
open PySem PySem.Spec PyProof.Rows
theorem Vals.yC:∀{xs:List V}{us:List ci},Vals xs us->Vals xs.reverse us.reverse
 | _,_,.nil=>.nil
 | _,_,.cons h t=>by rw [Dc,Dc];exact (Vals.yC t).append (.cons h .nil)
def VY:GM (.type "list_reverseiterator") (Cn "__len__")=pure bv:=by kernel_rfl
def RA:GM (.type "list_reverseiterator") (Cn "__length_hint__")=pure (ap (.builtin "list_reverseiterator.__length_hint__")):=by kernel_rfl
def QA:splitId "list_reverseiterator.__length_hint__"=ap ("list_reverseiterator","__length_hint__"):=by kernel_rfl
def Qu:isSubtype (.type "list_reverseiterator") (.type "list_reverseiterator")=pure true:=by kernel_rfl
def Oc {r:db}{Q:Bool->dL->Prop} (h:s.heap.IsRevIter r l i) (q:Q false s):d5 (ev prog w) A (Builtin.List.listLengthHint (AD r)) Q E s:=by
 refine Aa (DK h.typeIs VY ?_);refine Aa (DK h.typeIs RA ?_);dsimp only;rw [QA];dsimp only;refine Aa (Dm h.typeIs Qu ?_);rw [if_neg ⋯];exact Ag q
def tY {r S:db} (hA:A.handled=bv) (h:s.heap.IsRevIter r l (items.size-1)) (hl:s.heap.IsList l items) (Oa:l≠r) (ĭ:S≠r) (hSl:S≠l) (hz:items.size<=sizeLine)
  (hS:s.heap.get? S=ap {cls:=BZ "list",data:=Fd #[]})
  (q:∀(h':r9) (tk:Nat) (Ä:Array ci) (c:Nat),(∀b o,b≠S->b≠r->s.heap.get? b=ap o->h'.get? b=ap o)->h'.get? S=ap {cls:=BZ "list",data:=Fd Ä c}->ItemsOf (λi v=>items[items.size-1-i]?=ap v) Ä items.size->R (.ok (.ret .none)) {s with heap:=h',toks:=tk}) :
  d5 (ev prog w) A.in1 (Fk.«list.__init__» {pos:=[AD S,AD r]})
   (λfin s'=>match fin with | FQ f=>R (Except.ok f) s' | Fin.again c'=>c'.quiet=true/\Ix (ev prog w) A c' R s') (λe s'=>R (Except.error e) s') s:=by
 unfold Fk.«list.__init__»;refine Aa (wpAny_listItems hS rfl ?_);refine Aa ?_;refine DJ hS rfl ?_ (by simp) (by simp);refine Aa (Dz ?_);have k1:∀b o,b≠S->s.heap.get? b=ap o->(s.heap.update S (Bm λ_=>#[])).get? b=ap o:=λb o hb e=>by rw [C3 _ _ (BF hb)];exact e
 have hS1:=CD (Bm λ_=>#[]) hS rfl;generalize s.heap.update S (Bm λ_=>#[])=h1 at k1 hS1 ⊢;have ü:h1.IsRevIter r l (items.size-1):=let ⟨o,e,p⟩:=h;⟨o,k1 _ _ (BF ĭ) e,p⟩;have Ĥ:h1.IsList l items:=let ⟨o,e,p⟩:=hl;⟨o,k1 _ _ (BF hSl) e,p⟩;unfold Builtin.List.listExtendWith;refine Aa (Co (T:="list_reverseiterator") ü.typeIs ?_);rw [if_neg (by
  have e1:Builtin.List.listSameRef (AD S) (AD r)=false:=by
   unfold Builtin.List.listSameRef;simpa using ĭ
  rw [e1];decide)]
 refine Aa (wpAny_pyIter_revIter ü ?_);refine Aa (Be (Oc ü ?_));rw [if_neg ⋯];refine Ag ⟨plainId_quiet F.plain_extend_loop _,?_⟩;refine codeAny_extend_loopS (Walks.toS (Walks.listRev (A:=A.in1) hA r l Oa items)) hz S (by simp [ĭ,hSl]) .none items.size 0 _ #[] _ (DY _) (A7 _) ⟨A7 _,by simpa using ü,Ĥ⟩ hS1 (ItemsOf.nil _) ?_;intro s' Ä c mv e io;rw [mv.eq_with];exact q s'.heap s'.toks Ä c (λb o n1 n2 e'=>mv.heap b o (by simp [n1,n2]) (k1 b o n1 e')) e io
def uv {r:db} (hA:A.handled=bv) (h:s.heap.IsRevIter r l (items.size-1)) (hl:s.heap.IsList l items) (Oa:l≠r) (hz:items.size<=sizeLine)
  (q:∀(h':r9) (tk:Nat) (Ä:Array ci) (c:Nat),(∀b o,b≠r->s.heap.get? b=ap o->h'.get? b=ap o)->h'.get? s.heap.objs.size=ap {cls:=BZ "list",data:=Fd Ä c}->ItemsOf (λi v=>items[items.size-1-i]?=ap v) Ä items.size->Q (.ref s.heap.objs.size) {s with heap:=h',toks:=tk}) :
  d5 (ev prog w) A (call (BZ "list") [AD r]) Q E s:=by
 have lr:=let ⟨_,e,_⟩:=h;Ar e;have ll:=let ⟨_,e,_⟩:=hl;Ar e;refine callType_codes F.called_list (F.typeCall_list_1 _) F.entry_list_init (code_list_new (Q₁:=λv s₁=>v=.ref s.heap.objs.size/\s₁={s with heap:=s.heap.push {cls:=BZ "list",data:=Fd #[]}}) _ ⟨rfl,rfl⟩) ?_;rintro obj s₁ ⟨rfl,rfl⟩;refine⟨⟨_,Aq _ rfl,rfl⟩,F.args_list_init_2 _ _,?_⟩;have kp:∀b o,s.heap.get? b=ap o->(s.heap.push {cls:=BZ "list",data:=Fd #[]}).get? b=ap o:=λb o e=>Ah _ e;refine tY (A:=A.in1) (items:=items) (l:=l) hA (let ⟨o,e,p⟩:=h;⟨o,kp _ _ e,p⟩) (let ⟨o,e,p⟩:=hl;⟨o,kp _ _ e,p⟩) Oa (λz=>by rw [z] at lr;exact A9 _ lr) (λz=>by rw [z] at ll;exact A9 _ ll) hz (Aq _ rfl) ?_;intro h' tk Ä c k e io;exact⟨rfl,q h' tk Ä c (λb o n e'=>k b o (λz=>by rw [z] at e';exact A9 _ (Ar e')) n (kp b o e')) e io⟩
def tLR (K:Ab) (te:TE):TE:=λσ H Q=>te σ H λx H1=>∃p ys,x=.ref p/\c6 K H1 p ys/\kg H1 (.lst ys.reverse) Q
section
variable (K:Ab) (hK:X.K=K) {q1 q2:Pos}
include hK
theorem Gu (hc:X.calm=true) (Ĩ:Gl X "list") (ģ:X.mg "list"=bv) (ħ:Gl X "reversed") (XM:X.mg "reversed"=bv) (he:PE X e te)
  (F1:ce [.Call (.Name "reversed" q1) [e] [] q2] X.env=(false,kw (.Call (.Name "reversed" q1) [e] [] q2) X.env)::ce [] X.env:=by rfl) (qx:ce [e] X.env=(false,kw e X.env)::ce [] X.env:=by rfl) :
  PE X (.Call (.Name "list" p1) [.Call (.Name "reversed" q1) [e] [] q2] [] p2) (tLR K te):=by
 intro Z s σ H Q I h;subst hK;refine BL (jP I Ĩ ģ boot_list ?_ ⋯ ⋯);refine Bk ?_ F1 rfl;refine Cg ?_;refine BL (jP I ħ XM boot_reversed ?_ ⋯ ⋯);refine Bk ?_ qx rfl;rw [qx];refine Cg (bE (he Z s σ H _ I h) λu s1 ⟨x,H1,I1,r1,pa,ys,ex,hS,q⟩=>CG ?_);subst ex;cases r1;obtain⟨aw,rv,pl,hz⟩:=I1.list hS;have Á:=rv.length;have lp:=let ⟨_,e,_⟩:=pl.isList;Ar e;refine call_reversed_list pl.isList ?_;refine CG ?_;have kp:∀b o,s1.heap.get? b=ap o->(s1.heap.push (revObj pa (aw.toArray.size-1))).get? b=ap o:=λb o e=>Ah _ e;refine uv (items:=aw.toArray) (l:=pa) (r:=s1.heap.objs.size) (I1.ok.hd hc) ⟨_,Aq _ rfl,rfl,rfl⟩ (let ⟨o,e,p⟩:=pl.isList;⟨o,kp _ _ e,p⟩) (λz=>by rw [z] at lp;exact A9 _ lp) (by rw [Aj];omega) ?_;intro h' tk Ä c k e io;have kk:∀b o,s1.heap.get? b=ap o->h'.get? b=ap o:=λb o eb=>k b o (λz=>by rw [z] at eb;exact A9 _ (Ar eb)) (kp b o eb);have ea:Ä=aw.reverse.toArray:=by
  obtain⟨z1,z2⟩:=io;apply Array.ext
  ·rw [z1,Aj,Aj,Cu]
  ·intro j h1 h2;have:=z2 j Ä[j] (CO h1);rw [Aj] at this;have hj:j < aw.length:=by rw [z1,Aj] at h1;exact h1
   rw [E9] at this;have e3:aw.reverse[j]?=ap Ä[j]:=by rw [List.getElem?_reverse hj];exact this
   rw [DA];exact (Option.some.inj (((Ad (by rw [Cu];exact hj)).symm.trans e3))).symm
 subst ea;have qx:s1.heap.objs.size<=(s1.heap.push (revObj pa (aw.toArray.size-1))).objs.size:=by simp [Heap.push]
 refine⟨.ref _,upd H1 _ (.lst ys.reverse),I1.laid (t':=tk) kk qx ?_,rfl,q.at _ (I1.bI.fresh qx)⟩;exact⟨by rw [Cu];exact hz,aw.reverse,c,rv.yC,e⟩
end
end L2
variable {y:Ce}
namespace My
open PySem PySem.Spec PyProof.Rows L2
def Wd (x:Str):Prop:=1<=x.length/\x.length<=8/\∀c∈x.cps.toList,97<=c/\c < 123
def Part (x:Str) (n:Nat):Prop:=x.length<=n/\∀c∈x.cps.toList,97<=c/\c < 123
theorem Part.append {m:Nat} (a:Part x m) (b:Part y n):Part (x++y) (m+n):=by
 refine⟨?_,λc hc=>?_⟩
 ·rw [C2];have:=a.1;have:=b.1;omega
 ·rw [Str.cps_append,Array.toList_append] at hc;rcases AX.mp hc with h | h
  ·exact a.2 c h
  ·exact b.2 c h
theorem tZ {d st:Int} (h:st=1\/st=3\/st=5\/st=7\/st=9\/st=11) (hn:n<=26):((Av n).map λk:Nat=>ap (97+((d+st*(0+(k:Int))) % 26).toNat)).Nodup:=by
 unfold List.Nodup;rw [Em];refine List.Pairwise.imp_of_mem ?_ De;intro a b ha hb ë hz;have Ą:=AN.mp hb;have G7:=Option.some.inj hz;rcases h with rfl | rfl | rfl | rfl | rfl | rfl <;> omega
def wz {g:α->β}{l:List α} (h:(l.map g).Nodup):l.Nodup:=(Em.mp h).imp λh e=>h (congrArg g e)
def JV (x y:Str) (c:Nat):(x++⟨#[c]⟩++y).cps[x.length]?=ap c:=by
 show ((x.cps++#[c])++y.cps)[x.cps.size]?=ap c;rw [Array.getElem?_append_left (by simp),Array.getElem?_append_right (An _)];simp
def GS:∀k:_root_.Fin 26,bW ("abcdefghijklmnopqrstuvwxyz":Str).cps.toList (k.val:Int)=ap (97+k.val):=by decide +kernel
theorem Ku {n:Int} (h0:0<=n) (h1:n < 26):bW ("abcdefghijklmnopqrstuvwxyz":Str).cps.toList n=ap (97+n.toNat):=by
 have e:=GS ⟨n.toNat,by omega⟩;have e2:((n.toNat:Nat):Int)=n:=by omega
 rw [e2] at e;exact e
def Nq {c:Nat} (h0:97<=c) (h1:c < 123):Part ⟨#[c]⟩ 1:=by
 refine⟨An _,λd hd=>?_⟩;have:d=c:=by simpa using hd
 subst this;exact⟨h0,h1⟩
inductive Tr where
 | leaf (x:Str)
 | node (l r:Tr)
def Tr.aJ:Tr->List Str
 | .leaf x=>[x]
 | .node l r=>l.aJ++r.aJ
def Tr.size:Tr->Nat
 | .leaf _=>1
 | .node l r=>l.size+r.size+1
def Tr.depth:Tr->Nat
 | .leaf _=>0
 | .node l r=>max l.depth r.depth+1
def Tr.Ws (t:Tr):Prop:=∀x∈t.aJ,Wd x
theorem Tr.mD:∀t:Tr,1<=t.aJ.length
 | .leaf _=>An _
 | .node l r=>by have:=l.mD;show 1<=(l.aJ++r.aJ).length;rw [Ae];omega
theorem Tr.nT:∀t:Tr,t.depth < t.aJ.length
 | .leaf _=>Dn 0
 | .node l r=>by
  have h1:=l.nT;have h2:=r.nT;have h3:=l.mD;have h4:=r.mD;show max l.depth r.depth+1 < (l.aJ++r.aJ).length;rw [Ae];omega
theorem Tr.size_eq:∀t:Tr,t.size+1=2*t.aJ.length
 | .leaf _=>rfl
 | .node l r=>by
  have h1:=l.size_eq;have h2:=r.size_eq;show l.size+r.size+1+1=2*(l.aJ++r.aJ).length;rw [Ae];omega
def rV:∀k:_root_.Fin 26,(!(Builtin.Str.occurrences ("abcdefghijklmnopqrstuvwxyz":Str) ⟨#[97+k.val]⟩ 0 ("abcdefghijklmnopqrstuvwxyz":Str).length 1).isEmpty)=true:=by decide +kernel
theorem G4 {c:Nat} (h0:97<=c) (h1:c < 123):(!(Builtin.Str.occurrences ("abcdefghijklmnopqrstuvwxyz":Str) ⟨#[c]⟩ 0 ("abcdefghijklmnopqrstuvwxyz":Str).length 1).isEmpty)=true:=by
 have e:=rV ⟨c-97,by omega⟩;have e2:97+(c-97)=c:=by omega
 simp only [e2] at e;exact e
def sizes (ts:List Tr):Nat:=(ts.map Tr.size).sum
def bT (a b:List Tr):sizes (a++b)=sizes a+sizes b:=by unfold sizes;rw [AM,List.sum_append]
def fe (t:Tr):sizes [t]=t.size:=by simp [sizes]
theorem Tr.size_pos:∀t:Tr,1<=t.size
 | .leaf _=>An _
 | .node l r=>by show 1<=l.size+r.size+1;omega
theorem len_sizes:∀ts:List Tr,ts.length<=sizes ts
 | []=>An _
 | t::r=>by have:=len_sizes r;have:=t.size_pos;show r.length+1<=t.size+sizes r;omega
def Tr.post:Tr->List Tr
 | .leaf x=>[.leaf x]
 | .node l r=>l.post++r.post++[.node l r]
def Tr.post_len:∀t:Tr,t.post.length=t.size
 | .leaf _=>rfl
 | .node l r=>by show (l.post++r.post++[_]).length=l.size+r.size+1;rw [Ae,Ae,l.post_len,r.post_len];rfl
def posts (ts:List Tr):List Tr:=(ts.map Tr.post).flatten
def jH (a b:List Tr):posts (a++b)=posts a++posts b:=by unfold posts;rw [AM,List.flatten_append]
def oB (t:Tr):posts [t]=t.post:=by simp [posts]
def Kj (t u:Tr):posts [t,u]=t.post++u.post:=by simp [posts]
inductive Ent where
 | word (x:Str)
 | pair (a b:Nat)
def Tr.nd:Tr->Nat->List Ent
 | .leaf x,_=>[.word x]
 | .node l r,o=>l.nd o++r.nd (o+l.size)++[.pair (o+l.size-1) (o+l.size+r.size-1)]
def Tr.bz:∀(t:Tr) (o:Nat),(t.nd o).length=t.size
 | .leaf _,_=>rfl
 | .node l r,o=>by show (l.nd o++r.nd (o+l.size)++[_]).length=l.size+r.size+1;rw [Ae,Ae,l.bz,r.bz];rfl
def run:List Tr->List Ent->List Nat->Option (List Ent×List Nat)
 | [],À,ls=>ap (À,ls)
 | .leaf x::k,À,ls=>run k (À++[.word x]) (À.length::ls)
 | .node _ _::k,À,b::a::ls=>run k (À++[.pair a b]) (À.length::ls)
 | .node _ _::_,_,_=>bv
theorem qZ:∀(t:Tr) (k:List Tr) (À:List Ent) (ls:List Nat),run (t.post++k) À ls=run k (À++t.nd À.length) ((À.length+t.size-1)::ls)
 | .leaf x,k,À,ls=>rfl
 | .node l r,k,À,ls=>by
  have e1:(Tr.node l r).post++k=l.post++(r.post++(Tr.node l r::k)):=by show l.post++r.post++[_]++k=_;simp
  rw [e1,qZ l,qZ r];have e2:(À++l.nd À.length).length=À.length+l.size:=by rw [Ae,l.bz]
  rw [e2];show run k _ _=run k _ _;have e3:(À++l.nd À.length++r.nd (À.length+l.size)).length=À.length+(Tr.node l r).size-1:=by
   rw [Ae,Ae,l.bz,r.bz];show _=À.length+(l.size+r.size+1)-1;omega
  rw [e3];have e4:À++(Tr.node l r).nd À.length=À++l.nd À.length++r.nd (À.length+l.size)++[.pair (À.length+l.size-1) (À.length+l.size+r.size-1)]:=by
   show À++(l.nd À.length++r.nd (À.length+l.size)++[_])=_;simp
  rw [e4]
def Kg (t:Tr):run t.post [] []=ap (t.nd 0,[t.size-1]):=by
 have:=qZ t [] [] [];rw [CV] at this;rw [this];show ap ([]++t.nd 0,[0+t.size-1])=_;simp
end My
variable {xs:List L2.V}{x:A8}{i:Nat}{σ:L2.St}
namespace L2
open PySem PySem.Spec PyProof.Rows
def iu {t:db} (h:s.heap.IsTupleIter it t i) (ht:s.heap.IsTuple t items) (hx:items[i]?=ap x)
  (q:∀h':r9,h'.IsTupleIter it t (i+1)->Cb it s.heap h'->Q x {s with heap:=h'}):d5 (ev prog w) A (Builtin.SmallTypes.nextOf (.ref it)) Q E s:=by
 unfold Builtin.SmallTypes.nextOf;refine Aa (AZ h.typeIs Cf (Bg Cf h.typeIs DV ?_ (DG _)));obtain⟨o,ho,hc,hd⟩:=id h;obtain⟨ot,Ģ,htc,n,ĝ⟩:=id ht;show d5 _ _ (field (.ref it) 0 >>= λseq=>_) _ _ s;refine Aa (A4 ho hd rfl ?_);refine Aa (A4 ho hd rfl ?_);refine Aa (BH Ģ ĝ ?_);show d5 _ _ (match items[i]? with | some x=>(do EQ (.ref it) 1 (wP ((i:Int)+1));ret x) | none=>_) _ _ s;rw [hx];refine Aa (D8 ho hd (show 1 < 2 by decide) ?_);refine Ag ⟨x,rfl,Ag (q _ ⟨_,CD _ ho (by rw [E6 (CW hd _)]),by rw [Obj.cls_mapFields];exact hc,by rw [CW hd];rfl⟩ (Cb.update ..))⟩
def Qw {Q:α->dL->Prop} (hA:A.handled=bv)
  (q:∀(h':r9) (e:db),(∀b o,s.heap.get? b=ap o->h'.get? b=ap o)->(∃o,h'.get? e=ap o/\o.cls=.type "StopIteration")->E (.ref e) {s with heap:=h'}):d5 (ev prog w) A (Builtin.SmallTypes.stopIteration (α:=α)) Q E s:=by
 refine Aa ?_;refine Aa (CM ?_ (by show 0<=sizeLine;decide));refine Aa (CB (a:=AW) rfl ?_);refine Bh ?_ (sizeOk_excFields ..);unfold raiseNew;refine Aa (wpAny_handled ?_);rw [hA];refine wpAny_throw (q _ _ (λb o e=>Ah _ (Ah _ e)) ⟨_,Aq _ rfl,rfl⟩)
def i6 {t:db} (hA:A.handled=bv) (h:s.heap.IsTupleIter it t i) (ht:s.heap.IsTuple t items) (hx:items[i]?=bv)
  (q:∀(h':r9) (e:db),FN it s.heap h'->(∃o,h'.get? e=ap o/\o.cls=.type "StopIteration")->E (.ref e) {s with heap:=h'}):d5 (ev prog w) A (Builtin.SmallTypes.nextOf (.ref it)) Q E s:=by
 unfold Builtin.SmallTypes.nextOf;refine Aa (AZ h.typeIs Cf (Bg Cf h.typeIs DV ?_ (DG _)));obtain⟨o,ho,hc,hd⟩:=id h;obtain⟨ot,Ģ,htc,n,ĝ⟩:=id ht;show d5 _ _ (field (.ref it) 0 >>= λseq=>_) _ _ s;refine Aa (A4 ho hd rfl ?_);refine Aa (A4 ho hd rfl ?_);refine Aa (BH Ģ ĝ ?_);show d5 _ _ (match items[i]? with | some x=>(do EQ (.ref it) 1 (wP ((i:Int)+1));ret x) | none=>(do rule _;EQ (.ref it) 0 .none;Builtin.SmallTypes.stopIteration)) _ _ s;rw [hx];refine Aa (CK ?_);refine Aa (D8 ho hd (show 0 < 2 by decide) ?_);refine Qw (A:=A.in1) hA λh' e k ex=>q h' e (λb o n eb=>k b o ?_) ex;rw [(Cb.update _ _ _).2 b n];exact eb
def Inv.qQ {t':Nat}{a:db}{o:HO} (I:Inv X Z σ H s) (hf:∀b∈ch,uA X Z H b) (k:∀b u,b∉ch->s.heap.get? b=ap u->h'.get? b=ap u)
  (hp:s.heap.objs.size<=a) (new:bx X.prog X.w (upd H a o) h' a o):Inv X Z σ (upd H a o) {s with heap:=h',toks:=t'}:=by
 have hn:=I.bI.fresh hp;have TV:∀b u,H b=ap u->b∉ch:=λb u e z=>by rw [(hf b z).1] at e;cases e
 have nL:X.env.locals∉ch:=λz=>(hf _ z).2.1 rfl;refine I.step (g':=s.gens) (d':=s.drawn) (ch:=ch) (λb hb=>⟨(hf b hb).2.2.2.1,(hf b hb).2.1,(hf b hb).2.2.2.2.1,(hf b hb).2.2.2.2.2⟩) (λb u _ _ hc e _=>k b u hc e) (λb u _ _ hc e _=>⟨u.slots,k b u hc e⟩)
  (λb u _ e n=>by rw [aB (AJ (Az (Ar e) hp))];exact n) (λb u hc e=>⟨u,k b u hc e⟩) (λb xs e=>by rw [aB (bO e hn)];exact e) (λb u xs e=>by rw [aB (bO e hn)];exact e)
  (λb ps e=>⟨#[],by rw [aB (bO e hn),e];simp⟩) (λm hm=>?_) (λb u e=>?_) I.bare
 ·obtain⟨o',es,ep,ho,r⟩:=hm;exact⟨o',es,ep,k _ o' nL ho,r⟩
 ·by_cases hb:b=a
  ·subst hb;rw [aP] at e;cases e;exact new
  ·rw [aB hb] at e;refine (I.bI b u e).vN (λc v hc q=>k c v ?_ q) (λc q=>by rw [aB (bO q hn)];exact q) λc xs q=>by rw [aB (bO q hn)];exact q
   rcases hc with z | z
   ·rw [z];exact TV b u e
   ·exact TV c _ z
def Inv.vE {t':Nat} (I:Inv X Z σ H s) (hf:∀b∈ch,uA X Z H b) (k:∀b u,b∉ch->s.heap.get? b=ap u->h'.get? b=ap u) :
  Inv X Z σ H {s with heap:=h',toks:=t'}:=by
 have TV:∀b u,H b=ap u->b∉ch:=λb u e z=>by rw [(hf b z).1] at e;cases e
 have nL:X.env.locals∉ch:=λz=>(hf _ z).2.1 rfl;refine I.step (g':=s.gens) (d':=s.drawn) (ch:=ch) (λb hb=>⟨(hf b hb).2.2.2.1,(hf b hb).2.1,(hf b hb).2.2.2.2.1,(hf b hb).2.2.2.2.2⟩) (λb u _ _ hc e _=>k b u hc e) (λb u _ _ hc e _=>⟨u.slots,k b u hc e⟩)
  (λ_ _ _ _ n=>n) (λb u hc e=>⟨u,k b u hc e⟩) (λ_ _ e=>e) (λ_ _ _ e=>e) (λb ps e=>⟨#[],by rw [e];simp⟩) (λm hm=>?_) (λb u e=>?_) I.bare
 ·obtain⟨o',es,ep,ho,r⟩:=hm;exact⟨o',es,ep,k _ o' nL ho,r⟩
 ·refine (I.bI b u e).vN (λc v hc q=>k c v ?_ q) (λ_ q=>q) λ_ _ q=>q;rcases hc with z | z
  ·rw [z];exact TV b u e
  ·exact TV c _ z
def kr (h:Vals xs us):∀{i:Nat}{x:V},xs[i]?=ap x->∃u,us[i]?=ap u/\RelV x u:=by
 induction h with
 | nil=>intro i x e;simp at e
 | cons r t ih=>
  intro i x e;cases i with
  | zero=>simp at e;subst e;exact⟨_,rfl,r⟩
  | succ i=>exact ih (by simpa using e)
end L2
variable {e:BK}{Î:A8}{Ò:List BD}{kk:Nat}
namespace L2
open PySem PySem.Spec PyProof.Rows
def pU {E:ci->dL->Prop}{t:db} (L3:e≠it) (û:t≠e) (R3:t≠it)
  (hz:IsEnum s.heap e it i Î) (hi:s.heap.IsTupleIter it t i) (ht:s.heap.IsTuple t items) (hx:items[i]?=ap x)
  (q:∀(h':r9) (tk:Nat),IsEnumOut h' e it (i+1:Nat) x s.heap.objs.size->h'.IsTupleIter it t (i+1)->IsPair h' s.heap.objs.size (.int i s.toks) x->(∀c o,c≠e->c≠it->s.heap.get? c=ap o->h'.get? c=ap o)->Q (.ref s.heap.objs.size) {s with heap:=h',toks:=tk}) :
  d5 (ev prog w) A (Fk.«enumerate.__next__» {pos:=[.ref e]}) (λfin s'=>∃v,fin=FQ (FP v)/\Q v s') E s:=by
 show d5 _ _ (field (.ref e) 2 >>= λr=>_) _ _ s;refine Aa (A4 hz rfl rfl ?_);refine Aa (iu hi ht hx λh1 j1 b1=>?_);have z1:=(b1.2 _ L3).trans hz;refine Aa (A4 z1 rfl rfl ?_);refine Aa (A4 z1 rfl rfl ?_);refine Aa (wpAny_mkInt ?_);refine Aa (A6 z1 (show 3 < 6 by decide) λh2 z2 b2=>?_);refine Aa (A6 z2 (show 4 < 6 by decide) λh3 z3 b3=>?_);have sz3:=b3.1.trans (b2.1.trans b1.1);have Ð:∀b,b≠e->b≠it->h3.get? b=s.heap.get? b:=λb n1 n2=>(b3.2 b n1).trans ((b2.2 b n1).trans (b1.2 b n2));refine Aa (CM ?_ (by show 2<=sizeLine;decide));have kp:∀b o,h3.get? b=ap o->(h3.push {cls:=.type "tuple",data:=.seq [D2 i s.toks,x].toArray}).get? b=ap o:=λb o e=>Ah _ e;have VO:(h3.push {cls:=.type "tuple",data:=.seq [D2 i s.toks,x].toArray}).get? h3.objs.size=ap {cls:=.type "tuple",data:=.seq #[.int i s.toks,x]}:=Aq _ rfl;generalize h3.push {cls:=.type "tuple",data:=.seq [D2 i s.toks,x].toArray}=h4 at kp VO ⊢;have z4:h4.get? e=ap {cls:=.type "enumerate",data:=.fields #[.none,.bool false,.ref it,wP (i+1),.none,Î]}:=kp _ _ z3;refine Aa ?_;refine Aa (A4 z4 rfl rfl ?_);refine Ag ?_;refine Aa (CK ?_);refine Aa (A4 z4 rfl rfl ?_);refine Aa (A6 z4 (show 5 < 6 by decide) λh5 z5 b5=>?_);refine Aa ?_;refine Aa (A6 z5 (show 0 < 6 by decide) λh6 z6 b6=>?_);refine A6 z6 (show 1 < 6 by decide) λh7 z7 b7=>?_;refine Aa (Dz ?_);have WD:∀b,b≠e->h7.get? b=h4.get? b:=λb n=>(b7.2 b n).trans ((b6.2 b n).trans (b5.2 b n));have ne:s.heap.objs.size≠e:=λz=>by have:=Ar hz;rw [<- z] at this;exact A9 _ this
 refine Ag ⟨.ref h3.objs.size,rfl,?_⟩;rw [sz3] at z7 VO ⊢;refine q h7 _ ?_ ?_ ?_ ?_
 ·exact z7
 ·obtain⟨o,eo,p⟩:=j1;refine⟨o,?_,p⟩;rw [WD _ (BF L3)];exact kp _ _ ((b3.2 _ (BF L3)).trans ((b2.2 _ (BF L3)).trans eo))
 ·rw [IsPair,WD _ ne];exact VO
 ·intro c o n1 n2 ec;rw [WD _ n1];exact kp _ _ ((Ð _ n1 n2).trans ec)
def sJ {t:db}{Q:PySem.Fin->dL->Prop} (hA:A.handled=bv)
  (hz:IsEnum s.heap e it i Î) (hi:s.heap.IsTupleIter it t i) (ht:s.heap.IsTuple t items) (hx:items[i]?=bv)
  (q:∀(h':r9) (x:db),(∀c o,c≠it->s.heap.get? c=ap o->h'.get? c=ap o)->(∃o,h'.get? x=ap o/\o.cls=.type "StopIteration")->E (.ref x) {s with heap:=h'}) :
  d5 (ev prog w) A (Fk.«enumerate.__next__» {pos:=[.ref e]}) Q E s:=by
 show d5 _ _ (field (.ref e) 2 >>= λr=>_) _ _ s;refine Aa (A4 hz rfl rfl ?_);exact Aa (i6 hA hi ht hx λh' x k ex=>q h' x (λc o n e'=>k c o n e') ex)
def mZ {t:db}{Q:Option ci->dL->Prop} (L3:e≠it) (û:t≠e) (R3:t≠it)
  (hz:IsEnum s.heap e it i Î) (hi:s.heap.IsTupleIter it t i) (ht:s.heap.IsTuple t items) (hx:items[i]?=ap x)
  (q:∀(h':r9) (tk:Nat),IsEnumOut h' e it (i+1:Nat) x s.heap.objs.size->h'.IsTupleIter it t (i+1)->IsPair h' s.heap.objs.size (.int i s.toks) x->(∀c o,c≠e->c≠it->s.heap.get? c=ap o->h'.get? c=ap o)->Q (ap (.ref s.heap.objs.size)) {s with heap:=h',toks:=tk}) :
  d5 (ev prog w) A (pyNext (.ref e)) Q E s:=by
 have ty:s.TypeIs (.ref e) "enumerate":=⟨_,hz,rfl⟩;refine Aa (CU (AZ ty CF (Bg CF ty EK ?_ (Ex _))));exact pU L3 û R3 hz hi ht hx λh' tk a b c d=>Ag (q h' tk a b c d)
def ox {t:db}{Q:Option ci->dL->Prop} (hA:A.handled=bv)
  (hz:IsEnum s.heap e it i Î) (hi:s.heap.IsTupleIter it t i) (ht:s.heap.IsTuple t items) (hx:items[i]?=bv)
  (q:∀h':r9,(∀c o,c≠it->s.heap.get? c=ap o->h'.get? c=ap o)->Q bv {s with heap:=h'}) :
  d5 (ev prog w) A (pyNext (.ref e)) Q E s:=by
 have ty:s.TypeIs (.ref e) "enumerate":=⟨_,hz,rfl⟩;refine Aa (CU (AZ ty CF (Bg CF ty EK ?_ (Ex _))));refine sJ (A:=A.in1) hA hz hi ht hx λh' x k ex=>?_;obtain⟨o,eo,hc⟩:=ex;refine Aa (Dm (T:="StopIteration") ⟨o,eo,hc⟩ isSubtype_stop ?_);exact Ag (q h' k)
def pL (t:db) (items:Array ci):Meets (Fk.«enumerate.__new__» {pos:=[.type "enumerate",.ref t]}) (λ_ R s=>s.heap.IsTuple t items/\
  ∀h':r9,IsEnum h' (s.heap.objs.size+1) s.heap.objs.size (0:Nat) .none->h'.IsTupleIter s.heap.objs.size t 0->(∀b o,s.heap.get? b=ap o->h'.get? b=ap o)->R (.ok (.ret (.ref (s.heap.objs.size+1)))) {s with heap:=h'}):=
 .of_wp λprog w A R s h=>by
  obtain⟨h1,q⟩:=h;refine Aa ?_;refine Aa (CB (a:=true) rfl ?_);refine Aa (CB sub_enumerate ?_);refine Ag ?_;refine Aa ?_;refine Aa (wpAny_stack_any λst=>Ag ?_);have fin:d5 (ev prog w) A.in1 (pyIter (.ref t) >>= λit=>(Builtin.SmallTypes.newRecord (.type "enumerate") (Builtin.SmallTypes.ownedTupleFields++[it,wP 0,.none,.none]) >>= λr=>ret r)) (λfin s'=>∃v,fin=FQ (FP v)/\R (Except.ok (FP v)) s') (λe s'=>R (Except.error e) s') s:=by
   refine Aa (CY h1 ?_);have k1:∀b o,s.heap.get? b=ap o->(s.heap.push {cls:=.type "tuple_iterator",data:=.fields #[.ref t,.int 0 0]}).get? b=ap o:=λb o e=>Ah _ e;have g1:(s.heap.push {cls:=.type "tuple_iterator",data:=.fields #[.ref t,.int 0 0]}).get? s.heap.objs.size=ap {cls:=.type "tuple_iterator",data:=.fields #[.ref t,.int 0 0]}:=Aq _ rfl;have z1:(s.heap.push {cls:=.type "tuple_iterator",data:=.fields #[.ref t,.int 0 0]}).objs.size=s.heap.objs.size+1:=CJ ..;generalize s.heap.push {cls:=.type "tuple_iterator",data:=.fields #[.ref t,.int 0 0]}=ud at k1 g1 z1 ⊢;show d5 _ _ (newObj (.type "enumerate") (.fields #[.none,.bool false,.ref s.heap.objs.size,wP 0,.none,.none]) >>= λr=>ret r) _ _ _;refine Aa (Bh ?_ (by simp [sizeOk];decide));have g2:(ud.push {cls:=.type "enumerate",data:=.fields #[.none,.bool false,.ref s.heap.objs.size,wP 0,.none,.none]}).get? ud.objs.size=ap {cls:=.type "enumerate",data:=.fields #[.none,.bool false,.ref s.heap.objs.size,wP 0,.none,.none]}:=Aq _ rfl;refine Ag ⟨.ref ud.objs.size,rfl,?_⟩;rw [z1] at g2 ⊢;exact q _ g2 ⟨_,Ah _ g1,rfl,rfl⟩ λb o e=>Ah _ (k1 _ _ e)
  refine wpAny_ite_split (λ_=>?_) (λ_=>?_)
  ·exact Aa (CB (a:=(AD t,bv)) rfl fin)
  ·exact Aa (CB (a:=(AD t,bv)) rfl fin)
def HN {t:db} (h1:s.heap.IsTuple t items)
  (q:∀h':r9,IsEnum h' (s.heap.objs.size+1) s.heap.objs.size (0:Nat) .none->h'.IsTupleIter s.heap.objs.size t 0->(∀b o,s.heap.get? b=ap o->h'.get? b=ap o)->Q (.ref (s.heap.objs.size+1)) {s with heap:=h'}) :
  d5 (ev prog w) A (call (.type "enumerate") [.ref t]) Q E s:=
 callType_new F.called_enumerate ⋯ (F.typeCall_enumerate_1 _) (F.newCall_enumerate_1 _) (λo=>F.args_object_init_2 o _) F.entry_enumerate_new (pL t items) ⟨h1,λh' z i k=>⟨⟨_,z,rfl⟩,q h' z i k⟩⟩
def Ite (K:Ab) (a:db):It where
 go:=λi H=>∃xs x,d7 K H a xs/\xs[i]?=ap x
 Ti:=λi H v H'=>∃p x,v=.ref p/\H p=bv/\H'=upd H p (.tup [.int i,x])/\∀xs,d7 K H a xs->xs[i]?=ap x
 stop:=λi H=>∃xs,d7 K H a xs/\xs.length<=i
theorem JZ {K:Ab}{t:db} (L3:e≠it) (û:t≠e) (R3:t≠it):Turn P w K (.Tuple Ò kk pos) (Ite K t) [e,it] e (λi h=>(∃Î,IsEnum h e it (i:Nat) Î)/\h.IsTupleIter it t i) where
 mem:=by simp
 obj:=λi h st b hb=>by
  simp only [AA,BC,or_false] at hb;rcases hb with rfl | rfl
  ·obtain⟨⟨_,e⟩,_⟩:=st;exact⟨_,e,λv z=>by cases z⟩
  ·obtain⟨_,⟨o,e,_,d⟩⟩:=st;exact⟨o,e,λv z=>by rw [d] at z;cases z⟩
 keep:=λi h h' st k=>⟨let ⟨o,e'⟩:=st.1;⟨o,k e (by simp) _ e'⟩,let ⟨o,e',p⟩:=st.2;⟨o,k it (by simp) _ e',p⟩⟩
 item:=by
  intro X hP hw hK hc i Z s σ H E I hf st hg;subst hP hw hK;obtain⟨xs,x,hx,gx⟩:=hg;obtain⟨aw,rx,tx,_⟩:=I.tuple hx;obtain⟨u,gu,ru⟩:=kr rx gx;obtain⟨⟨Î,hz⟩,hi⟩:=st;refine mZ L3 û R3 hz hi tx (by simpa using gu) λh' tk zo j np k=>?_;refine⟨_,rfl,?_⟩;refine D9 zo λh2 z2 b2=>?_;have le:=Ar hz;have li:=let ⟨_,e',_⟩:=hi;Ar e';have lt:∀b∈[e,it],b < s.heap.objs.size:=λb hb=>by
   simp only [AA,BC,or_false] at hb;rcases hb with rfl | rfl
   ·exact le
   ·exact li
  have nz:s.heap.objs.size≠e:=λz=>A9 _ (by have:=le;rw [<- z] at this;exact this);have ZI:∀b o,b∉[e,it]->s.heap.get? b=ap o->h2.get? b=ap o:=λb o hb e'=>by
   have G7:b≠e:=λq=>hb (by simp [q]);rw [b2.2 b G7];exact k b o G7 (λq=>hb (by simp [q])) e'
  have Zs:h2.get? s.heap.objs.size=ap {cls:=.type "tuple",data:=.seq #[.int i s.toks,u]}:=(b2.2 _ nz).trans np;have ç:=I.bI.fresh (An s.heap.objs.size);refine⟨.ref s.heap.objs.size,upd H s.heap.objs.size (.tup [.int i,x]),I.qQ (t':=tk) hf ZI (An _) ⟨by show 2<=sizeLine;decide,[.int i s.toks,u],.cons ⟨_,rfl⟩ (.cons ru .nil),⟨_,Zs,rfl,_,rfl⟩⟩,rfl,⟨_,x,rfl,ç,rfl,λxs' h'=>by rw [I.ly h' hx];exact gx⟩,⟨⟨_,z2⟩,let ⟨o,e',p⟩:=j;⟨o,(b2.2 _ (BF L3)).trans e',p⟩⟩,λb hb=>?_⟩;rw [aB (AJ (lt b hb))];exact (hf b hb).1
 done:=by
  intro X hP hw hK hc i Z s σ H E I hf st hg;subst hP hw hK;obtain⟨xs,hx,hl⟩:=hg;obtain⟨aw,rx,tx,_⟩:=I.tuple hx;have el:=rx.length;obtain⟨⟨Î,hz⟩,hi⟩:=st;refine ox (I.ok.hd hc) hz hi tx (by simp;omega) λh' k=>⟨rfl,I.vE (t':=s.toks) hf λb o hb e'=>k b o (λz=>hb (by simp [z])) e'⟩
 self:=λA i s Q E st h=>let ⟨_,e'⟩:=st.1;C5 e' h
end L2
namespace My
open PySem PySem.Spec PyProof.Rows L2
def PF (l:List V) (i:Nat):Ent->List V
 | .word _=>l
 | .pair a b=>(l.set a (.int i)).set b (.int i)
def ah:List Ent->Nat->List V->List V
 | [],_,l=>l
 | e::es,i,l=>ah es (i+1) (PF l i e)
theorem xR:∀(es:List Ent) (e:Ent) (i:Nat) (l:List V),ah (es++[e]) i l=PF (ah es i l) (i+es.length) e
 | [],e,i,l=>rfl
 | x::es,e,i,l=>by
  show ah (es++[e]) (i+1) (PF l i x)=PF (ah es (i+1) (PF l i x)) (i+(es.length+1)) e;rw [xR es e];congr 1;omega
def S4 (l:List V) (i:Nat) (e:Ent):(PF l i e).length=l.length:=by cases e with
 | word=>rfl
 | pair=>show ((l.set _ _).set _ _).length=_;rw [BU,BU]
theorem HW:∀(es:List Ent) (i:Nat) (l:List V),(ah es i l).length=l.length
 | [],_,_=>rfl
 | e::es,i,l=>by show (ah es (i+1) (PF l i e)).length=_;rw [HW es,S4]
end My
namespace L2
open PySem PySem.Spec PyProof.Rows
def Y2 (K:Ab):V->V->Hp->VK->Prop:=λo i H Q=>∃p xs k x,o=.ref p/\i=.int k/\c6 K H p xs/\0<=k/\k < 1000/\xs[k.toNat]?=ap x/\Q x H
theorem Om (K:Ab) (hK:X.K=K):Xq X (Y2 K):=λZ s σ H o i ov iv Q I ro ri h=>by
 obtain⟨p,xs,k,x,rfl,rfl,hp,k0,k1,hx,q⟩:=h;subst hK;cases ro;obtain⟨t,rfl⟩:=ri;obtain⟨aw,r,pl,hz⟩:=I.list hp;obtain⟨u,gu,ru⟩:=kr r hx;exact wpAny_getItem_list pl.isList k0 ∅ (by simpa using gu) ⟨x,H,I,ru,q⟩
end L2
variable {x:Ce}
namespace My
open PySem PySem.Spec PyProof.Rows L2
theorem Mb {c:Nat} (a:Part x 1) (b:Part y 6) (h0:97<=c) (h1:c < 123):Wd (x++⟨#[c]⟩++y):=by
 have q:=(a.append (Nq h0 h1)).append b;refine⟨?_,q.1,q.2⟩;rw [C2,C2];show 1<=x.length+1+y.length;omega
end My
namespace L2
open PySem PySem.Spec PyProof.Rows
def Itd (lo:Int) (n:Nat):It:=⟨λi _=>i < n,λi H x H'=>H'=H/\x=.int (lo-i),λi _=>n<=i⟩
theorem yp {K:Ab} (it:db) (lo:Int) (n:Nat):Turn P w K tg (Itd lo n) [it] it (λi h=>IsRangeIter h it (lo+(i:Nat)*(-1)) ((n:Int)-(i:Nat)) (-1)) where
 mem:=by simp
 obj:=λi h st b hb=>by
  have e:b=it:=by simpa using hb
  subst e;exact⟨_,st,λv z=>by
   have z':=z;cases z'⟩
 keep:=λi h h' st k=>k it (by simp) _ st
 item:=by
  intro X hP hw hK hc i Z s σ H E I hf st hg;subst hP hw hK;obtain⟨f0,f1,f2,f3,f4,f5⟩:=hf it (by simp);have W:=Walks.range (prog:=X.prog) (w:=X.w) (I.ok.hd hc) it lo (-1) n;refine W.item i s _ _ hg st λv h' tk hv mN kk=>?_;obtain⟨t,rfl⟩:=hv;have I1:Inv X Z σ H {s with heap:=h',toks:=tk}:=I.turned (λb o hb e=>kk b o (by simpa using hb) e) f0 f1 f3 f4 f5;refine⟨_,rfl,se (s:={s with heap:=h',toks:=tk}) (n:="range_iterator") mN rfl rfl ⋯ ⟨.int (lo-i),H,I1,⟨t,?_⟩,⟨rfl,rfl⟩,mN,λb hb=>(hf b hb).1⟩⟩;rw [show lo+(i:Int)*(-1)=lo-i by omega]
 done:=by
  intro X hP hw hK hc i Z s σ H E I hf st hg;obtain⟨f0,f1,f2,f3,f4,f5⟩:=hf it (by simp);exact wpAny_pyNext_range_end (I.ok.hd hc) st (by have:n<=i:=hg;omega) λh' eb=>⟨rfl,I.turned (t':=s.toks) (λb o hb e=>eb b o hb e) f0 f1 f3 f4 f5⟩
 self:=λ_ _ _ _ _ st h=>wpAny_pyIter_rangeiter st h
section
theorem Kh {σ:St}{R:It->Hp->Prop}{lo hi:Int}{t u v:Tok}{tk:Nat} (I:Inv X Z σ H s) (h1:-(2 ^ 62)<=lo) (h2:lo < 2 ^ 62) (h3:-(2 ^ 62)<=hi) (h4:hi < 2 ^ 62)
  (q:R (Itd lo (lo-hi).toNat) H):d5 (ev X.prog X.w) X.A (pyIter (.ref s.heap.objs.size)) (PIE X Z σ tg R) E {s with heap:=s.heap.push {cls:=.type "range",data:=.fields #[.int lo t,.int hi u,.int (-1) v]},toks:=tk}:=by
 refine wpAny_pyIter_range (IsRange.new ..) (PySem.W.small_down h1 h2 h3 h4) ?_;have I1:Inv X Z σ H {s with heap:=s.heap.push {cls:=.type "range",data:=.fields #[.int lo t,.int hi u,.int (-1) v]},toks:=tk}:=I.kept λb o e=>Ah _ e;refine⟨(s.heap.push {cls:=.type "range",data:=.fields #[.int lo t,.int hi u,.int (-1) v]}).objs.size,[(s.heap.push {cls:=.type "range",data:=.fields #[.int lo t,.int hi u,.int (-1) v]}).objs.size],_,_,H,rfl,
  I1.kept (t':=tk) λb o e=>Ah _ e,yp _ lo (lo-hi).toNat,?_,λb hb=>?_,q⟩
 ·have e1:lo+((0:Nat):Int)*(-1)=lo:=by simp
  have e2:(((lo-hi).toNat:Nat):Int)-((0:Nat):Int)=Builtin.Range.rangeSize lo hi (-1):=by rw [PySem.W.rangeSize_down];split <;> omega
  show IsRangeIter _ _ (lo+((0:Nat):Int)*(-1)) ((((lo-hi).toNat:Nat):Int)-((0:Nat):Int)) (-1);rw [e1,e2];exact Aq _ rfl
 ·have e:b=(s.heap.push {cls:=.type "range",data:=.fields #[.int lo t,.int hi u,.int (-1) v]}).objs.size:=by simpa using hb
  subst e;exact I1.uj (An _) (I1.bI.fresh (An _))
def ZQ (ta:TA):TI:=λσ H R=>ta σ H λvs H1=>∃i j:Int,vs=[.int i,.int j,.int (-1)]/\(-(2 ^ 62)<=i/\i < 2 ^ 62/\-(2 ^ 62)<=j/\j < 2 ^ 62)/\R (Itd i (i-j).toNat) H1
def Kl {c:lw}{ta:TA} (hg:Gl X "range") (hm:X.mg "range"=bv) (ha:PA X [a,b,c] ta) (hs:ce [a,b,c] X.env=[(false,kw a X.env),(false,kw b X.env),(false,kw c X.env)]:=by rfl) (qx:ce [b,c] X.env=[(false,kw b X.env),(false,kw c X.env)]:=by rfl) :
  PI X tg (.Call (.Name "range" p) [a,b,c] [] pos) (ZQ ta):=by
 intro Z s σ H R I h;refine Call_ (jP I hg hm boot_range (Bk (bE (ha pos Z s σ H _ I h) λus s1 ⟨vs,H1,I1,r1,q1⟩=>?_) (by rw [hs,qx]) (by rw [qx];rfl)));obtain⟨i,j,e,⟨q1,q2,q3,q4⟩,q⟩:=q1;subst e;cases r1 with
 | cons r rr=>
  cases rr with
  | cons r' rr=>
   cases rr with
   | cons r'' rr=>
    cases rr;obtain⟨t,rfl⟩:=r;obtain⟨t',rfl⟩:=r';obtain⟨t'',rfl⟩:=r'';refine call_range_3 ⋯ (Kh I1 q1 q2 q3 q4 q) (.inl ?_);unfold Builtin.divisionGoesByPylong;have e1:decide ((if ((-1:Int)==0)=true then 0 else (-1:Int).natAbs.log2 / 30+1) > 300)=false:=by decide
    simp only [e1,Fi]
end
def aaZ (K:Ab) (a:db):It where
 go:=λi H=>∃xs x,c6 K H a xs/\xs[i]?=ap x
 Ti:=λi H v H'=>∃p x,v=.ref p/\H p=bv/\H'=upd H p (.tup [.int i,x])/\∀xs,c6 K H a xs->xs[i]?=ap x
 stop:=λi H=>∃xs,c6 K H a xs/\xs.length<=i
theorem Ga {K:Ab}{t:db} (L3:e≠it):Turn P w K (.Tuple Ò kk pos) (aaZ K t) [e,it] e (λi h=>(∃Î,IsEnum h e it (i:Nat) Î)/\h.IsListIter it t i) where
 mem:=by simp
 obj:=λi h st b hb=>by
  simp only [AA,BC,or_false] at hb;rcases hb with rfl | rfl
  ·obtain⟨⟨_,e⟩,_⟩:=st;exact⟨_,e,λv z=>by cases z⟩
  ·obtain⟨_,⟨o,e,_,d⟩⟩:=st;exact⟨o,e,λv z=>by rw [d] at z;cases z⟩
 keep:=λi h h' st k=>⟨let ⟨o,e'⟩:=st.1;⟨o,k e (by simp) _ e'⟩,let ⟨o,e',p⟩:=st.2;⟨o,k it (by simp) _ e',p⟩⟩
 item:=by
  intro X hP hw hK hc i Z s σ H E I hf st hg;subst hP hw hK;obtain⟨xs,x,hx,gx⟩:=hg;obtain⟨aw,rx,tx,_⟩:=I.list hx;obtain⟨u,gu,ru⟩:=kr rx gx;obtain⟨⟨Î,hz⟩,hi⟩:=st;refine wpAny_pyNext_enum_item hz hi tx.isList (by simpa using gu) L3 λh' zo j np _ k=>?_;refine⟨_,rfl,?_⟩;refine D9 zo λh2 z2 b2=>?_;have le:=Ar hz;have li:=let ⟨_,e',_⟩:=hi;Ar e';have lt:∀b∈[e,it],b < s.heap.objs.size:=λb hb=>by
   simp only [AA,BC,or_false] at hb;rcases hb with rfl | rfl
   ·exact le
   ·exact li
  have nz:s.heap.objs.size≠e:=λz=>A9 _ (by have:=le;rw [<- z] at this;exact this);have ZI:∀b o,b∉[e,it]->s.heap.get? b=ap o->h2.get? b=ap o:=λb o hb e'=>by
   have G7:b≠e:=λq=>hb (by simp [q]);rw [b2.2 b G7];exact k b o G7 (λq=>hb (by simp [q])) e'
  have Zs:h2.get? s.heap.objs.size=ap {cls:=.type "tuple",data:=.seq #[.int i s.toks,u]}:=(b2.2 _ nz).trans np;have ç:=I.bI.fresh (An s.heap.objs.size);refine⟨.ref s.heap.objs.size,upd H s.heap.objs.size (.tup [.int i,x]),I.qQ (t':=s.toks+1) hf ZI (An _) ⟨by show 2<=sizeLine;decide,[.int i s.toks,u],.cons ⟨_,rfl⟩ (.cons ru .nil),⟨_,Zs,rfl,_,rfl⟩⟩,rfl,⟨_,x,rfl,ç,rfl,λxs' h'=>by rw [I.y7 h' hx];exact gx⟩,⟨⟨_,z2⟩,let ⟨o,e',p⟩:=j;⟨o,(b2.2 _ (BF L3)).trans e',p⟩⟩,λb hb=>?_⟩;rw [aB (AJ (lt b hb))];exact (hf b hb).1
 done:=by
  intro X hP hw hK hc i Z s σ H E I hf st hg;subst hP hw hK;obtain⟨xs,hx,hl⟩:=hg;obtain⟨aw,rx,tx,_⟩:=I.list hx;have el:=rx.length;obtain⟨⟨Î,hz⟩,hi⟩:=st;refine wpAny_pyNext_enum_end (I.ok.hd hc) hz hi tx.isList (by simp;omega) λh' k=>⟨rfl,I.vE (t':=s.toks) hf λb o hb e'=>k b o (λz=>hb (by simp [z])) e'⟩
 self:=λA i s Q E st h=>let ⟨_,e'⟩:=st.1;C5 e' h
end L2
namespace My
open PySem PySem.Spec PyProof.Rows L2
def en:Tr->Nat->Nat->Ent
 | .leaf x,_,_=>.word x
 | .node l r,o,j=>if j < l.size then en l o j else if j < l.size+r.size then en r (o+l.size) (j-l.size) else .pair (o+l.size-1) (o+l.size+r.size-1)
def up:Tr->Nat->Nat->List Nat->List Nat
 | .leaf _,o,_,ab=>o::ab
 | .node l r,o,j,ab=>if j < l.size then up l o j ((o+l.size+r.size)::ab) else if j < l.size+r.size then up r (o+l.size) (j-l.size) ((o+l.size+r.size)::ab) else (o+l.size+r.size)::ab
def jZ:Tr->Nat->Nat->V->V
 | .leaf _,_,_,p=>p
 | .node l r,o,j,p=>if j < l.size then jZ l o j (.int (o+l.size+r.size:Nat)) else if j < l.size+r.size then jZ r (o+l.size) (j-l.size) (.int (o+l.size+r.size:Nat)) else p
def be:Tr->Nat->Nat->List Nat
 | .leaf _,o,_=>[o]
 | .node l r,o,j=>if j < l.size then be l o j else if j < l.size+r.size then be r (o+l.size) (j-l.size) else be l o (l.size-1)++be r (o+l.size) (r.size-1)
theorem fJ:∀(t:Tr) (o j:Nat),j < t.size->(t.nd o)[j]?=ap (en t o j)
 | .leaf x,o,j,h=>by
  have:j=0:=by have:j < 1:=h;omega
  subst this;rfl
 | .node l r,o,j,h=>by
  have es:(Tr.node l r).size=l.size+r.size+1:=rfl;have hn:(Tr.node l r).nd o=l.nd o++r.nd (o+l.size)++[.pair (o+l.size-1) (o+l.size+r.size-1)]:=rfl;have ln:=l.bz o;have rn:=r.bz (o+l.size);unfold en;by_cases c1:j < l.size
  ·rw [if_pos c1,hn,AR,Ay ∅];exact fJ l o j c1
  ·rw [if_neg c1];by_cases c2:j < l.size+r.size
   ·rw [if_pos c2,hn,AR,AB ∅,Ay ∅,ln];exact fJ r _ _ ∅
   ·rw [if_neg c2,hn,AB (by rw [Ae];omega),Ae,ln,rn];have:j-(l.size+r.size)=0:=by omega
    rw [this];rfl
theorem Pp:∀(t:Tr) (o j:Nat),j < t.size->(∃x,en t o j=.word x/\be t o j=[o+j])\/∃a b,en t o j=.pair (o+a) (o+b)/\a < j/\b < j/\be t o j=be t o a++be t o b
 | .leaf x,o,j,h=>by
  have:j=0:=by have:j < 1:=h;omega
  subst this;exact .inl ⟨x,rfl,rfl⟩
 | .node l r,o,j,h=>by
  have es:(Tr.node l r).size=l.size+r.size+1:=rfl;have lp:=l.size_pos;have rp:=r.size_pos;by_cases c1:j < l.size
  ·have e1:en (.node l r) o j=en l o j:=by rw [en,if_pos c1]
   have e2:∀k,k < l.size->be (.node l r) o k=be l o k:=λk hk=>by rw [be,if_pos hk]
   rw [e1];rcases Pp l o j c1 with⟨x,q1,q2⟩ | ⟨a,b,q1,q2,q3,q4⟩
   ·exact .inl ⟨x,q1,by rw [e2 j c1];exact q2⟩
   ·exact .inr ⟨a,b,q1,q2,q3,by rw [e2 j c1,e2 a ∅,e2 b ∅];exact q4⟩
  ·by_cases c2:j < l.size+r.size
   ·have e1:en (.node l r) o j=en r (o+l.size) (j-l.size):=by rw [en,if_neg c1,if_pos c2]
    have e2:∀k,k < r.size->be (.node l r) o (l.size+k)=be r (o+l.size) k:=λk hk=>by
     rw [be,if_neg ∅,if_pos ∅];congr 1;omega
    have ej:j=l.size+(j-l.size):=by omega
    rw [e1];rcases Pp r (o+l.size) (j-l.size) ∅ with⟨x,q1,q2⟩ | ⟨a,b,q1,q2,q3,q4⟩
    ·refine .inl ⟨x,q1,?_⟩;rw [ej,e2 _ ∅,q2];congr 1;omega
    ·refine .inr ⟨l.size+a,l.size+b,?_,by omega,by omega,?_⟩
     ·rw [q1,A3,A3]
     ·rw [e2 a ∅,e2 b ∅,ej,e2 _ ∅,q4]
   ·have ej:j=l.size+r.size:=by omega
    refine .inr ⟨l.size-1,l.size+r.size-1,?_,by omega,by omega,?_⟩
    ·rw [en,if_neg c1,if_neg c2];congr 1 <;> omega
    ·rw [be,if_neg c1,if_neg c2,be,if_pos ∅,be,if_neg ∅,if_pos ∅];congr 2;omega
theorem qO:∀(t:Tr) (o j:Nat) (p:V) (ab:List Nat),j < t.size->(j=t.size-1/\jZ t o j p=p/\up t o j ab=(o+j)::ab)\/∃a,j < a/\a < t.size/\jZ t o j p=.int (o+a:Nat)/\up t o j ab=(o+j)::up t o a ab
 | .leaf x,o,j,p,ab,h=>by
  have:j=0:=by have:j < 1:=h;omega
  subst this;exact .inl ⟨rfl,rfl,rfl⟩
 | .node l r,o,j,p,ab,h=>by
  have es:(Tr.node l r).size=l.size+r.size+1:=rfl;have lp:=l.size_pos;have rp:=r.size_pos;have er:up (.node l r) o (l.size+r.size) ab=(o+l.size+r.size)::ab:=by rw [up,if_neg ∅,if_neg ∅]
  by_cases c1:j < l.size
  ·have e1:jZ (.node l r) o j p=jZ l o j (.int (o+l.size+r.size:Nat)):=by rw [jZ,if_pos c1]
   have e2:∀k,k < l.size->up (.node l r) o k ab=up l o k ((o+l.size+r.size)::ab):=λk hk=>by rw [up,if_pos hk]
   rw [e1,e2 j c1];rcases qO l o j (.int (o+l.size+r.size:Nat)) ((o+l.size+r.size)::ab) c1 with⟨q1,q2,q3⟩ | ⟨a,q1,q2,q3,q4⟩
   ·refine .inr ⟨l.size+r.size,by omega,by omega,by rw [q2,A3],by rw [q3,er]⟩
   ·exact .inr ⟨a,q1,by omega,q3,by rw [q4,e2 a q2]⟩
  ·by_cases c2:j < l.size+r.size
   ·have e1:jZ (.node l r) o j p=jZ r (o+l.size) (j-l.size) (.int (o+l.size+r.size:Nat)):=by rw [jZ,if_neg c1,if_pos c2]
    have e2:∀k,k < r.size->up (.node l r) o (l.size+k) ab=up r (o+l.size) k ((o+l.size+r.size)::ab):=λk hk=>by
     rw [up,if_neg ∅,if_pos ∅];congr 1;omega
    obtain⟨i,rfl⟩:∃i,j=l.size+i:=⟨j-l.size,by omega⟩;have ei:l.size+i-l.size=i:=by omega
    rw [e1,e2 i ∅,ei];rcases qO r (o+l.size) i (.int (o+l.size+r.size:Nat)) ((o+l.size+r.size)::ab) ∅ with⟨q1,q2,q3⟩ | ⟨a,q1,q2,q3,q4⟩
    ·refine .inr ⟨l.size+r.size,by omega,by omega,by rw [q2,A3],by rw [q3,er,A3]⟩
    ·exact .inr ⟨l.size+a,by omega,by omega,by rw [q3,A3],by rw [q4,e2 a q2,A3]⟩
   ·have ej:j=l.size+r.size:=by omega
    refine .inl ⟨by omega,by rw [jZ,if_neg c1,if_neg c2],?_⟩;rw [ej,er,A3]
def mq:Tr->Nat->V->List V
 | .leaf _,_,p=>[p]
 | .node l r,o,p=>mq l o (.int (o+l.size+r.size:Nat))++mq r (o+l.size) (.int (o+l.size+r.size:Nat))++[p]
theorem jY:∀(t:Tr) (o:Nat) (p:V),(mq t o p).length=t.size
 | .leaf _,_,_=>rfl
 | .node l r,o,p=>by
  unfold mq;rw [Ae,Ae,jY l,jY r];rfl
theorem JQ (t:Tr) (o:Nat) (p q:V) (A B:List V):(A++mq t o p++B).set (A.length+t.size-1) q=A++mq t o q++B:=by
 have key:∃I,mq t o p=I++[p]/\mq t o q=I++[q]:=by
  cases t with
  | leaf _=>exact⟨[],rfl,rfl⟩
  | node l r=>exact⟨_,rfl,rfl⟩
 obtain⟨I,e1,e2⟩:=key;have h1:=jY t o p;rw [e1,Ae] at h1;have gs:I.length+1=t.size:=h1;rw [e1,e2];have ei:A.length+t.size-1=(A++I).length:=by rw [Ae];omega
 rw [ei,show A++(I++[p])++B=(A++I)++p::B by simp,E7 _ _ (An _),Cp];simp
theorem PB:∀(es fs:List Ent) (i:Nat) (l:List V),ah (es++fs) i l=ah fs (i+es.length) (ah es i l)
 | [],fs,i,l=>rfl
 | e::es,fs,i,l=>by
  show ah (es++fs) (i+1) (PF l i e)=ah fs (i+(es.length+1)) (ah es (i+1) (PF l i e));rw [PB es fs];congr 1;omega
theorem HX:∀(t:Tr) (A B:List V),ah (t.nd A.length) A.length (A++Am t.size .aX++B)=A++mq t A.length .aX++B
 | .leaf x,A,B=>rfl
 | .node l r,A,B=>by
  have es:(Tr.node l r).size=l.size+r.size+1:=rfl;have hn:(Tr.node l r).nd A.length=l.nd A.length++r.nd (A.length+l.size)++[.pair (A.length+l.size-1) (A.length+l.size+r.size-1)]:=rfl;have ln:=l.bz A.length;have rn:=r.bz (A.length+l.size);have h1:=HX l A (Am r.size .aX++([V.aX]++B));have e0:A++Am (Tr.node l r).size V.aX++B=A++Am l.size .aX++(Am r.size .aX++([V.aX]++B)):=by
   rw [es,<- Dg,<- Dg];simp only [AR];rfl
  rw [hn,xR,PB,e0,h1,ln];have la:(A++mq l A.length V.aX).length=A.length+l.size:=by rw [Ae,jY]
  have h2:=HX r (A++mq l A.length V.aX) ([V.aX]++B);rw [la] at h2;have e1:A++mq l A.length V.aX++(Am r.size V.aX++([V.aX]++B))=A++mq l A.length V.aX++Am r.size V.aX++([V.aX]++B):=by simp [AR]
  rw [e1,h2,Ae,ln,rn];show ((_:List V).set (A.length+l.size-1) _).set (A.length+l.size+r.size-1) _=_;have s1:=JQ l A.length .aX (.int (A.length+(l.size+r.size):Nat)) A (mq r (A.length+l.size) V.aX++([V.aX]++B));have e2:A++mq l A.length V.aX++mq r (A.length+l.size) V.aX++([V.aX]++B)=A++mq l A.length V.aX++(mq r (A.length+l.size) V.aX++([V.aX]++B)):=by simp [AR]
  rw [e2,s1];have lb:(A++mq l A.length (V.int (A.length+(l.size+r.size):Nat))).length=A.length+l.size:=by rw [Ae,jY]
  have s2:=JQ r (A.length+l.size) .aX (.int (A.length+(l.size+r.size):Nat)) (A++mq l A.length (V.int (A.length+(l.size+r.size):Nat))) ([V.aX]++B);rw [lb] at s2;have e3:A++mq l A.length (V.int (A.length+(l.size+r.size):Nat))++(mq r (A.length+l.size) V.aX++([V.aX]++B))=A++mq l A.length (V.int (A.length+(l.size+r.size):Nat))++mq r (A.length+l.size) V.aX++([V.aX]++B):=by simp [AR]
  rw [e3,s2];have e4:mq (.node l r) A.length .aX=mq l A.length (.int (A.length+l.size+r.size:Nat))++mq r (A.length+l.size) (.int (A.length+l.size+r.size:Nat))++[.aX]:=rfl;rw [e4,A3 A.length l.size r.size];simp [AR]
theorem xP:∀(t:Tr) (o j:Nat) (p:V),j < t.size->(mq t o p)[j]?=ap (jZ t o j p)
 | .leaf x,o,j,p,h=>by
  have:j=0:=by have:j < 1:=h;omega
  subst this;rfl
 | .node l r,o,j,p,h=>by
  have es:(Tr.node l r).size=l.size+r.size+1:=rfl;have ln:=jY l o (.int (o+l.size+r.size:Nat));have rn:=jY r (o+l.size) (.int (o+l.size+r.size:Nat));unfold mq jZ;by_cases c1:j < l.size
  ·rw [if_pos c1,AR,Ay ∅];exact xP l _ _ _ c1
  ·rw [if_neg c1];by_cases c2:j < l.size+r.size
   ·rw [if_pos c2,AR,AB ∅,Ay ∅,ln];exact xP r _ _ _ ∅
   ·rw [if_neg c2,AB (by rw [Ae];omega),Ae,ln,rn];have:j-(l.size+r.size)=0:=by omega
    rw [this];rfl
def Xj (t:Tr) (h:j < t.size):(ah (t.nd 0) 0 (Am t.size .aX))[j]?=ap (jZ t 0 j .aX):=by
 have q:=HX t [] [];have e:([]:List V)++Am t.size .aX++[]=Am t.size .aX:=by simp
 have e2:([]:List V)++mq t ([]:List V).length .aX++[]=mq t 0 .aX:=by simp
 rw [e,e2] at q;have q':ah (t.nd 0) 0 (Am t.size .aX)=mq t 0 .aX:=q;rw [q'];exact xP t 0 j .aX h
end My
variable {H1:L2.Hp}{ι:List BK}
namespace PL
section
open PySem PySem.Spec PyProof.Rows L2
variable {K:Ab}
def Uy (K:Ab) (H:Hp) (a:db) (xs:List V):Prop:=(∃o,H a=ap (.cO o (.lst xs)))\/
  ∃(o:Obj) (aw:Array ci) (n:Nat),K.lookup a=ap o/\o.cls=.type "list"/\o.dict=bv/\o.data=.seq aw n/\aw.size<=sizeLine/\Vals xs aw.toList
def Uy.sq {a:db} (h:Uy K H a xs):c6 K H a xs:=h.elim (λh=>.inl (.inr h)) .inr
structure bD (K:Ab) (H H':Hp):Prop where
 t:∀p vs,H p=ap (.tup vs)->H' p=ap (.tup vs)
 z:∀p o u,H p=ap (.cO o u)->H' p=ap (.cO o u)
def bD.f {H H':Hp} (t:bD K H H') (p:db) (vs:List V) (h:Uy K H p vs):Uy K H' p vs:=h.elim (λ⟨o,h⟩=>.inl ⟨o,t.z _ _ _ h⟩) .inr
def bD.refl (H:Hp):bD K H H:=⟨λ_ _ h=>h,λ_ _ _ h=>h⟩
def bD.trans (a:bD K H H1) (b:bD K H1 H2):bD K H H2:=⟨λp vs h=>b.t p vs (a.t p vs h),λp o w h=>b.z p o w (a.z p o w h)⟩
def _root_.L2.jx.e7 (s:jx H H'):bD K H H':=⟨λp vs h=>s _ _ h,λp o u h=>s _ _ h⟩
inductive PV where
 | aX | bl (b:Bool) | int (i:Int) | str (x:Str) | tup (l:List PV) | ref (n:Nat) | ty (n:String) | cl (l:List PV) | dv (ks vs:List PV)
def kP:Key->PV
 | .inl i=>.int i
 | .inr x=>.str x
inductive PO where
 | lst (xs:List PV) | dk (kvs:List (Key×PV)) | dt (kvs:List (List Key×PV)) | opq (φ:List V->Prop)
abbrev PH:=List PO
abbrev yi:=List (Option PV)
mutual
inductive VR (K:Ab) (ι:List db) (H:Hp):V->PV->Prop
 | aX:VR K ι H .aX .aX
 | bl (b:Bool):VR K ι H (.bl b) (.bl b)
 | int (i:Int):VR K ι H (.int i) (.int i)
 | str (x:Str):VR K ι H (.str x) (.str x)
 | ty (n:String):VR K ι H (.ty n) (.ty n)
 | tup {p:db}{vs:List V}{l:List PV} (h:H p=ap (.tup vs)) (r:aN K ι H vs l):VR K ι H (.ref p) (.tup l)
 | ref {n:Nat}{a:db} (h:ι[n]?=ap a):VR K ι H (.ref a) (.ref n)
 | cl {a:db}{vs:List V}{l:List PV} (h:Uy K H a vs) (r:aN K ι H vs l):VR K ι H (.ref a) (.cl l)
 | dk {a:db}{o:Obj}{kvs:List (Key×V)}{ks l:List PV} (h:H a=ap (.cO o (.dK kvs))) (e:ks=kvs.map λkv=>kP kv.1) (r:aN K ι H (kvs.map (·.2)) l):VR K ι H (.ref a) (.dv ks l)
 | dt {a:db}{o:Obj}{kvs:List (List Key×V)}{ks l:List PV} (h:H a=ap (.cO o (.dT kvs))) (e:ks=kvs.map λkv=>.tup (kv.1.map kP)) (r:aN K ι H (kvs.map (·.2)) l):VR K ι H (.ref a) (.dv ks l)
inductive aN (K:Ab) (ι:List db) (H:Hp):List V->List PV->Prop
 | nil:aN K ι H [] []
 | cons {v:V}{p:PV}{vs:List V}{ps:List PV} (r:VR K ι H v p) (t:aN K ι H vs ps):aN K ι H (v::vs) (p::ps)
end
section
variable {ι':List db}
mutual
theorem VR.mono (ht:bD K H H') (hi:∀(n:Nat) (a:db),ι[n]?=ap a->ι'[n]?=ap a):∀{v:V}{p:PV},VR K ι H v p->VR K ι' H' v p
 | _,_,.aX=>.aX
 | _,_,.bl b=>.bl b
 | _,_,.int i=>.int i
 | _,_,.str x=>.str x
 | _,_,.ty n=>.ty n
 | _,_,.tup h r=>.tup (ht.t _ _ h) (aN.mono ht hi r)
 | _,_,.cl h r=>.cl (ht.f _ _ h) (aN.mono ht hi r)
 | _,_,.dk h e r=>.dk (ht.z _ _ _ h) e (aN.mono ht hi r)
 | _,_,.dt h e r=>.dt (ht.z _ _ _ h) e (aN.mono ht hi r)
 | _,_,.ref h=>.ref (hi _ _ h)
theorem aN.mono (ht:bD K H H') (hi:∀(n:Nat) (a:db),ι[n]?=ap a->ι'[n]?=ap a):∀{vs:List V}{ps:List PV},aN K ι H vs ps->aN K ι' H' vs ps
 | _,_,.nil=>.nil
 | _,_,.cons r t=>.cons (VR.mono ht hi r) (aN.mono ht hi t)
end
theorem aN.length:∀{vs:List V}{ps:List PV},aN K ι H vs ps->vs.length=ps.length
 | _,_,.nil=>rfl
 | _,_,.cons _ t=>by rw [Ao,Ao,aN.length t]
theorem aN.get:∀{vs:List V}{ps:List PV}{i:Nat}{p:PV},aN K ι H vs ps->ps[i]?=ap p->∃v,vs[i]?=ap v/\VR K ι H v p
 | _,_,_,_,.nil,e=>by simp at e
 | _,_,0,_,.cons r _,e=>by simp at e;subst e;exact⟨_,rfl,r⟩
 | _,_,i+1,p,.cons _ t,e=>by
  obtain⟨v,h1,h2⟩:=aN.get (i:=i) (p:=p) t (by simpa using e);exact⟨v,by simpa using h1,h2⟩
theorem aN.aak:∀{vs:List V}{ps:List PV}{i:Nat}{v:V},aN K ι H vs ps->vs[i]?=ap v->∃p,ps[i]?=ap p/\VR K ι H v p
 | _,_,_,_,.nil,e=>by simp at e
 | _,_,0,_,.cons r _,e=>by simp at e;subst e;exact⟨_,rfl,r⟩
 | _,_,i+1,p,.cons _ t,e=>by
  obtain⟨v,h1,h2⟩:=aN.aak (i:=i) (v:=p) t (by simpa using e);exact⟨v,by simpa using h1,h2⟩
theorem aN.set {p:PV} (r:VR K ι H v p):∀{vs:List V}{ps:List PV} (i:Nat),aN K ι H vs ps->aN K ι H (vs.set i v) (ps.set i p)
 | _,_,_,.nil=>.nil
 | _,_,0,.cons _ t=>.cons r t
 | _,_,i+1,.cons q t=>.cons q (aN.set r i t)
theorem aN.append:∀{xs ys:List V}{us ws:List PV},aN K ι H xs us->aN K ι H ys ws->aN K ι H (xs++ys) (us++ws)
 | _,_,_,_,.nil,s=>s
 | _,_,_,_,.cons r t,s=>.cons r (aN.append t s)
theorem aN.take:∀{xs:List V}{us:List PV} (n:Nat),aN K ι H xs us->aN K ι H (xs.take n) (us.take n)
 | _,_,0,_=>.nil
 | _,_,_+1,.nil=>.nil
 | _,_,n+1,.cons r t=>.cons r (aN.take n t)
theorem aN.drop:∀{xs:List V}{us:List PV} (n:Nat),aN K ι H xs us->aN K ι H (xs.drop n) (us.drop n)
 | _,_,0,r=>r
 | _,_,_+1,.nil=>.nil
 | _,_,n+1,.cons _ t=>aN.drop n t
theorem aN.reverse:∀{xs:List V}{us:List PV},aN K ι H xs us->aN K ι H xs.reverse us.reverse
 | _,_,.nil=>.nil
 | _,_,.cons r t=>by rw [Dc,Dc];exact (aN.reverse t).append (.cons r .nil)
def aN.one {p:PV} (r:VR K ι H v p):aN K ι H [v] [p]:=.cons r .nil
end
structure Go (ι ι':List db) (H H':Hp):Prop where
 ext:∃m,ι'=ι++m
 new:∀a,a∈ι'->a∉ι->H a=bv
 keep:∀a o,a∉ι->H a=ap o->H' a=ap o
def Go.refl (ι:List db) (H:Hp):Go ι ι H H:=⟨⟨[],by simp⟩,λa h n=>absurd h n,λ_ _ _ h=>h⟩
def OR (K:Ab) (ι:List db) (H:Hp) (a:db):PO->Prop
 | .lst xs=>∃vs,H a=ap (.lst vs)/\aN K ι H vs xs
 | .dk kvs=>∃vs:List (Key×V),H a=ap (.dK vs)/\vs.map (·.1)=kvs.map (·.1)/\aN K ι H (vs.map (·.2)) (kvs.map (·.2))
 | .dt kvs=>∃vs:List (List Key×V),H a=ap (.dT vs)/\vs.map (·.1)=kvs.map (·.1)/\aN K ι H (vs.map (·.2)) (kvs.map (·.2))
 | .opq φ=>∃vs,H a=ap (.lst vs)/\φ vs
structure HR (K:Ab) (ι:List db) (H:Hp) (h:PH):Prop where
 nd:ι.Nodup
 len:ι.length=h.length
 obj:∀(n:Nat) (a:db) (o:PO),ι[n]?=ap a->h[n]?=ap o->OR K ι H a o
theorem iJ {l:List α}{x y:α} (h:(l++[x])[n]?=ap y):l[n]?=ap y\/(n=l.length/\y=x):=by
 by_cases hn:n < l.length
 ·rw [Ay hn] at h;exact .inl h
 ·rw [AB ∅] at h;obtain⟨k,hk⟩:∃k,k=n-l.length:=⟨_,rfl⟩;rw [<- hk] at h;cases k with
  | zero=>simp at h;exact .inr ⟨by omega,h.symm⟩
  | succ k=>simp at h
end
end PL
variable {e:BD}
namespace PL
section
open PySem PySem.Spec PyProof.Rows L2
variable {K:Ab}
abbrev QV:=PV->PH->Prop
structure ME where
 run:yi->PH->QV->Prop
 mono:∀{ps h}{Q Q':QV},(∀v h',Q v h'->Q' v h')->run ps h Q->run ps h Q'
structure MT where
 run:yi->PH->(Bool->PH->Prop)->Prop
 mono:∀{ps h}{Q Q':Bool->PH->Prop},(∀v h',Q v h'->Q' v h')->run ps h Q->run ps h Q'
structure MA where
 run:yi->PH->(List PV->PH->Prop)->Prop
 mono:∀{ps h}{Q Q':List PV->PH->Prop},(∀v h',Q v h'->Q' v h')->run ps h Q->run ps h Q'
structure ML where
 run:yi->PH->(List PV->PH->Prop)->Prop
 mono:∀{ps h}{Q Q':List PV->PH->Prop},(∀v h',Q v h'->Q' v h')->run ps h Q->run ps h Q'
structure Src where
 items:List PV
 ok:PH->Prop
 fz:Bool
structure MI where
 run:yi->PH->(Src->PH->Prop)->Prop
 mono:∀{ps h}{Q Q':Src->PH->Prop},(∀v h',Q v h'->Q' v h')->run ps h Q->run ps h Q'
structure PD where
 nx:yi->PH->Prop
 rt:QV
 bk:yi->PH->Prop
 ct:yi->PH->Prop
structure PD.Le (D D':PD):Prop where
 nx:∀ps h,D.nx ps h->D'.nx ps h
 rt:∀v h,D.rt v h->D'.rt v h
 bk:∀ps h,D.bk ps h->D'.bk ps h
 ct:∀ps h,D.ct ps h->D'.ct ps h
structure MS where
 run:PD->yi->PH->Prop
 mono:∀{D D' ps h},PD.Le D D'->run D ps h->run D' ps h
structure MG where
 run:PV->yi->PH->(yi->PH->Prop)->Prop
 mono:∀{v ps h}{Q Q':yi->PH->Prop},(∀ps h,Q ps h->Q' ps h)->run v ps h Q->run v ps h Q'
def pQ (K:Ab) (ι:List db) (H:Hp) (Q:VK):QV:=λp h'=>∀ι' v H',Go ι ι' H H'->HR K ι' H' h'->VR K ι' H' v p->Q v H'
def PE.imp {t t':TE} (h:PE X e t) (f:∀σ H Q,t' σ H Q->t σ H Q):PE X e t':=λZ s σ H Q I q=>h Z s σ H Q I (f _ _ _ q)
def PT.imp {t t':TT} (h:PT X e t) (f:∀σ H Q,t' σ H Q->t σ H Q):PT X e t':=λZ s σ H Q I q=>h Z s σ H Q I (f _ _ _ q)
def PW.imp {t t':TT} (h:PW X e t) (f:∀σ H Q,t' σ H Q->t σ H Q):PW X e t':=λw Z s σ H Q I q=>h w Z s σ H Q I (f _ _ _ q)
def PA.imp {e:List lw}{t t':TA} (h:PA X e t) (f:∀σ H Q,t' σ H Q->t σ H Q):PA X e t':=λpos Z s σ H Q I q=>h pos Z s σ H Q I (f _ _ _ q)
def PS.imp {e:u8}{t t':TS} (h:PS X e t) (f:∀D σ H,t' D σ H->t D σ H):PS X e t':=λZ s σ H D I q=>h Z s σ H D I (f _ _ _ q)
def qI.imp {e:List u8}{t t':TS} (h:qI X e t) (f:∀D σ H,t' D σ H->t D σ H):qI X e t':=λZ s σ H D I q=>h Z s σ H D I (f _ _ _ q)
def PG.imp {t t':TG} (h:PG X e t) (f:∀v σ H Q,t' v σ H Q->t v σ H Q):PG X e t':=λZ s σ H v u Q I r q=>h Z s σ H v u Q I r (f _ _ _ _ q)
def PI.imp {t t':TI} (h:PI X tg e t) (f:∀σ H Q,t' σ H Q->t σ H Q):PI X tg e t':=λZ s σ H R I q=>h Z s σ H R I (f _ _ _ q)
section
abbrev P2:=PV->PV->PH->QV->Prop
structure M2 where
 f:P2
 mono:∀{x y h}{Q Q':QV},(∀v h',Q v h'->Q' v h')->f x y h Q->f x y h Q'
def M2.Ok (K:Ab) (r:R2) (m:M2):Prop:=∀{ι H h u v x y Q},HR K ι H h->VR K ι H u x->VR K ι H v y->m.f x y h (pQ K ι H Q)->r u v H Q
end
end
section
open PySem PySem.Spec PyProof.Rows L2
variable {K:Ab}
section
def kW:∀{vs:List V}{l:List PV},aN K ι H vs l->(!l.isEmpty)=!vs.isEmpty
 | _,_,.nil=>rfl
 | _,_,.cons _ _=>rfl
structure MQ where
 run:yi->PH->(Src->PH->Prop)->Prop
 mono:∀{ps h}{Q Q':Src->PH->Prop},(∀v h',Q v h'->Q' v h')->run ps h Q->run ps h Q'
end
end
open PySem PySem.Spec PyProof.Rows L2
section
structure MGs where
 run:List PV->yi->PH->(yi->PH->Prop)->Prop
 mono:∀{v ps h}{Q Q':yi->PH->Prop},(∀ps h,Q ps h->Q' ps h)->run v ps h Q->run v ps h Q'
end
section
variable {K:Ab}
section
structure yj where
 f:List PV->PH->QV->Prop
 mono:∀{l h}{Q Q':QV},(∀v h',Q v h'->Q' v h')->f l h Q->f l h Q'
def yj.Ok (K:Ab) (r:List V->Hp->VK->Prop) (m:yj):Prop:=∀{ι H h vs l Q},HR K ι H h->aN K ι H vs l->m.f l h (pQ K ι H Q)->r vs H Q
end
end
end PL
variable {g':Int->Int->L2.V}{g:Int->Int->PL.PV}
namespace PL
section
open PySem PySem.Spec PyProof.Rows L2
variable {K:Ab}
def aI (g:Int->Int->PV):M2:=⟨λx y h Q=>match x,y with | .int i,.int j=>Q (g i j) h | _,_=>False,λf q=>by
 revert q
 split
 ·exact f _ _
 ·exact λz=>z⟩
def Xl (C:Int->Int->Prop) (g:Int->Int->PV):M2:=⟨λx y h Q=>match x,y with | .int i,.int j=>C i j/\Q (g i j) h | _,_=>False,λf q=>by
 revert q
 split
 ·exact λq=>⟨q.1,f _ _ q.2⟩
 ·exact λz=>z⟩
def zX (hg:∀ι H i j,VR K ι H (g' i j) (g i j)):M2.Ok K (QQ g') (aI g):=by
 intro ι H h u v x y Q hr hu hv q;unfold aI at q;dsimp only at q;revert q
 split
 ·intro q;cases hu;cases hv;exact⟨_,_,rfl,rfl,q ι _ H (Go.refl _ _) hr (hg _ _ _ _)⟩
 ·exact Bo
def xS {C:Int->Int->Prop} (hg:∀ι H i j,VR K ι H (g' i j) (g i j)):M2.Ok K (rI C g') (Xl C g):=by
 intro ι H h u v x y Q hr hu hv q;unfold Xl at q;dsimp only at q;revert q
 split
 ·intro q;cases hu;cases hv;exact⟨_,_,rfl,rfl,q.1,q.2 ι _ H (Go.refl _ _) hr (hg _ _ _ _)⟩
 ·exact Bo
def m8:=aI λi j=>.int (i-j)
def mz:=Xl t0 λi j=>.int (i*j)
def oDiv:=Xl Th λi j=>.int (i / j)
def oMod:=Xl (λ_ j=>0 < j) λi j=>.int (i % j)
def yT:=Xl PX λi j=>.int (i ^ j.toNat)
def oLt:=aI λi j=>.bl (decide (i < j))
def oLe:=aI λi j=>.bl (decide (i<=j))
def Zr:=aI λi j=>.bl (decide (j < i))
def oGe:=aI λi j=>.bl (decide (j<=i))
section
def aN.jL:∀{vs:List V}{l:List PV},aN K ι H vs l->(vs=[]↔l=[])
 | _,_,.nil=>by simp
 | _,_,.cons _ _=>by simp
end
mutual
def PV.dat:PV->Bool
 | .tup l=>uq l
 | .ref _=>false
 | .ty _=>false
 | .cl _=>false
 | .dv _ _=>false
 | _=>true
def uq:List PV->Bool
 | []=>true
 | x::l=>x.dat&&uq l
end
end
section
open PySem PySem.Spec PyProof.Rows L2
variable {K:Ab}
section
def PV.me:PV->Bool
 | .aX=>true
 | _=>false
def Gy:M2:=⟨λx y h Q=>match y with | .aX=>Q (.bl x.me) h | _=>False,λf q=>by
 revert q
 split
 ·exact f _ _
 ·exact λz=>z⟩
def KD {x:PV} (h:VR K ι H v x):decide (v=.aX)=x.me:=by cases h <;> simp [PV.me]
def Rp:M2.Ok K (λx y H Q=>y=.aX/\Q (.bl (decide (x=.aX))) H) Gy:=by
 intro ι H h u v x y Q hr hu hv q;cases hv with
 | aX=>exact⟨rfl,q ι _ H (Go.refl _ _) hr (by rw [KD hu];exact .bl _)⟩
 | _=>exact q.elim
def acX:M2:=⟨λx y h Q=>match x,y with | .bl i,.bl j=>Q (.bl (i==j)) h | _,_=>False,λf q=>by
 revert q
 split
 ·exact f _ _
 ·exact λz=>z⟩
def m9:M2:=⟨λx y h Q=>match x,y with | .bl i,.bl j=>Q (.bl (!(i==j))) h | _,_=>False,λf q=>by
 revert q
 split
 ·exact f _ _
 ·exact λz=>z⟩
def Gx:M2.Ok K (λx y H Q=>∃i j,x=.bl i/\y=.bl j/\Q (.bl (!(i==j))) H) m9:=by
 intro ι H h u v x y Q hr hu hv q;cases hu <;> first
  | exact q.elim
  | (cases hv <;> first | exact q.elim | exact⟨_,_,rfl,rfl,q ι _ H (Go.refl _ _) hr (.bl _)⟩)
end
end
end PL
variable {l:List PL.PV}
namespace PL
section
open PySem PySem.Spec PyProof.Rows L2
variable {K:Ab}
section
def MP {v':V}{w:ci} (h:RelV v w) (h':RelV v' w):v=v':=Option.some.inj (h.abs.symm.trans h'.abs)
end
section
variable {c:lw}
def mIx (a:MQ) (b:ME):ME:=⟨λps h Q=>a.run ps h λS h1=>b.run ps h1 λy h2=>match y with
 | .int k=>S.ok h2/\match bW S.items k with | some v=>Q v h2 | none=>False
 | _=>False,λf q=>a.mono (λ_ _ q=>b.mono (λ_ _ q=>by
  revert q
  split
  ·rintro⟨q0,q⟩;refine⟨q0,?_⟩;revert q
   split
   ·exact f _ _
   ·exact λz=>z
  ·exact λz=>z) q) q⟩
def aN.bW (r:aN K ι H vs l) {k:Int}{p:PV} (e:L2.bW l k=ap p):∃v,L2.bW vs k=ap v/\VR K ι H v p:=by
 unfold L2.bW at e ⊢;rw [r.length];cases z:nA l.length k with
 | none=>rw [z] at e;cases e
 | some j=>
  rw [z] at e;exact r.get e
def Nw:M2:=⟨λx y h Q=>match x,y with
 | .str z,.int k=>z.length<=sizeLine/\match L2.bW z.cps.toList k with | some c=>Q (.str ⟨#[c]⟩) h | none=>False
 | _,_=>False,λf q=>by
  revert q
  split
  ·rintro⟨q0,q⟩;refine⟨q0,?_⟩;revert q
   split
   ·exact f _ _
   ·exact λz=>z
  ·exact λz=>z⟩
def Ro:M2.Ok K Ve Nw:=by
 intro ι H h u v x y Q hr hu hv q;unfold Nw at q;dsimp only at q;revert q
 split
 ·rename_i z k;rintro⟨q0,q⟩;cases hu;cases hv;cases e:L2.bW z.cps.toList k with
  | none=>rw [e] at q;exact q.elim
  | some c=>rw [e] at q;exact⟨z,k,c,rfl,rfl,q0,e,q ι _ H (Go.refl _ _) hr (.str _)⟩
 ·exact Bo
def dg:yj:=⟨λl h Q=>match l with
 | [.str y]=>y.length<=sizeLine/\Q (.int y.length) h
 | [.tup l]=>Q (.int l.length) h
 | [.cl l]=>Q (.int l.length) h
 | [.ref n]=>match h[n]? with
  | some (.lst xs)=>Q (.int xs.length) h
  | _=>False
 | _=>False,λf q=>by
  revert q
  split
  ·exact λq=>⟨q.1,f _ _ q.2⟩
  ·exact f _ _
  ·exact f _ _
  ·split
   ·exact f _ _
   ·exact λz=>z
  ·exact λz=>z⟩
def SX (K:Ab):yj.Ok K (Vd K) dg:=by
 intro ι H h vs l Q hr hv q;unfold dg at q;dsimp only at q;revert q
 split
 ·intro q;cases hv with
  | cons x t=>cases t;cases x;exact⟨_,_,rfl,⟨q.1,rfl⟩,q.2 ι _ H (Go.refl _ _) hr (.int _)⟩
 ·intro q;cases hv with
  | cons x t=>
   cases t;cases x with
   | tup e r=>exact⟨_,_,rfl,.inr ⟨_,d7.of e,r.length.symm⟩,q ι _ H (Go.refl _ _) hr (.int _)⟩
 ·intro q;cases hv with
  | cons x t=>
   cases t;cases x with
   | cl e r=>exact⟨_,_,rfl,.inl ⟨_,e.sq,r.length.symm⟩,q ι _ H (Go.refl _ _) hr (.int _)⟩
 ·rename_i n;cases hv with
  | cons x t=>
   cases t;cases x with
   | @ref _ a e=>
   split
   ·rename_i xs hn;intro q;obtain⟨ws,e1,e2⟩:=hr.obj n a _ e hn;exact⟨_,_,rfl,.inl ⟨ws,c6.of e1,e2.length.symm⟩,q ι _ H (Go.refl _ _) hr (.int _)⟩
   ·exact Bo
 ·exact Bo
inductive Kd where
 | str | tup | int | bool
def Kd.name:Kd->String
 | .str=>"str" | .tup=>"tuple" | .int=>"int" | .bool=>"bool"
def Kd.is:Kd->PV->Bool
 | .str,.str _=>true
 | .tup,.tup _=>true
 | .int,.int _=>true
 | .int,.bl _=>true
 | .bool,.bl _=>true
 | _,_=>false
def Y1 (K:Ab):List V->Hp->VK->Prop:=λxs H Q=>∃x c t b,xs=[x,.ty c]/\(ma K H x t\/(t=.type "tuple"/\∃a vs,x=.ref a/\d7 K H a vs))/\Bz K t (.type c)=ap b/\Q (.bl b) H
def Ly (K:Ab) (hK:X.K=K):bR X (.builtin "isinstance") (Y1 K):=by
 subst hK;intro Z s σ H xs us Q I r h;obtain⟨x,c,t,b,rfl,ty | ⟨rfl,a,vs,rfl,hT⟩,e,q⟩:=h
 ·exact pD Z s σ H _ us Q I r ⟨x,c,t,b,rfl,ty,e,q⟩
 ·obtain⟨u,w,rfl,r1,r2⟩:=vals2 r;cases r1;cases r2;obtain⟨aw,_,⟨o,h1,h2,_⟩,_⟩:=I.tuple hT;exact Bf Ft I.t4 ⟨o,h1,h2⟩ e (λz=>nomatch z) λtk=>⟨.bl b,H,I.tok _,rfl,q⟩
def qu (K:Ab):(∀k:Kd,Bz K (.type "NoneType") (.type k.name)=ap false)/\(∀k:Kd,Bz K (.type "list") (.type k.name)=ap false)/\(∀k:Kd,Bz K (.type "dict") (.type k.name)=ap false):=
 ⟨λk=>by cases k <;> kernel_rfl,λk=>by cases k <;> kernel_rfl,λk=>by cases k <;> kernel_rfl⟩
def Wc (K:Ab) (b:Bool) (k:Kd):Bz K (.type "bool") (.type k.name)=ap (k.is (.bl b)):=by cases k <;> kernel_rfl
def RO (K:Ab) (b:Int) (k:Kd):Bz K (.type "int") (.type k.name)=ap (k.is (.int b)):=by cases k <;> kernel_rfl
def RN (K:Ab) (b:Str) (k:Kd):Bz K (.type "str") (.type k.name)=ap (k.is (.str b)):=by cases k <;> kernel_rfl
def RM (K:Ab) (b:List PV) (k:Kd):Bz K (.type "tuple") (.type k.name)=ap (k.is (.tup b)):=by cases k <;> kernel_rfl
def Pt:yj:=⟨λl h Q=>match l with | [.int i]=>Q (.int (if i < 0 then -i else i)) h | _=>False,λf q=>by
 revert q
 split
 ·exact f _ _
 ·exact λz=>z⟩
def S0:yj.Ok K (λxs H Q=>∃i,xs=[.int i]/\Q (.int (if i < 0 then -i else i)) H) Pt:=by
 intro ι H h vs l Q hr hv q;unfold Pt at q;dsimp only at q;revert q
 split
 ·intro q;cases hv with
  | cons x t=>cases t;cases x;exact⟨_,rfl,q ι _ H (Go.refl _ _) hr (.int _)⟩
 ·exact Bo
def pY:yj:=⟨λl h Q=>match l with | [.int i]=>Q (.int i) h | [.bl k]=>Q (.int (if k then 1 else 0)) h | _=>False,λf q=>by
 revert q
 split
 ·exact f _ _
 ·exact f _ _
 ·exact λz=>z⟩
def SY:yj.Ok K (λxs H Q=>(∃i,xs=[.int i]/\Q (.int i) H)\/∃k,xs=[.bl k]/\Q (.int (if k then 1 else 0)) H) pY:=by
 intro ι H h vs l Q hr hv q;unfold pY at q;dsimp only at q;revert q
 split
 ·intro q;cases hv with
  | cons x t=>cases t;cases x;exact .inl ⟨_,rfl,q ι _ H (Go.refl _ _) hr (.int _)⟩
 ·intro q;cases hv with
  | cons x t=>cases t;cases x;exact .inr ⟨_,rfl,q ι _ H (Go.refl _ _) hr (.int _)⟩
 ·exact Bo
def Pr:yj:=⟨λl h Q=>match l with | [.int i,.int j]=>Q (.int (if j > i then j else i)) h | _=>False,λf q=>by
 revert q
 split
 ·exact f _ _
 ·exact λz=>z⟩
def Pq:yj:=⟨λl h Q=>match l with | [.int i,.int j]=>Q (.int (if j < i then j else i)) h | _=>False,λf q=>by
 revert q
 split
 ·exact f _ _
 ·exact λz=>z⟩
def SW:yj.Ok K (λxs H Q=>∃i j,xs=[.int i,.int j]/\Q (.int (if j > i then j else i)) H) Pr:=by
 intro ι H h vs l Q hr hv q;unfold Pr at q;dsimp only at q;revert q
 split
 ·intro q;cases hv with
  | cons x t=>cases t with
   | cons y t=>cases t;cases x;cases y;exact⟨_,_,rfl,q ι _ H (Go.refl _ _) hr (.int _)⟩
 ·exact Bo
def SV:yj.Ok K (λxs H Q=>∃i j,xs=[.int i,.int j]/\Q (.int (if j < i then j else i)) H) Pq:=by
 intro ι H h vs l Q hr hv q;unfold Pq at q;dsimp only at q;revert q
 split
 ·intro q;cases hv with
  | cons x t=>cases t with
   | cons y t=>cases t;cases x;cases y;exact⟨_,_,rfl,q ι _ H (Go.refl _ _) hr (.int _)⟩
 ·exact Bo
end
end
section
open PySem PySem.Spec PyProof.Rows L2
variable {K:Ab}
section
def MV (K:Ab):List V->Hp->VK->Prop:=λxs H Q=>∃p ys,xs=[.ref p]/\((c6 K H p ys/\kg H (.tup ys) Q)\/(d7 K H p ys/\Q (.ref p) H))
def Lv (K:Ab) (hK:X.K=K):bR X (.type "tuple") (MV K):=by
 subst hK;exact uu.mono λxs H Q ⟨p,ys,e,h⟩=>⟨p,ys,e,h.imp (λ⟨h1,h2⟩=>⟨h1,λl hl=>h2.at l hl⟩) λz=>z⟩
theorem o6:∀{bs:List Bool}{vs:List V},aN K ι H vs (bs.map PV.bl)->vs=bs.map V.bl
 | [],_,h=>by cases h;rfl
 | b::bs,_,h=>by
  cases h with
  | cons x t=>cases x;rw [o6 t];rfl
structure MQL where
 run:yi->PH->(Src->PH->Prop)->Prop
 mono:∀{ps h}{Q Q':Src->PH->Prop},(∀v h',Q v h'->Q' v h')->run ps h Q->run ps h Q'
structure MO where
 run:yi->PH->(Option Int->PH->Prop)->Prop
 mono:∀{ps h}{Q Q':Option Int->PH->Prop},(∀v h',Q v h'->Q' v h')->run ps h Q->run ps h Q'
def PO.imp {e:Option lw}{t t':TO} (h:L2.PO X e t) (f:∀σ H Q,t' σ H Q->t σ H Q):L2.PO X e t':=λZ s σ H Q I q=>h Z s σ H Q I (f _ _ _ q)
def dZ (xs:List PV) (lo hi:Option Int):List PV:=(xs.drop (HT.dR xs.length 0 lo)).take (HT.dR xs.length xs.length hi-HT.dR xs.length 0 lo)
def aN.cut (r:aN K ι H vs l) (lo hi:Option Int):aN K ι H (ur vs lo hi) (dZ l lo hi):=by
 unfold ur dZ;rw [r.length];exact (r.drop _).take _
end
end
end PL
variable {e1:BD}{t1:L2.TE}{tp:Cv}
namespace PL
section
open PySem PySem.Spec PyProof.Rows L2
variable {K:Ab}
section
variable {c:lw}
def kd (lo:Int) (n:Nat):List PV:=(Av n).map λ(i:Nat)=>.int (lo+(i:Int))
def jo (lo:Int) (n:Nat):(kd lo n).length=n:=by unfold kd;simp
def oP {lo:Int}{p:PV} (h:(kd lo n)[i]?=ap p):i < n/\p=.int (lo+i):=by
 unfold kd at h;rw [Ai] at h;cases z:(Av n)[i]? with
 | none=>rw [z] at h;cases h
 | some k=>
  rw [z] at h;obtain⟨h1,h2⟩:=Ak.mp z;simp at h1 h2;subst h2;exact⟨h1,(Option.some.inj h).symm⟩
def ml (lo:Int) (n:Nat):List PV:=(Av n).map λ(i:Nat)=>.int (lo-(i:Int))
def vc (lo:Int) (n:Nat):(ml lo n).length=n:=by unfold ml;simp
def o5 {lo:Int}{p:PV} (h:(ml lo n)[i]?=ap p):i < n/\p=.int (lo-i):=by
 unfold ml at h;rw [Ai] at h;cases z:(Av n)[i]? with
 | none=>rw [z] at h;cases h
 | some k=>
  rw [z] at h;obtain⟨h1,h2⟩:=Ak.mp z;simp at h1 h2;subst h2;exact⟨h1,(Option.some.inj h).symm⟩
def QC (i:Int):Prop:=-(2 ^ 62)<=i/\i < 2 ^ 62
def abl (m:MA):MI:=⟨λps h Q=>m.run ps h λl h1=>match l with | [.int j]=>QC j/\Q ⟨kd 0 j.toNat,λ_=>True,false⟩ h1 | _=>False,λf q=>m.mono (λl h1 q=>by
 revert q
 split
 ·exact λq=>⟨q.1,f _ _ q.2⟩
 ·exact λz=>z) q⟩
def dY (k:Nat):List PV->List PV
 | []=>[]
 | x::l=>.tup [.int (k:Int),x]::dY (k+1) l
theorem cP:∀(k:Nat) (l:List PV),(dY k l).length=l.length
 | _,[]=>rfl
 | k,x::l=>by rw [dY,Ao,Ao,cP]
theorem gI:∀{k:Nat}{l:List PV}{i:Nat}{p:PV},(dY k l)[i]?=ap p->∃x,l[i]?=ap x/\p=.tup [.int ((k+i:Nat):Int),x]
 | _,[],_,_,h=>by simp [dY] at h
 | k,x::l,0,p,h=>by simp [dY] at h;subst h;exact⟨x,rfl,by simp⟩
 | k,x::l,i+1,p,h=>by
  obtain⟨y,h1,h2⟩:=gI (k:=k+1) (l:=l) (i:=i) (p:=p) (by simpa [dY] using h);exact⟨y,by simpa using h1,by rw [h2,show k+1+i=k+(i+1) by omega]⟩
def Wr (K:Ab) (t1:TE):TI:=λσ H R=>t1 σ H λx H1=>∃a,x=.ref a/\(((∃xs,c6 K H1 a xs)/\R (aaZ K a) H1)\/((∃xs,d7 K H1 a xs)/\R (Ite K a) H1))
def Nb {X:Cx} (K:Ab) (hK:X.K=K) (hg:Gl X "enumerate") (hm:X.mg "enumerate"=bv) (h1:PE X e1 t1)
  (F1:ce [e1] X.env=(false,kw e1 X.env)::ce [] X.env:=by rfl):PI X (.Tuple Ò kk tp) (.Call (.Name "enumerate" p1) [e1] [] p2) (Wr K t1):=by
 subst hK;intro Z s σ H R I h;refine BL (jP I hg hm boot_enumerate ?_ ⋯ ⋯);refine Bk ?_ F1 rfl;rw [F1];refine Cg (bE (h1 Z s σ H _ I h) λu1 s1 ⟨x,H1,I1,r1,a,ex,hh⟩=>CG ?_);subst ex;cases r1;have d1:s1.heap.objs.size+1≠s1.heap.objs.size:=Nat.succ_ne_self _;rcases hh with⟨⟨xs,hx⟩,q⟩ | ⟨⟨xs,hx⟩,q⟩
 ·obtain⟨aw,rx,tx,_⟩:=I1.list hx;refine call_enumerate_list tx.isList λh' ze hi _ k=>?_;refine C5 ze ?_;refine⟨_,_,_,_,H1,rfl,I1.kept (t':=s1.toks) k,Ga d1,⟨⟨_,ze⟩,hi⟩,λc hc=>?_,q⟩;have Ü:s1.heap.objs.size<=c:=by
   simp only [AA,BC,or_false] at hc;rcases hc with rfl | rfl
   ·exact BB _ _
   ·exact An _
  exact I1.uj Ü (I1.bI.fresh Ü)
 ·obtain⟨aw,rx,tx,_⟩:=I1.tuple hx;have l1:=let ⟨_,e,_⟩:=tx;Ar e;refine HN tx λh' ze hi k=>?_;refine C5 ze ?_;refine⟨_,_,_,_,H1,rfl,I1.kept (t':=s1.toks) k,JZ d1 (AJ (Az l1 (BB _ 1))) (AJ l1),⟨⟨_,ze⟩,hi⟩,λc hc=>?_,q⟩;have Ü:s1.heap.objs.size<=c:=by
   simp only [AA,BC,or_false] at hc;rcases hc with rfl | rfl
   ·exact BB _ _
   ·exact An _
  exact I1.uj Ü (I1.bI.fresh Ü)
def f6:List PV->List PV->List PV
 | x::l,y::m=>.tup [x,y]::f6 l m
 | _,_=>[]
theorem mQ:∀{l m:List PV}{i:Nat}{p:PV},(f6 l m)[i]?=ap p->∃x y,l[i]?=ap x/\m[i]?=ap y/\p=.tup [x,y]
 | [],m,i,p,h=>by simp [f6] at h
 | x::l,[],i,p,h=>by simp [f6] at h
 | x::l,y::m,0,p,h=>by simp [f6] at h;subst h;exact⟨x,y,rfl,rfl,rfl⟩
 | x::l,y::m,i+1,p,h=>by
  obtain⟨u,w,h1,h2,h3⟩:=mQ (l:=l) (m:=m) (i:=i) (p:=p) (by simpa [f6] using h);exact⟨u,w,by simpa using h1,by simpa using h2,h3⟩
end
end
section
open PySem PySem.Spec PyProof.Rows L2
variable {K:Ab}
section
def Js:M2:=aI λi j=>.int (i+j)
def N2 {g:Int->Int->Int}:M2.Ok K (ipI g) (aI λi j=>.int (g i j)):=by
 intro ι H h u v x y Q hr hu hv q;unfold aI at q;dsimp only at q;revert q
 split
 ·intro q;cases hu;cases hv;exact⟨_,_,rfl,rfl,q ι _ H (Go.refl _ _) hr (.int _)⟩
 ·exact Bo
end
end
end PL
variable {p3 p4:Cv}
namespace PL
open PySem PySem.Spec PyProof.Rows L2
section
variable {K:Ab}
section
structure JC (X:Cx) (K:Ab) (op:CmpOp) (b:lw) (m:M2):Prop where
 p:∃r,hZ X (mo op) r/\M2.Ok K r m
 k:nw op b=false
def Jm:JC X K .Lt b oLt:=⟨⟨_,Zk,zX λ_ _ _ _=>.bl _⟩,kL _⟩
def Jn:JC X K .LtE b oLe:=⟨⟨_,Zl,zX λ_ _ _ _=>.bl _⟩,kL _⟩
def T9:JC X K .Gt b Zr:=⟨⟨_,Zm,zX λ_ _ _ _=>.bl _⟩,kL _⟩
def ZL:JC X K .GtE b oGe:=⟨⟨_,Zn,zX λ_ _ _ _=>.bl _⟩,kL _⟩
def wR:JC X K .Is b Gy:=⟨⟨_,VD,Rp⟩,kL _⟩
def uS:JC X K .IsNot b m9:=⟨⟨_,yS,Gx⟩,kL _⟩
def agz:M2:=⟨λx y h Q=>match x,y with | .str i,.str j=>Q (.bl (decide (i.cps.toList < j.cps.toList))) h | _,_=>False,λf q=>by
 revert q
 split
 ·exact f _ _
 ·exact λz=>z⟩
def Rq:M2:=⟨λx y h Q=>match x,y with | .str i,.str j=>Q (.bl (!(Builtin.Str.occurrences j i 0 j.length 1).isEmpty)) h | _,_=>False,λf q=>by
 revert q
 split
 ·exact f _ _
 ·exact λz=>z⟩
def Wl (hk:nw .In b=false):JC X K .In b Rq:=⟨⟨_,Kp,by
 intro ι H h u v x y Q hr hu hv q;unfold Rq at q;dsimp only at q;revert q
 split
 ·intro q;cases hu;cases hv;exact⟨_,_,rfl,rfl,q ι _ H (Go.refl _ _) hr (.bl _)⟩
 ·exact Bo⟩,hk⟩
end
end
theorem zQ:∀{l:List PV},uq l=true↔∀x∈l,x.dat=true
 | []=>by simp [uq]
 | x::l=>by rw [uq,AO,zQ];simp
section
variable {K:Ab}
section
variable {c:lw}
def OS (h:aN K ι H vs l):vs.isEmpty=l.isEmpty:=by cases h <;> rfl
def aN.rep (h:aN K ι H vs l):∀k:Nat,aN K ι H (Am k vs).flatten (Am k l).flatten
 | 0=>.nil
 | k+1=>by
  rw [Bv,Bv,B6,B6];exact h.append (h.rep k)
def MW:V->List V->Hp->VK->Prop:=λx vs H Q=>∃(l:db) (ns:List Int) (k:Int),x=.ref l/\vs=[.int k]/\H l=ap (.lst (ns.map V.int))/\k∈ns/\vD H l (.lst ((ns.erase k).map V.int)) (Q .aX)
theorem ints_get:∀{us:List ci}{ns:List Int},xz us ns->∀(i:Nat) (hi:i < us.length),∃n t,ns[i]?=ap n/\us[i]=.int n t
 | _,_,.nil,i,hi=>by simp at hi
 | _,_,.cons _ _ r,i,hi=>by
  cases i with
  | zero=>exact⟨_,_,rfl,rfl⟩
  | succ i=>exact ints_get r i (by simpa using hi)
theorem N5 {k:Int}:∀{ns:List Int}{m:Nat},ns[m]?=ap k->ns.idxOf k<=m
 | [],m,h=>by simp at h
 | a::ns,0,h=>by
  have:a=k:=by simpa using h
  subst this;simp
 | a::ns,m+1,h=>by
  have:=N5 (ns:=ns) (m:=m) (by simpa using h);rw [List.idxOf_cons];by_cases c:a=k
  ·have:(a==k)=true:=by simpa using c
   rw [this];exact A7 _
  ·have c2:(a==k)=false:=by simpa using c
   rw [c2];exact Nat.succ_le_succ this
theorem u9 (f:α->β):∀(l:List α) (j:Nat),(l.eraseIdx j).map f=(l.map f).eraseIdx j
 | [],_=>rfl
 | a::l,0=>rfl
 | a::l,j+1=>by
  show f a::(l.eraseIdx j).map f=f a::(l.map f).eraseIdx j;rw [u9 f l j]
def isK (k:Int):ci->Bool
 | .int a _=>a==k
 | _=>false
def tQ (r:Vals vs us):∀j,Vals (vs.eraseIdx j) (us.eraseIdx j):=by
 induction r with
 | nil=>intro j;exact .nil
 | cons h r ih=>
  intro j;cases j with
  | zero=>exact r
  | succ j=>exact .cons h (ih j)
theorem GD:LR X "list.remove" MW:=by
 intro Z s σ H x vs v us Q I rx rv h;obtain⟨l,ns,k,rfl,rfl,hH,hk,q⟩:=h;cases rx;obtain⟨u,rfl,ru⟩:=rv.one;obtain⟨t,rfl⟩:=ru;obtain⟨z,aw,n,r,hl,e⟩:=I.oG hH;have hi:=intsAre_of r;have Á:ns.length=aw.length:=by rw [Af] at hl;omega
 have hj:=BP hk;have hej:ns.erase k=ns.eraseIdx (ns.idxOf k):=by rw [List.erase_eq_eraseIdx_of_idxOf rfl]
 refine wS F.slot_list_remove ⟨_,e,rfl⟩ F.entry_list_remove (F.args_list_remove_2 _ _) (MeetsSeq.list_remove l aw.toArray n (.int k t) (isK k) (λy hy=>?_) (ns.idxOf k) (by rw [Aj];omega) ?_ (λm hm lP=>?_) (by rw [Aj];omega)) ⟨e,?_⟩
 ·have R1:y∈aw:=by simpa using hy
  obtain⟨i,å⟩:=CN R1;obtain⟨h1,h2⟩:=Ak.mp å;obtain⟨n',t',g1,g2⟩:=ints_get hi i h1;rw [<- h2,g2];exact MeetsSeq.EqGives.int _ _ _ _
 ·have h1:ns.idxOf k < aw.length:=by omega
  obtain⟨n',t',g1,g2⟩:=ints_get hi (ns.idxOf k) h1;have g3:ns[ns.idxOf k]?=ap k:=by rw [Ad hj,List.getElem_idxOf hj]
  rw [g3] at g1;cases g1;rw [DA,g2];simp [isK]
 ·have h1:m < aw.length:=by rw [Aj] at hm;exact hm
  obtain⟨n',t',g1,g2⟩:=ints_get hi m h1;rw [DA,g2];have:n'≠k:=λz=>by
   subst z;have:=N5 g1;omega
  simp [isK,this]
 ·refine⟨.aX,_,I.GO (its':=aw.eraseIdx (ns.idxOf k)) (ys:=(ns.erase k).map V.int) hH e (by simp [Array.toList_eraseIdxIfInBounds,<- EH]) ?_ ?_,rfl,q.at⟩
  ·rw [hej,u9];exact tQ r _
  ·rw [hej,Af,List.length_eraseIdx]
   split <;> omega
theorem lM:∀{ns:List Int}{vs:List V},aN K ι H vs (ns.map PV.int)->vs=ns.map V.int
 | [],_,h=>by cases h;rfl
 | b::bs,_,h=>by
  cases h with
  | cons x t=>cases x;rw [lM t];rfl
theorem nC (ι:List db) (H:Hp):∀ns:List Int,aN K ι H (ns.map V.int) (ns.map PV.int)
 | []=>.nil
 | n::ns=>.cons (.int n) (nC ι H ns)
def U9 (K:Ab):List V->Hp->VK->Prop:=λxs H Q=>∃(p:db) (ns:List Int),xs=[.ref p]/\c6 K H p (ns.map V.int)/\ns.length < 64/\∀ms:List Int,ms.Perm ns->ms.Pairwise (·<=·)->kg H (.lst (ms.map V.int)) Q
theorem HK (K:Ab) (hK:X.K=K):bR X (.builtin "sorted") (U9 K):=by
 subst hK;intro Z s σ H xs us Q I r h;obtain⟨p,ns,rfl,hq,ì,q⟩:=h;obtain⟨u,rfl,rx⟩:=vals1 r;cases rx;obtain⟨aw,r',pl,hz⟩:=I.list hq;have hi:=intsAre_of r';have hl:=r'.length;rw [Af] at hl hz;refine PyProof.Rows.sorted_ints pl.isList hi ∅ λout ms a1 a2 a3=>?_;obtain⟨e,he⟩:=sortedAll_at s.heap aw out;refine⟨.ref (s.heap.objs.size+1),_,I.laid (t':=s.toks) (λ_ _=>sortedAll_old) (Fg _) (show bx X.prog X.w _ _ _ (.lst (ms.map V.int)) from⟨?_,out.toList,e,oh a1,?_⟩),rfl,(q ms a2 a3).at _ (I.bI.fresh (Fg _))⟩
 ·rw [Af,a2.length_eq];exact hz
 ·rw [Array.toArray_toList];exact he
end
end
end PL
variable {xs:Array A8}{a:BK}{o:FJ}
namespace L2
open PySem PySem.Spec PyProof.Rows
def mE {name:Str}{Q:Option ci->dL->Prop}
  (hx:s.heap.get? a=ap o) (hc:o.cls=.type "list") (kZ:o.data=.seq xs k) (hd:o.dict=bv) (Z3:GM (.type "list") name=pure bv) (Z2:(["__module__","__name__","__qualname__","__doc__","__annotations__"]:List Str).contains name=false) (hA:A.handled=bv)
  (h:∀h' tk e,Heap.NewExcOf s.heap h' e "AttributeError"->Q bv {s with heap:=h',toks:=tk}) (hsz:name.length+100<=sizeLine:=by size_fits) :
  d5 (ev prog w) A (getAttr? (.ref a) name) Q E s:=by
 obtain⟨c,dct,dat,sl⟩:=o;simp only at hc kZ hd;subst hc kZ hd;obtain⟨hp,g,d,tk,os⟩:=s;have hT:∀ï,(⟨hp,g,d,ï,os⟩:dL).TypeIs (.ref a) "list":=λ_=>⟨_,hx,rfl⟩;have f1:=sub_AttributeError;have f3:=CT.lookup;have f4:=CT.bind (.ref a);have f5:=am_list_getattr_none
 repeat (any_goals (first | assumption | exact hT _ | ((with_reducible show d5 _ _ (call (Value.builtin "list.__getattribute__") _ _) _ _ _);refine wS CT (hT _) am_entry_list_getattribute (F.args_list_getattribute_2 _ _) (meets_getattribute_miss_list a xs k sl name _ Z3 Z2 hsz) ⟨hx,hA,λh' ï e tE=>?_⟩) | wp_step))
 obtain⟨t',u',he⟩:=tE.there;unfold getattributeRaised
 repeat (any_goals (first | assumption | wp_step))
 exact h _ _ _ tE.of
end L2
variable {b d:BK}{v:A8}
namespace L2
open PySem PySem.Spec PyProof.Rows
def iB:entryFor table "dict.update.loop"=ap Fk.«dict.update.loop»:=entryFor_of_fast (by kernel_rfl)
def iq:plainId "dict.update.loop"=true:=by decide +kernel
section
variable {K:Type} [DecidableEq K] {knd:KeyKind prog w K}
def yf (knd:KeyKind prog w K) (h:r9) (it d:db) (v:ci) (x:List K×db×ci):Prop:=
 ∃pa o n,v=.ref pa/\pa≠it/\pa≠d/\x.2.1≠it/\x.2.1≠d/\h.get? pa=ap o/\o.cls=.type "tuple"/\o.data=.seq #[.ref x.2.1,x.2.2] n/\(sn knd).is h x.1 x.2.1
def vF {k:List K} (x:(sn knd).is h k b) (kp:∀o,h.get? b=ap o->h'.get? b=ap o):(sn knd).is h' k b:=by
 obtain⟨o,aw,n,h1,h2⟩:=x;exact⟨o,aw,n,kp _ h1,h2⟩
def yf.keep {x:List K×db×ci} (p:yf knd h it d v x) (kp:∀b o,b≠it->b≠d->h.get? b=ap o->h'.get? b=ap o):yf knd h' it d v x:=by
 obtain⟨pa,o,n,e,n1,n2,n3,n4,h1,h2,h3,h4⟩:=p;exact⟨pa,o,n,e,n1,n2,n3,n4,kp _ _ n1 n2 h1,h2,h3,vF h4 λo q=>kp _ _ n3 n4 q⟩
def xF {xs:List (List K×db×ci)} (m:h.DictOfH (sn knd) d xs) (hd:d≠it) (hx:∀x∈xs,x.2.1≠it) (kp:∀b o,b≠it->h.get? b=ap o->h'.get? b=ap o):h'.DictOfH (sn knd) d xs:=by
 obtain⟨o,es,ep,ho,hc,Ī,he,his,hn⟩:=m;exact⟨o,es,ep,kp _ _ hd ho,hc,Ī,he,λx q=>vF (his x q) λo z=>kp _ _ (hx x q) z,hn⟩
def yt {xs:List (List K×db×ci)}{k:List K} (hx:∀x∈xs,x.2.1≠it) (hb:b≠it):∀x∈Gc xs k b v,x.2.1≠it:=by
 intro x q;unfold Gc at q
 split at q
 ·obtain⟨y,hy,rfl⟩:=Aw.mp q;have e:(putAt k v y).2.1=y.2.1:=by unfold putAt;split <;> rfl
  rw [e];exact hx y hy
 ·rcases AX.mp q with q | q
  ·exact hx x q
  ·rw [Bc.mp q];exact hb
def yu {xs:List (List K×db×ci)}{k:List K}:(Gc xs k b v).length<=xs.length+1:=by
 unfold Gc
 split <;> simp
theorem yn (hA:A.handled=bv) (hu:A.units+1 < pc) {l:db} (hz:items.size+items.size<=sizeLine) (ĩ:d≠it) (hli:l≠it) (hld:l≠d) :
  ∀(k i:Nat) (ys xs:List (List K×db×ci)) (s:dL),items.size-i=k->i<=items.size->ys.length=items.size-i->xs.length<=i->s.heap.IsListIter it l i->s.heap.IsList l items->s.heap.DictOfH (sn knd) d xs->(∀x∈xs,x.2.1≠it)->
   (∀j x,ys[j]?=ap x->∃v,items[i+j]?=ap v/\yf knd s.heap it d v x)->
   (∀h' tk,h'.DictOfH (sn knd) d (ys.foldl (λa y=>Gc a y.1 y.2.1 y.2.2) xs)->(∀b o,b≠it->b≠d->s.heap.get? b=ap o->h'.get? b=ap o)->R (.ok (.ret .none)) {s with heap:=h',toks:=tk})->
   Ix (ev prog w) A (.builtin "dict.update.loop" ⟨[.ref d,.ref it,wP i,.none],[]⟩) R s:=by
 intro k
 induction k with
 | zero=>
  intro i ys xs s hk hi hy hxl Ù hl hd hx hp q;have e0:ys=[]:=DB ∅;subst e0;refine codeAny_builtin iB ?_;refine Aa (wpAny_pyNext_list_end (A:=A.in1) hA Ù hl (by rw [EU];omega) λh' ex=>?_);have kp:=ex;exact Aa (Ag (Ag (q h' s.toks (xF hd ĩ hx kp) λb o n1 _ e=>kp b o n1 e)))
 | succ k ih=>
  intro i ys xs s hk hi hy hxl Ù hl hd hx hp q
  match ys,hy,hp,q with
  | [],hy,_,_=>exact absurd hy (by simp only [A2];omega)
  | y::ys,hy,hp,q=>
  obtain⟨v,hv,pa⟩:=hp 0 y rfl;refine codeAny_builtin iB ?_;refine Aa (wpAny_pyNext_list_item Ù hl (by simpa using hv) λh1 adN sb=>?_);have RL:∀b o,b≠it->s.heap.get? b=ap o->h1.get? b=ap o:=λb o hb e=>(sb.2 b hb).trans e;have pa1:=pa.keep λb o n1 _ e=>RL b o n1 e;have ê:=xF hd ĩ hx RL;have Ĥ:h1.IsList l items:=let ⟨o,e,p⟩:=hl;⟨o,RL _ _ hli e,p⟩;obtain⟨p,o,n,rfl,n1,n2,n3,n4,g1,g2,g3,g4⟩:=pa1;refine Aa (Be (Aa (wpAny_tryCatch ?_)));refine Aa (Co (T:="tuple") ⟨_,g1,g2⟩ ?_);refine Aa (BH g1 g3 (Ag ?_));refine Be (wpAny_dictSet_heap (knd:=sn knd) (FM hu) g4 ê (λh2 Ñ sb2=>?_) ∅);have Ē:∀b o,b≠d->h1.get? b=ap o->h2.get? b=ap o:=λb o hb e=>(sb2.2 b hb).trans e;refine Ag ⟨plainId_quiet iq _,?_⟩;have kp:∀b o,b≠it->b≠d->s.heap.get? b=ap o->h2.get? b=ap o:=λb o a1 a2 e=>Ē _ _ a2 (RL _ _ a1 e);refine ih (i+1) ys (Gc xs y.1 y.2.1 y.2.2) _ ∅ ∅ (by rw [Ao] at hy;omega) (Bt yu ∅) ?_ ?_ Ñ (yt hx n3) (λj x hj=>?_) (λh' tk dd k3=>?_)
  ·obtain⟨o',e1,e2⟩:=adN;exact⟨o',Ē _ _ (BF ĩ) e1,e2⟩
  ·obtain⟨o',e1,e2⟩:=Ĥ;exact⟨o',Ē _ _ hld e1,e2⟩
  ·obtain⟨v',h3,h4⟩:=hp (j+1) x hj;exact⟨v',by rw [show i+1+j=i+(j+1) by omega];exact h3,h4.keep kp⟩
  ·exact q h' tk dd λb o a1 a2 e=>k3 b o a1 a2 (kp b o a1 a2 e)
end
def wG:GM (.type "list") (Cn "keys")=pure bv:=am_miss_of_fast (by decide +kernel)
section
variable {K:Type} [DecidableEq K] {knd:KeyKind prog w K}
theorem pX {l:db}{ys:List (List K×db×ci)} (hA:A.handled=bv) (hu:A.units+2 < pc) (ho:s.heap.get? l=ap o) (hc:o.cls=.type "list") (kZ:o.data=.seq items n) (hd:o.dict=bv)
  (hz:items.size+items.size<=sizeLine) (hy:ys.length=items.size)
  (hp:∀(j:Nat) (x:List K×db×ci),ys[j]?=ap x->∃(pa:db) (op:Obj) (m:Nat),items[j]?=ap (AD pa)/\s.heap.get? pa=ap op/\op.cls=.type "tuple"/\op.data=.seq #[AD x.2.1,x.2.2] m/\(sn knd).is s.heap x.1 x.2.1)
  (q:∀h' tk,(∀b o,s.heap.get? b=ap o->h'.get? b=ap o)->h'.DictOfH (sn knd) s.heap.objs.size (ys.foldl (λa y=>Gc a y.1 y.2.1 y.2.2) [])->Q (.ref s.heap.objs.size) {s with heap:=h',toks:=tk}) :
  d5 (ev prog w) A (call (.type "dict") [.ref l]) Q E s:=by
 refine callType_codes (Q₁:=λobj s₁=>obj=.ref s.heap.objs.size/\s₁={s with heap:=s.heap.push {cls:=.type "dict",data:=.dict #[]}}) F.kt_called_dict (F.kt_typeCall_dict_1 _) F.entry_dict_init (kt_code_dict_new _ ⟨rfl,rfl⟩) ?_;rintro obj s₁ ⟨rfl,rfl⟩;have ø:∀b o,s.heap.get? b=ap o->(s.heap.push {cls:=.type "dict",data:=.dict #[]}).get? b=ap o:=λb o e=>Ah _ e;have R8:(s.heap.push {cls:=.type "dict",data:=.dict #[]}).DictOf knd s.heap.objs.size []:=Heap.DictOf.new s.heap;have Z1:(s.heap.push {cls:=.type "dict",data:=.dict #[]}).DictOfH (sn knd) s.heap.objs.size []:=⟨_,#[],0,Aq _ rfl,⟨rfl,rfl,rfl⟩,rfl,rfl,λx hx=>absurd hx (BC),Fh⟩;have ls:∀b o,s.heap.get? b=ap o->b≠s.heap.objs.size:=λb o e z=>by subst z;exact A9 _ (Ar e)
 refine⟨R8.typeIs,F.args_dict_init_2 _ _,?_⟩;refine Aa ?_;refine Aa (wpAny_notOrdered_dict R8.typeIs ?_);refine Ag ?_;refine Aa (Co (T:="list") ⟨_,ø _ _ ho,hc⟩ ?_);refine Aa (mE (ø _ _ ho) hc kZ hd wG (by decide +kernel) hA (λh1 tk e nx=>?_) ⋯);refine Aa (CK (Aa ?_));refine CH (items:=items) ⟨_,nx.keeps _ _ (ø _ _ ho),hc,n,kZ⟩ ?_;have hsz:=Ar (nx.keeps _ _ (Aq s.heap rfl));have RL:∀b o,s.heap.get? b=ap o->(h1.push {cls:=.type "list_iterator",data:=.fields #[.ref l,.int 0 0]}).get? b=ap o:=λb o e=>Ah _ (nx.keeps _ _ (ø _ _ e));have ni:∀b o,s.heap.get? b=ap o->b≠h1.objs.size:=λb o e z=>by
  have h3:=Ar e;subst z;exact A9 _ (Nat.lt_trans h3 hsz)
 refine Ag ⟨plainId_quiet iq _,?_⟩;refine yn (A:=A.in1) (knd:=knd) hA (by show A.units+1+1 < _;omega) (items:=items) (d:=s.heap.objs.size) (it:=h1.objs.size) (l:=l) hz (AJ hsz) (ni _ _ ho) (ls _ _ ho) items.size 0 ys [] _ (DY _) (A7 _) (by rw [hy];rfl) (An _)
  ⟨_,Aq _ rfl,rfl,rfl⟩ ⟨_,RL _ _ ho,hc,n,kZ⟩ ?_ (λx hx=>nomatch hx) (λj x hj=>?_) (λh' ï dd kp=>?_)
 ·refine xF (it:=h1.objs.size) Z1 (AJ hsz) (λx hx=>nomatch hx) λb o _ e=>Ah _ (nx.keeps _ _ e)
 ·obtain⟨pa,op,m,e1,e2,e3,e4,e5⟩:=hp j x hj;have kb:∃ob,s.heap.get? x.2.1=ap ob:=let ⟨ob,_,_,z,_⟩:=e5;⟨ob,z⟩;obtain⟨ob,eb⟩:=kb;exact⟨.ref pa,by rw [AI];exact e1,pa,op,m,rfl,ni _ _ e2,ls _ _ e2,ni _ _ eb,ls _ _ eb,RL _ _ e2,e3,e4,vF e5 λo z=>RL _ _ z⟩
 ·exact⟨rfl,q h' ï (λb o e=>kp b o (ni _ _ e) (ls _ _ e) (RL _ _ e)) dd⟩
end
structure Pz where
 pa:db
 k:List Key
 b:db
 v:V
def Pz.At (H:Hp) (z:Pz):Prop:=H z.pa=ap (.tup [.ref z.b,z.v])/\H z.b=ap (.tup (z.k.map kV))
def Vg (K:Ab):List V->Hp->VK->Prop:=λxs H Q=>∃(p:db) (zs:List Pz),xs=[.ref p]/\c6 K H p (zs.map λz=>.ref z.pa)/\(∀z∈zs,z.At H)/\(zs.map (·.k)).Nodup/\zs.length<=1000/\kg H (.dT (zs.map λz=>(z.k,z.v))) Q
theorem pB {K:Type} [DecidableEq K]:∀(ys xs:List (K×db×ci)),((xs++ys).map (·.1)).Nodup->ys.foldl (λa y=>Gc a y.1 y.2.1 y.2.2) xs=xs++ys
 | [],xs,_=>by simp
 | y::ys,xs,h=>by
  have hn:atKey xs y.1=bv:=by
   cases e:atKey xs y.1 with
   | none=>rfl
   | some p=>
    exfalso;rw [AM,Au] at h;have h2:=(Cq.mp h).2.2;have hm:y.1∈xs.map (·.1):=by
     by_cases hc:y.1∈xs.map (·.1)
     ·exact hc
     ·rw [atKey_none_of_get (λj q hj=>?_)] at e
      ·cases e
      ·exact hc (Aw.mpr ⟨_,Ba hj,rfl⟩)
    exact h2 _ hm _ BA rfl
  rw [List.foldl_cons,storedH_new hn,pB ys (xs++[(y.1,y.2.1,y.2.2)]) (by simpa using h)];simp
section
theorem HP (K:Ab) (hK:X.K=K) (hc:X.calm=true) (hu:X.A.units+2 < pc):bR X (.type "dict") (Vg K):=by
 subst hK;intro Z s σ H xs us Q I r h;obtain⟨p,zs,rfl,hq,hz,hn,hl,q⟩:=h;obtain⟨u,rfl,rx⟩:=vals1 r;cases rx;obtain⟨aw,rv,pl,hsz⟩:=I.list hq;obtain⟨o,n,ho,P6,hd,kZ⟩:=pl;have î:∀(zs:List Pz) (aw:List ci),(∀z∈zs,z.At H)->Vals (zs.map λz=>V.ref z.pa) aw->∃ys:List (List Key×db×ci),ys.map (·.1)=zs.map (·.k)/\KT H (zs.map λz=>(z.k,z.v)) ys/\
   ∀(j:Nat) (x:List Key×db×ci),ys[j]?=ap x->∃(pa:db) (op:Obj) (m:Nat),aw[j]?=ap (AD pa)/\s.heap.get? pa=ap op/\op.cls=.type "tuple"/\op.data=.seq #[AD x.2.1,x.2.2] m/\(sn (bN X.prog X.w)).is s.heap x.1 x.2.1:=by
  intro zs
  induction zs with
  | nil=>intro aw _ _;exact⟨[],rfl,.nil,λj x h=>by simp at h⟩
  | cons z zs ih=>
   intro aw ha hv;cases hv with
   | @cons _ u _ us ru rus=>
   cases ru;obtain⟨ys,e1,e2,e3⟩:=ih us (λy hy=>ha y (AV _ hy)) rus;obtain⟨a1,a2⟩:=ha z BA;obtain⟨_,its',r',op,h1,h2,m,h3⟩:=(show bx X.prog X.w H s.heap z.pa (.tup [.ref z.b,z.v]) from I.bI _ _ a1);obtain⟨w,rfl,ib⟩:∃w,its'=[AD z.b,w]/\RelV z.v w:=by
    cases r' with
    | cons q1 q2=>cases q1;cases q2 with
     | cons q3 q4=>cases q4;exact⟨_,rfl,q3⟩
   refine⟨(z.k,z.b,w)::ys,by rw [Au,Au,e1],.cons ⟨rfl,a2,ib⟩ e2,λj x hj=>?_⟩;cases j with
   | zero=>
    cases hj;exact⟨z.pa,op,m,rfl,h1,h2,h3,rQ I.bI a2⟩
   | succ j=>exact e3 j x hj
 obtain⟨ys,e1,e2,e3⟩:=î zs aw hz rv;have Á:=rv.length;rw [Af] at Á;have ú:ys.length=zs.length:=by have:=congrArg BV e1;simpa using this
 have hs:(1000:Nat)+1000<=sizeLine:=by decide
 refine pX (knd:=bN X.prog X.w) (items:=aw.toArray) (ys:=ys) (I.ok.hd hc) hu ho P6 kZ hd (by rw [Aj];omega) (by rw [Aj];omega) (λj x hj=>?_) (λh' tk kp dd=>?_)
 ·obtain⟨pa,op,m,g1,g2⟩:=e3 j x hj;exact⟨pa,op,m,by rw [E9];exact g1,g2⟩
 ·rw [pB ys [] (by rw [E4,e1];exact hn),E4] at dd;obtain⟨od,es,ep,ý,h2,h3,h4,_,h5⟩:=dd;have adY:=beq_eq_false_iff_ne.mpr (BF (AJ I.big));have fr:=I.bI.fresh (An s.heap.objs.size);refine⟨.ref s.heap.objs.size,_,I.laid (t':=tk) kp (An _) (show bx X.prog X.w (upd H s.heap.objs.size (.dT (zs.map λz=>(z.k,z.v)))) h' _ (.dT _) from⟨?_,adY,ys,?_,od,es,ep,ý,h2,h3,h4,h5⟩),rfl,q.at _ fr⟩
  ·rw [Af];exact Bt hl ⋯
  ·refine e2.keeps λc xs ec=>?_;rw [aB (λz=>by subst z;rw [fr] at ec;cases ec)];exact ec
end
end L2
variable {es:Array PySem.DictEntry}{ep:Nat}
namespace L2
open PySem PySem.Spec PyProof.Rows
section
def S8 (h:r9) (d:db) (es:Array DictEntry) (ep:Nat):Prop:=∃o,h.get? d=ap o/\o.ExactDict/\o.data=.dict es ep
theorem NA {Q:Option ci->dL->Prop} (Ù:s.heap.IsKeyIter it d i es.size ep) (hm:S8 s.heap d es ep) (hi:i < es.size)
  (q:∀h',h'.IsKeyIter it d (i+1) es.size ep->Cb it s.heap h'->Q (ap es[i].key) {s with heap:=h'}):d5 (ev prog w) A (pyNext (.ref it)) Q E s:=by
 have ty:=Ù.typeIs;obtain⟨o,ho,hc,hd⟩:=id Ù;obtain⟨od,R7,-,Ug⟩:=hm;have Z8:(s.heap.update it (Obj.mapFields (·.setIfInBounds 1 (wP ((i:Int)+1))))).IsKeyIter it d (i+1) es.size ep:=⟨_,CD _ ho (E6 (CW hd _)),(Obj.cls_mapFields ..).trans hc,by rw [CW hd];simp [wP]⟩;refine Aa (CU (AZ (name:=Cn "__next__") ty BI (Bg BI ty Du ?_ (Dk _))));refine Aa (Ag (Aa (Aa ?_)))
 first | refine Aa (B5 ty (Ag ?_)) | refine Aa (Cr ty (Ag ?_))
 refine Aa (wpAny_fieldsOf ho hd ?_);show d5 _ _ (if (AD d==AW)=true then _ else _) _ _ s;rw [if_neg (λz:(AD d==AW)=true=>AU z)];refine Aa (Ag (Aa (El R7 Ug ?_)));rw [if_neg (by simp)];refine Aa (Ag (Aa (E1 R7 Ug ?_)));rw [if_neg (by simp)];refine Ag ?_;have i0:¬((i:Int) < 0):=by omega
 simp only [i0,if_false,A1,CO hi];refine Aa ?_
 first | refine Aa (B5 ty (Ag ?_)) | refine Aa (Cr ty (Ag ?_))
 refine Aa (wpAny_isOneOf_keyiter ty ?_);show d5 _ _ (EQ (.ref it) 1 (wP ((i:Int)+1)) >>= _) _ _ s;refine Aa (D8 ho hd (by simp) (Aa (Be (Aa (wpAny_isOneOf_keyiter (s:={s with heap:=s.heap.update it (Obj.mapFields (·.setIfInBounds 1 (wP ((i:Int)+1))))}) Z8.typeIs ?_)))));exact Ag (Ag ⟨_,rfl,Ag (q _ Z8 (Cb.update ..))⟩)
theorem Sx {Q:Option ci->dL->Prop} (hh:A.handled=bv) (Ù:s.heap.IsKeyIter it d i es.size ep) (hm:S8 s.heap d es ep) (hi:es.size<=i)
  (q:∀h',FN it s.heap h'->Q bv {s with heap:=h'}):d5 (ev prog w) A (pyNext (.ref it)) Q E s:=by
 have ty:=Ù.typeIs;obtain⟨o,ho,hc,hd⟩:=id Ù;obtain⟨od,R7,-,Ug⟩:=hm;refine Aa (CU (AZ (name:=Cn "__next__") ty BI (Bg BI ty Du ?_ (Dk _))));refine Aa (Ag (Aa (Aa ?_)))
 first | refine Aa (B5 ty (Ag ?_)) | refine Aa (Cr ty (Ag ?_))
 refine Aa (wpAny_fieldsOf ho hd ?_);show d5 _ _ (if (AD d==AW)=true then _ else _) _ _ s;rw [if_neg (λz:(AD d==AW)=true=>AU z)];refine Aa (Ag (Aa (El R7 Ug ?_)));rw [if_neg (by simp)];refine Aa (Ag (Aa (E1 R7 Ug ?_)));rw [if_neg (by simp)];refine Ag ?_;have i0:¬((i:Int) < 0):=by omega
 simp only [i0,if_false,A1,EU hi];refine Aa ?_
 first | refine Aa (B5 ty (Ag ?_)) | refine Aa (Cr ty (Ag ?_))
 show d5 _ _ (EQ (.ref it) 0 .none >>= _) _ _ s;refine Aa (D8 ho hd (by simp) ?_);refine Aa ?_;refine Aa (Bh (Aa (m:=firstArgMember _ _) (CB (a:=AW) (by first | rfl | (simp only [firstArgMember];rfl)) (Bh ?_ (by size_fits)))) (by size_fits));unfold raiseNew;refine Aa (wpAny_handled ?_);rw [show A.in1.handled=bv from hh];refine Aa (Ag (wpAny_throw ?_));refine Aa (Dm (T:="StopIteration") (b:=true) ⟨_,Aq _ rfl,rfl⟩ isSubtype_stop ?_);exact Ag (q _ (((Cb.update ..).extBut.push _).push _))
def NY (hs:(d==wf)=false) (hm:S8 s.heap d es ep)
  (q:Q (.ref s.heap.objs.size) {s with heap:=s.heap.push {cls:=.type "dict_keyiterator",data:=.fields #[.ref d,.int 0 0,.int es.size 0,.int ep 0]}}):d5 (ev prog w) A (pyIter (.ref d)) Q E s:=by
 obtain⟨od,R7,hx,Ug⟩:=hm;have ty:s.TypeIs (.ref d) "dict":=⟨_,R7,hx.1⟩;refine wpAny_pyIter_slot ty F.slot_dict_iter (Bg F.slot_dict_iter ty F.entry_dict_iter ?_ (F.args_dict_iter_1 _));refine Aa ?_;refine Aa (wpAny_notOrdered_dict ty ?_);refine Ag ?_;show d5 _ _ (Builtin.Dict.showsAll d >>= _) _ _ s;unfold Builtin.Dict.showsAll;rw [if_neg (by rw [hs];exact AU)];refine Aa (Ag (Aa (El R7 Ug (Aa (E1 R7 Ug ?_)))));exact Aa (Bh (Ag ⟨_,rfl,"dict_keyiterator",_,⟨_,Aq _ rfl,rfl⟩,BI.lookup,q⟩))
end
end L2
variable {u:L2.HO}
namespace L2
open PySem PySem.Spec PyProof.Rows
section
variable {σ:St}
def Inv.freeze (I:Inv X Z σ H s) (e:H a=ap (.dT kvs)):∃o,Inv X Z σ (upd H a (.cO o (.dT kvs))) s:=by
 obtain⟨z,hs,xs,r,o,es,ep,h1,h2,h3,h4,h5⟩:=(show bx X.prog X.w H s.heap a (.dT kvs) from I.bI a _ e);refine⟨o,?_⟩;have q:=I.write (x:=a) (e:=a) (o:=.cO o (.dT kvs)) (h':=s.heap) (t':=s.toks) (by rw [e];exact BX) (.inl rfl) (λb u _ z=>z) ⟨o,h1⟩
  ⟨h1,z,hs,xs,KT.keeps r λb ys eb=>by rw [aB (Jc eb e (λz=>nomatch z))];exact eb,o,es,ep,h1,h2,h3,h4,h5⟩
 exact q
def Inv.Yo (I:Inv X Z σ H s) (e:H a=ap (.cO o u)) (h0:∀o u,X.H₀ a≠ap (.cO o u)) (hu:bx X.prog X.w (upd H a u) s.heap a u) (bI:lV X.prog X.w (upd H a u) s.heap):Inv X Z σ (upd H a u) s:=by
 have ne:∀b v,H b=v->v≠ap (.cO o u)->b≠a:=λb v q n z=>by subst z;exact n (q.symm.trans e)
 refine⟨I.ok,I.os,I.bare,⟨I.base.keep,I.base.slot,λb ob q n hx=>?_,I.base.there,λb xs q=>?_,λb ob xs q=>?_,λb ps q=>?_⟩,I.loc,I.cell,?_,λx c q=>?_,λp hp=>?_,bI,I.len⟩
 ·have:=I.base.free b ob q n hx;rw [aB (ne b _ this (by simp))];exact this
 ·have:=I.base.eK b xs q;rw [aB (ne b _ this (by simp))];exact this
 ·have:=I.base.pT b ob xs q;have hb:b≠a:=λz=>by subst z;exact h0 _ _ q
  rw [aB hb];exact this
 ·obtain⟨m,this⟩:=I.base.vH b ps q;exact⟨m,by rw [aB (ne b _ this (by simp))];exact this⟩
 ·rw [aB (ne _ _ I.free (by simp))];exact I.free
 ·rw [aB (ne _ _ (I.ke x c q) (by simp))];exact I.ke x c q
 ·obtain⟨p1,p2,p3⟩:=I.pin p hp;exact⟨p1,by rw [aB (ne _ _ p2 (by simp))];exact p2,p3⟩
end
def aa0 (a:db) (o:Obj):It:=
 ⟨λi H=>∃kvs,H a=ap (.cO o (.dT kvs))/\i < kvs.length,λi H x H'=>H'=H/\∀kvs,H a=ap (.cO o (.dT kvs))->∃b k v,x=.ref b/\kvs[i]?=ap (k,v)/\H b=ap (.tup (k.map kV)),λi H=>∃kvs,H a=ap (.cO o (.dT kvs))/\kvs.length<=i⟩
theorem Ou (x:bx P w H h a (.cO o (.dT kvs))) (hd:o.data=.dict es ep) :
  S8 h a es ep/\es.size=kvs.length/\∀(i:Nat) (hi:i < es.size),∃b k v,es[i].key=.ref b/\kvs[i]?=ap (k,v)/\H b=ap (.tup (k.map kV)):=by
 obtain⟨e,z,hs,xs,r,o',ą,Ć,h1,h2,h3,h4,h5⟩:=x;rw [e] at h1;cases h1;rw [hd] at h3;cases h3;have hl:es.size=xs.length:=by have:=congrArg BV h4;simpa using this
 refine⟨⟨o,e,h2,hd⟩,hl.trans (Paired.length r).symm,λi hi=>?_⟩;have hx:xs[i]?=ap (xs[i]'∅):=Ad _;have pg:∀{l:List (List Key×V)}{m:List (List Key×db×ci)}{i:Nat}{q:List Key×db×ci},KT H l m->m[i]?=ap q->∃v,l[i]?=ap (q.1,v)/\H q.2.1=ap (.tup (q.1.map kV)):=by
  intro l m i q t
  induction t generalizing i with
  | nil=>intro h;simp at h
  | @cons p q' ps qs hq t ih=>
   intro h;cases i with
   | zero=>
    cases h;obtain⟨p1,p2⟩:=p;have e1:=hq.1;subst e1;exact⟨p2,rfl,hq.2.1⟩
   | succ i=>exact ih (by simpa using h)
 obtain⟨v,g1,g2⟩:=pg r hx;refine⟨_,_,v,?_,g1,g2⟩;have:es[i]=entryOfKey (sn (bN P w)) (xs[i]'∅):=by
  have h6:es.toList[i]?=ap (entryOfKey (sn (bN P w)) (xs[i]'∅)):=by rw [h4,Ai,hx];rfl
  rw [Fb,CO hi] at h6;exact Option.some.inj h6
 rw [this];rfl
theorem J0 {K:Ab} (a it:db) (o:Obj) (hd:o.data=.dict es ep):Turn P w K tg (aa0 a o) [it] it (λi h=>h.IsKeyIter it a i es.size ep) where
 mem:=by simp
 obj:=λi h st b hb=>by
  have e:b=it:=by simpa using hb
  subst e;obtain⟨o,e,c,d⟩:=st;exact⟨o,e,λv z=>by rw [d] at z;cases z⟩
 keep:=λi h h' st k=>st.at λo e=>k it (by simp) o e
 item:=by
  intro X hP hw hK hc i Z s σ H E I hf st hg;subst hP hw hK;obtain⟨kvs,hq,hx⟩:=hg;obtain⟨ď,hl,ky⟩:=Ou (I.bI a _ hq) hd;obtain⟨b,k,v,k1,k2,k3⟩:=ky i ∅;obtain⟨f0,f1,f2,f3,f4,f5⟩:=hf it (by simp);refine NA st ď ∅ λh' mN sb=>?_;have I1:Inv X Z σ H {s with heap:=h'}:=I.turned (t':=s.toks) (λb o hb e=>(sb.2 b hb).trans e) f0 f1 f3 f4 f5;obtain⟨oi,e,c,d⟩:=id mN;refine⟨_,rfl,se (s:={s with heap:=h'}) e c d ⋯ ⟨.ref b,H,I1,k1,⟨rfl,λagO ý=>?_⟩,mN,λb hb=>(hf b hb).1⟩⟩;rw [hq] at ý;cases ý;exact⟨b,k,v,rfl,k2,k3⟩
 done:=by
  intro X hP hw hK hc i Z s σ H E I hf st hg;obtain⟨kvs,hq,hx⟩:=hg;obtain⟨ď,hl,ky⟩:=Ou (I.bI a _ hq) hd;obtain⟨f0,f1,f2,f3,f4,f5⟩:=hf it (by simp);exact Sx (I.ok.hd hc) st ď ∅ λh' eb=>⟨rfl,I.turned (t':=s.toks) (λb o hb e=>eb b o hb e) f0 f1 f3 f4 f5⟩
 self:=λ_ _ _ _ _ st h=>wpAny_pyIter_keyiter st h
def Wt (tl:TE):TI:=λσ H R=>tl σ H λx H1=>∃a o kvs,x=.ref a/\H1 a=ap (.cO o (.dT kvs))/\R (aa0 a o) H1
def Nc {l:lw} (hl:PE X l tl):PI X tg l (Wt tl):=by
 intro Z s σ H R I h;refine bE (hl Z s σ H _ I h) λv s1 ⟨x,H1,I1,r1,q1⟩=>?_;obtain⟨a,o,kvs,e,hq,q⟩:=q1;subst e;cases r1;obtain⟨eo,z,hs,xs,r,o',es,ep,h1,h2,h3,h4,h5⟩:=(show bx X.prog X.w H1 s1.heap a (.cO o (.dT kvs)) from I1.bI a _ hq);rw [eo] at h1;cases h1;refine NY hs ⟨o,eo,h2,h3⟩ ?_;refine⟨s1.heap.objs.size,[s1.heap.objs.size],_,_,H1,rfl,I1.kept (t':=s1.toks) λb o e=>Ah _ e,J0 a _ o h3,⟨_,Aq _ rfl,rfl,rfl⟩,λb hb=>?_,q⟩;have e:b=s1.heap.objs.size:=by simpa using hb
 subst e;exact I1.uj (An _) (I1.bI.fresh (An _))
end L2
variable {v:PL.PV}{φ:List L2.V->Prop}
noncomputable section
namespace FL
section
open PySem PySem.Spec PyProof.Rows L2 PL
variable {K:Ab}
structure W (α:Type) where
 run:(α->Prop)->Prop
 mono:∀{Q Q':α->Prop},(∀a,Q a->Q' a)->run Q->run Q'
namespace W
variable {α β γ:Type}
def ext' {a b:W α} (h:∀Q,a.run Q↔b.run Q):a=b:=by
 cases a;cases b;congr;funext Q;exact propext (h Q)
noncomputable def ret (a:α):W α:=⟨λQ=>Q a,λh q=>h _ q⟩
noncomputable def bind (w:W α) (k:α->W β):W β:=⟨λQ=>w.run λa=>(k a).run Q,λh q=>w.mono (λa q=>(k a).mono h q) q⟩
def fail:W α:=⟨λ_=>False,λ_ q=>q⟩
def fq (p:Prop) (w:W α):W α:=⟨λQ=>p/\w.run Q,λh q=>⟨q.1,w.mono h q.2⟩⟩
def any (p:α->Prop):W α:=⟨λQ=>∀a,p a->Q a,λh q a pa=>h a (q a pa)⟩
def wu:Option α->W α
 | some a=>ret a
 | none=>fail
@[simp] theorem ai (a:α) (k:α->W β):bind (ret a) k=k a:=(rfl)
@[simp] theorem bind_assoc (w:W α) (f:α->W β) (g:β->W γ):bind (bind w f) g=bind w λa=>bind (f a) g:=(rfl)
@[simp] theorem aaT (w:W α):bind w ret=w:=(rfl)
@[simp] theorem XY (k:α->W β):bind fail k=fail:=(rfl)
@[simp] theorem aj (a:α) (Q:α->Prop):(ret a).run Q=Q a:=(rfl)
@[simp] theorem run_bind (w:W α) (k:α->W β) (Q:β->Prop):(bind w k).run Q=w.run λa=>(k a).run Q:=(rfl)
@[simp] theorem YU (Q:α->Prop):(fail:W α).run Q=False:=(rfl)
@[simp] theorem aba (p Q:α->Prop):(any p).run Q=∀a,p a->Q a:=(rfl)
@[simp] theorem QM (p:Prop) (w:W α) (Q:α->Prop):(fq p w).run Q=(p/\w.run Q):=(rfl)
@[simp] theorem Pj (p:Prop) (w:W α) (k:α->W β):bind (fq p w) k=fq p (bind w k):=(rfl)
def au {p:Prop}{w:W α} (h:p):fq p w=w:=ext' λQ=>⟨λq=>q.2,λq=>⟨h,q⟩⟩
@[simp] theorem aaN {w:W α}:fq True w=w:=au trivial
@[simp] theorem ax (a:α):wu (ap a)=ret a:=(rfl)
@[simp] theorem Zq:wu (bv:Option α)=fail:=(rfl)
end W
inductive SL where
 | val (v:PV) | adr (b:db) | ol (q:Option db) (l:List PV) | qj (bs:List db) (ls:List (List PV)) | od (kvs:List (Key×PV)) | ot (kvs:List (List Key×PV)) | kI (φ:List V->Prop)
abbrev bF:=List (Option SL)
def SL.own:SL->Bool
 | .val _=>false
 | .adr _=>false
 | _=>true
def SL.inn:SL->List db
 | .qj bs _=>bs
 | _=>[]
def SL.has (s:SL) (x a:db):Prop:=a=x\/a∈s.inn
def iD (K:Ab) (H:Hp) (a:db):SL->Prop
 | .val _=>False
 | .adr b=>a=b
 | .qj bs ls=>H a=ap (.lst (bs.map V.ref))/\a∉bs/\bs.Nodup/\bs.length=ls.length/\∀(j:Nat) (b:db) (l:List PV),bs[j]?=ap b->ls[j]?=ap l->∃ws,H b=ap (.lst ws)/\aN K [] H ws l
 | .ol q l=>(∀b,q=ap b->a=b)/\∃vs,H a=ap (.lst vs)/\aN K [] H vs l
 | .od kvs=>∃vs:List (Key×V),H a=ap (.dK vs)/\vs.map (·.1)=kvs.map (·.1)/\aN K [] H (vs.map (·.2)) (kvs.map (·.2))
 | .ot kvs=>∃vs:List (List Key×V),H a=ap (.dT vs)/\vs.map (·.1)=kvs.map (·.1)/\aN K [] H (vs.map (·.2)) (kvs.map (·.2))
 | .kI φ=>∃vs,H a=ap (.lst vs)/\φ vs
def vq (K:Ab) (H:Hp) (u:V) (s:SL):Prop:=(∃v,s=.val v/\VR K [] H u v)\/∃a,u=.ref a/\iD K H a s
def dH (σ:L2.St) (fs:bF) (a:db):Prop:=∃(i:Nat) (s:SL) (x:db),fs[i]?=ap (ap s)/\s.own=true/\σ[i]?=ap (ap (.ref x))/\s.has x a
def eY (σ:L2.St) (fs:bF) (φ:List V->Prop) (a:db):Prop:=∃i:Nat,fs[i]?=ap (ap (.kI φ))/\σ[i]?=ap (ap (.ref a))
structure a8 (K:Ab) (H:Hp) (σ:L2.St) (fs:bF):Prop where
 len:σ.length=fs.length
 at':∀(i:Nat) (s:SL),fs[i]?=ap (ap s)->∃u,σ[i]?=ap (ap u)/\vq K H u s
 nd:∀(i j:Nat) (s t:SL) (x y a:db),fs[i]?=ap (ap s)->fs[j]?=ap (ap t)->s.own=true->t.own=true->σ[i]?=ap (ap (.ref x))->σ[j]?=ap (ap (.ref y))->s.has x a->t.has y a->i=j
structure cE (σ:L2.St) (fs:bF) (H:Hp) (σ':L2.St) (bP:bF) (H':Hp):Prop where
 keep:∀a o,H a=ap o->¬dH σ fs a->H' a=ap o/\¬dH σ' bP a
 there:∀a,H' a=bv->H a=bv
 pk:∀a φ,eY σ fs φ a->eY σ' bP φ a\/(¬dH σ' bP a/\∃vs,H' a=ap (.lst vs)/\φ vs)
structure c9 (σ:L2.St) (fs:bF) (H H':Hp):Prop where
 keep:∀a o,H a=ap o->(∀φ,¬eY σ fs φ a)->H' a=ap o
 there:∀a,H' a=bv->H a=bv
section
variable {σ σ' σ1 σ2:L2.St}{fs bP Sg dU:bF}{H H' H1 H2:Hp}
def eY.wq (p:eY σ fs φ a):dH σ fs a:=let ⟨i,e1,e2⟩:=p;⟨i,_,_,e1,rfl,e2,.inl rfl⟩
def c9.refl:c9 σ fs H H:=⟨λ_ _ h _=>h,λ_ h=>h⟩
def c9.trans (a:c9 σ fs H H1) (b:c9 σ fs H1 H2):c9 σ fs H H2:=⟨λx o h n=>b.keep x o (a.keep x o h n) n,λx h=>a.there x (b.there x h)⟩
def c9.f (g:c9 σ fs H H'):cE σ fs H σ fs H':=⟨λa o h n=>⟨g.keep a o h λφ p=>n p.wq,n⟩,g.there,λa φ p=>.inl p⟩
def c9.pz (g:c9 σ fs H H') {o:HO} (h:H a=ap o) (n:¬dH σ fs a):H' a=ap o:=g.keep a o h λφ p=>n p.wq
def c9.same (h:jx H H'):c9 σ fs H H':=⟨λa o e _=>h a o e,λa e=>(by
 cases z:H a with
 | none=>rfl
 | some o=>rw [h a o z] at e;cases e)⟩
def iD.ex {c:db}{s:SL} (h:iD K H a s) (ho:s.own=true) (hc:s.has a c):∃o,H c=ap o/\(∀vs,o≠.tup vs)/\∀ob u,o≠.cO ob u:=by
 cases s with
 | val _=>exact h.elim
 | adr _=>cases ho
 | ol q l=>obtain⟨_,vs,e,_⟩:=h;rcases hc with rfl | hc;exact⟨_,e,by simp,by simp⟩;cases hc
 | qj bs ls=>
  obtain⟨e,_,_,hl,hb⟩:=h;rcases hc with rfl | hc
  ·exact⟨_,e,by simp,by simp⟩
  ·obtain⟨j,hj⟩:=CN (show c∈bs from hc);have h1:=(Ak.mp hj).1;obtain⟨ws,e,_⟩:=hb j c _ hj (Ad (by rw [<- hl];exact h1));exact⟨_,e,by simp,by simp⟩
 | od l=>obtain⟨vs,e,_⟩:=h;rcases hc with rfl | hc;exact⟨_,e,by simp,by simp⟩;cases hc
 | ot l=>obtain⟨vs,e,_⟩:=h;rcases hc with rfl | hc;exact⟨_,e,by simp,by simp⟩;cases hc
 | kI l=>obtain⟨vs,e,_⟩:=h;rcases hc with rfl | hc;exact⟨_,e,by simp,by simp⟩;cases hc
def a8.ownAt (s:a8 K H σ fs) {t:SL} (h1:fs[i]?=ap (ap t)) (h2:t.own=true) (h3:σ[i]?=ap (ap (.ref a))):iD K H a t:=by
 obtain⟨u,e,r⟩:=s.at' i t h1;rw [h3] at e;cases e;rcases r with⟨v,rfl,_⟩ | ⟨b,e,r⟩
 ·cases h2
 ·cases e;exact r
def a8.wq (s:a8 K H σ fs) (h:dH σ fs a):∃o,H a=ap o/\(∀vs,o≠.tup vs)/\∀ob u,o≠.cO ob u:=by
 obtain⟨i,t,x,h1,h2,h3,h4⟩:=h;exact (s.ownAt h1 h2 h3).ex h2 h4
def a8.noOwn (s:a8 K H σ fs) (h:H a=bv):¬dH σ fs a:=λz=>by
 obtain⟨o,e,_⟩:=s.wq z;rw [h] at e;cases e
def a8.VM (s:a8 K H σ fs) (h:H a=ap (.tup vs)):¬dH σ fs a:=λz=>by
 obtain⟨o,e,n,_⟩:=s.wq z;rw [h] at e;cases e;exact n vs rfl
def a8.VN (s:a8 K H σ fs) (h:H a=ap (.cO ob u)):¬dH σ fs a:=λz=>by
 obtain⟨o,e,_,n⟩:=s.wq z;rw [h] at e;cases e;exact n ob u rfl
def cE.refl:cE σ fs H σ fs H:=⟨λ_ _ h n=>⟨h,n⟩,λ_ h=>h,λ_ _ h=>.inl h⟩
def cE.trans (a:cE σ fs H σ1 Sg H1) (b:cE σ1 Sg H1 σ2 dU H2):cE σ fs H σ2 dU H2:=
 ⟨λx o h n=>let ⟨h1,n1⟩:=a.keep x o h n;b.keep x o h1 n1,λx h=>a.there x (b.there x h),λx φ h=>(a.pk x φ h).elim (b.pk x φ) λ⟨n,vs,e,p⟩=>.inr (let ⟨h1,n1⟩:=b.keep x _ e n;⟨n1,vs,h1,p⟩)⟩
def cE.eK (g:cE σ fs H σ' bP H') (s:a8 K H σ fs):bD K H H':=
 ⟨λa vs h=>(g.keep a _ h (s.VM h)).1,λa o u h=>(g.keep a _ h (s.VN h)).1⟩
def VR.tk {u:V} (t:bD K H H') (r:VR K [] H u v):VR K [] H' u v:=r.mono t λ_ _ e=>e
def aN.tk {u:List V}{v:List PV} (t:bD K H H') (r:aN K [] H u v):aN K [] H' u v:=r.mono t λ_ _ e=>e
def cE.vr (g:cE σ fs H σ' bP H') (s:a8 K H σ fs) {u:V} (r:VR K [] H u v):VR K [] H' u v:=VR.tk (g.eK s) r
def c9.eK (g:c9 σ fs H H') (s:a8 K H σ fs):bD K H H':=g.f.eK s
def c9.vr (g:c9 σ fs H H') (s:a8 K H σ fs) {u:V} (r:VR K [] H u v):VR K [] H' u v:=VR.tk (g.eK s) r
def c9.LV (g:c9 σ fs H H') (s:a8 K H σ fs) {u:List V}{v:List PV} (r:aN K [] H u v):aN K [] H' u v:=aN.tk (g.eK s) r
def iD.mono {s:SL} (t:bD K H H') (e:∀c o,s.own=true->s.has a c->H c=ap o->H' c=ap o) (h:iD K H a s):iD K H' a s:=by
 cases s with
 | val _=>exact h
 | adr _=>exact h
 | ol _ l=>obtain⟨z,vs,q,r⟩:=h;exact⟨z,vs,e _ _ rfl (.inl rfl) q,aN.tk t r⟩
 | qj bs ls=>
  obtain⟨z,h1,h2,h3,h4⟩:=h;refine⟨e _ _ rfl (.inl rfl) z,h1,h2,h3,λj b l hb hl=>?_⟩;obtain⟨ws,q,r⟩:=h4 j b l hb hl;exact⟨ws,e _ _ rfl (.inr (Ba hb)) q,aN.tk t r⟩
 | od l=>obtain⟨vs,q,k,r⟩:=h;exact⟨vs,e _ _ rfl (.inl rfl) q,k,aN.tk t r⟩
 | ot l=>obtain⟨vs,q,k,r⟩:=h;exact⟨vs,e _ _ rfl (.inl rfl) q,k,aN.tk t r⟩
 | kI φ=>obtain⟨vs,q,k⟩:=h;exact⟨vs,e _ _ rfl (.inl rfl) q,k⟩
def vq.mono {u:V}{s:SL} (t:bD K H H') (e:∀x a o,u=.ref x->s.own=true->s.has x a->H a=ap o->H' a=ap o) (h:vq K H u s):vq K H' u s:=by
 rcases h with⟨v,q,r⟩ | ⟨a,q,r⟩
 ·exact .inl ⟨v,q,VR.tk t r⟩
 ·exact .inr ⟨a,q,r.mono t (λc o z y w=>e a c o q z y w)⟩
def a8.same (s:a8 K H σ fs) (h:jx H H'):a8 K H' σ fs:=⟨s.len,λi t e=>let ⟨u,h1,h2⟩:=s.at' i t e;⟨u,h1,h2.mono h.e7 (λ_ a o _ _ _ z=>h a o z)⟩,s.nd⟩
def cE.same (h:jx H H') (s:a8 K H σ fs):cE σ fs H σ fs H':=⟨λa o e n=>⟨h a o e,n⟩,λa e=>(by
 cases z:H a with
 | none=>rfl
 | some o=>rw [h a o z] at e;cases e),λa φ p=>.inl p⟩
inductive jz:bF->bF->Prop
 | nil:jz [] []
 | drop {s:Option SL}{a b:bF} (h:jz a b):jz (s::a) (bv::b)
 | keep {s:Option SL}{a b:bF} (h:jz a b):jz (s::a) (s::b)
theorem jz.at {a b:bF} (h:jz a b):∀(i:Nat) (s:SL),b[i]?=ap (ap s)->a[i]?=ap (ap s):=by
 induction h with
 | nil=>intro i s e;simp at e
 | drop h ih=>intro i s e;cases i with | zero=>simp at e | succ i=>simp at e ⊢;exact ih i s e
 | keep h ih=>intro i s e;cases i with | zero=>simpa using e | succ i=>simp at e ⊢;exact ih i s e
theorem jz.length {a b:bF} (h:jz a b):a.length=b.length:=by induction h <;> simp_all
theorem jz.refl:∀a:bF,jz a a
 | []=>.nil
 | _::a=>.keep (jz.refl a)
def a8.le (s:a8 K H σ fs) (h:jz fs bP):a8 K H σ bP:=⟨s.len.trans h.length,λi t e=>s.at' i t (h.at i t e),λi j t u x y a e1 e2=>s.nd i j t u x y a (h.at i t e1) (h.at j u e2)⟩
def dH.le (h:jz fs bP) (o:dH σ bP a):dH σ fs a:=let ⟨i,t,x,e1,e2,e3⟩:=o;⟨i,t,x,h.at i t e1,e2,e3⟩
def cE.le (s:a8 K H σ fs) (h:jz fs bP):cE σ fs H σ bP H:=⟨λa o e n=>⟨e,λz=>n (z.le h)⟩,λ_ e=>e,λa φ p=>by
 obtain⟨i,e1,e2⟩:=p;by_cases c:dH σ bP a
 ·obtain⟨j,t,x,c1,c2,c3,c4⟩:=c;have ij:=s.nd i j _ t a x a e1 (h.at j t c1) rfl c2 e2 c3 (.inl rfl) c4;subst ij;have:=h.at i t c1;rw [e1] at this;cases this;exact .inl ⟨i,c1,e2⟩
 ·obtain⟨vs,q,r⟩:=s.ownAt e1 rfl e2;exact .inr ⟨c,vs,q,r⟩⟩
def bo {l:List (Option α)}{x y:α} (h:(l.set i (ap x))[j]?=ap (ap y)):(j=i/\y=x)\/(j≠i/\l[j]?=ap (ap y)):=by
 by_cases c:j=i
 ·subst c;rw [List.getElem?_set] at h;simp at h;exact .inl ⟨rfl,h.2.symm⟩
 ·rw [Bb (λz=>c z.symm)] at h;exact .inr ⟨c,h⟩
def cB {l:List α}{x:α} (h:i < l.length):(l.set i x)[i]?=ap x:=by rw [List.getElem?_set];simp [h]
def aL {l:List α}{x:α} (h:j≠i):(l.set i x)[j]?=l[j]?:=Bb (λz=>h z.symm)
def a8.put (s:a8 K H σ fs) {u:V}{t:SL} (hr:vq K H u t) (hf:∀x a,u=.ref x->t.own=true->t.has x a->∀(j:Nat) (w:SL) (y:db),j≠i->fs[j]?=ap (ap w)->w.own=true->σ[j]?=ap (ap (.ref y))->¬w.has y a):a8 K H (σ.set i (ap u)) (fs.set i (ap t)):=by
 refine⟨by simp [s.len],λj w e=>?_,λj k w x b1 b2 a e1 e2 o1 o2 q1 q2 z1 z2=>?_⟩
 ·rcases bo e with⟨rfl,rfl⟩ | ⟨n,e⟩
  ·have hl:j < σ.length:=by
    have:=(Ak.mp e).1;rw [BU] at this;rw [s.len];exact this
   exact⟨u,cB hl,hr⟩
  ·obtain⟨v,h1,h2⟩:=s.at' j w e;exact⟨v,by rw [aL n];exact h1,h2⟩
 ·rcases bo e1 with⟨y1,y2⟩ | ⟨n1,f1⟩ <;> rcases bo e2 with⟨y3,y4⟩ | ⟨n2,f2⟩
  ·exact y1.trans y3.symm
  ·subst y1;subst y2;rw [aL n2] at q2;have hl:j < σ.length:=by have:=(Ak.mp q1).1;simpa using this
   rw [cB hl] at q1;cases q1;exact absurd z2 (hf _ a rfl o1 z1 k x b2 n2 f2 o2 q2)
  ·subst y3;subst y4;rw [aL n1] at q1;have hl:k < σ.length:=by have:=(Ak.mp q2).1;simpa using this
   rw [cB hl] at q2;cases q2;exact absurd z1 (hf _ a rfl o2 z2 j w b1 n1 f1 o1 q1)
  ·rw [aL n1] at q1;rw [aL n2] at q2;exact s.nd j k w x b1 b2 a f1 f2 o1 o2 q1 q2 z1 z2
def a8.dN (s:a8 K H σ fs) {u:V} (hr:VR K [] H u v) (i:Nat):a8 K H (σ.set i (ap u)) (fs.set i (ap (.val v))):=s.put (.inl ⟨v,rfl,hr⟩) λ_ _ _ z=>by cases z
def yQ {u:V}{t:SL} (o:dH (σ.set i (ap u)) (fs.set i (ap t)) a) (hl:σ.length=fs.length):dH σ fs a\/∃x,u=.ref x/\t.own=true/\t.has x a:=by
 obtain⟨j,w,x,e1,e2,e3,e4⟩:=o;rcases bo e1 with⟨rfl,rfl⟩ | ⟨n,e1⟩
 ·have h2:j < σ.length:=by have:=(Ak.mp e3).1;simpa using this
  rw [cB h2] at e3;cases e3;exact .inr ⟨x,rfl,e2,e4⟩
 ·rw [aL n] at e3;exact .inl ⟨j,w,x,e1,e2,e3,e4⟩
def IM (s:a8 K H σ fs) {u:V}{t:SL} (p:eY σ fs φ a) (hu:∀x,u=.ref x->t.own=true->t.has x a->t=.kI φ):eY (σ.set i (ap u)) (fs.set i (ap t)) φ a\/¬dH (σ.set i (ap u)) (fs.set i (ap t)) a:=by
 obtain⟨j,e1,e2⟩:=p;by_cases c:j=i
 ·subst c;by_cases c2:∃x,u=.ref x/\t.own=true/\t.has x a
  ·obtain⟨x,c3,c4,c5⟩:=c2;have hl:=(Ak.mp e2).1;have KN:=(Ak.mp e1).1;have et:=hu x c3 c4 c5;subst et;rcases c5 with rfl | c5
   ·exact .inl ⟨j,by rw [cB KN],by rw [cB hl,c3]⟩
   ·cases c5
  ·refine .inr λo=>?_;obtain⟨k,w,y,q1,q2,q3,q4⟩:=o;rcases bo q1 with⟨rfl,rfl⟩ | ⟨n,q1⟩
   ·have hl:=(Ak.mp e2).1;rw [cB hl] at q3;cases q3;exact c2 ⟨y,rfl,q2,q4⟩
   ·rw [aL n] at q3;exact n (s.nd k j w _ y a a q1 e1 q2 rfl q3 e2 q4 (.inl rfl))
 ·exact .inl ⟨j,by rw [aL c];exact e1,by rw [aL c];exact e2⟩
def cE.dN (s:a8 K H σ fs) (u:V) (v:PV) (i:Nat):cE σ fs H (σ.set i (ap u)) (fs.set i (ap (.val v))) H:=
 ⟨λa o e n=>⟨e,λz=>(yQ z s.len).elim n λ⟨_,_,z,_⟩=>by cases z⟩,λ_ e=>e,λa φ p=>(IM s p (λ_ _ z=>by cases z)).imp id λn=>⟨n,by
  obtain⟨j,e1,e2⟩:=p;obtain⟨vs,q,r⟩:=s.ownAt e1 rfl e2;exact⟨vs,q,r⟩⟩⟩
def a8.M5 (s:a8 K H σ fs) {t:SL} (hr:iD K H a t) (hn:∀c,t.has a c->¬dH σ fs c) (i:Nat):a8 K H (σ.set i (ap (.ref a))) (fs.set i (ap t)):=s.put (.inr ⟨a,rfl,hr⟩) λx c e _ hc j w y n e1 e2 e3 z=>by
 cases e;exact hn c hc ⟨j,w,y,e1,e2,e3,z⟩
def wZ {t:SL} (hi:t.inn=[]) {c:db} (h:t.has a c):c=a:=by
 rcases h with h | h
 ·exact h
 ·rw [hi] at h;cases h
def a8.oy (s:a8 K H σ fs) {t:SL} (hr:iD K H a t) (hn:¬dH σ fs a) (i:Nat) (hi:t.inn=[]:=by rfl):a8 K H (σ.set i (ap (.ref a))) (fs.set i (ap t)):=s.M5 hr (λc hc=>by rw [wZ hi hc];exact hn) i
def cE.M5 (s:a8 K H1 σ fs) (g:cE σ fs H σ fs H1) {t:SL} (hn:∀c,t.has a c->¬dH σ fs c) (h0:∀c,t.has a c->H c=bv) (i:Nat):cE σ fs H (σ.set i (ap (.ref a))) (fs.set i (ap t)) H1:=by
 refine⟨λb o e n=>⟨(g.keep b o e n).1,λz=>(yQ z s.len).elim n λ⟨x,z,_,y⟩=>?_⟩,g.there,λb φ p=>?_⟩
 ·cases z;rw [h0 b y] at e;cases e
 ·obtain⟨j,e1,e2⟩:=p;obtain⟨vs,q,r⟩:=s.ownAt e1 rfl e2;refine (IM (t:=t) s ⟨j,e1,e2⟩ (λx z o y=>?_)).imp id λn=>⟨n,vs,q,r⟩;cases z;exact absurd ⟨j,_,_,e1,rfl,e2,.inl rfl⟩ (hn b y)
def cE.oy (s:a8 K H1 σ fs) (g:cE σ fs H σ fs H1) {t:SL} (hn:¬dH σ fs a) (h0:H a=bv) (i:Nat) (hi:t.inn=[]:=by rfl):cE σ fs H (σ.set i (ap (.ref a))) (fs.set i (ap t)) H1:=cE.M5 s g (λc hc=>by rw [wZ hi hc];exact hn) (λc hc=>by rw [wZ hi hc];exact h0) i
def pq (s:a8 K H σ fs) {t t':SL}{c:db} (e1:fs[i]?=ap (ap t)) (o:t.own=true) (np:∀φ,t≠.kI φ) (e2:σ[i]?=ap (ap (.ref a))) (hc:t.has a c) (P6:t'.has a c) (ue:∀b,t'.has a b->t.has a b) (o':t'.own=true) (sx:oe c H H') (ht:bD K H H'->iD K H' a t'):a8 K H' σ (fs.set i (ap t'))/\cE σ fs H σ (fs.set i (ap t')) H':=by
 have oa:=s.ownAt e1 o e2;obtain⟨ob,q,n1,n2⟩:=oa.ex o hc;have tk:bD K H H':=⟨λb vs z=>sx b _ (λy=>by subst y;rw [q] at z;cases z;exact n1 _ rfl) z,λb o u z=>sx b _ (λy=>by subst y;rw [q] at z;cases z;exact n2 _ _ rfl) z⟩;have XC:=ht tk;have hi:i < fs.length:=(Ak.mp e1).1;have Ra:∀b,dH σ (fs.set i (ap t')) b->dH σ fs b:=λb z=>by
  obtain⟨j,w,x,z1,z2,z3,z4⟩:=z;rcases bo z1 with⟨rfl,rfl⟩ | ⟨n,z1⟩
  ·rw [e2] at z3;cases z3;exact⟨j,t,a,e1,o,e2,ue b z4⟩
  ·exact⟨j,w,x,z1,z2,z3,z4⟩
 refine⟨⟨by simp [s.len],λj w e=>?_,λj k w x b1 b2 b z1 z2 o1 o2 q1 q2 y1 y2=>?_⟩,⟨λb ob e n=>⟨sx b ob (λz=>by subst z;exact n ⟨i,t,a,e1,o,e2,hc⟩) e,λz=>n (Ra b z)⟩,λb e=>?_,λb φ p=>?_⟩⟩
 ·rcases bo e with⟨rfl,rfl⟩ | ⟨n,e⟩
  ·exact⟨_,e2,.inr ⟨a,rfl,XC⟩⟩
  ·obtain⟨u,h1,h2⟩:=s.at' j w e;refine⟨u,h1,h2.mono tk (λx b ob eb ow hb z=>sx b ob (λy=>?_) z)⟩;subst y;subst eb;exact n (s.nd j i w t x a b e e1 ow o h1 e2 hb hc)
 ·have f:∀{j:Nat}{w:SL}{y:db},(fs.set i (ap t'))[j]?=ap (ap w)->w.own=true->σ[j]?=ap (ap (.ref y))->w.has y b->∃w',fs[j]?=ap (ap w')/\w'.own=true/\w'.has y b:=λ{j w y} z ow qy hy=>by
   rcases bo z with⟨rfl,rfl⟩ | ⟨n,z⟩
   ·rw [e2] at qy;cases qy;exact⟨t,e1,o,ue b hy⟩
   ·exact⟨w,z,ow,hy⟩
  obtain⟨w',a1,a2,a3⟩:=f z1 o1 q1 y1;obtain⟨x',c1,c2,c3⟩:=f z2 o2 q2 y2;exact s.nd j k w' x' b1 b2 b a1 c1 a2 c2 q1 q2 a3 c3
 ·cases z:H b with
  | none=>rfl
  | some ob=>
   by_cases cc:b=c
   ·subst cc;obtain⟨o2,y,_⟩:=XC.ex o' P6;rw [e] at y;cases y
   ·rw [sx b ob cc z] at e;cases e
 ·obtain⟨j,p1,p2⟩:=p;have ji:j≠i:=λz=>by subst z;rw [e1] at p1;cases p1;exact np φ rfl
  exact .inl ⟨j,by rw [aL ji];exact p1,p2⟩
def jJ (s:a8 K H σ fs) {t t':SL} (e1:fs[i]?=ap (ap t)) (o:t.own=true) (np:∀φ,t≠.kI φ) (e2:σ[i]?=ap (ap (.ref a))) (sx:oe a H H') (ht:bD K H H'->iD K H' a t') (hi:t'.inn=t.inn:=by rfl) (o':t'.own=true:=by rfl):a8 K H' σ (fs.set i (ap t'))/\cE σ fs H σ (fs.set i (ap t')) H':=
 pq s e1 o np e2 (.inl rfl) (.inl rfl) (λb h=>by unfold SL.has at h ⊢;rw [hi] at h;exact h) o' sx ht
end
end
end FL
open FL.W renaming bind→am,ret→bm,run_bind→cr,aj→ga,ai→gt,au→re,ax→sK,ext'→BT
local macro_rules | `($a\$b)=>`(am (bm $a) $b)
variable {u:L2.V}{b:BD}{fs bP:FL.bF}{es:List BD}{σ':L2.St}{wa wb wc:FL.W PL.PV}{wl:FL.W (List PL.PV)}
namespace FL
section
open PySem PySem.Spec PyProof.Rows L2 PL
variable {K:Ab}
def fE (K:Ab) (fs:bF) (w:W PV):TE:=λσ H Q=>a8 K H σ fs/\w.run λv=>∀u H',c9 σ fs H H'->a8 K H' σ fs->VR K [] H' u v->Q u H'
def fT (K:Ab) (fs:bF) (w:W Bool):TT:=λσ H Q=>a8 K H σ fs/\w.run λb=>∀H',c9 σ fs H H'->a8 K H' σ fs->Q b H'
def fO (K:Ab) (fs:bF) (w:W (Option Int)):TO:=λσ H Q=>a8 K H σ fs/\w.run λb=>∀H',c9 σ fs H H'->a8 K H' σ fs->Q b H'
def fL (K:Ab) (fs:bF) (w:W (List PV)):TE:=λσ H Q=>a8 K H σ fs/\w.run λl=>∀a vs H',c9 σ fs H H'->a8 K H' σ fs->H a=bv->H' a=ap (.lst vs)->aN K [] H' vs l->Q (.ref a) H'
def Xp (K:Ab) (H:Hp) (u:V) (l:List PV):Prop:=∃a vs,u=.ref a/\(Uy K H a vs\/H a=ap (.tup vs))/\aN K [] H vs l
def S6 (K:Ab) (σ:L2.St) (fs:bF) (H:Hp) (u:V) (l:List PV):Prop:=Xp K H u l\/∃a,u=.ref a/\((¬dH σ fs a/\∃vs,H a=ap (.lst vs)/\aN K [] H vs l)\/∃(i:Nat) (q:Option db),fs[i]?=ap (ap (.ol q l))/\σ[i]?=ap (ap (.ref a)))
def fQ (K:Ab) (fs:bF) (w:W (List PV)):TE:=λσ H Q=>a8 K H σ fs/\w.run λl=>∀u H',c9 σ fs H H'->a8 K H' σ fs->S6 K σ fs H' u l->Q u H'
def fI (K:Ab) (fs:bF) (w:W (List PV)):TE:=λσ H Q=>a8 K H σ fs/\w.run λl=>∀u H',c9 σ fs H H'->a8 K H' σ fs->Xp K H' u l->Q u H'
inductive AK where
 | v | p (φ:List V->Prop) | f (a:db)
inductive fZ (K:Ab) (σ:L2.St) (fs:bF) (H:Hp):List V->List AK->List PV->Prop
 | nil:fZ K σ fs H [] [] []
 | v {u:V}{x:PV}{vs:List V}{ks:List AK}{l:List PV} (r:VR K [] H u x) (t:fZ K σ fs H vs ks l):fZ K σ fs H (u::vs) (.v::ks) (x::l)
 | p {a:db}{φ:List V->Prop}{vs:List V}{ks:List AK}{l:List PV} (r:eY σ fs φ a) (t:fZ K σ fs H vs ks l):fZ K σ fs H (.ref a::vs) (.p φ::ks) l
 | f {a:db}{vs:List V}{ks:List AK}{l:List PV} (t:fZ K σ fs H vs ks l):fZ K σ fs H (.ref a::vs) (.f a::ks) l
def fA (K:Ab) (fs:bF) (ks:List AK) (w:W (List PV)):TA:=λσ H Q=>a8 K H σ fs/\w.run λl=>∀vs H',c9 σ fs H H'->a8 K H' σ fs->fZ K σ fs H' vs ks l->Q vs H'
structure EF (X:Cx) (K:Ab) (fs:bF) (e:lw) (w:W PV):Prop where p:PE X e (fE K fs w)
structure LF (X:Cx) (K:Ab) (fs:bF) (e:lw) (w:W (List PV)):Prop where p:PE X e (fL K fs w)
structure QF (X:Cx) (K:Ab) (fs:bF) (e:lw) (w:W (List PV)):Prop where p:PE X e (fQ K fs w)
structure IF (X:Cx) (K:Ab) (fs:bF) (e:lw) (w:W (List PV)):Prop where p:PE X e (fI K fs w)
structure TF (X:Cx) (K:Ab) (fs:bF) (e:lw) (w:W Bool):Prop where p:PT X e (fT K fs w)
structure qG (X:Cx) (K:Ab) (fs:bF) (e:lw) (w:W Bool):Prop where p:PW X e (fT K fs w)
structure OF (X:Cx) (K:Ab) (fs:bF) (e:Option lw) (w:W (Option Int)):Prop where p:L2.PO X e (fO K fs w)
structure AF (X:Cx) (K:Ab) (fs:bF) (es:List lw) (ks:List AK) {R:Type} (B:(List PV->W R)->W R):Prop where
 p:∃w:W (List PV),PA X es (fA K fs ks w)/\∀k,B k=am w k
section
def Xp.tk (t:bD K H H') (h:Xp K H u l):Xp K H' u l:=by
 obtain⟨a,vs,e,q,r⟩:=h;exact⟨a,vs,e,q.imp (t.f _ _) (t.t _ _),aN.tk t r⟩
def S6.go (h:S6 K σ fs H u l) (s:a8 K H σ fs) (g:c9 σ fs H H'):S6 K σ fs H' u l:=by
 rcases h with h | ⟨a,e,⟨n,vs,q,r⟩ | q⟩
 ·exact .inl (h.tk (g.eK s))
 ·exact .inr ⟨a,e,.inl ⟨n,vs,(g.pz q n),g.LV s r⟩⟩
 ·exact .inr ⟨a,e,.inr q⟩
def S6.sq (h:S6 K σ fs H u l) (s:a8 K H σ fs):∃a vs,u=.ref a/\(c6 K H a vs\/d7 K H a vs)/\aN K [] H vs l:=by
 rcases h with⟨a,vs,e,q,r⟩ | ⟨a,e,⟨n,vs,q,r⟩ | ⟨i,_,q1,q2⟩⟩
 ·exact⟨a,vs,e,q.elim (λq=>.inl q.sq) λq=>.inr (d7.of q),r⟩
 ·exact⟨a,vs,e,.inl (c6.of q),r⟩
 ·obtain⟨_,vs,q,r⟩:=s.ownAt q1 rfl q2;exact⟨a,vs,e,.inl (c6.of q),r⟩
end
section
variable {a c o:lw}{rest:List lw}{w:W PV}
def ae (i:Nat) (hs:fs[i]?=ap (ap (.val v)):=by rfl) (hN:X.N[i]?=ap x:=by rfl) (hv:tH X.env.scope x:=by first | exact Ci rfl | exact Cc (Ci rfl) | exact Cc (Cc rfl)) (hd:(x==("__debug__":Str))=false:=by decide) (hJ:(x==("__classdict__":Str))=false:=by decide):EF X K fs (.Name x pos) (.ret v):=
 ⟨PE.imp (cV hN hv hd hJ) λσ H Q ⟨sr,q⟩=>by
  obtain⟨u,e1,r⟩:=sr.at' i _ hs;rcases r with⟨w,e,r⟩ | ⟨a,_,r⟩
  ·cases e;exact⟨u,e1,q u H .refl sr r⟩
  ·exact r.elim⟩
def XZ {v:V}{p:PV} (hv:∀H,VR K [] H v p) (h:PE X e (tC v)):EF X K fs e (.ret p):=⟨PE.imp h λσ H Q ⟨sr,q⟩=>q v H .refl sr (hv _)⟩
def ao {i j}:EF X K fs (.Constant (.int i) j pos) (.ret (.int i)):=XZ (λ_=>.int i) rj
def ki {b j}:EF X K fs (.Constant (.bool b) j pos) (.ret (.bl b)):=XZ (λ_=>.bl b) Zg
def sM {j}:EF X K fs (.Constant .none j pos) (.ret .aX):=XZ (λ_=>.aX) Vu
def fW {x j}:EF X K fs (.Constant (.str x) j pos) (.ret (.str x)):=XZ (λ_=>.str x) rh
def xr {i:Int}{t:Tok} (hm:X.mg x=ap (.int i t)) (hg:Gl X x) (hd:(x==("__debug__":Str))=false:=by decide):EF X K fs (.Name x pos) (.ret (.int i)):=XZ (λ_=>.int i) (qf hg hm ⟨_,rfl⟩ hd)
def sN {i:Str}{t:Tok} (hm:X.mg x=ap (.str i t)) (hg:Gl X x) (hd:(x==("__debug__":Str))=false:=by decide):EF X K fs (.Name x pos) (.ret (.str i)):=XZ (λ_=>.str i) (qf hg hm ⟨_,rfl⟩ hd)
def of2 (m:M2) (x y:PV):W PV:=⟨λQ=>m.f x y [] λz h=>h=[]/\Q z,λf q=>m.mono (λ_ _ q=>⟨q.1,f _ q.2⟩) q⟩
def hr0 (H:Hp):HR K [] H []:=⟨Fh,rfl,λn a o e _=>by simp at e⟩
def pq0 {Q:VK}{z:PV}{h:PH} (sr:a8 K H σ fs) (q:h=[]/\∀u H',c9 σ fs H H'->a8 K H' σ fs->VR K [] H' u z->Q u H'):pQ K [] H Q z h:=λι' v H' g r x=>by
 obtain⟨e,q⟩:=q;subst e;have:ι'=[]:=DB r.len;subst this;have sm:jx H H':=λa o z=>g.keep a o (by simp) z;exact q v H' (c9.same sm) (sr.same sm) x
def oD {r:R2}{m:M2} (hm:M2.Ok K r m) {Q:VK}{v:V}{x y:PV} (sr:a8 K H σ fs) (hu:VR K [] H u x) (hv:VR K [] H v y) (q:(of2 m x y).run λz=>∀u H',c9 σ fs H H'->a8 K H' σ fs->VR K [] H' u z->Q u H'):r u v H Q:=
 hm (hr0 H) hu hv (m.mono (λz h q=>pq0 sr q) q)
def JD {r:R2}{m:M2} (hm:M2.Ok K r m):∀σ H Q,fE K fs (.bind wa λx=>.bind wb λy=>of2 m x y) σ H Q->Tu r (fE K fs wa) (fE K fs wb) σ H Q:=λσ H Q ⟨sr,q⟩=>
 ⟨sr,wa.mono (λx q1 u1 H1 g1 s1 v1=>⟨s1,wb.mono (λy q2 u2 H2 g2 s2 v2=>oD hm s2 (g2.vr s1 v1) v2 ((of2 m x y).mono (λz q u3 H3 g3 s3 v3=>q u3 H3 ((g1.trans g2).trans g3) s3 v3) q2)) q1⟩) q⟩
def OX {op:Operator}{r:R2}{m:M2} (ho:hZ X (tz op) r) (hm:M2.Ok K r m) (ha:EF X K fs a wa) (hb:EF X K fs b wb):EF X K fs (.BinOp a op b pos) (.bind wa λx=>.bind wb λy=>of2 m x y):=⟨PE.imp (IQ ho ha.p hb.p) (JD hm)⟩
def mi (ha:EF X K fs a wa) (hb:EF X K fs b wb):EF X K fs (.BinOp a .Sub b pos) (.bind wa λx=>.bind wb λy=>of2 m8 x y):=OX Vy (zX λ_ _ _ _=>.int _) ha hb
def nP (ha:EF X K fs a wa) (hb:EF X K fs b wb):EF X K fs (.BinOp a .Mult b pos) (.bind wa λx=>.bind wb λy=>of2 mz x y):=OX Rf (xS λ_ _ _ _=>.int _) ha hb
def Ur (ha:EF X K fs a wa) (hb:EF X K fs b wb):EF X K fs (.BinOp a .FloorDiv b pos) (.bind wa λx=>.bind wb λy=>of2 oDiv x y):=OX Rg (xS λ_ _ _ _=>.int _) ha hb
def nQ (ha:EF X K fs a wa) (hb:EF X K fs b wb):EF X K fs (.BinOp a .Mod b pos) (.bind wa λx=>.bind wb λy=>of2 oMod x y):=OX VC (xS λ_ _ _ _=>.int _) ha hb
def OV (ha:EF X K fs a wa) (hb:EF X K fs b wb):EF X K fs (.BinOp a .Pow b pos) (.bind wa λx=>.bind wb λy=>of2 yT x y):=OX VA (xS λ_ _ _ _=>.int _) ha hb
def jM:PV->W PV
 | .int i=>.ret (.int (-i))
 | _=>.fail
def fX (ha:EF X K fs a wa):EF X K fs (.UnaryOp .USub a pos) (.bind wa jM):=⟨PE.imp (Zc UL ha.p) λσ H Q ⟨sr,q⟩=>⟨sr,wa.mono (λx q1 u1 H1 g1 s1 v1=>by
 cases v1 with
 | int i=>exact⟨_,rfl,q1 _ H1 g1 s1 (.int _)⟩
 | _=>exact q1.elim) q⟩⟩
def X3:PV->W Bool
 | .bl b=>.ret b
 | _=>.fail
def gj {m:M2} (hc:JC X K op b m) (ha:EF X K fs a wa) (hb:EF X K fs b wb):EF X K fs (.Compare a [op] [b] pos) (.bind wa λx=>.bind wb λy=>of2 m x y):=let ⟨_,h1,h2⟩:=hc.p;⟨PE.imp (qg h1 ha.p hb.p hc.k) (JD h2)⟩
def Sn {w:W PV}:∀σ H Q,fT K fs (.bind w X3) σ H Q->(fE K fs w) σ H λx H'=>∃k,x=.bl k/\Q k H':=λσ H Q ⟨sr,q⟩=>⟨sr,w.mono (λx q1 u1 H1 g1 s1 v1=>by
 cases v1 with
 | bl b=>exact⟨b,rfl,q1 H1 g1 s1⟩
 | _=>exact q1.elim) q⟩
def cY {m:M2} (hc:JC X K op b m) (ha:EF X K fs a wa) (hb:EF X K fs b wb):TF X K fs (.Compare a [op] [b] pos) (.bind wa λx=>.bind wb λy=>.bind (of2 m x y) X3):=let ⟨_,h1,h2⟩:=hc.p
 ⟨PT.imp (qe h1 ha.p hb.p hc.k) λσ H Q q=>JD h2 σ H _ (Sn (w:=.bind wa λx=>.bind wb λy=>of2 m x y) σ H Q q)⟩
def lq (z:PV) (w:W PV):W PV:=match z with
 | .bl true=>w
 | .bl false=>.ret (.bl false)
 | _=>.fail
def zy {r:R2}{m m':M2} (hm:M2.Ok K r m) (hm':M2.Ok K r' m'):∀σ H Q,fE K fs (.bind wa λx=>.bind wb λy=>.bind (of2 m x y) λz=>lq z (.bind wc λw=>of2 m' y w)) σ H Q->Gh r r' (fE K fs wa) (fE K fs wb) (fE K fs wc) σ H Q:=λσ H Q ⟨sr,q⟩=>
 ⟨sr,wa.mono (λx q1 u1 H1 g1 s1 v1=>⟨s1,wb.mono (λy q2 u2 H2 g2 s2 v2=>oD hm s2 (g2.vr s1 v1) v2 ((of2 m x y).mono (λz q3 u3 H3 g3 s3 v3=>by
  have gg:=(g1.trans g2).trans g3;cases v3 with
  | bl k=>
   cases k with
   | true=>exact⟨true,rfl,by rw [if_pos rfl];exact⟨s3,wc.mono (λw q4 u4 H4 g4 s4 v4=>oD hm' s4 ((g3.trans g4).vr s2 v2) v4 ((of2 m' y w).mono (λz q u5 H5 g5 s5 v5=>q u5 H5 ((gg.trans g4).trans g5) s5 v5) q4)) q3⟩⟩
   | false=>exact⟨false,rfl,by rw [if_neg AU];exact q3 _ H3 gg s3 (.bl _)⟩
  | _=>exact q3.elim) q2)) q1⟩) q⟩
def SE {m m':M2} (hc:JC X K op b m) (P6:JC X K LY c m') (ha:EF X K fs a wa) (hb:EF X K fs b wb) (hd:EF X K fs c wc) (hk:lastMarks [op,LY] [b,c]=false:=by with_unfolding_all rfl):EF X K fs (.Compare a [op,LY] [b,c] pos) (.bind wa λx=>.bind wb λy=>.bind (of2 m x y) λz=>lq z (.bind wc λw=>of2 m' y w)):=
 let ⟨_,h1,h2⟩:=hc.p;let ⟨_,h3,h4⟩:=P6.p;⟨PE.imp (Nk h1 h3 ha.p hb.p hd.p hk) (zy h2 h4)⟩
def Qs {m m':M2} (hc:JC X K op b m) (P6:JC X K LY c m') (ha:EF X K fs a wa) (hb:EF X K fs b wb) (hd:EF X K fs c wc) (hk:lastMarks [op,LY] [b,c]=false:=by with_unfolding_all rfl):TF X K fs (.Compare a [op,LY] [b,c] pos) (.bind wa λx=>.bind wb λy=>.bind (of2 m x y) λz=>.bind (lq z (.bind wc λw=>of2 m' y w)) X3):=
 let ⟨_,h1,h2⟩:=hc.p;let ⟨_,h3,h4⟩:=P6.p;⟨PT.imp (M7 h1 h3 ha.p hb.p hd.p hk) λσ H Q q=>zy h2 h4 σ H _ (Sn (w:=.bind wa λx=>.bind wb λy=>.bind (of2 m x y) λz=>lq z (.bind wc λw=>of2 m' y w)) σ H Q q)⟩
def LH (x:PV) (w:W PV):W PV:=match x with
 | .bl true=>w
 | .bl false=>.ret (.bl false)
 | _=>.fail
def orW (x:PV) (w:W PV):W PV:=match x with
 | .bl true=>.ret (.bl true)
 | .bl false=>w
 | _=>.fail
def Ny:PV->W PV
 | .bl b=>.ret (.bl (!b))
 | _=>.fail
def lj (ha:EF X K fs a wa) (hb:EF X K fs (.BoolOp .And (b::rest) pos) wb):EF X K fs (.BoolOp .And (a::b::rest) pos) (.bind wa λx=>LH x wb):=⟨PE.imp (Vw ha.p hb.p) λσ H Q ⟨sr,q⟩=>⟨sr,wa.mono (λx q1 u1 H1 g1 s1 v1=>by
 cases v1 with
 | bl k=>
  cases k with
  | true=>exact⟨true,rfl,by rw [if_pos rfl];exact⟨s1,wb.mono (λ_ q u H' g s v=>q u H' (g1.trans g) s v) q1⟩⟩
  | false=>exact⟨false,rfl,by rw [if_neg AU];exact q1 _ H1 g1 s1 (.bl _)⟩
 | _=>exact q1.elim) q⟩⟩
def aaB (ha:EF X K fs a wa) (hb:EF X K fs (.BoolOp .Or (b::rest) pos) wb):EF X K fs (.BoolOp .Or (a::b::rest) pos) (.bind wa λx=>orW x wb):=⟨PE.imp (Zd ha.p hb.p) λσ H Q ⟨sr,q⟩=>⟨sr,wa.mono (λx q1 u1 H1 g1 s1 v1=>by
 cases v1 with
 | bl k=>
  cases k with
  | true=>exact⟨true,rfl,by rw [if_pos rfl];exact q1 _ H1 g1 s1 (.bl _)⟩
  | false=>exact⟨false,rfl,by rw [if_neg AU];exact⟨s1,wb.mono (λ_ q u H' g s v=>q u H' (g1.trans g) s v) q1⟩⟩
 | _=>exact q1.elim) q⟩⟩
def lh {op} (h:EF X K fs a wa):EF X K fs (.BoolOp op [a] pos) wa:=⟨Vs h.p⟩
def OY (ha:EF X K fs a wa):EF X K fs (.UnaryOp .Not a pos) (.bind wa Ny):=⟨PE.imp (Vt ha.p) λσ H Q ⟨sr,q⟩=>⟨sr,wa.mono (λx q1 u1 H1 g1 s1 v1=>by
 cases v1 with
 | bl k=>exact⟨_,rfl,q1 _ H1 g1 s1 (.bl _)⟩
 | _=>exact q1.elim) q⟩⟩
variable {ta tb tc:W Bool}
def ig (h:TF X K fs a ta):qG X K fs (.BoolOp .And [a] pos) ta:=⟨QU h.p⟩
def kC (h:TF X K fs a ta):qG X K fs (.BoolOp .Or [a] pos) ta:=⟨Vh h.p⟩
def kD (ha:TF X K fs a ta) (hb:qG X K fs (.BoolOp .And (b::rest) pos) tb):qG X K fs (.BoolOp .And (a::b::rest) pos) (.bind ta λk=>if k=true then tb else .ret false):=⟨PW.imp (Vi ha.p hb.p) λσ H Q ⟨sr,q⟩=>⟨sr,ta.mono (λk q1 H1 g1 s1=>by
 cases k with
 | true=>exact t6 ⟨s1,tb.mono (λ_ q H' g s=>q H' (g1.trans g) s) q1⟩
 | false=>exact ub (q1 H1 g1 s1)) q⟩⟩
def pd (ha:TF X K fs a ta) (hb:qG X K fs (.BoolOp .Or (b::rest) pos) tb):qG X K fs (.BoolOp .Or (a::b::rest) pos) (.bind ta λk=>if k=true then .ret true else tb):=⟨PW.imp (Y9 ha.p hb.p) λσ H Q ⟨sr,q⟩=>⟨sr,ta.mono (λk q1 H1 g1 s1=>by
 cases k with
 | true=>exact t6 (q1 H1 g1 s1)
 | false=>exact ub ⟨s1,tb.mono (λ_ q H' g s=>q H' (g1.trans g) s) q1⟩) q⟩⟩
def qG.t (h:qG X K fs a ta):TF X K fs a ta:=⟨PW.pt h.p⟩
def ik (ha:TF X K fs a ta):TF X K fs (.UnaryOp .Not a pos) (.bind ta λk=>.ret (!k)):=⟨PT.imp (Vk ha.p) λσ H Q ⟨sr,q⟩=>⟨sr,q⟩⟩
def Lg (hc:TF X K fs c tc) (ha:EF X K fs a wa) (hb:EF X K fs b wb):EF X K fs (.IfExp c a b pos) (.bind tc λk=>if k=true then wa else wb):=⟨PE.imp (yL hc.p ha.p hb.p) λσ H Q ⟨sr,q⟩=>⟨sr,tc.mono (λk q1 H1 g1 s1=>by
 cases k with
 | true=>exact t6 ⟨s1,wa.mono (λ_ q u H' g s v=>q u H' (g1.trans g) s v) q1⟩
 | false=>exact ub ⟨s1,wb.mono (λ_ q u H' g s v=>q u H' (g1.trans g) s v) q1⟩) q⟩⟩
def ZD {la lb:W (List PV)} (hc:TF X K fs c tc) (ha:LF X K fs a la) (hb:LF X K fs b lb):LF X K fs (.IfExp c a b pos) (.bind tc λk=>if k=true then la else lb):=⟨PE.imp (yL hc.p ha.p hb.p) λσ H Q ⟨sr,q⟩=>⟨sr,tc.mono (λk q1 H1 g1 s1=>by
 cases k with
 | true=>exact t6 ⟨s1,la.mono (λ_ q a vs H' g s n e v=>q a vs H' (g1.trans g) s (g1.there a n) e v) q1⟩
 | false=>exact ub ⟨s1,lb.mono (λ_ q a vs H' g s n e v=>q a vs H' (g1.trans g) s (g1.there a n) e v) q1⟩) q⟩⟩
def cv:PV->W Bool
 | .aX=>.ret false
 | .bl b=>.ret b
 | .int i=>.ret (i != 0)
 | .str y=>.fq (y.length<=sizeLine) (.ret ((y.length:Int) != 0))
 | .tup l=>.ret (!l.isEmpty)
 | .cl l=>.ret (!l.isEmpty)
 | _=>.fail
def bG (hK:X.K=K) (ha:EF X K fs a wa) (he:∀Æ,isTrue a X.env Æ=(do let v <- Æ;GT a.pos;sB [v] (truthy v))):TF X K fs a (.bind wa cv):=⟨PT.imp (uJ K hK ha.p he) λσ H Q ⟨sr,q⟩=>⟨sr,wa.mono (λx q1 u1 H1 g1 s1 v1=>by
 cases v1 with
 | aX=>exact⟨false,rfl,q1 H1 g1 s1⟩
 | bl b=>exact⟨b,rfl,q1 H1 g1 s1⟩
 | int i=>exact⟨_,rfl,q1 H1 g1 s1⟩
 | str y=>exact⟨_,⟨q1.1,rfl⟩,q1.2 H1 g1 s1⟩
 | ty _=>exact q1.elim
 | dk _ _ _=>exact q1.elim
 | dt _ _ _=>exact q1.elim
 | ref _=>exact q1.elim
 | @tup p vs l e rs=>
  refine⟨!vs.isEmpty,.inr (.inl ⟨_,d7.of e,rfl⟩),?_⟩;rw [<- kW rs];exact q1 H1 g1 s1
 | @cl p vs l e rs=>
  refine⟨!vs.isEmpty,.inl ⟨_,e.sq,rfl⟩,?_⟩;rw [<- kW rs];exact q1 H1 g1 s1) q⟩⟩
def Ml (hK:X.K=K) (ha:QF X K fs a wl) (he:∀Æ,isTrue a X.env Æ=(do let v <- Æ;GT a.pos;sB [v] (truthy v))):TF X K fs a (.bind wl λl=>.ret (!l.isEmpty)):=⟨PT.imp (uJ K hK ha.p he) λσ H Q ⟨sr,q⟩=>⟨sr,wl.mono (λl q1 u1 H1 g1 s1 v1=>by
 obtain⟨b,vs,rfl,h,rs⟩:=v1.sq s1;refine⟨!vs.isEmpty,?_,?_⟩
 ·exact h.elim (λh=>.inl ⟨_,h,rfl⟩) λh=>.inr (.inl ⟨_,h,rfl⟩)
 ·rw [<- kW rs];exact q1 H1 g1 s1) q⟩⟩
variable {R:Type}{ks:List AK}{B:(List PV->W R)->W R}
def ak:AF X K fs [] [] (R:=R) (λk=>k []):=⟨.ret [],PA.imp cG λσ H Q ⟨sr,q⟩=>q [] H .refl sr .nil,λk=>rfl⟩
def af (ha:EF X K fs e w) (hr:AF X K fs es ks B) (hs:ce (e::es) X.env=(false,kw e X.env)::ce es X.env:=by rfl):AF X K fs (e::es) (.v::ks) (λk=>.bind w λx=>B λl=>k (x::l)):=by
 obtain⟨wr,hp,hB⟩:=hr.p;refine⟨.bind w λx=>.bind wr λl=>.ret (x::l),PA.imp (bp ha.p hp hs) λσ H Q ⟨sr,q⟩=>?_,λk=>?_⟩
 ·exact⟨sr,w.mono (λx q1 u1 H1 g1 s1 v1=>⟨s1,wr.mono (λl q2 vs H2 g2 s2 v2=>q2 _ H2 (g1.trans g2) s2 (.v (g2.vr s1 v1) v2)) q1⟩) q⟩
 ·have:(λx=>B λl=>k (x::l))=λx=>am wr λl=>k (x::l):=funext λx=>hB _;rw [this];rfl
def bC (i:Nat) (hr:AF X K fs es ks B) (hs:fs[i]?=ap (ap (.kI φ)):=by rfl) (hN:X.N[i]?=ap x:=by rfl) (hv:tH X.env.scope x:=by first | exact Ci rfl | exact Cc (Ci rfl) | exact Cc (Cc rfl)) (hd:(x==("__debug__":Str))=false:=by decide) (hJ:(x==("__classdict__":Str))=false:=by decide)
  (tF:ce (.Name x pos::es) X.env=(false,kw (.Name x pos) X.env)::ce es X.env:=by rfl):AF X K fs (.Name x pos::es) (.p φ::ks) B:=by
 obtain⟨wr,hp,hB⟩:=hr.p;refine⟨wr,PA.imp (bp (cV hN hv hd hJ) hp tF) λσ H Q ⟨sr,q⟩=>?_,hB⟩;obtain⟨u,e1,r⟩:=sr.at' i _ hs;rcases r with⟨v,e,_⟩ | ⟨a,e,r⟩
 ·cases e
 ·subst e;exact⟨_,e1,sr,wr.mono (λl q2 vs H2 g2 s2 v2=>q2 _ H2 g2 s2 (.p ⟨i,hs,e1⟩ v2)) q⟩
theorem fZ.LV:∀{vs:List V}{n:Nat}{l:List PV},fZ K σ fs H vs (Am n .v) l->aN K [] H vs l/\l.length=n
 | _,0,_,.nil=>⟨.nil,rfl⟩
 | _,n+1,_,.v r t=>⟨.cons r (fZ.LV t).1,by rw [Ao,(fZ.LV t).2]⟩
def aaA {x1}{B:(List PV->W PV)->W PV} (h:AF X K fs es (Am n .v) B) (hn:n<=1000:=by decide):EF X K fs (.Tuple es x1 pos) (B λl=>.ret (.tup l)):=by
 obtain⟨w,hp,hB⟩:=h.p;rw [hB];refine⟨PE.imp (Q6 hp) λσ H Q ⟨sr,q⟩=>⟨sr,w.mono (λl q1 vs H1 g1 s1 v1=>?_) q⟩⟩;obtain⟨v2,hl⟩:=v1.LV;refine⟨by rw [v2.length,hl];exact a9 hn,λp H2 s2 e2 n2=>?_⟩;exact q1 _ H2 (g1.trans (c9.same s2)) (s1.same s2) (.tup e2 (aN.tk s2.e7 v2))
def T5 {B:(List PV->W (List PV))->W (List PV)} (h:AF X K fs es (Am n .v) B) (hn:n<=1000:=by decide):LF X K fs (.List es pos) (B λl=>.ret l):=by
 obtain⟨w,hp,hB⟩:=h.p;rw [hB];refine⟨PE.imp (IT hp) λσ H Q ⟨sr,q⟩=>⟨sr,w.mono (λl q1 vs H1 g1 s1 v1=>?_) q⟩⟩;obtain⟨v2,hl⟩:=v1.LV;refine⟨by rw [v2.length,hl];exact a9 hn,λp H2 s2 e2 n2=>?_⟩;exact q1 _ _ H2 (g1.trans (c9.same s2)) (s1.same s2) (g1.there p n2) e2 (aN.tk s2.e7 v2)
end
end
end FL
namespace L2
open PySem PySem.Spec PyProof.Rows
def Inv.qz {σ:St} (I:Inv X Z σ H s) (e:H a=ap (.lst vs)):∃o,Inv X Z σ (upd H a (.cO o (.lst vs))) s:=by
 obtain⟨z,aw,n,r,h1⟩:=(show bx X.prog X.w H s.heap a (.lst vs) from I.bI a _ e);exact⟨_,I.write (x:=a) (e:=a) (o:=.cO _ (.lst vs)) (h':=s.heap) (t':=s.toks) (by rw [e];exact BX) (.inl rfl) (λb u _ z=>z) ⟨_,h1⟩ ⟨h1,z,aw,n,r,h1⟩⟩
def uU (ok:lV P w H h) (e:H a=ap (.cO o (.lst vs))):lV P w (upd H a (.lst vs)) h:=λb u q=>by
 have ne:∀c v,H c=ap v->v≠.cO o (.lst vs)->upd H a (.lst vs) c=ap v:=λc v z n=>by
  rw [aB (λy=>by subst y;rw [e] at z;cases z;exact n rfl)];exact z
 by_cases hb:b=a
 ·subst hb;rw [aP] at q;cases q;exact bx.vN (ok b _ e).2 (λ_ _ _ z=>z) (λc z=>ne c _ z (by simp)) λc xs z=>ne c _ z (by simp)
 ·rw [aB hb] at q;exact bx.vN (ok b _ q) (λ_ _ _ z=>z) (λc z=>ne c _ z (by simp)) λc xs z=>ne c _ z (by simp)
end L2
variable {o:BD}{m:PL.yj}{ks:List FL.AK}{B:(List PL.PV->FL.W PL.PV)->FL.W PL.PV}{wm:FL.W (List PL.PV)}{q0:Option BK}
namespace FL
section
open PySem PySem.Spec PyProof.Rows L2 PL
variable {K:Ab}
section
def lA (o':HO) (e:H a=ap (.lst vs)):bD K H (upd H a o'):=⟨λb ws q=>by rw [aB (Jc q e (by intro z;cases z))];exact q,λb o u q=>by rw [aB (Jc q e (by intro z;cases z))];exact q⟩
def a8.side (s:a8 K H σ fs) (n:¬dH σ fs a) (e:H a=ap (.lst vs)) (o':HO):a8 K (upd H a o') σ fs:=⟨s.len,λi t q=>by
 obtain⟨u,h1,h2⟩:=s.at' i t q;exact⟨u,h1,h2.mono (lA o' e) (λx b o eb ow hb z=>by subst eb;rw [aB (λy:b=a=>n ⟨i,t,x,q,ow,h1,y▸hb⟩)];exact z)⟩,s.nd⟩
def c9.side (g:c9 σ fs H H1) (h0:H a=bv) (o':HO):c9 σ fs H (upd H1 a o'):=⟨λb o e n=>by rw [aB (bO e h0)];exact g.keep b o e n,λb e=>by
 by_cases c:b=a
 ·subst c;exact h0
 ·rw [aB c] at e;exact g.there b e⟩
end
section
variable {a:lw}{w:W PV}
def mj (h:LF X K fs e wl):EF X K fs e (.bind wl λl=>.ret (.cl l)):=⟨λZ s σ H Q I ⟨sr,q⟩=>by
 refine bE (h.p Z s σ H (λu H1=>∃a vs l,u=.ref a/\c9 σ fs H H1/\a8 K H1 σ fs/\H a=bv/\H1 a=ap (.lst vs)/\aN K [] H1 vs l/\∀u H',c9 σ fs H H'->a8 K H' σ fs->VR K [] H' u (.cl l)->Q u H') I ⟨sr,wl.mono (λl q1 a vs H1 g1 s1 n e v=>⟨a,vs,l,rfl,g1,s1,n,e,v,q1⟩) q⟩) λu s1 ⟨v,H1,I1,r1,a,vs,l,e,g1,QL,n,ea,vr,q1⟩=>?_;subst e;obtain⟨ob,I2⟩:=I1.qz ea;exact⟨.ref a,_,I2,r1,q1 _ _ (g1.side n _) (QL.side (λz=>sr.noOwn n z) ea _) (.cl (.inl ⟨ob,aP⟩) (aN.tk (lA _ ea) vr))⟩⟩
def av:PV->W (List PV)
 | .tup l=>.ret l
 | .cl l=>.ret l
 | _=>.fail
def bB (h:EF X K fs e w):IF X K fs e (.bind w av):=⟨PE.imp h.p λσ H Q ⟨sr,q⟩=>⟨sr,w.mono (λx q1 u1 H1 g1 s1 v1=>by
 cases v1 with
 | tup e r=>exact q1 _ H1 g1 s1 ⟨_,_,rfl,.inr e,r⟩
 | cl e r=>exact q1 _ H1 g1 s1 ⟨_,_,rfl,.inl e,r⟩
 | _=>exact q1.elim) q⟩⟩
def mf (h:LF X K fs e wl):IF X K fs e wl:=bB (mj h)
theorem IF.q (h:IF X K fs e wl):QF X K fs e wl:=⟨PE.imp h.p λσ H Q ⟨sr,q⟩=>⟨sr,wl.mono (λl q1 u1 H1 g1 s1 v1=>q1 u1 H1 g1 s1 (.inl v1)) q⟩⟩
def ar (h:EF X K fs e w):QF X K fs e (.bind w av):=(bB h).q
def dI (h:LF X K fs e wl):QF X K fs e wl:=⟨PE.imp h.p λσ H Q ⟨sr,q⟩=>⟨sr,wl.mono (λl q1 a vs H1 g1 s1 n e v=>q1 _ H1 g1 s1 (.inr ⟨a,rfl,.inl ⟨sr.noOwn n,vs,e,v⟩⟩)) q⟩⟩
def cj (i:Nat) (hs:fs[i]?=ap (ap (.ol q0 l)):=by rfl) (hN:X.N[i]?=ap x:=by rfl) (hv:tH X.env.scope x:=by first | exact Ci rfl | exact Cc (Ci rfl) | exact Cc (Cc rfl)) (hd:(x==("__debug__":Str))=false:=by decide) (hJ:(x==("__classdict__":Str))=false:=by decide):QF X K fs (.Name x pos) (.ret l):=
 ⟨PE.imp (cV hN hv hd hJ) λσ H Q ⟨sr,q⟩=>by
  obtain⟨u,e1,r⟩:=sr.at' i _ hs;rcases r with⟨w,e,r⟩ | ⟨a,e,r⟩
  ·cases e
  ·subst e;exact⟨_,e1,q _ H .refl sr (.inr ⟨a,rfl,.inr ⟨i,q0,hs,e1⟩⟩)⟩⟩
def LZ (l:List PV):PV->W PV
 | .int i=>.wu (bW l i)
 | _=>.fail
def aE (hK:X.K=K) (ha:QF X K fs a wl) (hb:EF X K fs b wb) (hs:qH b:=by exact λ_ _=>rfl):EF X K fs (.Subscript a b pos) (.bind wl λl=>.bind wb λy=>LZ l y):=⟨PE.imp (Nh (Jo K hK) ha.p hb.p hs) λσ H Q ⟨sr,q⟩=>⟨sr,wl.mono (λl q1 u1 H1 g1 s1 v1=>⟨s1,wb.mono (λy q2 u2 H2 g2 s2 v2=>by
 cases v2 with
 | int i=>
  have q2:(W.wu (bW l i)).run _:=q2;cases z:bW l i with
  | none=>rw [z] at q2;exact q2.elim
  | some x=>
   rw [z] at q2;obtain⟨ad,vs,rfl,h,rs⟩:=(v1.go s1 g2).sq s2;obtain⟨v,e1,e2⟩:=aN.bW rs z;have q3:=q2 v H2 (g1.trans g2) s2 e2;exact h.elim (λh=>.inl ⟨ad,vs,i,v,rfl,rfl,h,e1,q3⟩) λh=>.inr (.inl ⟨ad,vs,i,v,rfl,rfl,h,e1,q3⟩)
 | _=>exact q2.elim) q1⟩) q⟩⟩
def aaG (ha:EF X K fs a wa) (hb:EF X K fs b wb) (hs:qH b):EF X K fs (.Subscript a b pos) (.bind wa λx=>.bind wb λy=>of2 Nw x y):=⟨PE.imp (Nh NX ha.p hb.p hs) (JD Ro)⟩
def qo (m:yj) (l:List PV):W PV:=⟨λQ=>m.f l [] λz h=>h=[]/\Q z,λf q=>m.mono (λ_ _ q=>⟨q.1,f _ q.2⟩) q⟩
section
variable {id:String}{r:List V->Hp->VK->Prop}
def Nv (hm:yj.Ok K r m) {Q:VK}{us:List V} (sr:a8 K H σ fs) (hu:aN K [] H us l) (q:(qo m l).run λz=>∀u H',c9 σ fs H H'->a8 K H' σ fs->VR K [] H' u z->Q u H'):r us H Q:=hm (hr0 H) hu (m.mono (λz h q=>pq0 sr q) q)
def qD (hc:bR X (.builtin id) r) (hB:yj.Ok K r m) (hg:Gl X x) (hm:X.mg x=bv) (hv:pr x=ap (.builtin id)) (ha:AF X K fs (e::es) (Am n .v) B) (hn:x≠"__name__":=by decide) (nF:(x==("__debug__":Str))=false:=by decide)
  (he:ce (e::es) X.env=(false,kw e X.env)::ce es X.env:=by rfl) (dJ:(lm pos (ce es X.env)).any (·.1)=false:=by rfl):EF X K fs (.Call (.Name x p) (e::es) [] pos) (B (qo m)):=by
 obtain⟨w,hp,į⟩:=ha.p;rw [į];exact⟨PE.imp (eO hc hg hm hv hp hn nF he dJ) λσ H Q ⟨sr,q⟩=>⟨sr,w.mono (λl q1 vs H1 g1 s1 v1=>Nv hB s1 v1.LV.1 ((qo m l).mono (λz q u H' g s v=>q u H' (g1.trans g) s v) q1)) q⟩⟩
def O5 (hc:bR X (.type id) r) (hB:yj.Ok K r m) (hg:Gl X x) (hm:X.mg x=bv) (hv:pr x=ap (.type id)) (ha:AF X K fs (e::es) (Am n .v) B) (hn:x≠"__name__":=by decide) (nF:(x==("__debug__":Str))=false:=by decide)
  (he:ce (e::es) X.env=(false,kw e X.env)::ce es X.env:=by rfl) (dJ:(lm pos (ce es X.env)).any (·.1)=false:=by rfl):EF X K fs (.Call (.Name x p) (e::es) [] pos) (B (qo m)):=by
 obtain⟨w,hp,į⟩:=ha.p;rw [į];exact⟨PE.imp (lE hc hg hm hv hp hn nF he dJ) λσ H Q ⟨sr,q⟩=>⟨sr,w.mono (λl q1 vs H1 g1 s1 v1=>Nv hB s1 v1.LV.1 ((qo m l).mono (λz q u H' g s v=>q u H' (g1.trans g) s v) q1)) q⟩⟩
def CQ (K:Ab) (r:List V->Hp->VK->Prop) (m:List PV->W PV):Prop:=∀{fs:bF}{σ:L2.St}{H:Hp}{Q:VK}{u:V}{l:List PV},a8 K H σ fs->S6 K σ fs H u l->((m l).run λz=>∀u H',c9 σ fs H H'->a8 K H' σ fs->VR K [] H' u z->Q u H')->r [u] H Q
def CL (K:Ab) (r:List V->Hp->VK->Prop) (m:List PV->W (List PV)):Prop:=∀{fs:bF}{σ:L2.St}{H:Hp}{Q:VK}{u:V}{l:List PV},a8 K H σ fs->S6 K σ fs H u l->((m l).run λz=>∀a vs H',c9 σ fs H H'->a8 K H' σ fs->H a=bv->H' a=ap (.lst vs)->aN K [] H' vs z->Q (.ref a) H')->r [u] H Q
def O6 {m:List PV->W PV} (hc:bR X (.builtin id) r) (hB:CQ K r m) (hg:Gl X x) (hm:X.mg x=bv) (hv:pr x=ap (.builtin id)) (ha:QF X K fs e wl) (hn:x≠"__name__":=by decide) (nF:(x==("__debug__":Str))=false:=by decide)
  (he:ce [e] X.env=(false,kw e X.env)::ce [] X.env:=by rfl) (dJ:(lm pos (ce [] X.env)).any (·.1)=false:=by rfl):EF X K fs (.Call (.Name x p) [e] [] pos) (.bind wl m):=⟨PE.imp (eO hc hg hm hv (bp ha.p cG he) hn nF he dJ) λσ H Q ⟨sr,q⟩=>⟨sr,wl.mono (λl q1 u H1 g1 s1 v1=>hB s1 v1 ((m l).mono (λz q u H' g s v=>q u H' (g1.trans g) s v) q1)) q⟩⟩
def Lj {m:List PV->W PV} (hc:bR X (.type id) r) (hB:CQ K r m) (hg:Gl X x) (hm:X.mg x=bv) (hv:pr x=ap (.type id)) (ha:QF X K fs e wl) (hn:x≠"__name__":=by decide) (nF:(x==("__debug__":Str))=false:=by decide)
  (he:ce [e] X.env=(false,kw e X.env)::ce [] X.env:=by rfl) (dJ:(lm pos (ce [] X.env)).any (·.1)=false:=by rfl):EF X K fs (.Call (.Name x p) [e] [] pos) (.bind wl m):=⟨PE.imp (lE hc hg hm hv (bp ha.p cG he) hn nF he dJ) λσ H Q ⟨sr,q⟩=>⟨sr,wl.mono (λl q1 u H1 g1 s1 v1=>hB s1 v1 ((m l).mono (λz q u H' g s v=>q u H' (g1.trans g) s v) q1)) q⟩⟩
def abn {m:List PV->W (List PV)} (hc:bR X (.builtin id) r) (hB:CL K r m) (hg:Gl X x) (hm:X.mg x=bv) (hv:pr x=ap (.builtin id)) (ha:QF X K fs e wl) (hn:x≠"__name__":=by decide) (nF:(x==("__debug__":Str))=false:=by decide)
  (he:ce [e] X.env=(false,kw e X.env)::ce [] X.env:=by rfl) (dJ:(lm pos (ce [] X.env)).any (·.1)=false:=by rfl):LF X K fs (.Call (.Name x p) [e] [] pos) (.bind wl m):=⟨PE.imp (eO hc hg hm hv (bp ha.p cG he) hn nF he dJ) λσ H Q ⟨sr,q⟩=>⟨sr,wl.mono (λl q1 u H1 g1 s1 v1=>hB s1 v1 ((m l).mono (λz q a vs H' g s n e v=>q a vs H' (g1.trans g) s (g1.there a n) e v) q1)) q⟩⟩
def NQ {m:List PV->W (List PV)} (hc:bR X (.type id) r) (hB:CL K r m) (hg:Gl X x) (hm:X.mg x=bv) (hv:pr x=ap (.type id)) (ha:QF X K fs e wl) (hn:x≠"__name__":=by decide) (nF:(x==("__debug__":Str))=false:=by decide)
  (he:ce [e] X.env=(false,kw e X.env)::ce [] X.env:=by rfl) (dJ:(lm pos (ce [] X.env)).any (·.1)=false:=by rfl):LF X K fs (.Call (.Name x p) [e] [] pos) (.bind wl m):=⟨PE.imp (lE hc hg hm hv (bp ha.p cG he) hn nF he dJ) λσ H Q ⟨sr,q⟩=>⟨sr,wl.mono (λl q1 u H1 g1 s1 v1=>hB s1 v1 ((m l).mono (λz q a vs H' g s n e v=>q a vs H' (g1.trans g) s (g1.there a n) e v) q1)) q⟩⟩
end
def mC (l:List PV):W PV:=.ret (.int l.length)
def RC (K:Ab):CQ K (Vd K) mC:=λ{fs σ H Q u l} s v q=>by
 obtain⟨a,vs,rfl,h,rs⟩:=v.sq s;refine⟨_,vs.length,rfl,?_,?_⟩
 ·exact h.elim (λh=>.inl ⟨_,h,rfl⟩) λh=>.inr ⟨_,h,rfl⟩
 ·rw [rs.length];exact q _ H .refl s (.int _)
def kE (l:List PV):W PV:=.ret (.tup l)
def Qm (K:Ab):CQ K (MV K) kE:=λ{fs σ H Q u l} s v q=>by
 have fresh:∀{a:db}{vs:List V},c6 K H a vs->aN K [] H vs l->MV K [.ref a] H Q:=λ{a vs} h rs=>⟨a,vs,rfl,.inl ⟨h,λp H2 s2 e2 n2=>q _ H2 (c9.same s2) (s.same s2) (.tup e2 (aN.tk s2.e7 rs))⟩⟩;rcases v with⟨a,vs,rfl,h | h,rs⟩ | ⟨a,rfl,⟨n,vs,h,rs⟩ | ⟨i,_,q1,q2⟩⟩
 ·exact fresh h.sq rs
 ·exact⟨a,vs,rfl,.inr ⟨d7.of h,q _ H .refl s (.tup h rs)⟩⟩
 ·exact fresh (c6.of h) rs
 ·obtain⟨_,vs,h,rs⟩:=s.ownAt q1 rfl q2;exact fresh (c6.of h) rs
end
end
end FL
variable {R:Type}{m:List PL.PV->FL.W PL.PV}
namespace FL
section
open PySem PySem.Spec PyProof.Rows L2 PL
variable {K:Ab}
def ye (vs:List V) (ks:List AK) (φ:List V->Prop) (a:db):Prop:=∃i:Nat,ks[i]?=ap (.p φ)/\vs[i]?=ap (.ref a)
structure GoC (vs:List V) (ks:List AK) (H H':Hp):Prop where
 keep:∀a o,H a=ap o->(∀φ,¬ye vs ks φ a)->H' a=ap o
 there:∀a,H' a=bv->H a=bv
 Vp:∀a φ,ye vs ks φ a->∃ws,H' a=ap (.lst ws)/\φ ws
inductive iR (K:Ab) (H:Hp):List V->List AK->List PV->Prop
 | nil:iR K H [] [] []
 | v {u:V}{x:PV}{vs:List V}{ks:List AK}{l:List PV} (r:VR K [] H u x) (t:iR K H vs ks l):iR K H (u::vs) (.v::ks) (x::l)
 | p {a:db}{φ:List V->Prop}{ws vs:List V}{ks:List AK}{l:List PV} (e:H a=ap (.lst ws)) (r:φ ws) (t:iR K H vs ks l):iR K H (.ref a::vs) (.p φ::ks) l
 | f {a:db}{vs:List V}{ks:List AK}{l:List PV} (t:iR K H vs ks l):iR K H (.ref a::vs) (.f a::ks) l
def d8 (K:Ab) (ks:List AK) (m:List PV->W PV):Sp:=λvs H Q _=>∃l,iR K H vs ks l/\(m l).run λv=>∀u H',GoC vs ks H H'->VR K [] H' u v->Q u H'
def eL (K:Ab) (ks:List AK) (m:List PV->W (List PV)):Sp:=λvs H Q _=>∃l,iR K H vs ks l/\(m l).run λz=>∀a ws H',GoC vs ks H H'->H a=bv->H' a=ap (.lst ws)->aN K [] H' ws z->Q (.ref a) H'
def Qa (R:Type):Nat->Type
 | 0=>W R
 | n+1=>PV->Qa R n
def bS:(n:Nat)->Qa R n->List PV->W R
 | 0,m,[]=>m
 | n+1,m,x::l=>bS n (m x) l
 | 0,_,_::_=>.fail
 | _+1,_,[]=>.fail
section
def fZ.kI (h:fZ K σ fs H vs ks l) (p:ye vs ks φ a):eY σ fs φ a:=by
 obtain⟨i,e1,e2⟩:=p
 induction h generalizing i with
 | nil=>simp at e1
 | v r t ih=>cases i with | zero=>simp at e1 | succ i=>exact ih i (by simpa using e1) (by simpa using e2)
 | p r t ih=>
  cases i with
  | zero=>simp at e1 e2;subst e1;subst e2;exact r
  | succ i=>exact ih i (by simpa using e1) (by simpa using e2)
 | f t ih=>cases i with | zero=>simp at e1 | succ i=>exact ih i (by simpa using e1) (by simpa using e2)
def fZ.c (h:fZ K σ fs H vs ks l) (s:a8 K H σ fs):iR K H vs ks l:=by
 induction h with
 | nil=>exact .nil
 | v r t ih=>exact .v r ih
 | p r t ih=>
  obtain⟨i,e1,e2⟩:=r;obtain⟨ws,q,x⟩:=s.ownAt e1 rfl e2;exact .p q x ih
 | f t ih=>exact .f ih
def GoC.caller (g:GoC vs ks H H') (h:fZ K σ fs H vs ks l) (s:a8 K H σ fs):a8 K H' σ fs/\c9 σ fs H H':=by
 have gf:c9 σ fs H H':=⟨λa o e n=>g.keep a o e λφ p=>n φ (h.kI p),g.there⟩;have tk:=gf.eK s;refine⟨⟨s.len,λi t e=>?_,s.nd⟩,gf⟩;obtain⟨u,h1,h2⟩:=s.at' i t e;refine⟨u,h1,?_⟩;rcases h2 with⟨v,q,r⟩ | ⟨a,q,r⟩
 ·exact .inl ⟨v,q,VR.tk tk r⟩
 ·subst q;refine .inr ⟨a,rfl,?_⟩;by_cases c:(∃φ,ye vs ks φ a)/\t.own=true
  ·obtain⟨⟨φ,p⟩,ow⟩:=c;obtain⟨j,e1,e2⟩:=h.kI p;have ij:=s.nd i j t _ a a a e e1 ow rfl h1 e2 (.inl rfl) (.inl rfl);subst ij;rw [e] at e1;cases e1;exact g.Vp a φ p
  ·refine r.mono tk (λb o ow hb z=>g.keep b o z λφ p=>?_);obtain⟨j,e1,e2⟩:=h.kI p;have ij:=s.nd i j t _ a b b e e1 ow rfl h1 e2 hb (.inl rfl);subst ij;rw [h1] at e2;cases e2;exact c ⟨⟨φ,p⟩,ow⟩
end
section
def WZ (G:Tf X.prog X.w X.K X.mg X.base x k ps (d8 K ks m)) (hr:c7 k' X.A) (hk:k<=k') (hg:Gl X x) (ha:AF X K fs (e::es) ks B) (nF:(x==("__debug__":Str))=false:=by decide)
  (he:ce (e::es) X.env=(false,kw e X.env)::ce es X.env:=by rfl) (dJ:(lm pos (ce es X.env)).any (·.1)=false:=by rfl):EF X K fs (.Call (.Name x p) (e::es) [] pos) (B m):=by
 obtain⟨w,hp,hB⟩:=ha.p;rw [hB];exact⟨PE.imp (Nm G hr hk hg hp nF he dJ) λσ H Q ⟨sr,q⟩=>⟨sr,w.mono (λl q1 vs H1 g1 s1 v1=>⟨l,v1.c s1,(m l).mono (λz q2 u H2 g2 r2=>let ⟨s2,g3⟩:=g2.caller v1 s1;q2 u H2 (g1.trans g3) s2 r2) q1⟩) q⟩⟩
def V4 {m:List PV->W (List PV)}{B:(List PV->W (List PV))->W (List PV)} (G:Tf X.prog X.w X.K X.mg X.base x k ps (eL K ks m)) (hr:c7 k' X.A) (hk:k<=k') (hg:Gl X x) (ha:AF X K fs (e::es) ks B) (nF:(x==("__debug__":Str))=false:=by decide)
  (he:ce (e::es) X.env=(false,kw e X.env)::ce es X.env:=by rfl) (dJ:(lm pos (ce es X.env)).any (·.1)=false:=by rfl):LF X K fs (.Call (.Name x p) (e::es) [] pos) (B m):=by
 obtain⟨w,hp,hB⟩:=ha.p;rw [hB];exact⟨PE.imp (Nm G hr hk hg hp nF he dJ) λσ H Q ⟨sr,q⟩=>⟨sr,w.mono (λl q1 vs H1 g1 s1 v1=>⟨l,v1.c s1,(m l).mono (λz q2 a ws H2 g2 n2 e2 r2=>let ⟨s2,g3⟩:=g2.caller v1 s1;q2 a ws H2 (g1.trans g3) s2 (g1.there a n2) e2 r2) q1⟩) q⟩⟩
end
end
end FL
variable {x:Bool}{T:Type}{p':Cv}
namespace FL
section
open PySem PySem.Spec PyProof.Rows L2 PL
variable {K:Ab}
inductive End where
 | nx (fs:bF) | nc (fs:bF) | ct (fs:bF) | rt (v:PV) | rl (l:List PV) | bk (fs:bF) | ro (v:PV) (a:db) (l:List PV)
def yg (σ:L2.St) (fs:bF) (H:Hp) (a:db):Prop:=H a=bv\/∃(i:Nat) (s:SL) (x:db),fs[i]?=ap (ap s)/\s.own=true/\(∀φ,s≠.kI φ)/\σ[i]?=ap (ap (.ref x))/\s.has x a
def bQ (K:Ab) (x:Bool) (σ:L2.St) (fs:bF) (H:Hp) (D:Ends):End->Prop
 | .nx bP=>x=false->∀σ' H',cE σ fs H σ' bP H'->a8 K H' σ' bP->D.nx σ' H'
 | .nc bP=>∀σ' H',cE σ fs H σ' bP H'->a8 K H' σ' bP->(x=false->D.nx σ' H')/\D.ct σ' H'
 | .ct bP=>∀σ' H',cE σ fs H σ' bP H'->a8 K H' σ' bP->D.ct σ' H'
 | .bk bP=>∀σ' H',cE σ fs H σ' bP H'->a8 K H' σ' bP->D.bk σ' H'
 | .rt v=>∀u σ' bP H',cE σ fs H σ' bP H'->a8 K H' σ' bP->VR K [] H' u v->D.rt u H'
 | .ro v a l=>∀u σ' bP H',cE σ fs H σ' bP H'->a8 K H' σ' bP->(∃i:Nat,bP[i]?=ap (ap (.ol (ap a) l)))->VR K [] H' u v->D.rt u H'
 | .rl l=>∀a ws σ' bP H',cE σ fs H σ' bP H'->a8 K H' σ' bP->yg σ fs H a->H' a=ap (.lst ws)->aN K [] H' ws l->D.rt (.ref a) H'
def fS (K:Ab) (x:Bool) (fs:bF) (w:W T) (out:T->End):TS:=λD σ H=>a8 K H σ fs/\w.run λt=>bQ K x σ fs H D (out t)
structure SF (X:Cx) (K:Ab) (x:Bool) (fs:bF) (PY:List u8) {T:Type} (w:W T) (out:T->End):Prop where p:qI X PY (fS K x fs w out)
section
variable {σ1:L2.St}{Sg:bF}
def yg.go (g:cE σ fs H σ1 Sg H1) (s:a8 K H σ fs) (s1:a8 K H1 σ1 Sg) (h:yg σ1 Sg H1 a):yg σ fs H a:=by
 rcases h with h | ⟨i,t,x,e1,e2,np,e3,e4⟩
 ·exact .inl (g.there a h)
 ·cases z:H a with
  | none=>exact .inl z
  | some o=>
   by_cases c:dH σ fs a
   ·obtain⟨j,t',y,c1,c2,c3,c4⟩:=c;by_cases d:∃φ,t'=.kI φ
    ·obtain⟨φ,rfl⟩:=d;rcases c4 with rfl | c4
     ·rcases g.pk a φ ⟨j,c1,c3⟩ with⟨k,k1,k2⟩ | ⟨n,_⟩
      ·have:=s1.nd i k t _ x a a e1 k1 e2 rfl e3 k2 e4 (.inl rfl);subst this;rw [e1] at k1;cases k1;exact absurd rfl (np φ)
      ·exact absurd ⟨i,t,x,e1,e2,e3,e4⟩ n
     ·cases c4
    ·exact .inr ⟨j,t',y,c1,c2,λφ e=>d ⟨φ,e⟩,c3,c4⟩
   ·exact absurd ⟨i,t,x,e1,e2,e3,e4⟩ (g.keep a o z c).2
def bQ.go (g:cE σ fs H σ1 Sg H1) (s:a8 K H σ fs) (s1:a8 K H1 σ1 Sg) {E:End} (h:bQ K x σ fs H D E):bQ K x σ1 Sg H1 D E:=by
 cases E with
 | nx bP=>exact λhx σ' H' g' s'=>h hx σ' H' (g.trans g') s'
 | nc bP=>exact λσ' H' g' s'=>h σ' H' (g.trans g') s'
 | bk bP=>exact λσ' H' g' s'=>h σ' H' (g.trans g') s'
 | ct bP=>exact λσ' H' g' s'=>h σ' H' (g.trans g') s'
 | rt v=>exact λu σ' bP H' g' s' r=>h u σ' bP H' (g.trans g') s' r
 | ro v a l=>exact λu σ' bP H' g' s' o r=>h u σ' bP H' (g.trans g') s' o r
 | rl l=>exact λa ws σ' bP H' g' s' f e r=>h a ws σ' bP H' (g.trans g') s' (f.go g s s1) e r
def bQ.exit {D':Ends} (h1:D'.rt=D.rt) (h2:D'.ct=D.ct) (h3:D'.bk=D.bk) {E:End} (h:bQ K x σ fs H D E):bQ K true σ fs H D' E:=by
 cases E with
 | nx bP=>exact λhx=>nomatch hx
 | nc bP=>exact λσ' H' g' s'=>⟨λhx=>(nomatch hx),h2▸(h σ' H' g' s').2⟩
 | bk bP=>exact λσ' H' g' s'=>h3▸h σ' H' g' s'
 | ct bP=>exact λσ' H' g' s'=>h2▸h σ' H' g' s'
 | rt v=>exact λu σ' bP H' g' s' r=>h1▸h u σ' bP H' g' s' r
 | ro v a l=>exact λu σ' bP H' g' s' o r=>h1▸h u σ' bP H' g' s' o r
 | rl l=>exact λa ws σ' bP H' g' s' f e r=>h1▸h a ws σ' bP H' g' s' f e r
end
section
variable {X:Cx}{a b c e o:lw}{pos p:Pos}{fs bP:bF}{st:u8}{PY rest sa sb:List u8}{T T1:Type}{w wk:W T}{out:T->End}{we:W PV}{wl:W (List PV)}{x:Bool}
def End.Jr:End->Prop
 | .rt _=>True
 | .rl _=>True
 | .ro _ _ _=>True
 | _=>False
def bQ.Zj {D':Ends}{y:Bool}{E:End} (ho:E.Jr) (e:D'.rt=D.rt) (h:bQ K x σ fs H D E):bQ K y σ fs H D' E:=by
 cases E with
 | rt v=>exact λu σ' bP H' g s r=>e▸h u σ' bP H' g s r
 | rl v=>exact λa ws σ' bP H' g s f ea r=>e▸h a ws σ' bP H' g s f ea r
 | ro v a l=>exact λu σ' bP H' g s o r=>e▸h u σ' bP H' g s o r
 | _=>exact ho.elim
def yo (X:Cx) (K:Ab) (x:Bool) (rest:List u8) {T:Type} (out:T->End):TS:=λD σ H=>∃bP w',SF X K x bP rest w' out/\fS K x bP w' out D σ H
def QN:qI X rest (yo X K x rest out):=λZ s σ H D I ⟨bP,w',h,q⟩=>h.p Z s σ H D I q
def NC:qI X rest UR:=λ_ _ _ _ _ _ h=>h.elim
def SF.step {t:TS} (h:PS X st t) (hq:∀D σ H,fS K x fs w out D σ H->t {D with nx:=yo X K x rest out D} σ H):SF X K x fs (st::rest) w out:=⟨qI.imp (yF h QN) λD σ H q=>hq D σ H q⟩
def SF.last {t:TS} (h:PS X st t) (hq:∀D σ H,fS K x fs w out D σ H->t {D with nx:=λ_ _=>False} σ H):SF X K x fs (st::rest) w out:=⟨qI.imp (yF h NC) λD σ H q=>hq D σ H q⟩
def SF.nil {t:T} (h:out t=.nx bP) (hl:jz fs bP):SF X K false fs [] (.ret t) out:=⟨qI.imp vZ λD σ H ⟨sr,q⟩=>by
 have q:bQ K false σ fs H D (out t):=q;rw [h] at q;exact q rfl σ H (cE.le sr hl) (sr.le hl)⟩
def SF.fh {t:T} (h:out t=.nc bP) (hl:jz fs bP):SF X K false fs [] (.ret t) out:=⟨qI.imp vZ λD σ H ⟨sr,q⟩=>by
 have q:bQ K false σ fs H D (out t):=q;rw [h] at q;exact (q σ H (cE.le sr hl) (sr.le hl)).1 rfl⟩
def SF.cont {t:T} (h:out t=.nc bP\/out t=.ct bP) (hl:jz fs bP):SF X K x fs (.Continue pos::rest) (.ret t) out:=SF.last yI λD σ H ⟨sr,q⟩=>by
 have q:bQ K x σ fs H D (out t):=q;rcases h with h | h
 ·rw [h] at q;exact (q σ H (cE.le sr hl) (sr.le hl)).2
 ·rw [h] at q;exact q σ H (cE.le sr hl) (sr.le hl)
def SF.ret {k:PV->T} (he:EF X K fs e we) (h:∀v,out (k v)=.rt v):SF X K x fs (.Return (ap e) pos::rest) (.bind we λv=>.ret (k v)) out:=SF.last (v8 he.p) λD σ H ⟨sr,q⟩=>⟨sr,we.mono (λv q1 u H1 g1 s1 v1=>by
 have q1:bQ K x σ fs H D (out (k v)):=q1;rw [h] at q1;exact q1 u σ fs H1 g1.f s1 v1) q⟩
def SF.bH {out:PV->End} (he:EF X K fs e we) (h:∀v,out v=.rt v):SF X K x fs (.Return (ap e) pos::rest) we out:=SF.ret (k:=λv=>v) he h
def SF.acO {k:List PV->T} (he:LF X K fs e wl) (h:∀l,out (k l)=.rl l):SF X K x fs (.Return (ap e) pos::rest) (.bind wl λl=>.ret (k l)) out:=SF.last (v8 he.p) λD σ H ⟨sr,q⟩=>⟨sr,wl.mono (λl q1 a ws H1 g1 s1 n e v1=>by
 have q1:bQ K x σ fs H D (out (k l)):=q1;rw [h] at q1;exact q1 a ws σ fs H1 g1.f s1 (.inl n) e v1) q⟩
def SF.fc {out:List PV->End} (he:LF X K fs e wl) (h:∀v,out v=.rl v):SF X K x fs (.Return (ap e) pos::rest) wl out:=SF.acO (k:=λv=>v) he h
def SF.MN (i:Nat) {t:T} (hs:fs[i]?=ap (ap (.ol q0 l))) (h:out t=.rl l) (hN:X.N[i]?=ap y:=by rfl) (hv:tH X.env.scope y:=by first | exact Ci rfl | exact Cc (Ci rfl) | exact Cc (Cc rfl)) (hd:(y==("__debug__":Str))=false:=by decide) (hJ:(y==("__classdict__":Str))=false:=by decide):SF X K x fs (.Return (ap (.Name y p)) pos::rest) (.ret t) out:=SF.last (v8 (cV hN hv hd hJ)) λD σ H ⟨sr,q⟩=>by
 have q:bQ K x σ fs H D (out t):=q;rw [h] at q;obtain⟨u,e1,r⟩:=sr.at' i _ hs;rcases r with⟨v,e,_⟩ | ⟨a,e,r⟩
 ·cases e
 ·subst e;obtain⟨_,ws,q1,q2⟩:=r;exact⟨_,e1,q a ws σ fs H .refl sr (.inr ⟨i,_,_,hs,rfl,by simp,e1,.inl rfl⟩) q1 q2⟩
def SF.YV (i:Nat) {ad:db}{k:PV->T} (hs:fs[i]?=ap (ap (.ol (ap ad) l))) (he:EF X K fs e we) (h:∀v,out (k v)=.ro v ad l):SF X K x fs (.Return (ap e) pos::rest) (.bind we λv=>.ret (k v)) out:=SF.last (v8 he.p) λD σ H ⟨sr,q⟩=>⟨sr,we.mono (λv q1 u H1 g1 s1 v1=>by
 have q1:bQ K x σ fs H D (out (k v)):=q1;rw [h] at q1;exact q1 u σ fs H1 g1.f s1 ⟨i,hs⟩ v1) q⟩
def SF.expr {k:PV->W T} (he:EF X K fs e we) (hr:∀v,SF X K x fs rest (k v) out) (hs:nn e bv pos.line X.env=pure false:=by rfl):SF X K x fs (.Expr e pos::rest) (.bind we k) out:=SF.step (m5 he.p hs) λD σ H ⟨sr,q⟩=>
 ⟨sr,we.mono (λv q1 u H1 g1 s1 v1=>⟨fs,k v,hr v,s1,(k v).mono (λt q2=>q2.go g1.f sr s1) q1⟩) q⟩
def SF.set {k:PV->W T} (hN:X.N.Nodup) (hi:X.N[i]?=ap y) (hx:Loc X.env.scope y) (he:EF X K fs e we) (hr:∀v,SF X K x (fs.set i (ap (.val v))) rest (k v) out) (hs:nn e (ap (.Name y p')) pos.line X.env=pure false:=by rfl)
  (hf:X.fn y=true\/X.env.scope.names.lookup y=ap .local:=by first | exact .inl rfl | exact .inr rfl | assumption):SF X K x fs (.Assign [.Name y p'] e pos::rest) (.bind we k) out:=SF.step (oz hN hi hx he.p hs hf) λD σ H ⟨sr,q⟩=>
 ⟨sr,we.mono (λv q1 u H1 g1 s1 v1=>⟨_,k v,hr v,s1.dN v1 i,(k v).mono (λt q2=>q2.go (g1.f.trans (cE.dN s1 u v i)) sr (s1.dN v1 i)) q1⟩) q⟩
def SF.acL {k:List PV->W T} (hN:X.N.Nodup) (hi:X.N[i]?=ap y) (hx:Loc X.env.scope y) (he:LF X K fs e wl) (hr:∀l,SF X K x (fs.set i (ap (.ol bv l))) rest (k l) out) (hs:nn e (ap (.Name y p')) pos.line X.env=pure false:=by rfl)
  (hf:X.fn y=true\/X.env.scope.names.lookup y=ap .local:=by first | exact .inl rfl | exact .inr rfl | assumption):SF X K x fs (.Assign [.Name y p'] e pos::rest) (.bind wl k) out:=SF.step (oz hN hi hx he.p hs hf) λD σ H ⟨sr,q⟩=>by
 refine⟨sr,wl.mono (λl q1 a ws H1 g1 s1 n e v1=>?_) q⟩;have no:=sr.noOwn n;have s2:=s1.oy (t:=.ol bv l) ⟨by simp,ws,e,v1⟩ no i;exact⟨_,k l,hr l,s2,(k l).mono (λt q2=>q2.go (cE.oy s1 g1.f no n i) sr s2) q1⟩
def SF.cO (i:Nat) {q0:Option db}{l:List PV} (hs:fs[i]?=ap (ap (.ol q0 l))) (hr:SF X K x (fs.set i (ap (.val (.cl l)))) PY w out):SF X K x fs PY w out:=⟨λZ s σ H D I ⟨sr,q⟩=>by
 obtain⟨u,e1,r⟩:=sr.at' i _ hs;rcases r with⟨v,e,_⟩ | ⟨a,e,_,ws,q1,q2⟩
 ·cases e
 ·subst e;obtain⟨ob,I2⟩:=I.qz q1;have tk:=lA (K:=K) (.cO ob (.lst ws)) q1;have sS:σ.set i (ap (.ref a))=σ:=Bi λj=>by
   by_cases c:j=i
   ·subst c;rw [cB ((Ak.mp e1).1),e1]
   ·rw [aL c]
  have ow:∀b,dH σ (fs.set i (ap (.val (.cl l)))) b->dH σ fs b:=λb z=>by
   obtain⟨j,t,x,z1,z2,z3,z4⟩:=z;rcases bo z1 with⟨rfl,rfl⟩ | ⟨n,z1⟩
   ·cases z2
   ·exact⟨j,t,x,z1,z2,z3,z4⟩
  have na:¬dH σ (fs.set i (ap (.val (.cl l)))) a:=λz=>by
   obtain⟨j,t,x,z1,z2,z3,z4⟩:=z;rcases bo z1 with⟨rfl,rfl⟩ | ⟨n,z1⟩
   ·cases z2
   ·exact n (sr.nd j i t _ x a a z1 hs z2 rfl z3 e1 z4 (.inl rfl))
  have s2:a8 K (upd H a (.cO ob (.lst ws))) σ (fs.set i (ap (.val (.cl l)))):=by
   refine⟨by simp [sr.len],λj t z=>?_,λj k t u b1 b2 b z1 z2 o1 o2=>?_⟩
   ·rcases bo z with⟨rfl,rfl⟩ | ⟨n,z⟩
    ·exact⟨_,e1,.inl ⟨_,rfl,.cl (.inl ⟨ob,aP⟩) (aN.tk tk q2)⟩⟩
    ·obtain⟨u,h1,h2⟩:=sr.at' j t z;exact⟨u,h1,h2.mono tk (λx b o eb ow hb zz=>by
      subst eb;rw [aB (λy=>by subst y;exact n (sr.nd j i t _ x b b z hs ow rfl h1 e1 hb (.inl rfl)))];exact zz)⟩
   ·rcases bo z1 with⟨rfl,rfl⟩ | ⟨n1,z1⟩
    ·cases o1
    ·rcases bo z2 with⟨rfl,rfl⟩ | ⟨n2,z2⟩
     ·cases o2
     ·exact sr.nd j k t u b1 b2 b z1 z2 o1 o2
  have g2:cE σ fs H σ (fs.set i (ap (.val (.cl l)))) (upd H a (.cO ob (.lst ws))):=by
   refine⟨λb o z n=>⟨?_,λy=>n (ow b y)⟩,λb z=>?_,λb φ z=>?_⟩
   ·rw [aB (λy=>by subst y;exact n ⟨i,_,_,hs,rfl,e1,.inl rfl⟩)];exact z
   ·by_cases c:b=a
    ·subst c;rw [aP] at z;cases z
    ·rw [aB c] at z;exact z
   ·obtain⟨j,z1,z2⟩:=z;have:j≠i:=λy=>by subst y;rw [hs] at z1;cases z1
    exact .inl ⟨j,by rw [aL this];exact z1,z2⟩
  exact hr.p Z s σ _ D I2 ⟨s2,w.mono (λt q3=>q3.go g2 sr s2) q⟩⟩
variable {tc:W Bool}
def SF.XH (hc:TF X K fs c tc) (ha:SF X K x fs sa w out) (hb:SF X K x fs sb wk out):SF X K x fs [.If c sa sb pos] (.bind tc λb=>if b=true then w else wk) out:=⟨qI.imp (QW (M8 hc.p ha.p hb.p)) λD σ H ⟨sr,q⟩=>⟨sr,tc.mono (λk q1 H1 g1 s1=>by
 cases k with
 | true=>exact t6 ⟨s1,w.mono (λt q2=>q2.go g1.f sr s1) q1⟩
 | false=>exact ub ⟨s1,wk.mono (λt q2=>q2.go g1.f sr s1) q1⟩) q⟩⟩
def SF.tD (hc:TF X K fs c tc) (ha:SF X K true fs sa w out) (hb:SF X K x fs rest wk out):SF X K x fs (.If c sa [] pos::rest) (.bind tc λb=>if b=true then w else wk) out:=SF.step (M8 hc.p ha.p vZ) λD σ H ⟨sr,q⟩=>⟨sr,tc.mono (λk q1 H1 g1 s1=>by
 cases k with
 | true=>exact t6 ⟨s1,w.mono (λt q2=>bQ.exit (D:=D) (D':={D with nx:=yo X K x rest out D}) rfl rfl rfl (q2.go g1.f sr s1)) q1⟩
 | false=>exact ub ⟨fs,wk,hb,s1,wk.mono (λt q2=>q2.go g1.f sr s1) q1⟩) q⟩
def Xv (X:Cx) (K:Ab) (x:Bool) (rest:List u8) {T:Type} (w:W T) (out:T->End):End->Prop
 | .nx bP=>SF X K x bP rest w out
 | .nc bP=>False
 | .bk bP=>∃t,w=.ret t/\out t=.bk bP
 | .ct bP=>∃t,w=.ret t/\(out t=.ct bP\/out t=.nc bP)
 | .rt v=>∃t,w=.ret t/\out t=.rt v
 | .rl l=>∃t,w=.ret t/\out t=.rl l
 | .ro v a l=>∃t,w=.ret t/\out t=.ro v a l
def Xv.r {E:End} (sr:a8 K H σ fs) (h:Xv X K x rest w out E) (q:w.run λt=>bQ K x σ fs H D (out t)):bQ K false σ fs H {D with nx:=yo X K x rest out D} E:=by
 cases E with
 | nx bP=>exact λ_ σ' H' g' s'=>⟨bP,w,h,s',w.mono (λt q2=>q2.go g' sr s') q⟩
 | nc bP=>exact h.elim
 | bk bP=>
  obtain⟨t,rfl,h⟩:=h;have q:bQ K x σ fs H D (out t):=q;rw [h] at q;exact q
 | ct bP=>
  obtain⟨t,rfl,h⟩:=h;have q:bQ K x σ fs H D (out t):=q;rcases h with h | h
  ·rw [h] at q;exact q
  ·rw [h] at q;exact λσ' H' g s=>(q σ' H' g s).2
 | rt v=>
  obtain⟨t,rfl,h⟩:=h;have q:bQ K x σ fs H D (out t):=q;rw [h] at q;exact q
 | rl v=>
  obtain⟨t,rfl,h⟩:=h;have q:bQ K x σ fs H D (out t):=q;rw [h] at q;exact q
 | ro v a l=>
  obtain⟨t,rfl,h⟩:=h;have q:bQ K x σ fs H D (out t):=q;rw [h] at q;exact q
variable {w1 w2:W T1}{out1:T1->End}{k:T1->W T}
def SF.ZO (hc:TF X K fs c tc) (ha:SF X K false fs sa w1 out1) (hb:SF X K false fs sb w2 out1) (hr:∀t,Xv X K x rest (k t) out (out1 t)):SF X K x fs (.If c sa sb pos::rest) (.bind tc λb=>.bind (if b=true then w1 else w2) k) out:=SF.step (M8 hc.p ha.p hb.p) λD σ H ⟨sr,q⟩=>⟨sr,tc.mono (λb q1 H1 g1 s1=>by
 have fin:∀t,(k t).run (λt=>bQ K x σ fs H D (out t))->bQ K false σ fs H {D with nx:=yo X K x rest out D} (out1 t):=λt q=>(hr t).r sr q;cases b with
 | true=>exact t6 ⟨s1,w1.mono (λt q2=>(fin t q2).go g1.f sr s1) q1⟩
 | false=>exact ub ⟨s1,w2.mono (λt q2=>(fin t q2).go g1.f sr s1) q1⟩) q⟩
end
end
end FL
variable {is:List Nat}
namespace FL
section
open PySem PySem.Spec PyProof.Rows L2 PL
variable {K:Ab}
def JF (K:Ab) (H:Hp) (J:It) (l:List PV):Prop:=l.length<=sizeLine/\∀H',bD K H H'->(∀(i:Nat) (p:PV),l[i]?=ap p->J.go i H'/\∀x H2,J.Ti i H' x H2->jx H' H2/\VR K [] H2 x p)/\J.stop l.length H'
def JF.tk {J:It} (t:bD K H H') (h:JF K H J l):JF K H' J l:=⟨h.1,λH2 t2=>h.2 H2 (bD.trans t t2)⟩
def fIt (K:Ab) (fs:bF) (w:W (List PV)):TI:=λσ H R=>a8 K H σ fs/\w.run λl=>∀J H',c9 σ fs H H'->a8 K H' σ fs->JF K H' J l->R J H'
structure p0 (X:Cx) (K:Ab) (fs:bF) (tg e:lw) (w:W (List PV)):Prop where p:PI X tg e (fIt K fs w)
section
variable {a c:lw}{w:W PV}
def Tb {ad:db} (h:Uy K H ad vs) (r:aN K [] H vs l) (hz:l.length<=sizeLine):JF K H (Itl K ad) l:=⟨hz,λH' t=>by
 have e1:=(t.f _ _ h).sq;have e2:=aN.tk t r;refine⟨λi p hp=>?_,vs,e1,by rw [e2.length];exact An _⟩;obtain⟨v,h3,h4⟩:=e2.get hp;refine⟨⟨vs,v,e1,h3⟩,λx H3 y=>?_⟩;obtain⟨rfl,y⟩:=y;have:=y vs e1;rw [h3] at this;cases this;exact⟨jx.refl _,h4⟩⟩
def Xt {ad:db} (h:H ad=ap (.tup vs)) (r:aN K [] H vs l) (hz:l.length<=sizeLine):JF K H (Itt K ad) l:=⟨hz,λH' t=>by
 have e1:=d7.of (K:=K) (t.t _ _ h);have e2:=aN.tk t r;refine⟨λi p hp=>?_,vs,e1,by rw [e2.length];exact An _⟩;obtain⟨v,h3,h4⟩:=e2.get hp;refine⟨⟨vs,v,e1,h3⟩,λx H3 y=>?_⟩;obtain⟨rfl,y⟩:=y;have:=y vs e1;rw [h3] at this;cases this;exact⟨jx.refl _,h4⟩⟩
def bA (hK:X.K=K) (h:IF X K fs e wl):p0 X K fs tg e wl:=⟨by
 subst hK;intro Z s σ H R I ⟨sr,q⟩;refine bE (h.p Z s σ H (λu H1=>∃l,Xp X.K H1 u l/\∀J,JF X.K H1 J l->R J H1) I ⟨sr,wl.mono (λl q1 u H1 g1 s1 v1=>⟨l,v1,λJ j=>q1 J H1 g1 s1 j⟩) q⟩) λv s1 ⟨x,H1,I1,r1,l,⟨ad,vs,e,hh,rs⟩,q1⟩=>?_;subst e;cases r1;rcases hh with hh | hh
 ·obtain⟨aw,rv,pl,hz⟩:=I1.list hh.sq;refine CH pl.isList ?_;refine⟨s1.heap.objs.size,[s1.heap.objs.size],_,_,H1,rfl,I1.kept (t':=s1.toks) λb o e=>Ah _ e,JY ad _,⟨_,Aq _ rfl,rfl,rfl⟩,λb hb=>?_,q1 _ (Tb hh rs (by rw [<- rs.length];exact hz))⟩;have e:b=s1.heap.objs.size:=by simpa using hb
  subst e;exact I1.uj (An _) (I1.bI.fresh (An _))
 ·obtain⟨aw,rv,pl,hz⟩:=I1.tuple (d7.of hh);refine CY (show s1.heap.IsTuple ad aw.toArray from pl) ?_;refine⟨s1.heap.objs.size,[s1.heap.objs.size],_,_,H1,rfl,I1.kept (t':=s1.toks) λb o e=>Ah _ e,qP ad _,⟨_,Aq _ rfl,rfl,rfl⟩,λb hb=>?_,q1 _ (Xt hh rs (by rw [<- rs.length];exact hz))⟩;have e:b=s1.heap.objs.size:=by simpa using hb
  subst e;exact I1.uj (An _) (I1.bI.fresh (An _))⟩
def okN (i j:Int):Prop:=-(2 ^ 62)<=i/\i < 2 ^ 62/\-(2 ^ 62)<=j/\j < 2 ^ 62/\(j-i).toNat<=sizeLine
def j9:PV->W (List PV)
 | .int j=>.fq (okN 0 j) (.ret (kd 0 j.toNat))
 | _=>.fail
def II:PV->PV->PV->W (List PV)
 | .int i,.int j,.int k=>.fq (k = -1/\okN j i) (.ret (ml i (i-j).toNat))
 | _,_,_=>.fail
def Xu (lo:Int) (n:Nat) (hz:n<=sizeLine):JF K H (Itr lo n) (kd lo n):=⟨by rw [jo];exact hz,λH' t=>⟨λi p hp=>by
  obtain⟨h1,rfl⟩:=oP hp;refine⟨h1,λx H2 y=>?_⟩;obtain⟨rfl,rfl⟩:=y;exact⟨jx.refl _,.int _⟩,by show n<=(kd lo n).length;rw [jo];exact An _⟩⟩
theorem fx (hg:Gl X "range") (hm:X.mg "range"=bv) (ha:EF X K fs a wa) (hs:ce [a] X.env=[(false,kw a X.env)]:=by rfl):p0 X K fs tg (.Call (.Name "range" p) [a] [] pos) (.bind wa j9):=
 ⟨PI.imp (Km hg hm (bp ha.p cG hs) hs) λσ H R ⟨sr,q⟩=>⟨sr,wa.mono (λx q1 u1 H1 g1 s1 v1=>by
  cases v1 with
  | int j=>exact⟨_,rfl,q1.1.2.2.1,q1.1.2.2.2.1,q1.2 _ H1 g1 s1 (Xu _ _ (by have:=q1.1.2.2.2.2;omega))⟩
  | _=>exact q1.elim) q⟩⟩
def Jq (hg:Gl X "range") (hm:X.mg "range"=bv) (ha:EF X K fs a wa) (hb:EF X K fs b wb) (hc:EF X K fs c wc) (hs:ce [a,b,c] X.env=[(false,kw a X.env),(false,kw b X.env),(false,kw c X.env)]:=by rfl) (qx:ce [b,c] X.env=[(false,kw b X.env),(false,kw c X.env)]:=by rfl) (hs3:ce [c] X.env=[(false,kw c X.env)]:=by rfl):p0 X K fs tg (.Call (.Name "range" p) [a,b,c] [] pos) (.bind wa λx=>.bind wb λy=>.bind wc λz=>II x y z):=
 ⟨PI.imp (Kl hg hm (bp ha.p (bp hb.p (bp hc.p cG hs3) (by rw [qx,hs3])) (by rw [hs,qx])) hs qx) λσ H R ⟨sr,q⟩=>⟨sr,wa.mono (λx q1 u1 H1 g1 s1 v1=>⟨s1,wb.mono (λy q2 u2 H2 g2 s2 v2=>⟨s2,wc.mono (λz q3 u3 H3 g3 s3 v3=>by
  cases v1 with
  | int i=>
   cases v2 with
   | int j=>
    cases v3 with
    | int k=>
     obtain⟨⟨rfl,k1,k2,k3,k4,k5⟩,q3⟩:=q3;refine⟨_,_,rfl,⟨k3,k4,k1,k2⟩,q3 _ H3 ((g1.trans g2).trans g3) s3 ⟨by rw [vc];exact k5,λH' t=>⟨λi p hp=>?_,?_⟩⟩⟩
     ·obtain⟨h1,rfl⟩:=o5 hp;refine⟨h1,λx H2 y=>?_⟩;obtain⟨rfl,rfl⟩:=y;exact⟨jx.refl _,.int _⟩
     ·exact Nat.le_of_eq (vc _ _).symm
    | _=>exact q3.elim
   | _=>exact q3.elim
  | _=>exact q3.elim) q2⟩) q1⟩) q⟩⟩
def Gp:PV->W (List PV)
 | .str z=>.fq (z.cps.size<=sizeLine) (.ret (z.cps.toList.map λc=>.str ⟨#[c]⟩))
 | _=>.fail
def Wq (h:EF X K fs e w):p0 X K fs tg e (.bind w Gp):=⟨PI.imp (Vr h.p) λσ H R ⟨sr,q⟩=>⟨sr,w.mono (λx q1 u1 H1 g1 s1 v1=>by
 cases v1 with
 | str z=>
  refine⟨z,rfl,q1.2 _ H1 g1 s1 ⟨by simpa using q1.1,λH' t=>⟨λi p hp=>?_,?_⟩⟩⟩
  ·rw [Ai] at hp;cases e:z.cps.toList[i]? with
   | none=>rw [e] at hp;cases hp
   | some c=>
    rw [e] at hp;have ep:=(Option.some.inj hp).symm;subst ep;have hi:=(Ak.mp e).1;have zf:i < z.cps.size:=by simpa using hi
    refine⟨zf,λx H2 y=>?_⟩;obtain⟨rfl,d,hd,rfl⟩:=y;have:z.cps[i]?=ap c:=by simpa using e
    rw [this] at hd;cases hd;exact⟨jx.refl _,.str _⟩
  ·show z.cps.size<=_;simp
 | _=>exact q1.elim) q⟩⟩
def nB (hK:X.K=K) (hg:Gl X "enumerate") (hm:X.mg "enumerate"=bv) (h:IF X K fs e wl) (F1:ce [e] X.env=(false,kw e X.env)::ce [] X.env:=by rfl):p0 X K fs (.Tuple Ò kk tp) (.Call (.Name "enumerate" p1) [e] [] p2) (.bind wl λl=>.fq (l.length<=sizeLine) (.ret (dY 0 l))):=
 ⟨PI.imp (Nb K hK hg hm h.p F1) λσ H R ⟨sr,q⟩=>⟨sr,wl.mono (λl q1 u1 H1 g1 s1 v1=>by
  obtain⟨ad,vs,rfl,hh,rs⟩:=v1;have yl:∀{H':Hp}{i:Nat}{x v:V}{y:PV}{pp:db},H' pp=bv->VR K [] H' v y->jx H' (upd H' pp (.tup [.int (i:Int),v]))/\VR K [] (upd H' pp (.tup [.int (i:Int),v])) (.ref pp) (.tup [.int ((0+i:Nat):Int),y]):=λ{H' i x v y pp} hn h4=>
   have sm:=kH hn (.tup [.int (i:Int),v])
   ⟨sm,.tup aP (.cons (by rw [AI];exact .int _) (.cons (VR.tk sm.e7 h4) .nil))⟩
  refine⟨ad,rfl,?_⟩;rcases hh with hh | hh
  ·refine .inl ⟨⟨vs,hh.sq⟩,q1.2 _ H1 g1 s1 ⟨by rw [cP];exact q1.1,λH' t=>⟨λi p hp=>?_,vs,(t.f _ _ hh).sq,by rw [rs.length,cP];exact An _⟩⟩⟩;obtain⟨y,hy,rfl⟩:=gI hp;obtain⟨v,h3,h4⟩:=(aN.tk t rs).get hy;refine⟨⟨vs,v,(t.f _ _ hh).sq,h3⟩,λx H3 z=>?_⟩;obtain⟨pp,x0,rfl,hn,rfl,hz⟩:=z;have:=hz vs (t.f _ _ hh).sq;rw [h3] at this;cases this;exact yl (x:=.aX) hn h4
  ·refine .inr ⟨⟨vs,d7.of hh⟩,q1.2 _ H1 g1 s1 ⟨by rw [cP];exact q1.1,λH' t=>⟨λi p hp=>?_,vs,d7.of (t.t _ _ hh),by rw [rs.length,cP];exact An _⟩⟩⟩;obtain⟨y,hy,rfl⟩:=gI hp;obtain⟨v,h3,h4⟩:=(aN.tk t rs).get hy;refine⟨⟨vs,v,d7.of (t.t _ _ hh),h3⟩,λx H3 z=>?_⟩;obtain⟨pp,x0,rfl,hn,rfl,hz⟩:=z;have:=hz vs (d7.of (t.t _ _ hh));rw [h3] at this;cases this;exact yl (x:=.aX) hn h4) q⟩⟩
end
def qX:List Nat->List V->L2.St->L2.St
 | i::is,u::us,σ=>qX is us (σ.set i (ap u))
 | _,_,σ=>σ
def fG (K:Ab) (fs:bF) (is:List Nat) (wt:PV->W T) (dU:T->bF):TG:=λv σ H Q=>∃p,a8 K H σ fs/\VR K [] H v p/\(wt p).run λt=>∀us,cE σ fs H (qX is us σ) (dU t) H->a8 K H (qX is us σ) (dU t)->Q (qX is us σ) H
structure GF (X:Cx) (K:Ab) (fs:bF) (tg:lw) (is:List Nat) {T:Type} (wt:PV->W T) (dU:T->bF):Prop where p:PG X tg (fG K fs is wt dU)
def oj:PV->W (PV×PV)
 | .tup [a,b]=>.ret (a,b)
 | _=>.fail
def un3:PV->W (PV×PV×PV)
 | .tup [a,b,c]=>.ret (a,b,c)
 | _=>.fail
def Yn:PV->W (PV×PV×PV×PV)
 | .tup [a,b,c,d]=>.ret (a,b,c,d)
 | _=>.fail
section
def WH (h:PG X tg (dM i)):GF X K fs tg [i] .ret (λp=>fs.set i (ap (.val p))):=⟨PG.imp h λv σ H Q ⟨p,sr,r,q⟩=>q [v] (cE.dN sr v p i) (sr.dN r i)⟩
def L4 (hK:X.K=K) (h:PG X tg (Se X.K 2 (mh (dM i) (mh (dM j) Sf)))):GF X K fs tg [i,j] oj (λt=>(fs.set i (ap (.val t.1))).set j (ap (.val t.2))):=⟨PG.imp h λv σ H Q ⟨p,sr,r,q⟩=>by
 unfold oj at q
 split at q
 ·cases r with
  | tup e rs=>
   cases rs with
   | cons ra t=>
   cases t with
   | cons rb t=>
   cases t;have s1:=sr.dN ra i;exact⟨_,_,rfl,d7.of e,rfl,_,_,rfl,_,_,rfl,rfl,q [_,_] ((cE.dN sr _ _ i).trans (cE.dN s1 _ _ j)) (s1.dN rb j)⟩
 ·exact q.elim⟩
def g_3 (hK:X.K=K) (h:PG X tg (Se X.K 3 (mh (dM i) (mh (dM j) (mh (dM k) Sf))))):GF X K fs tg [i,j,k] un3 (λt=>((fs.set i (ap (.val t.1))).set j (ap (.val t.2.1))).set k (ap (.val t.2.2))):=⟨PG.imp h λv σ H Q ⟨p,sr,r,q⟩=>by
 unfold un3 at q
 split at q
 ·cases r with
  | tup e rs=>
   cases rs with
   | cons ra t=>
   cases t with
   | cons rb t=>
   cases t with
   | cons rc t=>
   cases t;have s1:=sr.dN ra i;have s2:=s1.dN rb j;exact⟨_,_,rfl,d7.of e,rfl,_,_,rfl,_,_,rfl,_,_,rfl,rfl,q [_,_,_] (((cE.dN sr _ _ i).trans (cE.dN s1 _ _ j)).trans (cE.dN s2 _ _ k)) (s2.dN rc k)⟩
 ·exact q.elim⟩
def g_4 {l:Nat} (hK:X.K=K) (h:PG X tg (Se X.K 4 (mh (dM i) (mh (dM j) (mh (dM k) (mh (dM l) Sf)))))):GF X K fs tg [i,j,k,l] Yn (λt=>(((fs.set i (ap (.val t.1))).set j (ap (.val t.2.1))).set k (ap (.val t.2.2.1))).set l (ap (.val t.2.2.2))):=⟨PG.imp h λv σ H Q ⟨p,sr,r,q⟩=>by
 unfold Yn at q
 split at q
 ·cases r with
  | tup e rs=>
   cases rs with
   | cons ra t=>
   cases t with
   | cons rb t=>
   cases t with
   | cons rc t=>
   cases t with
   | cons rd t=>
   cases t;have s1:=sr.dN ra i;have s2:=s1.dN rb j;have s3:=s2.dN rc k;exact⟨_,_,rfl,d7.of e,rfl,_,_,rfl,_,_,rfl,_,_,rfl,_,_,rfl,rfl,q [_,_,_,_] ((((cE.dN sr _ _ i).trans (cE.dN s1 _ _ j)).trans (cE.dN s2 _ _ k)).trans (cE.dN s3 _ _ l)) (s3.dN rd l)⟩
 ·exact q.elim⟩
end
section
variable {S T:Type}
def dD:List PV->S->(PV->S->W S)->W S
 | [],s,_=>.ret s
 | x::r,s,f=>.bind (f x s) λs'=>dD r s' f
inductive Lp (S T:Type) where
 | go (s:S) | out (t:T)
def nK:List PV->S->(PV->S->W (Lp S T))->W (Lp S T)
 | [],s,_=>.ret (.go s)
 | x::r,s,f=>.bind (f x s) λo=>match o with
  | .go s'=>nK r s' f
  | .out t=>.ret (.out t)
def Hd (k:S->W T) (inj:R->T):Lp S R->W T
 | .go s=>k s
 | .out r=>.ret (inj r)
@[simp] theorem ad5 (k:S->W T) (inj:R->T) (s:S):Hd k inj (.go s)=k s:=(rfl)
@[simp] theorem abG (k:S->W T) (inj:R->T) (r:R):Hd k inj (.out r)=.ret (inj r):=(rfl)
def ZA (hd:S->bF) (out:R->End):Lp S R->End
 | .go s=>.nc (hd s)
 | .out r=>out r
def mw (c:S->W Bool) (b:S->W S):Nat->S->W S
 | 0,_=>.fail
 | n+1,s=>.bind (c s) λk=>if k=true then .bind (b s) (mw c b n) else .ret s
def kq (c:S->W Bool) (b:S->W S) (s:S):W S:=⟨λQ=>∃n,(mw c b n s).run Q,λh ⟨n,q⟩=>⟨n,(mw c b n s).mono h q⟩⟩
def jA (c:S->W Bool) (b:S->W (Lp S T)):Nat->S->W (Lp S T)
 | 0,_=>.fail
 | n+1,s=>.bind (c s) λk=>if k=true then .bind (b s) (λo=>match o with
  | .go s'=>jA c b n s'
  | .out t=>.ret (.out t)) else .ret (.go s)
def qN (c:S->W Bool) (b:S->W (Lp S T)) (s:S):W (Lp S T):=⟨λQ=>∃n,(jA c b n s).run Q,λh ⟨n,q⟩=>⟨n,(jA c b n s).mono h q⟩⟩
end
section
variable {c:lw}{rest:List u8}{S T T2:Type}{hd:S->bF}{s0:S}{wt:PV->W T2}{dU:S->T2->bF}{k:S->W T}{out:T->End}{R:Type}{inj:R->T}
theorem SF.for {f:PV->S->W S}{wb:T2->S->W S} (hp:FB (ev X.prog X.w) X.A X.env X.xe) (hc:X.calm=true) (hi:p0 X K fs tg iter wl) (hl:jz fs (hd s0)) (hg:∀s,GF X K (hd s) tg is wt (dU s)) (hf:∀p s,f p s=.bind (wt p) λt=>wb t s)
  (hb:∀s t,SF X K false (dU s t) body (wb t s) λs'=>.nc (hd s')) (hr:∀s,SF X K x (hd s) rest (k s) out) (hs:∀x,im iter X.env x=pure x:=by intro _;rfl) :
  SF X K x fs (.For tg iter body [] pos::rest) (.bind wl λl=>.bind (dD l s0 f) k) out:=by
 refine SF.step (M9 (g:=λv σ H Q=>∃s,fG K (hd s) is wt (dU s) v σ H Q) (tb:=λD σ H=>∃s t,fS K false (dU s t) (wb t s) (λs'=>.nc (hd s')) D σ H) hp hc hi.p (λZ s σ H v u Q I r ⟨s1,q⟩=>(hg s1).p Z s σ H v u Q I r q) (λZ s σ H D I ⟨s1,t1,q⟩=>(hb s1 t1).p Z s σ H D I q) hs) λD σ H ⟨sr,q⟩=>?_;refine⟨sr,wl.mono (λl q1 J H1 g1 s1 jf=>?_) q⟩;refine⟨λi m σ' H'=>∃s,a8 K H' σ' (hd s)/\cE σ fs H σ' (hd s) H'/\JF K H' J l/\m=l.length-i/\i<=l.length/\(dD (l.drop i) s f).run λs'=>(k s').run λt=>bQ K x σ fs H D (out t),⟨l.length,s0,s1.le hl,g1.f.trans (cE.le s1 hl),jf,by simp,A7 _,by simpa using q1⟩,?_⟩;rintro i m σ2 H2 ⟨s,s2,g2,RQ,rfl,hi,q2⟩;obtain⟨j1,j2⟩:=RQ.2 H2 (bD.refl H2);by_cases lP:i < l.length
 ·obtain⟨go,yl⟩:=j1 i _ (Ad lP);have ed:=Bs lP;rw [ed] at q2;refine .inr ⟨go,λσ3 H3=>∃s',a8 K H3 σ3 (hd s')/\cE σ fs H σ3 (hd s') H3/\JF K H3 J l/\(dD (l.drop (i+1)) s' f).run λs'=>(k s').run λt=>bQ K x σ fs H D (out t),λσ3 H3 ⟨s',a1,a2,a3,a4⟩=>⟨l.length-(i+1),by omega,s',a1,a2,a3,rfl,lP,a4⟩,λv H3 y=>?_⟩;obtain⟨sm,vx⟩:=yl v H3 y;have q2:(f l[i] s).run λs'=>(dD (l.drop (i+1)) s' f).run λs'=>(k s').run λt=>bQ K x σ fs H D (out t):=q2;rw [hf] at q2;have s3:=s2.same sm;have g3:=g2.trans (cE.same sm s2);refine⟨s,_,s3,vx,(wt l[i]).mono (λt q4 us g4 s4=>?_) q2⟩;refine⟨s,t,s4,(wb t s).mono (λs' q5 σ5 H5 g5 s5=>?_) q4⟩;have fin:∃s',a8 K H5 σ5 (hd s')/\cE σ fs H σ5 (hd s') H5/\JF K H5 J l/\(dD (l.drop (i+1)) s' f).run λs'=>(k s').run λt=>bQ K x σ fs H D (out t):=⟨s',s5,(g3.trans g4).trans g5,RQ.tk (bD.trans sm.e7 (bD.trans (g4.eK s3) (g5.eK s4))),q5⟩;exact⟨λ_=>fin,fin⟩
 ·have e:i=l.length:=by omega
  subst e;rw [EE] at q2;exact .inl ⟨j2,hd s,k s,hr s,s2,(k s).mono (λt q3=>q3.go g2 sr s2) q2⟩
theorem SF.nK {f:PV->S->W (Lp S R)}{wb:T2->S->W (Lp S R)} (hp:FB (ev X.prog X.w) X.A X.env X.xe) (hc:X.calm=true) (hi:p0 X K fs tg iter wl) (hl:jz fs (hd s0)) (hg:∀s,GF X K (hd s) tg is wt (dU s)) (hf:∀p s,f p s=.bind (wt p) λt=>wb t s)
  (ho:∀t,(out (inj t)).Jr)
  (hb:∀s t,SF X K false (dU s t) body (wb t s) (ZA hd λr=>out (inj r))) (hr:∀s,SF X K x (hd s) rest (k s) out) (hs:∀x,im iter X.env x=pure x:=by intro _;rfl) :
  SF X K x fs (.For tg iter body [] pos::rest) (.bind wl λl=>.bind (FL.nK l s0 f) (Hd k inj)) out:=by
 refine SF.step (M9 (g:=λv σ H Q=>∃s,fG K (hd s) is wt (dU s) v σ H Q) (tb:=λD σ H=>∃s t,fS K false (dU s t) (wb t s) (ZA hd λr=>out (inj r)) D σ H) hp hc hi.p (λZ s σ H v u Q I r ⟨s1,q⟩=>(hg s1).p Z s σ H v u Q I r q) (λZ s σ H D I ⟨s1,t1,q⟩=>(hb s1 t1).p Z s σ H D I q) hs) λD σ H ⟨sr,q⟩=>?_;refine⟨sr,wl.mono (λl q1 J H1 g1 s1 jf=>?_) q⟩;have lo:∀(D':Ends) (y:Bool) (t:R),D'.rt=D.rt->bQ K x σ fs H D (out (inj t))->bQ K y σ fs H D' (out (inj t)):=λD' y t e h=>bQ.Zj (ho t) e h;refine⟨λi m σ' H'=>∃s,a8 K H' σ' (hd s)/\cE σ fs H σ' (hd s) H'/\JF K H' J l/\m=l.length-i/\i<=l.length/\(FL.nK (l.drop i) s f).run λo=>(Hd k inj o).run λt=>bQ K x σ fs H D (out t),⟨l.length,s0,s1.le hl,g1.f.trans (cE.le s1 hl),jf,by simp,A7 _,by simpa using q1⟩,?_⟩;rintro i m σ2 H2 ⟨s,s2,g2,RQ,rfl,hi,q2⟩;obtain⟨j1,j2⟩:=RQ.2 H2 (bD.refl H2);by_cases lP:i < l.length
 ·obtain⟨go,yl⟩:=j1 i _ (Ad lP);have ed:=Bs lP;rw [ed] at q2;refine .inr ⟨go,λσ3 H3=>∃s',a8 K H3 σ3 (hd s')/\cE σ fs H σ3 (hd s') H3/\JF K H3 J l/\(FL.nK (l.drop (i+1)) s' f).run λo=>(Hd k inj o).run λt=>bQ K x σ fs H D (out t),λσ3 H3 ⟨s',a1,a2,a3,a4⟩=>⟨l.length-(i+1),by omega,s',a1,a2,a3,rfl,lP,a4⟩,λv H3 y=>?_⟩;obtain⟨sm,vx⟩:=yl v H3 y;have q2:(f l[i] s).run λo=>(match o with | .go s'=>FL.nK (l.drop (i+1)) s' f | .out t=>bm (.out t)).run λo=>(Hd k inj o).run λt=>bQ K x σ fs H D (out t):=q2;rw [hf] at q2;have s3:=s2.same sm;have g3:=g2.trans (cE.same sm s2);refine⟨s,_,s3,vx,(wt l[i]).mono (λt q4 us g4 s4=>?_) q2⟩;refine⟨s,t,s4,(wb t s).mono (λo q5=>?_) q4⟩;cases o with
  | out t5=>
   refine bQ.go (g3.trans g4) sr s4 (lo _ false t5 ?_ q5);rfl
  | go s'=>
   intro σ5 H5 g5 s5;have fin:∃s',a8 K H5 σ5 (hd s')/\cE σ fs H σ5 (hd s') H5/\JF K H5 J l/\(FL.nK (l.drop (i+1)) s' f).run λo=>(Hd k inj o).run λt=>bQ K x σ fs H D (out t):=⟨s',s5,(g3.trans g4).trans g5,RQ.tk (bD.trans sm.e7 (bD.trans (g4.eK s3) (g5.eK s4))),q5⟩;exact⟨λ_=>fin,fin⟩
 ·have e:i=l.length:=by omega
  subst e;rw [EE] at q2;exact .inl ⟨j2,hd s,k s,hr s,s2,(k s).mono (λt q3=>q3.go g2 sr s2) q2⟩
def SF.ym {cw:S->W Bool}{b:S->W S} (hp:FB (ev X.prog X.w) X.A X.env X.xe) (hl:jz fs (hd s0)) (hc:∀s,TF X K (hd s) c (cw s)) (hb:∀s,SF X K false (hd s) body (b s) λs'=>.nc (hd s')) (hr:∀s,SF X K x (hd s) rest (k s) out) :
  SF X K x fs (.While c body [] pos::rest) (.bind (kq cw b s0) k) out:=by
 refine SF.step (yG (tc:=λσ H Q=>∃s,fT K (hd s) (cw s) σ H Q) (tb:=λD σ H=>∃s,fS K false (hd s) (b s) (λs'=>.nc (hd s')) D σ H) hp (λZ s σ H Q I ⟨s1,q⟩=>(hc s1).p Z s σ H Q I q) (λZ s σ H D I ⟨s1,q⟩=>(hb s1).p Z s σ H D I q)) λD σ H ⟨sr,n,q⟩=>?_;refine⟨λm σ' H'=>∃s,a8 K H' σ' (hd s)/\cE σ fs H σ' (hd s) H'/\(mw cw b m s).run λs'=>(k s').run λt=>bQ K x σ fs H D (out t),⟨n,s0,sr.le hl,cE.le sr hl,q⟩,?_⟩;rintro m σ1 H1 ⟨s,s1,g1,q1⟩;cases m with
 | zero=>exact q1.elim
 | succ m=>
  refine⟨s,s1,(cw s).mono (λkk q2 H2 g2 s2=>?_) q1⟩;cases kk with
  | false=>
   refine ub ?_;exact⟨hd s,k s,hr s,s2,(k s).mono (λt q3=>q3.go (g1.trans g2.f) sr s2) q2⟩
  | true=>
   refine t6 ?_;refine⟨λσ3 H3=>∃s,a8 K H3 σ3 (hd s)/\cE σ fs H σ3 (hd s) H3/\(mw cw b m s).run λs'=>(k s').run λt=>bQ K x σ fs H D (out t),λσ3 H3 a=>⟨m,Dn m,a⟩,s,s2,(b s).mono (λs' q5 σ5 H5 g5 s5=>?_) q2⟩;have fin:∃s,a8 K H5 σ5 (hd s)/\cE σ fs H σ5 (hd s) H5/\(mw cw b m s).run λs'=>(k s').run λt=>bQ K x σ fs H D (out t):=⟨s',s5,(g1.trans g2.f).trans g5,q5⟩;exact⟨λ_=>fin,fin⟩
def SF.qN {cw:S->W Bool}{b:S->W (Lp S R)} (hp:FB (ev X.prog X.w) X.A X.env X.xe) (hl:jz fs (hd s0)) (hc:∀s,TF X K (hd s) c (cw s)) (ho:∀t,(out (inj t)).Jr)
  (hb:∀s,SF X K false (hd s) body (b s) (ZA hd λr=>out (inj r))) (hr:∀s,SF X K x (hd s) rest (k s) out) :
  SF X K x fs (.While c body [] pos::rest) (.bind (FL.qN cw b s0) (Hd k inj)) out:=by
 refine SF.step (yG (tc:=λσ H Q=>∃s,fT K (hd s) (cw s) σ H Q) (tb:=λD σ H=>∃s,fS K false (hd s) (b s) (ZA hd λr=>out (inj r)) D σ H) hp (λZ s σ H Q I ⟨s1,q⟩=>(hc s1).p Z s σ H Q I q) (λZ s σ H D I ⟨s1,q⟩=>(hb s1).p Z s σ H D I q)) λD σ H ⟨sr,n,q⟩=>?_;have lo:∀(D':Ends) (y:Bool) (t:R),D'.rt=D.rt->bQ K x σ fs H D (out (inj t))->bQ K y σ fs H D' (out (inj t)):=λD' y t e h=>bQ.Zj (ho t) e h;refine⟨λm σ' H'=>∃s,a8 K H' σ' (hd s)/\cE σ fs H σ' (hd s) H'/\(jA cw b m s).run λo=>(Hd k inj o).run λt=>bQ K x σ fs H D (out t),⟨n,s0,sr.le hl,cE.le sr hl,q⟩,?_⟩;rintro m σ1 H1 ⟨s,s1,g1,q1⟩;cases m with
 | zero=>exact q1.elim
 | succ m=>
  refine⟨s,s1,(cw s).mono (λkk q2 H2 g2 s2=>?_) q1⟩;cases kk with
  | false=>
   refine ub ?_;exact⟨hd s,k s,hr s,s2,(k s).mono (λt q3=>q3.go (g1.trans g2.f) sr s2) q2⟩
  | true=>
   refine t6 ?_;refine⟨λσ3 H3=>∃s,a8 K H3 σ3 (hd s)/\cE σ fs H σ3 (hd s) H3/\(jA cw b m s).run λo=>(Hd k inj o).run λt=>bQ K x σ fs H D (out t),λσ3 H3 a=>⟨m,Dn m,a⟩,s,s2,(b s).mono (λo q5=>?_) q2⟩;cases o with
   | out t5=>
    refine bQ.go (g1.trans g2.f) sr s2 (lo _ false t5 ?_ q5);rfl
   | go s'=>
    intro σ5 H5 g5 s5;have fin:∃s,a8 K H5 σ5 (hd s)/\cE σ fs H σ5 (hd s) H5/\(jA cw b m s).run λo=>(Hd k inj o).run λt=>bQ K x σ fs H D (out t):=⟨s',s5,(g1.trans g2.f).trans g5,q5⟩;exact⟨λ_=>fin,fin⟩
end
end
end FL
variable {f:PL.PV->FL.W (Option PL.PV)}{mO:FL.bF}
namespace FL
section
open PySem PySem.Spec PyProof.Rows L2 PL
variable {K:Ab}
def kh:List PV->(PV->W (Option PV))->W (List PV)
 | [],_=>.ret []
 | x::r,f=>.bind (f x) λo=>.bind (kh r f) λl=>.ret (o.toList++l)
def mapW:List PV->(PV->W PV)->W (List PV)
 | [],_=>.ret []
 | x::r,f=>.bind (f x) λy=>.bind (mapW r f) λl=>.ret (y::l)
theorem wA (f:PV->W PV):∀l,mapW l f=kh l λp=>.bind (f p) λv=>.ret (ap v)
 | []=>rfl
 | x::r=>by
  show am (f x) (λy=>am (mapW r f) λl=>bm (y::l))=am (f x) λy=>am (kh r _) λl=>bm (y::l);rw [wA f r]
def cg (ix:List (Option Nat)) (fs:bF):bF:=ix.map λo=>match o with | some j=>(fs[j]?).getD bv | none=>bv
section
def nZ {s:SL} (h:(cg ix fs)[i]?=ap (ap s)):∃j,ix[i]?=ap (ap j)/\fs[j]?=ap (ap s):=by
 unfold cg at h;rw [Ai] at h;cases q:ix[i]? with
 | none=>rw [q] at h;cases h
 | some o=>
  rw [q] at h;cases o with
  | none=>cases h
  | some j=>
   refine⟨j,rfl,?_⟩;have h:(fs[j]?).getD bv=ap s:=Option.some.inj h;cases z:fs[j]? with
   | none=>rw [z] at h;cases h
   | some y=>rw [z] at h;exact congrArg ap h
def lU (h:ix[i]?=ap (ap j)) (e:σ[j]?=ap (ap u)):(nY ix σ)[i]?=ap (ap u):=by
 unfold nY;rw [Ai,h];show ap ((σ[j]?).getD bv)=_;rw [e];rfl
def a8.gk (s:a8 K H σ fs) (inj:∀i i' j:Nat,ix[i]?=ap (ap j)->ix[i']?=ap (ap j)->i=i'):a8 K H (nY ix σ) (cg ix fs):=by
 refine⟨by unfold nY cg;simp,λi t e=>?_,λi i' t u x y a e1 e2 o1 o2 q1 q2 z1 z2=>?_⟩
 ·obtain⟨j,h1,h2⟩:=nZ e;obtain⟨u,h3,h4⟩:=s.at' j t h2;exact⟨u,lU h1 h3,h4⟩
 ·obtain⟨j,h1,h2⟩:=nZ e1;obtain⟨j',gs,tG⟩:=nZ e2;obtain⟨u1,h3,_⟩:=s.at' j t h2;obtain⟨u2,zg,_⟩:=s.at' j' u tG;rw [lU h1 h3] at q1;rw [lU gs zg] at q2;cases q1;cases q2;have:=s.nd j j' t u x y a h2 tG o1 o2 h3 zg z1 z2;subst this;exact inj i i' j h1 gs
structure Tc (ix:List (Option Nat)) (σ:L2.St) (fs:bF) (σ':L2.St) (bP:bF):Prop where
 own:∀(i:Nat) (t:SL),bP[i]?=ap (ap t)->t.own=true->∃j,ix[i]?=ap (ap j)/\fs[j]?=ap (ap t)/\σ'[i]?=σ[j]?
def Tc.wq (h:Tc ix σ fs σ' bP) (o:dH σ' bP a):dH σ fs a:=by
 obtain⟨i,t,x,e1,e2,e3,e4⟩:=o;obtain⟨j,h1,h2,h3⟩:=h.own i t e1 e2;exact⟨j,t,x,h2,e2,h3▸e3,e4⟩
def Tc.kI (h:Tc ix σ fs σ' bP) (o:eY σ' bP φ a):eY σ fs φ a:=by
 obtain⟨i,e1,e3⟩:=o;obtain⟨j,h1,h2,h3⟩:=h.own i _ e1 rfl;exact⟨j,h2,h3▸e3⟩
def Tc.out (h:Tc ix σ fs σ' bP) (s:a8 K H1 σ fs) (g:c9 σ' bP H1 H2) (s2:a8 K H2 σ' bP):a8 K H2 σ fs/\c9 σ fs H1 H2:=by
 have gf:c9 σ fs H1 H2:=⟨λa o e n=>g.keep a o e λφ z=>n φ (h.kI z),g.there⟩;refine⟨⟨s.len,λj t e=>?_,s.nd⟩,gf⟩;obtain⟨u,h1,h2⟩:=s.at' j t e;refine⟨u,h1,?_⟩;have tk:=gf.eK s;rcases h2 with⟨v,q,r⟩ | ⟨a,q,r⟩
 ·exact .inl ⟨v,q,VR.tk tk r⟩
 ·subst q;refine .inr ⟨a,rfl,?_⟩;by_cases c:∃b,t.own=true/\t.has a b/\dH σ' bP b
  ·obtain⟨b,ow,hb,i,t',x,c1,c2,c3,c4⟩:=c;obtain⟨j',k1,k2,k3⟩:=h.own i t' c1 c2;have jj:=s.nd j j' t t' a x b e k2 ow c2 h1 (k3▸c3) hb c4;subst jj;rw [e] at k2;cases k2;exact s2.ownAt c1 c2 (k3.trans h1)
  ·exact r.mono tk (λb o ow hb z=>g.pz z λy=>c ⟨b,ow,hb,y⟩)
theorem qW:∀{is:List Nat}{us:List V}{σ:L2.St}{i:Nat},i∉is->(qX is us σ)[i]?=σ[i]?
 | [],us,σ,i,_=>by cases us <;> rfl
 | j::is,[],σ,i,_=>rfl
 | j::is,u::us,σ,i,h=>by
  rw [qX,qW (λz=>h (AV _ z))];exact aL (λz=>h (by rw [z];exact BA))
end
section
variable {T2:Type}{wt:PV->W T2}{dU:T2->bF}{tf:T2->W Bool}{te:T2->W PV}
structure FF (X:Cx) (K:Ab) (fs:bF) (Ì:List lw) (w:W Bool):Prop where p:X8 X Ì (fT K fs w)
def Oy:FF X K fs [] (.ret true):=⟨λZ s σ H Q I ⟨sr,q⟩=>Q5 Z s σ H Q I (q H .refl sr)⟩
def xi {c:lw}{w:W Bool} (h:TF X K fs c w):FF X K fs [c] w:=⟨Q4 h.p⟩
def uz (is:List Nat) (mO:bF) (dU:T2->bF):Prop:=∀t,(dU t).length=mO.length/\∀(i:Nat) (s:SL),(dU t)[i]?=ap (ap s)->(i∈is/\s.own=false)\/(i∉is/\mO[i]?=ap (ap s))
theorem OB (S:aA X.env.scope X.N sc N' ix) (hb:mO=cg ix fs) (hf:∀p,f p=.bind (wt p) λt=>.bind (tf t) λk=>if k=true then .bind (te t) λv=>.ret (ap v) else .ret bv) (hl:uz is mO dU) (hr:∀t,jz (dU t) mO) (ue:∀j∈is,ix[j]?=ap bv) :
  ∀σ H Q,fL K fs (.bind wl λl=>kh l f) σ H Q->tLc ix (fIt K fs wl) (λv σ H Q=>fG K mO is wt dU v σ H Q) (λσ H Q=>∃t,fT K (dU t) (tf t) σ H Q) (λσ H Q=>∃t,fE K (dU t) (te t) σ H Q) σ H Q:=by
 subst hb;rintro σ H Q ⟨sr,q⟩;refine⟨sr,wl.mono (λl q1 J H1 g1 s1 jf D hD=>?_) q⟩;have inj:∀i i' j:Nat,ix[i]?=ap (ap j)->ix[i']?=ap (ap j)->i=i':=λi i' j h1 h2=>by
  have hi:i < N'.length:=by rw [<- S.len];exact (Ak.mp h1).1
  have zf:i' < N'.length:=by rw [<- S.len];exact (Ak.mp h2).1
  have e1:=(S.at h1 (Ad hi)).1;have e2:=(S.at h2 (Ad zf)).1;rw [e1] at e2;exact (ED S.nd).mp (Option.some.inj e2)
 have nD:=s1.noOwn hD;refine⟨λi m σ' ys H'=>∃Ä,a8 K H' σ fs/\c9 σ fs H H'/\a8 K H' σ' (cg ix fs)/\Tc ix σ fs σ' (cg ix fs)/\JF K H' J l/\H' D=ap (.lst ys)/\aN K [] H' ys Ä/\Ä.length<=i/\m=l.length-i/\i<=l.length/\
  (kh (l.drop i) f).run λr=>∀a vs H',c9 σ fs H H'->a8 K H' σ fs->H a=bv->H' a=ap (.lst vs)->aN K [] H' vs (Ä++r)->Q (.ref a) H',⟨l.length,[],?_⟩,?_⟩
 ·have sm:=kH hD (.lst []);refine⟨s1.same sm,g1.trans (c9.same sm),(s1.same sm).gk inj,⟨λi t e o=>?_⟩,jf.tk sm.e7,aP,.nil,A7 _,by simp,A7 _,by simpa using q1⟩;obtain⟨j,h1,h2⟩:=nZ e;obtain⟨u,h3,_⟩:=s1.at' j t h2;exact⟨j,h1,h2,by rw [lU h1 h3,h3]⟩
 rintro i m σ2 ys H2 ⟨Ä,sO,gO,s2,inn,RQ,hy,vy,aah,rfl,hi,q2⟩;refine⟨hy,?_⟩;obtain⟨j1,j2⟩:=RQ.2 H2 (bD.refl H2);by_cases lP:i < l.length
 ·obtain⟨go,yl⟩:=j1 i _ (Ad lP);have ed:=Bs lP;rw [ed] at q2;refine .inr ⟨go,λv H3 y=>?_⟩;obtain⟨sm,vx⟩:=yl v H3 y;have q2:(f l[i]).run λo=>(kh (l.drop (i+1)) f).run λr=>∀a vs H',c9 σ fs H H'->a8 K H' σ fs->H a=bv->H' a=ap (.lst vs)->aN K [] H' vs (Ä++(o.toList++r))->Q (.ref a) H':=q2;rw [hf] at q2;have s3:=s2.same sm;have sO3:=sO.same sm;have gO3:=gO.trans (c9.same sm);have hy3:=sm _ _ hy;have vy3:=aN.tk sm.e7 vy;have jf3:=RQ.tk sm.e7;refine⟨_,s3,vx,(wt l[i]).mono (λt q4 us g4 s4=>?_) q2⟩;have RY:Tc ix σ fs (qX is us σ2) (dU t):=⟨λj u e o=>by
   rcases (hl t).2 j u e with⟨_,z⟩ | ⟨n,z⟩
   ·rw [z] at o;cases o
   ·obtain⟨j',k1,k2,k3⟩:=inn.own j u z o;exact⟨j',k1,k2,by rw [qW n];exact k3⟩⟩
  refine⟨t,s4,(tf t).mono (λkk q5 H5 g5 s5=>?_) q4⟩;obtain⟨sO5,ad8⟩:=RY.out sO3 g5 s5;have gO5:=gO3.trans ad8;have tk5:=g5.eK s4;have nD4:¬dH (qX is us σ2) (dU t) D:=λz=>nD (RY.wq z);have hy5:=g5.pz hy3 nD4;have vy5:=aN.tk tk5 vy3;have jf5:=jf3.tk (g5.eK s4);have Í:∀{H6:Hp},a8 K H6 (qX is us σ2) (dU t)->a8 K H6 (qX is us σ2) (cg ix fs)/\Tc ix σ fs (qX is us σ2) (cg ix fs):=λ{H6} z=>⟨z.le (hr t),⟨λj u e o=>RY.own j u ((hr t).at j u e) o⟩⟩;cases kk with
  | false=>
   refine ub ⟨l.length-(i+1),by omega,Ä,sO5,gO5,(Í s5).1,(Í s5).2,jf5,hy5,vy5,by omega,rfl,lP,?_⟩;exact q5
  | true=>
   refine t6 ⟨t,s5,(te t).mono (λv6 q6 u6 H6 g6 s6 v6'=>?_) q5⟩;obtain⟨sO6,ad7⟩:=RY.out sO5 g6 s6;have gO6:=gO5.trans ad7;have tk6:=g6.eK s5;have ZV:=g6.pz hy5 nD4;have vy6:=aN.tk tk6 vy5;have tkD:=lA (K:=K) (.lst (ys++[u6])) ZV;have hD0:=g1.there D hD;refine⟨ZV,by rw [vy6.length];have:=RQ.1;omega,l.length-(i+1),by omega,Ä++[v6],sO6.side nD ZV _,gO6.side hD0 _,((Í s6).1).side (λz=>nD ((Í s6).2.wq z)) ZV _,(Í s6).2,(jf5.tk (g6.eK s5)).tk (lA _ ZV),aP,aN.tk tkD (vy6.append (.cons v6' .nil)),by rw [Ae];simp;omega,rfl,lP,?_⟩;refine (kh (l.drop (i+1)) f).mono (λr q7 a vs H7 g7 s7 n e v7=>q7 a vs H7 g7 s7 n e ?_) q6;simpa using v7
 ·have e:i=l.length:=by omega
  subst e;rw [EE] at q2;exact .inl ⟨j2,q2 D ys H2 gO sO (g1.there D hD) hy (by simpa using vy)⟩
end
end
end FL
namespace L2
open PySem PySem.Spec PyProof.Rows
def pN (l:db) (items:Array ci) (n:Nat) (b:db) (cp:Array ci) (n2:Nat) (sl:Array (Option ci)) (hc0:¬(!items.isEmpty&&Builtin.List.listTooLong (items.size+cp.size))=true) (hc1:items.size<=sizeLine) (qx:items.size+cp.size<=sizeLine+1) :
  Meets (Fk.«list.extend» ⟨[.ref l,.ref b],[]⟩) (λ_ R s=>s.heap.get? l=ap {cls:=.type "list",dict:=bv,data:=.seq items n,slots:=#[]}/\s.heap.get? b=ap {cls:=.type "list",dict:=bv,data:=.seq cp n2,slots:=sl}/\R (.ok (.ret AW)) {s with heap:=s.heap.update l (Bm λx=>x++cp),toks:=s.toks}):=
 .of_wp λprog w A R s h=>by
  obtain⟨hp,g,d,tk,os⟩:=s;obtain⟨hl,hb,h⟩:=h;have f1:=EM;have f2:=Dl;have f3:=DH;have f4:=Dw;have f5:=Dx;have G7:(items++cp).size<=sizeLine+1:=by rw [En];exact qx
  wp_walk using (DJ hl rfl (hz:=hc1) (_hz':=G7)),B1 hl,B1 hb;exact⟨_,rfl,h⟩
def Y3 (K:Ab):V->List V->Hp->VK->Prop:=λx vs H Q=>∃l b xs zs,x=.ref l/\vs=[.ref b]/\H l=ap (.lst xs)/\(c6 K H b zs\/d7 K H b zs)/\xs.length+zs.length<=sizeLine/\vD H l (.lst (xs++zs)) (Q .aX)
theorem Rx (K:Ab) (hK:X.K=K):LR X "list.extend" (Y3 K):=by
 subst hK;intro Z s σ H x vs v us Q I rx rv h;obtain⟨l,b,xs,zs,rfl,rfl,hH,hB | hB,hz,q⟩:=h
 ·cases rx;obtain⟨u,rfl,ru⟩:=rv.one;cases ru;obtain⟨z,aw,n,r,hl,e⟩:=I.oG hH;obtain⟨cH,r2,⟨⟨cls,dd,data,sl⟩,n2,e2,hc,hd,kZ⟩,z2⟩:=I.list hB;simp only at hc hd kZ;subst hc hd kZ;have KN:=r2.length;have hsz:aw.toArray.size+cH.toArray.size<=sizeLine:=by rw [Aj,Aj];omega
  have rZ:¬(!aw.toArray.isEmpty&&Builtin.List.listTooLong (aw.toArray.size+cH.toArray.size))=true:=by
   rw [iZ hsz,Ee];exact AU
  refine wS D6 ⟨_,e,rfl⟩ DQ (Dv _ _)
   (pN l aw.toArray n b cH.toArray n2 sl rZ (by rw [Aj];omega) ∅) ⟨e,e2,?_⟩
  refine⟨.aX,_,I.GO (its':=aw++cH) hH e (by simp) (r.append r2) ?_,rfl,q.at⟩;rw [Ae];omega
 ·exact yX Z s σ H _ _ v us Q I rx rv ⟨l,b,xs,zs,rfl,rfl,hH,hB,hz,q⟩
end L2
variable {op:PySem.Operator}{ti:L2.Xn}{wi we:FL.W PL.PV}{z:Ce}{ei:BD}
namespace FL
section
open PySem PySem.Spec PyProof.Rows L2 PL
variable {K:Ab}
section
variable {T2:Type}{wt:PV->W T2}{dU:T2->bF}{tf:T2->W Bool}{te:T2->W PV}
def V3 (hc:X.calm=true) (S:aA X.env.scope X.N sc N' ix) (hi:p0 X K fs tg iter wl) (hg:∀cl C s2 H2 fp,GF (gk X sc N' cl C s2 H2 fp) K (cg ix fs) tg is wt dU) (æ:∀cl C s2 H2 fp t,FF (gk X sc N' cl C s2 H2 fp) K (dU t) Ì (tf t)) (he:∀cl C s2 H2 fp t,EF (gk X sc N' cl C s2 H2 fp) K (dU t) Å (te t))
  (hf:∀p,f p=.bind (wt p) λt=>.bind (tf t) λk=>if k=true then .bind (te t) λv=>.ret (ap v) else .ret bv) (hl:uz is (cg ix fs) dU/\∀t,jz (dU t) (cg ix fs)) (ue:∀j∈is,ix[j]?=ap bv) (hs:∀x,im iter X.env x=pure x:=by intro _;rfl) :
  LF X K fs (.ListComp Å [⟨tg,iter,Ì,0⟩] sc pos) (.bind wl λl=>kh l f):=
 ⟨PE.imp (Ze hc S hi.p (λcl C s2 H2 fp=>(hg cl C s2 H2 fp).p) (λcl C s2 H2 fp Z s σ H Q I ⟨t,q⟩=>(æ cl C s2 H2 fp t).p Z s σ H Q I q) (λcl C s2 H2 fp Z s σ H Q I ⟨t,q⟩=>(he cl C s2 H2 fp t).p Z s σ H Q I q) hs) (OB S rfl hf hl.1 hl.2 ue)⟩
def T4 {f:PV->W PV} (hc:X.calm=true) (S:aA X.env.scope X.N sc N' ix) (hi:p0 X K fs tg iter wl) (hg:∀cl C s2 H2 fp,GF (gk X sc N' cl C s2 H2 fp) K (cg ix fs) tg is wt dU) (he:∀cl C s2 H2 fp t,EF (gk X sc N' cl C s2 H2 fp) K (dU t) Å (te t))
  (hf:∀p,f p=.bind (wt p) te) (hl:uz is (cg ix fs) dU/\∀t,jz (dU t) (cg ix fs)) (ue:∀j∈is,ix[j]?=ap bv) (hs:∀x,im iter X.env x=pure x:=by intro _;rfl) :
  LF X K fs (.ListComp Å [⟨tg,iter,[],0⟩] sc pos) (.bind wl λl=>mapW l f):=by
 have:(λl=>mapW l f)=λl=>kh l λp=>.bind (wt p) λt=>.bind (.ret true) λk=>if k=true then .bind (te t) λv=>.ret (ap v) else .ret bv:=funext λl=>by
  rw [wA];congr 1;funext p;rw [hf];rfl
 rw [this];exact V3 (tf:=λ_=>.ret true) hc S hi hg (λ_ _ _ _ _ _=>Oy) he (λp=>rfl) hl ue hs
def SF.Tz {rest:List u8}{out:T->End}{k:List PV->W T} (hc:X.calm=true) (hN:X.N.Nodup) (zf:X.N[i]?=ap y) (hx:X.env.scope.names.lookup y=ap .local) (S:aA X.env.scope X.N sc N' ix) (hi:p0 X K fs tg iter wl) (hg:∀cl C s2 H2 fp,GF (gk X sc N' cl C s2 H2 fp) K (cg ix fs) tg is wt dU) (æ:∀cl C s2 H2 fp t,FF (gk X sc N' cl C s2 H2 fp) K (dU t) Ì (tf t)) (he:∀cl C s2 H2 fp t,EF (gk X sc N' cl C s2 H2 fp) K (dU t) Å (te t))
  (hf:∀p,f p=.bind (wt p) λt=>.bind (tf t) λk=>if k=true then .bind (te t) λv=>.ret (ap v) else .ret bv) (hl:uz is (cg ix fs) dU/\∀t,jz (dU t) (cg ix fs)) (ue:∀j∈is,ix[j]?=ap bv) (hr:∀l,SF X K x (fs.set i (ap (.ol bv l))) rest (k l) out)
  (pP:nn (.ListComp Å [⟨tg,iter,Ì,0⟩] sc pos) (ap (.Name y px)) mX.line X.env=pure true:=by rfl) (hs:∀x,im iter X.env x=pure x:=by intro _;rfl) :
  SF X K x fs (.Assign [.Name y px] (.ListComp Å [⟨tg,iter,Ì,0⟩] sc pos) mX::rest) (.bind (.bind wl λl=>kh l f) k) out:=
 SF.step (yH hc hN zf hx S hi.p (λcl C s2 H2 fp=>(hg cl C s2 H2 fp).p) (λcl C s2 H2 fp Z s σ H Q I ⟨t,q⟩=>(æ cl C s2 H2 fp t).p Z s σ H Q I q) (λcl C s2 H2 fp Z s σ H Q I ⟨t,q⟩=>(he cl C s2 H2 fp t).p Z s σ H Q I q) pP hs) λD σ H ⟨sr,q⟩=>
  OB (K:=K) S rfl hf hl.1 hl.2 ue σ H _ ⟨sr,(am wl λl=>kh l f).mono (λl q1 a ws H1 g1 s1 n e v1=>by
   have no:=sr.noOwn n;have s2:=s1.oy (t:=.ol bv l) ⟨by simp,ws,e,v1⟩ no i;exact⟨_,k l,hr l,s2,(k l).mono (λt q2=>q2.go (cE.oy s1 g1.f no n i) sr s2) q1⟩) q⟩
theorem wJ:∀{l:bF}{i:Nat} (s:Option SL),l[i]?=ap bv->jz (l.set i s) l
 | [],_,_,h=>by simp at h
 | x::l,0,s,h=>by
  simp at h;subst h;exact .drop (jz.refl l)
 | x::l,i+1,s,h=>by
  rw [List.set_cons_succ];exact .keep (wJ s (by simpa using h))
def jz.trans {a b c:bF} (h1:jz a b) (h2:jz b c):jz a c:=by
 induction h1 generalizing c with
 | nil=>exact h2
 | drop h ih=>cases h2 with | drop h2=>exact .drop (ih h2) | keep h2=>exact .drop (ih h2)
 | keep h ih=>cases h2 with | drop h2=>exact .drop (ih h2) | keep h2=>exact .keep (ih h2)
def rO {l:bF}{is:List Nat} (hl:l.length=mO.length/\∀(j:Nat) (s:SL),l[j]?=ap (ap s)->(j∈is/\s.own=false)\/(j∉is/\mO[j]?=ap (ap s))) (hi:mO[i]?=ap bv) :
  (l.set i (ap (.val v))).length=mO.length/\∀(j:Nat) (s:SL),(l.set i (ap (.val v)))[j]?=ap (ap s)->(j∈is++[i]/\s.own=false)\/(j∉is++[i]/\mO[j]?=ap (ap s)):=by
 refine⟨by rw [BU];exact hl.1,λj s e=>?_⟩;rcases bo e with⟨rfl,rfl⟩ | ⟨n,e⟩
 ·exact .inl ⟨by simp,rfl⟩
 ·rcases hl.2 j s e with⟨h1,h2⟩ | ⟨h1,h2⟩
  ·exact .inl ⟨by simp [h1],h2⟩
  ·exact .inr ⟨by simp [h1,n],h2⟩
def TZ (mO:bF):mO.length=mO.length/\∀(j:Nat) (s:SL),mO[j]?=ap (ap s)->(j∈([]:List Nat)/\s.own=false)\/(j∉([]:List Nat)/\mO[j]?=ap (ap s)):=⟨rfl,λj s e=>.inr ⟨by simp,e⟩⟩
def NM (hi:mO[i]?=ap bv):uz [i] mO (λp=>mO.set i (ap (.val p)))/\∀t,jz (mO.set i (ap (.val t))) mO:=⟨λt=>rO (is:=[]) (TZ mO) hi,λt=>wJ _ hi⟩
def MJ {l:bF}{s:Option SL} (h:l[j]?=ap bv) (n:j≠i):(l.set i s)[j]?=ap bv:=by rw [aL n];exact h
def GX (hi:mO[i]?=ap bv) (hj:mO[j]?=ap bv) (n:j≠i):uz [i,j] mO (λt:PV×PV=>(mO.set i (ap (.val t.1))).set j (ap (.val t.2)))/\∀t:PV×PV,jz ((mO.set i (ap (.val t.1))).set j (ap (.val t.2))) mO:=
 ⟨λt=>rO (is:=[i]) (rO (is:=[]) (TZ mO) hi) hj,λt=>(wJ _ (MJ hj n)).trans (wJ _ hi)⟩
end
section
variable {rest:List u8}{T:Type}{out:T->End}
def dc (sr:a8 K H σ fs) (hs:fs[i]?=ap (ap (.ol q0 l))):∃a ws,σ[i]?=ap (ap (.ref a))/\H a=ap (.lst ws)/\aN K [] H ws l:=by
 obtain⟨u,e1,r⟩:=sr.at' i _ hs;rcases r with⟨v,e,_⟩ | ⟨a,e,z,ws,q1,q2⟩
 ·cases e
 ·subst e;exact⟨a,ws,e1,q1,q2⟩
def jI {pI:List V}{l':List PV} (sr:a8 K H σ fs) (hs:fs[i]?=ap (ap (.ol q0 l))) (e1:σ[i]?=ap (ap (.ref a))) (sx:oe a H H') (h':H' a=ap (.lst pI)) (r:aN K [] H pI l'):a8 K H' σ (fs.set i (ap (.ol q0 l')))/\cE σ fs H σ (fs.set i (ap (.ol q0 l'))) H':=
 jJ (t':=.ol q0 l') sr hs rfl (by simp) e1 sx λtk=>⟨(sr.ownAt hs rfl e1).1,pI,h',aN.tk tk r⟩
def jX (l:List PV) (v:PV):W (List PV):=.fq (l.length < sizeLine) (.ret (l++[v]))
theorem SF.append (i:Nat) {k:List PV->W T} (hs:fs[i]?=ap (ap (.ol q0 l))) (hK:X.K=K) (hN:X.N[i]?=ap y) (hv:tH X.env.scope y) (he:EF X K fs e we) (hr:∀l',SF X K x (fs.set i (ap (.ol q0 l'))) rest (k l') out)
  (hd:(y==("__debug__":Str))=false:=by decide) (hJ:(y==("__classdict__":Str))=false:=by decide) (eV:sw (.Name y p) "append" X.env (kw (.Name y p) X.env)=kw (.Name y p) X.env:=by rfl)
  (oQ:((lm bK (ce [e] X.env)).all (λx=>!x.1)&&(GE bK (Db [] X.env)).all (λx=>x.1.isSome)
   && decide ([e].length+([]:List ww).length+(if ([]:List ww).isEmpty then 0 else 1) < 30))=true:=by rfl)
  (eU:(Â.endLine==bK.line)=true:=by rfl) (tF:ce [e] X.env=(false,kw e X.env)::ce [] X.env:=by rfl) (fo:(lm bK (ce [] X.env)).any (·.1)=false:=by rfl)
  (pP:nn (.Call (.Attribute (.Name y p) "append" Â) [e] [] bK) bv pos.line X.env=pure false:=by rfl) :
  SF X K x fs (.Expr (.Call (.Attribute (.Name y p) "append" Â) [e] [] bK) pos::rest) (.bind we λv=>.bind (jX l v) k) out:=
 SF.step (m5 (rm K hK BM Er Ep rH (cV hN hv hd hJ) (bp he.p cG tF) eV oQ eU tF fo) pP) λD σ H ⟨sr,q⟩=>by
  obtain⟨a,ws,e1,h1,r1⟩:=dc sr hs;refine⟨_,e1,.inl ⟨rfl,_,c6.of h1⟩,sr,we.mono (λv q1 u H1 g1 s1 v1=>?_) q⟩;obtain⟨a',pI,kl,gs,tw⟩:=dc s1 hs;rw [e1] at kl;cases kl;refine⟨a,pI,u,rfl,rfl,gs,by rw [tw.length];exact q1.1,λH2 sx h2=>?_⟩;obtain⟨s2,g2⟩:=jI s1 hs e1 sx h2 (tw.append (.one v1));exact⟨_,k _,hr _,s2,(k _).mono (λt q2=>q2.go (g1.f.trans g2) sr s2) q1.2⟩
def sF (l m:List PV):W (List PV):=.fq (l.length+m.length<=sizeLine) (.ret (l++m))
theorem SF.extend (i:Nat) {k:List PV->W T} (hs:fs[i]?=ap (ap (.ol q0 l))) (hK:X.K=K) (hN:X.N[i]?=ap y) (hv:tH X.env.scope y) (he:QF X K fs e wl) (hr:∀l',SF X K x (fs.set i (ap (.ol q0 l'))) rest (k l') out)
  (hd:(y==("__debug__":Str))=false:=by decide) (hJ:(y==("__classdict__":Str))=false:=by decide) (eV:sw (.Name y p) "extend" X.env (kw (.Name y p) X.env)=kw (.Name y p) X.env:=by rfl)
  (oQ:((lm bK (ce [e] X.env)).all (λx=>!x.1)&&(GE bK (Db [] X.env)).all (λx=>x.1.isSome)
   && decide ([e].length+([]:List ww).length+(if ([]:List ww).isEmpty then 0 else 1) < 30))=true:=by rfl)
  (eU:(Â.endLine==bK.line)=true:=by rfl) (tF:ce [e] X.env=(false,kw e X.env)::ce [] X.env:=by rfl) (fo:(lm bK (ce [] X.env)).any (·.1)=false:=by rfl)
  (pP:nn (.Call (.Attribute (.Name y p) "extend" Â) [e] [] bK) bv pos.line X.env=pure false:=by rfl) :
  SF X K x fs (.Expr (.Call (.Attribute (.Name y p) "extend" Â) [e] [] bK) pos::rest) (.bind wl λm=>.bind (sF l m) k) out:=
 SF.step (m5 (rm K hK BM PySem.F.slot_list_extend PySem.F.type_list_extend (Rx K hK) (cV hN hv hd hJ) (bp he.p cG tF) eV oQ eU tF fo) pP) λD σ H ⟨sr,q⟩=>by
  obtain⟨a,ws,e1,h1,r1⟩:=dc sr hs;refine⟨_,e1,.inl ⟨rfl,_,c6.of h1⟩,sr,wl.mono (λm q1 u H1 g1 s1 v1=>?_) q⟩;obtain⟨a',pI,kl,gs,tw⟩:=dc s1 hs;rw [e1] at kl;cases kl;obtain⟨b,zs,rfl,hb,rb⟩:=v1.sq s1;refine⟨a,b,pI,zs,rfl,rfl,gs,hb,by rw [tw.length,rb.length];exact q1.1,λH2 sx h2=>?_⟩;obtain⟨s2,g2⟩:=jI s1 hs e1 sx h2 (tw.append rb);exact⟨_,k _,hr _,s2,(k _).mono (λt q2=>q2.go (g1.f.trans g2) sr s2) q1.2⟩
def tW (l:List PV):W (List PV×PV):=match l.getLast? with
 | some v=>.ret (l.dropLast,v)
 | none=>.fail
def MB {l:List PV} (h:l.getLast?=ap v):l=l.dropLast++[v]:=by
 rw [List.getLast?_eq_some_iff] at h;obtain⟨ys,rfl⟩:=h;simp
theorem aN.snoc:∀{ws:List V}{l:List PV}{v:PV},aN K [] H ws (l++[v])->∃Xx u,ws=Xx++[u]/\aN K [] H Xx l/\VR K [] H u v
 | _,[],_,.cons r .nil=>⟨[],_,rfl,.nil,r⟩
 | _,x::l,v,.cons r t=>by
  obtain⟨Xx,u,rfl,h1,h2⟩:=aN.snoc t;exact⟨_::Xx,u,rfl,.cons r h1,h2⟩
def SF.rg (i j:Nat) {k:List PV×PV->W T} (hs:fs[i]?=ap (ap (.ol q0 l))) (Ă:j≠i) (hK:X.K=K) (hN:X.N[i]?=ap y) (hv:tH X.env.scope y) (hNd:X.N.Nodup) (hj:X.N[j]?=ap z) (hx:Loc X.env.scope z) (hr:∀t:List PV×PV,SF X K x ((fs.set i (ap (.ol q0 t.1))).set j (ap (.val t.2))) rest (k t) out)
  (hd:(y==("__debug__":Str))=false:=by decide) (hJ:(y==("__classdict__":Str))=false:=by decide) (eV:sw (.Name y p) "pop" X.env (kw (.Name y p) X.env)=kw (.Name y p) X.env:=by rfl) (eU:(Â.endLine==bK.line)=true:=by rfl)
  (pP:nn (.Call (.Attribute (.Name y p) "pop" Â) [] [] bK) (ap (.Name z p')) pos.line X.env=pure false:=by rfl) (hf:X.fn z=true\/X.env.scope.names.lookup z=ap .local:=by first | exact .inl rfl | exact .inr rfl | assumption) :
  SF X K x fs (.Assign [.Name z p'] (.Call (.Attribute (.Name y p) "pop" Â) [] [] bK) pos::rest) (.bind (tW l) k) out:=
 SF.step (oz hNd hj hx (Q8 K hK BM PySem.F.slot_list_pop PySem.F.type_list_pop Rv (cV hN hv hd hJ) eV eU) pP hf) λD σ H ⟨sr,q⟩=>by
  obtain⟨a,ws,e1,h1,r1⟩:=dc sr hs;have q:(tW l).run λt=>(k t).run λt=>bQ K x σ fs H D (out t):=q;unfold tW at q;cases hl:l.getLast? with
  | none=>rw [hl] at q;exact q.elim
  | some v=>
   rw [hl] at q;have el:=MB hl;rw [el] at r1;obtain⟨Xx,u,rfl,r0,ru⟩:=aN.snoc r1;refine⟨_,e1,.inl ⟨rfl,_,c6.of h1⟩,a,Xx,u,rfl,rfl,h1,λH2 sx h2=>?_⟩;obtain⟨s2,g2⟩:=jI sr hs e1 sx h2 r0;have ru2:VR K [] H2 u v:=g2.vr sr ru;have s3:=s2.dN ru2 j;exact⟨_,k _,hr (l.dropLast,v),s3,(k _).mono (λt q2=>q2.go (g2.trans (cE.dN s2 _ _ j)) sr s3) q⟩
def f7 (l:List PV) (i v:PV):W (List PV):=match i with
 | .int k=>match nA l.length k with
  | some j=>.ret (l.set j v)
  | none=>.fail
 | _=>.fail
def SF.Gq (i:Nat) {k:List PV->W T} (hs:fs[i]?=ap (ap (.ol q0 l))) (hN:X.N[i]?=ap y) (hv:tH X.env.scope y) (he:EF X K fs e we) (hi:EF X K fs ei wi) (hr:∀l',SF X K x (fs.set i (ap (.ol q0 l'))) rest (k l') out)
  (ha:∀v,Da (.Subscript (.Name y p) ei fH) X.env v=(do
   let ov <- sB [v] (kw (.Name y p) X.env)
   let iv <- sB [v,ov] (kw ei X.env)
   GT fH
   sB [v,ov,iv] (Ev ov iv v)
   release [v,ov,iv] []):=by intro _;rfl)
  (hd:(y==("__debug__":Str))=false:=by decide) (hJ:(y==("__classdict__":Str))=false:=by decide) (ZZ:xL [.Subscript (.Name y p) ei fH] e pos.line X.env=pure false:=by rfl) (hw:zn [.Subscript (.Name y p) ei fH] e X.env=pure bv:=by rfl)
  (h1:(wT [.Subscript (.Name y p) ei fH] X.env).map (·.2)=[Da (.Subscript (.Name y p) ei fH) X.env]:=by rfl) :
  SF X K x fs (.Assign [.Subscript (.Name y p) ei fH] e pos::rest) (.bind we λv=>.bind wi λn=>.bind (f7 l n v) k) out:=
 SF.step (v9 he.p (Nd (cV hN hv hd hJ) hi.p oq ha) ZZ hw h1) λD σ H ⟨sr,q⟩=>by
  refine⟨sr,we.mono (λv q1 u H1 g1 s1 v1=>?_) q⟩;obtain⟨a,ws,e1,h1,r1⟩:=dc s1 hs;refine⟨_,e1,s1,wi.mono (λn q2 u2 H2 g2 s2 v2=>?_) q1⟩;obtain⟨a',pI,kl,gs,tw⟩:=dc s2 hs;rw [e1] at kl;cases kl;cases v2 with
  | int kk=>
   have q2:(match nA l.length kk with | some j=>bm (l.set j v) | none=>W.fail).run _:=q2;cases hj:nA l.length kk with
   | none=>rw [hj] at q2;exact q2.elim
   | some j=>
    rw [hj] at q2;refine⟨a,pI,kk,j,rfl,rfl,gs,by rw [tw.length];exact hj,λH3 sx h3=>?_⟩;obtain⟨s3,g3⟩:=jI s2 hs e1 sx h3 (tw.set (g2.vr s1 v1) j);exact⟨_,k _,hr _,s3,(k _).mono (λt q3=>q3.go ((g1.trans g2).f.trans g3) sr s3) q2⟩
  | _=>exact q2.elim
def SF.aug {M:M2}{v0:PV}{k:PV->W T} (hs:fs[i]?=ap (ap (.val v0))) (hN:X.N.Nodup) (hi:X.N[i]?=ap y) (hx:Loc X.env.scope y) (he:EF X K fs e we) (ho:X7 X op ti) (hM:M2.Ok K ti M) (hr:∀v,SF X K x (fs.set i (ap (.val v))) rest (k v) out)
  (hf:X.fn y=true\/X.env.scope.names.lookup y=ap .local:=by first | exact .inl rfl | exact .inr rfl | assumption):SF X K x fs (.AugAssign (.Name y p') op e pos::rest) (.bind we λv=>.bind (of2 M v0 v) k) out:=
 SF.step (Vo hN hi hx he.p ho hf) λD σ H ⟨sr,q⟩=>by
  obtain⟨u0,e0,r0⟩:=sr.at' i _ hs;rcases r0 with⟨v,e,r0⟩ | ⟨a,_,r0⟩
  ·cases e;refine⟨u0,e0,sr,we.mono (λv q1 u H1 g1 s1 v1=>?_) q⟩;refine oD hM s1 (g1.vr sr r0) v1 ((of2 M v0 v).mono (λz q2 u2 H2 g2 s2 v2=>?_) q1);exact⟨_,k z,hr z,s2.dN v2 i,(k z).mono (λt q3=>q3.go ((g1.trans g2).f.trans (cE.dN s2 u2 z i)) sr (s2.dN v2 i)) q2⟩
  ·exact r0.elim
end
end
end FL
variable {x:Ce}
namespace FL
section
open PySem PySem.Spec PyProof.Rows L2 PL
variable {K:Ab}
def ic:List AK->List PV->bF
 | [],_=>[]
 | .v::ks,x::l=>ap (.val x)::ic ks l
 | .v::_,[]=>[]
 | .p φ::ks,l=>ap (.kI φ)::ic ks l
 | .f a::ks,l=>ap (.adr a)::ic ks l
def jw (ks:List AK) (l:List PV) (n:Nat):bF:=ic ks l++Am (n-ks.length) bv
def jy (ks:List AK):Prop:=∀i j:Nat,(∃φ,ks[i]?=ap (.p φ))->(∃φ,ks[j]?=ap (.p φ))->i=j
theorem jB:∀{n:Nat}{m:Qa R n}{l:List PV}{Q:R->Prop},(bS n m l).run Q->l.length=n
 | 0,_,[],_,_=>rfl
 | 0,_,_::_,_,h=>h.elim
 | n+1,_,[],_,h=>h.elim
 | n+1,m,x::l,Q,h=>by rw [Ao,jB (n:=n) (m:=m x) h]
section
theorem iR.len (h:iR K H vs ks l):vs.length=ks.length:=by induction h <;> simp_all
def iR.slot (h:iR K H vs ks l):(ic ks l).length=vs.length/\∀(i:Nat) (s:SL),(ic ks l)[i]?=ap (ap s)->∃u,vs[i]?=ap u/\vq K H u s/\(s.own=true->∃φ,s=.kI φ/\ks[i]?=ap (.p φ)):=by
 induction h with
 | nil=>exact⟨rfl,λi s e=>by simp [ic] at e⟩
 | @v u x vs ks l r t ih=>
  refine⟨by simp [ic,ih.1],λi s e=>?_⟩;cases i with
  | zero=>simp [ic] at e;subst e;exact⟨u,rfl,.inl ⟨x,rfl,r⟩,λz=>by cases z⟩
  | succ i=>simp [ic] at e;obtain⟨w,h1,h2,h3⟩:=ih.2 i s e;exact⟨w,by simpa using h1,h2,by simpa using h3⟩
 | @p a φ ws vs ks l e0 r t ih=>
  refine⟨by simp [ic,ih.1],λi s e=>?_⟩;cases i with
  | zero=>simp [ic] at e;subst e;exact⟨_,rfl,.inr ⟨a,rfl,ws,e0,r⟩,λ_=>⟨φ,rfl,rfl⟩⟩
  | succ i=>simp [ic] at e;obtain⟨w,h1,h2,h3⟩:=ih.2 i s e;exact⟨w,by simpa using h1,h2,by simpa using h3⟩
 | @f a vs ks l t ih=>
  refine⟨by simp [ic,ih.1],λi s e=>?_⟩;cases i with
  | zero=>simp [ic] at e;subst e;exact⟨_,rfl,.inr ⟨a,rfl,rfl⟩,λz=>by cases z⟩
  | succ i=>simp [ic] at e;obtain⟨w,h1,h2,h3⟩:=ih.2 i s e;exact⟨w,by simpa using h1,h2,by simpa using h3⟩
def iR.Vp (h:iR K H vs ks l) (e:ks[i]?=ap (.p φ)):(ic ks l)[i]?=ap (ap (.kI φ)):=by
 induction h generalizing i with
 | nil=>simp at e
 | v r t ih=>cases i with | zero=>simp at e | succ i=>simp [ic];exact ih (by simpa using e)
 | p e0 r t ih=>cases i with | zero=>simp at e;subst e;rfl | succ i=>simp [ic];exact ih (by simpa using e)
 | f t ih=>cases i with | zero=>simp at e | succ i=>simp [ic];exact ih (by simpa using e)
theorem n5 {s:SL} (h:(jw ks l n)[i]?=ap (ap s)):(ic ks l)[i]?=ap (ap s):=by
 unfold jw at h;by_cases c:i < (ic ks l).length
 ·rw [Ay c] at h;exact h
 ·rw [AB ∅,Bx] at h
  split at h <;> cases h
def lB {N:List Str} (h:vs[i]?=ap u):(L2.start N vs)[i]?=ap (ap u):=by
 unfold L2.start;rw [Ay (by rw [Af];exact (Ak.mp h).1),Ai,h];rfl
def uF {N:List Str} (h:(L2.start N vs)[i]?=ap (ap u)):vs[i]?=ap u:=by
 unfold L2.start at h;by_cases c:i < vs.length
 ·rw [Ay (by simpa using c),Ai] at h;cases z:vs[i]? with
  | none=>rw [z] at h;cases h
  | some q=>rw [z] at h;cases h;rfl
 ·rw [AB (by simpa using c),Bx] at h
  split at h <;> cases h
def iR.beg (h:iR K H vs ks l) (one:jy ks) (N:List Str):a8 K H (L2.start N vs) (jw ks l N.length):=by
 obtain⟨hl,hs⟩:=h.slot;refine⟨?_,λi s e=>?_,λi j s t x y a e1 e2 o1 o2 q1 q2 z1 z2=>?_⟩
 ·unfold L2.start jw;rw [Ae,Ae,Af,hl,Bd,Bd,h.len]
 ·obtain⟨u,h1,h2,_⟩:=hs i s (n5 e);exact⟨u,lB h1,h2⟩
 ·obtain⟨_,_,_,h3⟩:=hs i s (n5 e1);obtain⟨_,_,_,h4⟩:=hs j t (n5 e2);obtain⟨φ,_,k1⟩:=h3 o1;obtain⟨ψ,_,k2⟩:=h4 o2;exact one i j ⟨φ,k1⟩ ⟨ψ,k2⟩
def iR.go (h:iR K H vs ks l) {N:List Str} (g:cE (L2.start N vs) (jw ks l N.length) H σ' bP H') (s':a8 K H' σ' bP):GoC vs ks H H':=by
 obtain⟨hl,hs⟩:=h.slot;refine⟨λa o e n=>(g.keep a o e λz=>?_).1,g.there,λa φ p=>?_⟩
 ·obtain⟨i,s,x,e1,e2,e3,e4⟩:=z;obtain⟨u,h1,h2,h3⟩:=hs i s (n5 e1);obtain⟨φ,rfl,k⟩:=h3 e2;rcases e4 with rfl | e4
  ·exact n φ ⟨i,k,uF e3⟩
  ·cases e4
 ·obtain⟨i,e1,e2⟩:=p;have e3:=h.Vp e1;have hi:=(Ak.mp e3).1;have e4:(jw ks l N.length)[i]?=ap (ap (.kI φ)):=by unfold jw;rw [Ay hi];exact e3
  rcases g.pk a φ ⟨i,e4,lB e2⟩ with⟨j,k1,k2⟩ | ⟨_,k⟩
  ·exact s'.ownAt k1 rfl k2
  ·exact k
end
section
variable {st:u8}{f:db}{N:List Str}
def fnV {m:Qa PV n} (Fn:P9 K x qual st f fd) (S:aq N ps (ag st)) (pR:ks.length=ps.length) (one:jy ks)
  (Ã:∀l:List PV,l.length=n->∀(cS:ci) (A:tt) (outer:List Env) (s:dL) (H:Hp) (E:XK),c7 k (A.deeper (ut qual (ag st) s.heap.objs.size f cS))->SF (ju km P w K mg base N qual (ag st) f cS A outer s H E).yh K false (jw ks l N.length) (bu st) (bS n m l) .rt) :
  fu P w K mg base km (k+1) f fd ps (d8 K ks (bS n m)):=by
 refine Fn.ok S (λvs H Q E h=>?_) (λcS A outer s H vs Q E hr h=>?_)
 ·obtain⟨l,h,_⟩:=h;rw [h.len];exact pR
 obtain⟨l,h,q⟩:=h;refine⟨_,(Ã l (jB q) cS A outer s H E hr).p,h.beg one N,(bS n m l).mono (λv q1 u σ' bP H' g s' r=>q1 u H' (h.go g s') r) q⟩
def fnL {m:Qa (List PV) n} (Fn:P9 K x qual st f fd) (S:aq N ps (ag st)) (pR:ks.length=ps.length) (one:jy ks)
  (Ã:∀l:List PV,l.length=n->∀(cS:ci) (A:tt) (outer:List Env) (s:dL) (H:Hp) (E:XK),c7 k (A.deeper (ut qual (ag st) s.heap.objs.size f cS))->SF (ju km P w K mg base N qual (ag st) f cS A outer s H E).yh K false (jw ks l N.length) (bu st) (bS n m l) .rl) :
  fu P w K mg base km (k+1) f fd ps (eL K ks (bS n m)):=by
 refine Fn.ok S (λvs H Q E h=>?_) (λcS A outer s H vs Q E hr h=>?_)
 ·obtain⟨l,h,_⟩:=h;rw [h.len];exact pR
 obtain⟨l,h,q⟩:=h;have sr:=h.beg one N;refine⟨_,(Ã l (jB q) cS A outer s H E hr).p,sr,(bS n m l).mono (λz q1 a ws σ' bP H' g s' fr e r=>q1 a ws H' (h.go g s') ?_ e r) q⟩;rcases fr with fr | ⟨i,t,x,e1,e2,np,e3,e4⟩
 ·exact fr
 ·obtain⟨_,_,_,h3⟩:=h.slot.2 i t (n5 e1);obtain⟨φ,e,_⟩:=h3 e2;exact absurd e (np φ)
end
def cK:jy []:=λi j ⟨_,h⟩=>by simp at h
def dW (h:jy ks):jy (.v::ks):=λi j ⟨φ,a⟩ ⟨ψ,b⟩=>by
 cases i with
 | zero=>simp at a
 | succ i=>
  cases j with
  | zero=>simp at b
  | succ j=>rw [h i j ⟨φ,by simpa using a⟩ ⟨ψ,by simpa using b⟩]
def kK {fa:db} (h:jy ks):jy (.f fa::ks):=λi j ⟨φ,a⟩ ⟨ψ,b⟩=>by
 cases i with
 | zero=>simp at a
 | succ i=>
  cases j with
  | zero=>simp at b
  | succ j=>rw [h i j ⟨φ,by simpa using a⟩ ⟨ψ,by simpa using b⟩]
def aG:jy (.p φ::Am n .v):=λi j ⟨χ,a⟩ ⟨ψ,b⟩=>by
 have z:∀{i:Nat}{χ:List V->Prop},(AK.p φ::Am n .v)[i]?=ap (.p χ)->i=0:=λ{i χ} a=>by
  cases i with
  | zero=>rfl
  | succ i=>
   have a:(Am n AK.v)[i]?=ap (.p χ):=by simpa using a
   rw [Bx] at a
   split at a <;> simp at a
 rw [z a,z b]
end
end FL
namespace L2
open PySem PySem.Spec PyProof.Rows
def Y6 (K:Ab):R2:=λx y H Q=>∃a b xs zs,x=.ref a/\y=.ref b/\c6 K H a xs/\c6 K H b zs/\xs.length+zs.length<=sizeLine/\kg H (.lst (xs++zs)) Q
theorem Ri (K:Ab) (hK:X.K=K):hZ X (tz .Add) (Y6 K):=by
 subst hK;intro Z s σ H x y v u Q I rx ry h;obtain⟨l,b,xs,zs,rfl,rfl,hH,hB,hz,q⟩:=h;cases rx;cases ry;obtain⟨aw,r,⟨⟨cls,dd,data,sl⟩,n,ho,hc,hd,kZ⟩,_⟩:=I.list hH;obtain⟨cH,r2,⟨⟨Xc,SO,data2,PZ⟩,n2,KL,Og,Ñ,Uh⟩,_⟩:=I.list hB;simp only at hc hd kZ Og Ñ Uh;subst hc hd kZ Og Ñ Uh;have e:aw.toArray++cH.toArray=(aw++cH).toArray:=by simp
 have hl:=r.length;have KN:=r2.length;refine concat_meets ⟨_,ho,rfl⟩ ⟨_,KL,rfl⟩ noFill_list_add seq_list_add PySem.F.slot_list_add PySem.F.entry_list_add (PySem.F.args_list_add_2 _ _) (list_addW l b aw.toArray cH.toArray n n2 bv bv sl PZ (by simp;omega)) ⟨ho,KL,?_⟩;rw [e];exact⟨.ref _,_,I.VX (t':=s.toks) (r.append r2) (by rw [Ae];omega),rfl,q.at _ I.fresh⟩
end L2
variable {hi:FL.W (Option Int)}{neg:Bool}
namespace FL
section
open PySem PySem.Spec PyProof.Rows L2 PL
variable {K:Ab}
section
variable {a c:lw}{w:W PV}
def mK (l m:List PV):W (List PV):=.fq (l.length+m.length<=sizeLine) (.ret (l++m))
def fQL (K:Ab) (fs:bF) (w:W (List PV)):TE:=λσ H Q=>a8 K H σ fs/\w.run λl=>∀u H',c9 σ fs H H'->a8 K H' σ fs->S6 K σ fs H' u l->(∀Ĉ,c9 σ fs H' Ĉ->a8 K Ĉ σ fs->∃a vs,u=.ref a/\c6 K Ĉ a vs/\aN K [] Ĉ vs l)->Q u H'
structure yd (X:Cx) (K:Ab) (fs:bF) (e:lw) (w:W (List PV)):Prop where p:PE X e (fQL K fs w)
def bw (h:LF X K fs e wl):yd X K fs e wl:=⟨PE.imp h.p λσ H Q ⟨sr,q⟩=>⟨sr,wl.mono (λl q1 a vs H1 g1 s1 n e v=>q1 _ H1 g1 s1 (.inr ⟨a,rfl,.inl ⟨sr.noOwn n,vs,e,v⟩⟩) λH2 g2 s2=>⟨a,vs,rfl,c6.of (g2.pz e (sr.noOwn n)),g2.LV s1 v⟩) q⟩⟩
def vY (i:Nat) (hs:fs[i]?=ap (ap (.ol q0 l)):=by rfl) (hN:X.N[i]?=ap x:=by rfl) (hv:tH X.env.scope x:=by first | exact Ci rfl | exact Cc (Ci rfl) | exact Cc (Cc rfl)) (hd:(x==("__debug__":Str))=false:=by decide) (hJ:(x==("__classdict__":Str))=false:=by decide):yd X K fs (.Name x pos) (.ret l):=
 ⟨PE.imp (cV hN hv hd hJ) λσ H Q ⟨sr,q⟩=>by
  obtain⟨a,ws,e1,h1,r1⟩:=dc sr hs;refine⟨_,e1,q _ H .refl sr (.inr ⟨a,rfl,.inr ⟨i,q0,hs,e1⟩⟩) λH2 g2 s2=>?_⟩;obtain⟨a',pI,kl,gs,tw⟩:=dc s2 hs;rw [e1] at kl;cases kl;exact⟨a,pI,rfl,c6.of gs,tw⟩⟩
def kS:PV->W (List PV)
 | .cl l=>.ret l
 | _=>.fail
def eN (h:EF X K fs e w):yd X K fs e (.bind w kS):=⟨PE.imp h.p λσ H Q ⟨sr,q⟩=>⟨sr,w.mono (λx q1 u1 H1 g1 s1 v1=>by
 cases v1 with
 | cl e r=>exact q1 _ H1 g1 s1 (.inl ⟨_,_,rfl,.inl e,r⟩) λH2 g2 s2=>⟨_,_,rfl,((g2.eK s1).f _ _ e).sq,g2.LV s1 r⟩
 | _=>exact q1.elim) q⟩⟩
def kc (hK:X.K=K) (ha:yd X K fs a wl) (hb:yd X K fs b wm):LF X K fs (.BinOp a .Add b pos) (.bind wl λl=>.bind wm λm=>mK l m):=⟨PE.imp (IQ (Ri K hK) ha.p hb.p) λσ H Q ⟨sr,q⟩=>⟨sr,wl.mono (λl q1 u1 H1 g1 s1 _ v1=>⟨s1,wm.mono (λm q2 u2 H2 g2 s2 _ v2=>by
 obtain⟨a,vs,rfl,h1,r1⟩:=v1 H2 g2 s2;obtain⟨b,ws,rfl,h2,r2⟩:=v2 H2 .refl s2;refine⟨a,b,vs,ws,rfl,rfl,h1,h2,by rw [r1.length,r2.length];exact q2.1,λp H3 s3 h3 n3=>?_⟩;have gg:=g1.trans g2;exact q2.2 p _ H3 (gg.trans (c9.same s3)) (s2.same s3) (gg.there p n3) h3 (aN.tk s3.e7 (r1.append r2))) q1⟩) q⟩⟩
def yW {Q:VK} (g1:c9 σ fs H H1) (s1:a8 K H1 σ fs) (r:aN K [] H1 vs l) (q:∀a vs H',c9 σ fs H H'->a8 K H' σ fs->H a=bv->H' a=ap (.lst vs)->aN K [] H' vs l->Q (.ref a) H'):kg H1 (.lst vs) Q:=λp H2 s2 h2 n2=>q p vs H2 (g1.trans (c9.same s2)) (s1.same s2) (g1.there p n2) h2 (aN.tk s2.e7 r)
def NK (K:Ab):CL K (MX K) .ret:=λ{fs σ H Q u l} s v q=>by
 obtain⟨a,vs,rfl,h,rs⟩:=v.sq s;exact⟨a,vs,rfl,h,yW .refl s rs q⟩
def V0 (hK:X.K=K) (hg:Gl X "list") (hm:X.mg "list"=bv) (ha:QF X K fs e wl) (he:ce [e] X.env=(false,kw e X.env)::ce [] X.env:=by rfl) (dJ:(lm pos (ce [] X.env)).any (·.1)=false:=by rfl):LF X K fs (.Call (.Name "list" p) [e] [] pos) wl:=NQ (m:=.ret) (HL K hK) (NK K) hg hm boot_list ha ⋯ ⋯ he dJ
def df (hK:X.K=K) (hg:Gl X "tuple") (hm:X.mg "tuple"=bv) (ha:QF X K fs e wl) (he:ce [e] X.env=(false,kw e X.env)::ce [] X.env:=by rfl) (dJ:(lm pos (ce [] X.env)).any (·.1)=false:=by rfl):EF X K fs (.Call (.Name "tuple" p) [e] [] pos) (.bind wl kE):=Lj (Lv K hK) (Qm K) hg hm boot_tuple ha ⋯ ⋯ he dJ
def jT (hK:X.K=K) (hg:Gl X "len") (hm:X.mg "len"=bv) (ha:QF X K fs e wl) (he:ce [e] X.env=(false,kw e X.env)::ce [] X.env:=by rfl) (dJ:(lm pos (ce [] X.env)).any (·.1)=false:=by rfl):EF X K fs (.Call (.Name "len" p) [e] [] pos) (.bind wl mC):=O6 (vg K hK) (RC K) hg hm boot_len ha ⋯ ⋯ he dJ
def PJ (ha:EF X K fs e w) (he:ce [e] X.env=(false,kw e X.env)::ce [] X.env):AF X K fs [e] (Am 1 .v) (R:=R) (λk=>.bind w λx=>k [x]):=af ha ak he
def cQ (hK:X.K=K) (hg:Gl X "len") (hm:X.mg "len"=bv) (ha:EF X K fs e w) (he:ce [e] X.env=(false,kw e X.env)::ce [] X.env:=by rfl) (dJ:(lm pos (ce [] X.env)).any (·.1)=false:=by rfl):EF X K fs (.Call (.Name "len" p) [e] [] pos) (.bind w λx=>qo dg [x]):=qD (n:=1) (vg K hK) (SX K) hg hm boot_len (PJ ha he) ⋯ ⋯ he dJ
def aaJ (hg:Gl X "abs") (hm:X.mg "abs"=bv) (ha:EF X K fs e w) (he:ce [e] X.env=(false,kw e X.env)::ce [] X.env:=by rfl) (dJ:(lm pos (ce [] X.env)).any (·.1)=false:=by rfl):EF X K fs (.Call (.Name "abs" p) [e] [] pos) (.bind w λx=>qo Pt [x]):=qD (n:=1) Pn S0 hg hm boot_abs (PJ ha he) ⋯ ⋯ he dJ
def nN (hg:Gl X "int") (hm:X.mg "int"=bv) (ha:EF X K fs e w) (he:ce [e] X.env=(false,kw e X.env)::ce [] X.env:=by rfl) (dJ:(lm pos (ce [] X.env)).any (·.1)=false:=by rfl):EF X K fs (.Call (.Name "int" p) [e] [] pos) (.bind w λx=>qo pY [x]):=O5 (n:=1) LB SY hg hm boot_int (PJ ha he) ⋯ ⋯ he dJ
def aaE (hc:X.calm=true) (hg:Gl X "max") (hm:X.mg "max"=bv) (ha:EF X K fs a wa) (hb:EF X K fs b wb) (he:ce [a,b] X.env=(false,kw a X.env)::ce [b] X.env:=by rfl) (Wz:ce [b] X.env=(false,kw b X.env)::ce [] X.env:=by rfl) (dJ:(lm pos (ce [b] X.env)).any (·.1)=false:=by rfl):EF X K fs (.Call (.Name "max" p) [a,b] [] pos) (.bind wa λx=>.bind wb λy=>qo Pr [x,y]):=qD (n:=2) (Lx hc) SW hg hm boot_max (af ha (af hb ak Wz) he) ⋯ ⋯ he dJ
def aaD (hc:X.calm=true) (hg:Gl X "min") (hm:X.mg "min"=bv) (ha:EF X K fs a wa) (hb:EF X K fs b wb) (he:ce [a,b] X.env=(false,kw a X.env)::ce [b] X.env:=by rfl) (Wz:ce [b] X.env=(false,kw b X.env)::ce [] X.env:=by rfl) (dJ:(lm pos (ce [b] X.env)).any (·.1)=false:=by rfl):EF X K fs (.Call (.Name "min" p) [a,b] [] pos) (.bind wa λx=>.bind wb λy=>qo Pq [x,y]):=qD (n:=2) (Lw hc) SV hg hm boot_min (af ha (af hb ak Wz) he) ⋯ ⋯ he dJ
def T3 (hK:X.K=K) (hc:X.calm=true) (Ĩ:Gl X "list") (ģ:X.mg "list"=bv) (ħ:Gl X "reversed") (XM:X.mg "reversed"=bv) (he:yd X K fs e wl)
  (F1:ce [.Call (.Name "reversed" p3) [e] [] p4] X.env=(false,kw (.Call (.Name "reversed" p3) [e] [] p4) X.env)::ce [] X.env:=by rfl) (qx:ce [e] X.env=(false,kw e X.env)::ce [] X.env:=by rfl) :
  LF X K fs (.Call (.Name "list" p1) [.Call (.Name "reversed" p3) [e] [] p4] [] p2) (.bind wl λl=>.ret l.reverse):=⟨PE.imp (Gu K hK hc Ĩ ģ ħ XM he.p F1 qx) λσ H Q ⟨sr,q⟩=>⟨sr,wl.mono (λl q1 u1 H1 g1 s1 _ v1=>by
 obtain⟨a,vs,rfl,h1,r1⟩:=v1 H1 .refl s1;exact⟨a,vs,rfl,h1,yW g1 s1 r1.reverse q1⟩) q⟩⟩
def X2:List PV->W (List Bool)
 | []=>.ret []
 | .bl b::r=>.bind (X2 r) λl=>.ret (b::l)
 | _=>.fail
theorem xK:∀{l:List PV}{Q:List Bool->Prop},(X2 l).run Q->∃bs:List Bool,l=bs.map PV.bl/\Q bs
 | [],Q,h=>⟨[],rfl,h⟩
 | .bl b::r,Q,h=>by
  obtain⟨bs,e,q⟩:=xK (l:=r) h;exact⟨b::bs,by rw [e];rfl,q⟩
 | .aX::r,Q,h=>h.elim
 | .int _::r,Q,h=>h.elim
 | .str _::r,Q,h=>h.elim
 | .tup _::r,Q,h=>h.elim
 | .ref _::r,Q,h=>h.elim
 | .ty _::r,Q,h=>h.elim
 | .cl _::r,Q,h=>h.elim
@[simp] theorem xM:∀bs:List Bool,X2 (bs.map PV.bl)=.ret bs
 | []=>rfl
 | b::bs=>by
  show am (X2 (bs.map PV.bl)) _=_;rw [xM bs];rfl
def xO (l:List PV):W PV:=.bind (X2 l) λbs=>.ret (.bl (bs.all id))
def Py (l:List PV):W PV:=.bind (X2 l) λbs=>.ret (.bl (bs.any id))
def zH (hK:X.K=K) (hc:X.calm=true) (hg:Gl X "all") (hm:X.mg "all"=bv) (ha:yd X K fs e wl) (he:ce [e] X.env=(false,kw e X.env)::ce [] X.env:=by rfl) (dJ:(lm pos (ce [] X.env)).any (·.1)=false:=by rfl):EF X K fs (.Call (.Name "all" p) [e] [] pos) (.bind wl xO):=⟨PE.imp (eO (LD K hK hc) hg hm boot_all (bp ha.p cG he) ⋯ ⋯ he dJ) λσ H Q ⟨sr,q⟩=>⟨sr,wl.mono (λl q1 u1 H1 g1 s1 _ v1=>by
 obtain⟨bs,e,q2⟩:=xK (l:=l) q1;obtain⟨a,vs,rfl,h1,r1⟩:=v1 H1 .refl s1;rw [e] at r1;have:=o6 r1;subst this;exact⟨a,bs,rfl,h1,q2 _ H1 g1 s1 (.bl _)⟩) q⟩⟩
def aaI (hK:X.K=K) (hc:X.calm=true) (hg:Gl X "any") (hm:X.mg "any"=bv) (ha:yd X K fs e wl) (he:ce [e] X.env=(false,kw e X.env)::ce [] X.env:=by rfl) (dJ:(lm pos (ce [] X.env)).any (·.1)=false:=by rfl):EF X K fs (.Call (.Name "any" p) [e] [] pos) (.bind wl Py):=⟨PE.imp (eO (LC K hK hc) hg hm boot_any (bp ha.p cG he) ⋯ ⋯ he dJ) λσ H Q ⟨sr,q⟩=>⟨sr,wl.mono (λl q1 u1 H1 g1 s1 _ v1=>by
 obtain⟨bs,e,q2⟩:=xK (l:=l) q1;obtain⟨a,vs,rfl,h1,r1⟩:=v1 H1 .refl s1;rw [e] at r1;have:=o6 r1;subst this;exact⟨a,bs,rfl,h1,q2 _ H1 g1 s1 (.bl _)⟩) q⟩⟩
def du (k:Kd) (x:PV):W PV:=match x with
 | .ref _=>.fail
 | .ty _=>.fail
 | x=>.ret (.bl (k.is x))
def TK (K:Ab):List V->Hp->VK->Prop:=λxs H Q=>∃x c t b,xs=[x,.ty c]/\(ma K H x t\/(t=.type "tuple"/\∃a vs,x=.ref a/\d7 K H a vs)\/(t=.type "list"/\∃a vs,x=.ref a/\c6 K H a vs)\/(t=.type "dict"/\∃a,x=.ref a/\IsD H a))/\Bz K t (.type c)=ap b/\Q (.bl b) H
def Lz (hK:X.K=K):bR X (.builtin "isinstance") (TK K):=by
 subst hK;intro Z s σ H xs us Q I r h;obtain⟨x,c,t,b,rfl,ty | ty | ⟨rfl,a,vs,rfl,hL⟩ | ⟨rfl,a,rfl,hD⟩,e,q⟩:=h
 ·exact pD Z s σ H _ us Q I r ⟨x,c,t,b,rfl,ty,e,q⟩
 ·exact Ly X.K rfl Z s σ H _ us Q I r ⟨x,c,t,b,rfl,.inr ty,e,q⟩
 ·obtain⟨u,w,rfl,r1,r2⟩:=vals2 r;cases r1;cases r2;obtain⟨aw,_,⟨o,n,h1,h2,_⟩,_⟩:=I.list hL;exact Bf Eh I.t4 ⟨o,h1,h2⟩ e (λz=>nomatch z) λtk=>⟨.bl b,H,I.tok _,rfl,q⟩
 ·obtain⟨u,w,rfl,r1,r2⟩:=vals2 r;cases r1;cases r2;have:∃o,s.heap.get? a=ap o/\o.cls=.type "dict":=by
   rcases hD with⟨kvs,e⟩ | ⟨kvs,e⟩
   ·obtain⟨_,_,vs,_,o,_,_,h1,h2,_⟩:=sQ I.bI e;exact⟨o,h1,h2.1⟩
   ·obtain⟨_,_,xs,_,o,_,_,h1,h2,_⟩:=sP I.bI e;exact⟨o,h1,h2.1⟩
  obtain⟨o,h1,h2⟩:=this;exact Bf Ei I.t4 ⟨o,h1,h2⟩ e (λz=>nomatch z) λtk=>⟨.bl b,H,I.tok _,rfl,q⟩
def cJ (hK:X.K=K) (k:Kd) (hg:Gl X "isinstance") (hm:X.mg "isinstance"=bv) (ha:EF X K fs a wa) (hgx:Gl X x) (hmx:X.mg x=bv) (hv:pr x=ap (.type k.name)) (hn:x≠"__name__":=by decide) (hd:(x==("__debug__":Str))=false:=by decide)
  (he:ce [a,.Name x p2] X.env=(false,kw a X.env)::ce [.Name x p2] X.env:=by rfl) (Wz:ce [Expr.Name x p2] X.env=(false,kw (.Name x p2) X.env)::ce [] X.env:=by rfl)
  (dJ:(lm pos (ce [Expr.Name x p2] X.env)).any (·.1)=false:=by rfl):EF X K fs (.Call (.Name "isinstance" p) [a,.Name x p2] [] pos) (.bind wa (du k)):=
 ⟨PE.imp (eO (Lz hK) hg hm boot_isinstance (bp ha.p (bp (Q9 (v:=.ty k.name) hgx hmx hv rfl hn hd) cG Wz) he) ⋯ ⋯ he dJ) λσ H Q ⟨sr,q⟩=>⟨sr,wa.mono (λx q1 u1 H1 g1 s1 v1=>by
  have fin:∀{t:ci}{y:PV},ma K H1 u1 t->Bz K t (.type k.name)=ap (k.is y)->Q (.bl (k.is y)) H1->TK K [u1,.ty k.name] H1 Q:=λty e q=>⟨_,_,_,_,rfl,.inl ty,e,q⟩;cases v1 with
  | aX=>exact fin (y:=.aX) .aX (by rw [(qu K).1 k];cases k <;> rfl) (q1 _ H1 g1 s1 (.bl _))
  | bl b=>exact fin (.bl b) (Wc K b k) (q1 _ H1 g1 s1 (.bl _))
  | int b=>exact fin (.int b) (RO K b k) (q1 _ H1 g1 s1 (.bl _))
  | str b=>exact fin (.str b) (RN K b k) (q1 _ H1 g1 s1 (.bl _))
  | ty n=>exact q1.elim
  | ref n=>exact q1.elim
  | @dk a o kvs ks l e k1 r=>exact⟨_,_,_,_,rfl,.inr (.inr (.inr ⟨rfl,_,rfl,.inl ⟨_,.inr ⟨_,e⟩⟩⟩)),(show _=ap (k.is (.dv ks l)) by rw [(qu K).2.2 k];cases k <;> rfl),q1 _ H1 g1 s1 (.bl _)⟩
  | @dt a o kvs ks l e k1 r=>exact⟨_,_,_,_,rfl,.inr (.inr (.inr ⟨rfl,_,rfl,.inr ⟨_,.inr ⟨_,e⟩⟩⟩)),(show _=ap (k.is (.dv ks l)) by rw [(qu K).2.2 k];cases k <;> rfl),q1 _ H1 g1 s1 (.bl _)⟩
  | @cl p vs l e r=>exact⟨_,_,_,_,rfl,.inr (.inr (.inl ⟨rfl,_,_,rfl,e.sq⟩)),(show _=ap (k.is (.cl l)) by rw [(qu K).2.1 k];cases k <;> rfl),q1 _ H1 g1 s1 (.bl _)⟩
  | @tup p vs l e r=>exact⟨_,_,_,_,rfl,.inr (.inl ⟨rfl,_,_,rfl,d7.of e⟩),RM K _ k,q1 _ H1 g1 s1 (.bl _)⟩) q⟩⟩
def yD (l:List PV):PV->W (List PV)
 | .int k=>.fq (-(2 ^ 63)<=k/\k < 2 ^ 63/\l.length*k.toNat<=sizeLine) (.ret (Am k.toNat l).flatten)
 | _=>.fail
def NP (ha:LF X K fs a wl) (hb:EF X K fs b wb):LF X K fs (.BinOp a .Mult b pos) (.bind wl λl=>.bind wb λy=>yD l y):=⟨PE.imp (IQ Vz ha.p hb.p) λσ H Q ⟨sr,q⟩=>⟨sr,wl.mono (λl q1 a vs H1 g1 s1 n e v=>⟨s1,wb.mono (λy q2 u2 H2 g2 s2 v2=>by
 cases v2 with
 | int k=>
  have no:=sr.noOwn n;have e2:=(g2.pz e no);have r2:=g2.LV s1 v;refine⟨a,k,vs,rfl,rfl,e2,q2.1.1,q2.1.2.1,by rw [r2.length];exact q2.1.2.2,λp hp=>?_⟩;have sm:=kH hp (.lst (Am k.toNat vs).flatten);have gg:=g1.trans g2;exact q2.2 p _ _ (gg.trans (c9.same sm)) (s2.same sm) (gg.there p hp) aP (aN.tk sm.e7 (r2.rep k.toNat))
 | _=>exact q2.elim) q1⟩) q⟩⟩
def part:PV->W (Option Int)
 | .int i=>.ret (ap i)
 | _=>.fail
def jK:OF X K fs bv (.ret bv):=⟨PO.imp Q1 λσ H Q ⟨sr,q⟩=>q H .refl sr⟩
def fg (h:EF X K fs e w):OF X K fs (ap e) (.bind w part):=⟨PO.imp (Q0 h.p) λσ H Q ⟨sr,q⟩=>⟨sr,w.mono (λx q1 u1 H1 g1 s1 v1=>by
 cases v1 with
 | int i=>exact⟨_,rfl,q1 H1 g1 s1⟩
 | _=>exact q1.elim) q⟩⟩
variable {el eh:Option lw}{lo:W (Option Int)}
def RH (hK:X.K=K) (he:yd X K fs e wl) (hl:OF X K fs el lo) (hh:OF X K fs eh hi):LF X K fs (.Subscript e (.Slice el eh bv p2) pos) (.bind wl λl=>.bind lo λi=>.bind hi λj=>.ret (dZ l i j)):=⟨PE.imp (yK (MC K hK) he.p hl.p hh.p) λσ H Q ⟨sr,q⟩=>⟨sr,wl.mono (λl q1 u1 H1 g1 s1 _ v1=>⟨s1,lo.mono (λi q2 H2 g2 s2=>⟨s2,hi.mono (λj q3 H3 g3 s3=>by
 obtain⟨a,vs,rfl,h1,r1⟩:=v1 H3 (g2.trans g3) s3;exact⟨a,vs,rfl,h1,yW ((g1.trans g2).trans g3) s3 (r1.cut i j) q3⟩) q2⟩) q1⟩) q⟩⟩
def iA (h:yd X K fs e wl):∀σ H Q,fE K fs (.bind wl λl=>.ret (.bl (if neg then !l.isEmpty else l.isEmpty))) σ H Q->Tu (λx y H Q=>∃p q xs,x=.ref p/\y=.ref q/\c6 K H p xs/\c6 K H q []/\Q (.bl (if neg then !xs.isEmpty else xs.isEmpty)) H) (fQL K fs wl) (fL K fs (.ret [])) σ H Q:=λσ H Q ⟨sr,q⟩=>
 ⟨sr,wl.mono (λl q1 u1 H1 g1 s1 _ v1=>⟨s1,λa2 vs2 H2 g2 s2 n2 e2 r2=>by
  cases r2;obtain⟨a,vs,rfl,h1,r1⟩:=v1 H2 g2 s2;refine⟨a,a2,vs,rfl,rfl,h1,c6.of e2,?_⟩;rw [OS r1];exact q1 _ H2 (g1.trans g2) s2 (.bl _)⟩) q⟩
def Ji:LF X K fs (.List [] pos) (.ret []):=T5 (n:=0) ak
theorem aaH (hK:X.K=K) (hu:X.A.units+200 < pc) (h:yd X K fs e wl) (hk:nw .Eq (.List [] p2)=false:=by rfl):EF X K fs (.Compare e [.Eq] [.List [] p2] pos) (.bind wl λl=>.ret (.bl l.isEmpty)):=⟨PE.imp (qg (rB K hK ∅) h.p Ji.p hk) (iA (neg:=false) h)⟩
theorem aaC (hK:X.K=K) (hu:X.A.units+200 < pc) (h:yd X K fs e wl) (hk:nw .NotEq (.List [] p2)=false:=by rfl):EF X K fs (.Compare e [.NotEq] [.List [] p2] pos) (.bind wl λl=>.ret (.bl (!l.isEmpty))):=⟨PE.imp (qg (rA K hK ∅) h.p Ji.p hk) (iA (neg:=true) h)⟩
theorem Yq (hK:X.K=K) (hu:X.A.units+200 < pc) (h:yd X K fs e wl) (hk:nw .Eq (.List [] p2)=false:=by rfl):TF X K fs (.Compare e [.Eq] [.List [] p2] pos) (.bind wl λl=>.ret l.isEmpty):=⟨PT.imp (qe (rB K hK ∅) h.p Ji.p hk) λσ H Q q=>iA (neg:=false) h σ H _ (Sn (w:=.bind wl λl=>.ret (.bl l.isEmpty)) σ H Q q)⟩
theorem Mm (hK:X.K=K) (hu:X.A.units+200 < pc) (h:yd X K fs e wl) (hk:nw .NotEq (.List [] p2)=false:=by rfl):TF X K fs (.Compare e [.NotEq] [.List [] p2] pos) (.bind wl λl=>.ret (!l.isEmpty)):=⟨PT.imp (qe (rA K hK ∅) h.p Ji.p hk) λσ H Q q=>iA (neg:=true) h σ H _ (Sn (w:=.bind wl λl=>.ret (.bl (!l.isEmpty))) σ H Q q)⟩
def pA:List PV->W (List Int)
 | []=>.ret []
 | .int i::r=>.bind (pA r) λl=>.ret (i::l)
 | _=>.fail
theorem lN:∀{l:List PV}{Q:List Int->Prop},(pA l).run Q->∃ns:List Int,l=ns.map PV.int/\Q ns
 | [],Q,h=>⟨[],rfl,h⟩
 | .int b::r,Q,h=>by
  obtain⟨bs,e,q⟩:=lN (l:=r) h;exact⟨b::bs,by rw [e];rfl,q⟩
 | .aX::r,Q,h=>h.elim
 | .bl _::r,Q,h=>h.elim
 | .str _::r,Q,h=>h.elim
 | .tup _::r,Q,h=>h.elim
 | .ref _::r,Q,h=>h.elim
 | .ty _::r,Q,h=>h.elim
 | .cl _::r,Q,h=>h.elim
@[simp] theorem jn:∀bs:List Int,pA (bs.map PV.int)=.ret bs
 | []=>rfl
 | b::bs=>by
  show am (pA (bs.map PV.int)) _=_;rw [jn bs];rfl
end
end
end FL
variable {k2:Nat}
namespace FL
section
open PySem PySem.Spec PyProof.Rows L2 PL
variable {K:Ab}
abbrev b2 (m:M2) (wa wb:W PV):W PV:=.bind wa λx=>.bind wb λy=>of2 m x y
abbrev t2 (m:M2) (wa wb:W PV):W Bool:=.bind wa λx=>.bind wb λy=>.bind (of2 m x y) X3
abbrev c1 (m:yj) (w:W PV):W PV:=.bind w λx=>qo m [x]
abbrev bh (wl:W (List PV)) (wb:W PV):W PV:=.bind wl λl=>.bind wb λy=>LZ l y
abbrev tS (a b:W Bool):W Bool:=.bind a λk=>if k=true then b else .ret false
abbrev Tq (a b:W Bool):W Bool:=.bind a λk=>if k=true then .ret true else b
abbrev mV (a:W Bool):W Bool:=.bind a λk=>.ret (!k)
abbrev de {α:Type} (t:W Bool) (a b:W α):W α:=.bind t λk=>if k=true then a else b
section
variable {a c:lw}{rest:List u8}{S T T2:Type}{hd:S->bF}{s0:S}{w:W PV}{wt:PV->W T2}{dU:S->T2->bF}{k:S->W T}{out:T->End}{x:Bool}
def SF.sA {f:PV->S->W S} (hp:FB (ev X.prog X.w) X.A X.env X.xe) (hc:X.calm=true) (hi:p0 X K fs tg iter wl) (hl:jz fs (hd s0)) (hg:PG X tg (dM i)) (hb:∀s p,SF X K false ((hd s).set i (ap (.val p))) body (f p s) λs'=>.nc (hd s')) (hr:∀s,SF X K x (hd s) rest (k s) out) (hs:∀x,im iter X.env x=pure x:=by intro _;rfl) :
  SF X K x fs (.For tg iter body [] pos::rest) (.bind wl λl=>.bind (dD l s0 f) k) out:=SF.for (wt:=.ret) (wb:=λp s=>f p s) hp hc hi hl (λs=>WH hg) (λ_ _=>rfl) hb hr hs
def SF.Sj {wb:T2->S->W S} (hp:FB (ev X.prog X.w) X.A X.env X.xe) (hc:X.calm=true) (hi:p0 X K fs tg iter wl) (hl:jz fs (hd s0)) (hg:∀s,GF X K (hd s) tg is wt (dU s)) (hb:∀s t,SF X K false (dU s t) body (wb t s) λs'=>.nc (hd s')) (hr:∀s,SF X K x (hd s) rest (k s) out) (hs:∀x,im iter X.env x=pure x:=by intro _;rfl) :
  SF X K x fs (.For tg iter body [] pos::rest) (.bind wl λl=>.bind (dD l s0 λp s=>.bind (wt p) λt=>wb t s) k) out:=SF.for hp hc hi hl hg (λ_ _=>rfl) hb hr hs
def SF.Uj {inj:R->T}{f:PV->S->W (Lp S R)} (hp:FB (ev X.prog X.w) X.A X.env X.xe) (hc:X.calm=true) (hi:p0 X K fs tg iter wl) (hl:jz fs (hd s0)) (hg:PG X tg (dM i)) (ho:∀t,(out (inj t)).Jr) (hb:∀s p,SF X K false ((hd s).set i (ap (.val p))) body (f p s) (ZA hd λr=>out (inj r))) (hr:∀s,SF X K x (hd s) rest (k s) out) (hs:∀x,im iter X.env x=pure x:=by intro _;rfl) :
  SF X K x fs (.For tg iter body [] pos::rest) (.bind wl λl=>.bind (FL.nK l s0 f) (Hd k inj)) out:=SF.nK (wt:=.ret) (wb:=λp s=>f p s) hp hc hi hl (λs=>WH hg) (λ_ _=>rfl) ho hb hr hs
def SF.QI {fs3:T2->bF}{k:T2->W T} (he:EF X K fs e we) (hg:GF X K fs tg is wt fs3) (hr:∀t,SF X K x (fs3 t) rest (k t) out) (hs:xL [tg] e pos.line X.env=pure false:=by rfl) (hw:zn [tg] e X.env=pure bv:=by rfl)
  (h1:(wT [tg] X.env).map (·.2)=[Da tg X.env]:=by rfl):SF X K x fs (.Assign [tg] e pos::rest) (.bind we λv=>.bind (wt v) k) out:=SF.step (v9 he.p hg.p hs hw h1) λD σ H ⟨sr,q⟩=>
 ⟨sr,we.mono (λv q1 u H1 g1 s1 v1=>⟨v,s1,v1,(wt v).mono (λt q2 us g2 s2=>⟨_,k t,hr t,s2,(k t).mono (λt' q3=>q3.go (g1.f.trans g2) sr s2) q2⟩) q1⟩) q⟩
def SF.par {Vm:Pos}{kt:Nat}{k:PV->PV->W T} (hc:X.calm=true) (hN:X.N.Nodup) (hi:X.N[i]?=ap y) (hj:X.N[j]?=ap z) (Ă:i≠j) (hx:X.env.scope.names.lookup y=ap .local) (hy:X.env.scope.names.lookup z=ap .local)
  (ha:EF X K fs a wa) (hb:EF X K fs b wb) (hr:∀u v,SF X K x ((fs.set i (ap (.val u))).set j (ap (.val v))) rest (k u v) out)
  (hw:zn [.Tuple [.Name y px,.Name z py] kt pt] (.Tuple [a,b] k2 Vm) X.env=pure (ap [y,z]):=by rfl) (hs:xL [.Tuple [.Name y px,.Name z py] kt pt] (.Tuple [a,b] k2 Vm) pos.line X.env=pure false:=by rfl)
  (he:ce [a,b] X.env=(false,kw a X.env)::ce [b] X.env:=by rfl) (Wz:ce [b] X.env=(false,kw b X.env)::ce [] X.env:=by rfl) :
  SF X K x fs (.Assign [.Tuple [.Name y px,.Name z py] kt pt] (.Tuple [a,b] k2 Vm) pos::rest) (.bind wa λu=>.bind wb λv=>k u v) out:=
 SF.step (Vn hc hN hi hj Ă hx hy (bp ha.p (bp hb.p cG Wz) he) hw hs) λD σ H ⟨sr,q⟩=>⟨sr,wa.mono (λu q1 u1 H1 g1 s1 v1=>⟨s1,wb.mono (λv q2 u2 H2 g2 s2 v2=>by
  have s3:=s2.dN (g2.vr s1 v1) i;have s4:=s3.dN v2 j;exact⟨_,_,rfl,_,k u v,hr u v,s4,(k u v).mono (λt q3=>q3.go (((g1.trans g2).f.trans (cE.dN s2 _ _ i)).trans (cE.dN s3 _ _ j)) sr s4) q2⟩) q1⟩) q⟩
def qS (v:PV):W PV:=.fq (v.dat=true) (.ret v)
def Mj (l:List PV):W (List PV):=.fq (uq l=true) (.ret l)
mutual
theorem VR.jV {ι:List db}{H H':Hp} (t:∀p vs,H p=ap (.tup vs)->H' p=ap (.tup vs)):∀{v:V}{q:PV},VR K ι H v q->q.dat=true->VR K [] H' v q
 | _,_,.aX,_=>.aX
 | _,_,.bl b,_=>.bl b
 | _,_,.int i,_=>.int i
 | _,_,.str x,_=>.str x
 | _,_,.ty n,h=>by rw [PV.dat] at h;cases h
 | _,_,.tup e r,h=>.tup (t _ _ e) (aN.jV t r (by rw [PV.dat] at h;exact h))
 | _,_,.cl e r,h=>by rw [PV.dat] at h;cases h
 | _,_,.dk _ _ _,h=>by rw [PV.dat] at h;cases h
 | _,_,.dt _ _ _,h=>by rw [PV.dat] at h;cases h
 | _,_,.ref e,h=>by rw [PV.dat] at h;cases h
theorem aN.jV {ι:List db}{H H':Hp} (t:∀p vs,H p=ap (.tup vs)->H' p=ap (.tup vs)):∀{v:List V}{q:List PV},aN K ι H v q->uq q=true->aN K [] H' v q
 | _,_,.nil,_=>.nil
 | _,_,.cons r s,h=>by
  rw [uq,AO] at h;exact .cons (VR.jV t r h.1) (aN.jV t s h.2)
end
def bor (I:Inv X Z σ H s) (sr:a8 K H σ fs) (hs:fs[i]?=ap (ap (.ol q0 l))):∃a ws ob,Inv X Z σ (upd H a (.cO ob (.lst ws))) s/\a8 K (upd H a (.cO ob (.lst ws))) σ (fs.set i (ap (.val (.cl l))))/\
  ∀σ' s' H1,Inv X Z σ' H1 s'->c9 σ (fs.set i (ap (.val (.cl l)))) (upd H a (.cO ob (.lst ws))) H1->a8 K H1 σ (fs.set i (ap (.val (.cl l))))->Inv X Z σ' (upd H1 a (.lst ws)) s'/\c9 σ fs H (upd H1 a (.lst ws))/\a8 K (upd H1 a (.lst ws)) σ fs/\(∀p vs,H1 p=ap (.tup vs)->upd H1 a (.lst ws) p=ap (.tup vs))/\∀p vs,p≠a->H1 p=ap (.lst vs)->upd H1 a (.lst ws) p=ap (.lst vs):=by
 obtain⟨a,ws,e1,h1,r1⟩:=dc sr hs;obtain⟨ob,I2⟩:=I.qz h1;have tk:=lA (K:=K) (.cO ob (.lst ws)) h1;have h0:∀o u,X.H₀ a≠ap (.cO o u):=λo u z=>by
  have:=I.base.pT a o u z;rw [h1] at this;cases this
 refine⟨a,ws,ob,I2,⟨by simp [sr.len],λj t z=>?_,λj k t u b1 b2 b z1 z2 o1 o2=>?_⟩,λσ' s' H1 J g s1=>?_⟩
 ·rcases bo z with⟨rfl,rfl⟩ | ⟨n,z⟩
  ·exact⟨_,e1,.inl ⟨_,rfl,.cl (.inl ⟨ob,aP⟩) (aN.tk tk r1)⟩⟩
  ·obtain⟨u,k1,k2⟩:=sr.at' j t z;exact⟨u,k1,k2.mono tk (λx b o eb ow hb zz=>by
    subst eb;rw [aB (λy=>by subst y;exact n (sr.nd j i t _ x b b z hs ow rfl k1 e1 hb (.inl rfl)))];exact zz)⟩
 ·rcases bo z1 with⟨rfl,rfl⟩ | ⟨n1,z1⟩
  ·cases o1
  ·rcases bo z2 with⟨rfl,rfl⟩ | ⟨n2,z2⟩
   ·cases o2
   ·exact sr.nd j k t u b1 b2 b z1 z2 o1 o2
 ·have pf:∀φ b,eY σ (fs.set i (ap (.val (.cl l)))) φ b->eY σ fs φ b:=λφ b ⟨j,z1,z3⟩=>by
   rcases bo z1 with⟨_,z⟩ | ⟨n,z1⟩
   ·cases z
   ·exact⟨j,z1,z3⟩
  have npa:∀φ,¬eY σ fs φ a:=λφ ⟨j,z1,z3⟩=>by
   have:=sr.nd j i _ _ a a a z1 hs rfl rfl z3 e1 (.inl rfl) (.inl rfl);subst this;rw [hs] at z1;cases z1
  have e2:=g.keep a _ aP λφ p=>npa φ (pf φ a p);have hk:=uU J.bI e2;have ge:c9 σ fs H (upd H1 a (.lst ws)):=by
   refine⟨λb o z n=>?_,λb z=>?_⟩
   ·by_cases c:b=a
    ·subst c;rw [h1] at z;cases z;exact aP
    ·rw [aB c];exact g.keep b o (by rw [aB c];exact z) λφ p=>n φ (pf φ b p)
   ·by_cases c:b=a
    ·subst c;rw [aP] at z;cases z
    ·rw [aB c] at z;have:=g.there b z;rw [aB c] at this;exact this
  refine⟨J.Yo e2 h0 (hk a _ aP) hk,ge,⟨sr.len,λj t z=>?_,sr.nd⟩,λp vs z=>?_,λp vs n z=>by rw [aB n];exact z⟩
  ·obtain⟨u,k1,k2⟩:=sr.at' j t z;refine⟨u,k1,?_⟩;by_cases c:∃φ,t=.kI φ
   ·obtain⟨φ,rfl⟩:=c;have ji:j≠i:=λy=>by subst y;rw [hs] at z;cases z
    rcases k2 with⟨v,y,_⟩ | ⟨b,rfl,_⟩
    ·cases y
    ·obtain⟨vs,y1,y2⟩:=s1.ownAt (t:=.kI φ) (i:=j) (by rw [aL ji];exact z) rfl k1;refine .inr ⟨b,rfl,vs,?_,y2⟩;rw [aB (λy=>by subst y;exact npa φ ⟨j,z,k1⟩)];exact y1
   ·refine k2.mono (ge.eK sr) (λx b o eb ow hb zz=>ge.keep b o zz λφ ⟨j',p1,p3⟩=>?_);subst eb;have:=sr.nd j j' t _ x b b z p1 ow rfl k1 p3 hb (.inl rfl);subst this;rw [z] at p1;cases p1;exact c ⟨φ,rfl⟩
  ·rw [aB (λy=>by subst y;rw [e2] at z;cases z)];exact z
def Us (i:Nat) (hs:fs[i]?=ap (ap (.ol q0 l))) (h:EF X K (fs.set i (ap (.val (.cl l)))) e w):EF X K fs e (.bind w qS):=⟨λZ s σ H Q I ⟨sr,q⟩=>by
 obtain⟨a,ws,ob,I2,s2,Í⟩:=bor I sr hs;refine bE (h.p Z s σ _ (λu H1=>∃v,c9 σ (fs.set i (ap (.val (.cl l)))) (upd H a (.cO ob (.lst ws))) H1/\a8 K H1 σ (fs.set i (ap (.val (.cl l))))/\VR K [] H1 u v/\v.dat=true/\∀u H',c9 σ fs H H'->a8 K H' σ fs->VR K [] H' u v->Q u H') I2 ⟨s2,w.mono (λv q1 u H1 g1 s1 v1=>⟨v,g1,s1,v1,q1.1,q1.2⟩) q⟩) λu s1 ⟨x,H1,I1,r1,v,g1,QL,v1,d,q1⟩=>?_;obtain⟨I3,g3,s3,t3,_⟩:=Í σ s1 H1 I1 g1 QL;exact⟨x,_,I3,r1,q1 x _ g3 s3 (VR.jV t3 v1 d)⟩⟩
end
end
end FL
variable {G:List Int->Prop}
namespace FL
section
open PySem PySem.Spec PyProof.Rows L2 PL
variable {K:Ab}
def YK (K:Ab) (m:List PV->List PV->W (PV×List PV)):Sp:=λvs H Q _=>∃a Mf ws lo l,vs=.ref a::Mf/\H a=ap (.lst ws)/\aN K [] H ws lo/\aN K [] H Mf l/\(m lo l).run λt=>∀u pI H',oe a H H'->(∀b,H' b=bv->H b=bv)->H' a=ap (.lst pI)->aN K [] H' pI t.2->VR K [] H' u t.1->Q u H'
section
variable {st:u8}{f:db}{N:List Str}
def Po (a:db) (lo l:List PV) (n:Nat):bF:=ap (.ol (ap a) lo)::(l.map λv=>ap (SL.val v))++Am (n-1-l.length) bv
def aN.slot (r:aN K [] H vs l) {s:SL} (h:(l.map λv=>ap (SL.val v))[i]?=ap (ap s)):∃u v,vs[i]?=ap u/\s=.val v/\VR K [] H u v:=by
 rw [Ai] at h;cases e:l[i]? with
 | none=>rw [e] at h;cases h
 | some v=>
  rw [e] at h;obtain⟨u,h1,h2⟩:=r.get e;cases h;exact⟨u,v,h1,rfl,h2⟩
theorem fnO {m:List PV->Qa (PV×List PV) n} (Fn:P9 K x qual st f fd) (S:aq N ps (ag st)) (hn:n+1=ps.length)
  (Ã:∀(a:db) (lo l:List PV),l.length=n->∀(cS:ci) (A:tt) (outer:List Env) (s:dL) (H:Hp) (E:XK),c7 k (A.deeper (ut qual (ag st) s.heap.objs.size f cS))->SF (ju km P w K mg base N qual (ag st) f cS A outer s H E).yh K false (Po a lo l N.length) (bu st) (bS n (m lo) l) λt=>.ro t.1 a t.2) :
  fu P w K mg base km (k+1) f fd ps (YK K λlo l=>bS n (m lo) l):=by
 refine Fn.ok S (λvs H Q E h=>?_) (λcS A outer s H vs Q E hr h=>?_)
 ·obtain⟨a,Mf,ws,lo,l,rfl,_,_,r,q⟩:=h;rw [Ao,r.length,jB q];exact hn
 obtain⟨a,Mf,ws,lo,l,rfl,ha,ib,r,q⟩:=h;have hl:=jB q;have hr2:=r.length;have Sb:∀{i:Nat}{s:SL},(Po a lo l N.length)[i]?=ap (ap s)->(i=0/\s=.ol (ap a) lo)\/∃j u v,i=j+1/\Mf[j]?=ap u/\s=.val v/\VR K [] H u v:=λ{i s} e=>by
  unfold Po at e;cases i with
  | zero=>simp at e;exact .inl ⟨rfl,e.symm⟩
  | succ j=>
   rw [List.cons_append,List.getElem?_cons_succ] at e;by_cases c:j < l.length
   ·rw [Ay (by simpa using c)] at e;obtain⟨u,v,h1,h2,h3⟩:=aN.slot r e;exact .inr ⟨j,u,v,rfl,h1,h2,h3⟩
   ·rw [AB (by simpa using c),Bx] at e
    split at e <;> cases e
 have sr:a8 K H (L2.start N (.ref a::Mf)) (Po a lo l N.length):=by
  refine⟨?_,λi s e=>?_,λi j s t x y b e1 e2 o1 o2 q1 q2 _ _=>?_⟩
  ·unfold L2.start Po;rw [Ae,Af,Bd,Ae,Ao,Ao,Af,Bd];omega
  ·rcases Sb e with⟨rfl,rfl⟩ | ⟨j,u,v,rfl,h1,rfl,h3⟩
   ·exact⟨.ref a,lB rfl,.inr ⟨a,rfl,λb z=>Option.some.inj z,ws,ha,ib⟩⟩
   ·exact⟨u,lB (by simpa using h1),.inl ⟨v,rfl,h3⟩⟩
  ·rcases Sb e1 with⟨rfl,rfl⟩ | ⟨j1,u,v,rfl,h1,rfl,h3⟩
   ·rcases Sb e2 with⟨rfl,rfl⟩ | ⟨j1,u,v,rfl,h1,rfl,h3⟩
    ·rfl
    ·cases o2
   ·cases o1
 refine⟨_,(Ã a lo l hl cS A outer s H E hr).p,sr,(bS n (m lo) l).mono (λt q1 u σ' bP H' g s' ho rv=>?_) q⟩;obtain⟨i,e⟩:=ho;obtain⟨u',e',r'⟩:=s'.at' i _ e;rcases r' with⟨v,z,_⟩ | ⟨b,rfl,hb,pI,h1,h2⟩
 ·cases z
 have hba:=hb a rfl;subst hba;refine q1 u pI H' (λc o nc e=>(g.keep c o e λz=>?_).1) g.there h1 h2 rv;obtain⟨j,t',x,z1,z2,z3,z4⟩:=z;rcases Sb z1 with⟨rfl,rfl⟩ | ⟨j1,u,v,rfl,_,rfl,_⟩
 ·have:=uF z3;simp at this;rcases z4 with rfl | z4
  ·exact nc this.symm
  ·cases z4
 ·cases z2
def gH (G:List Int->Prop):List V->Prop:=λws=>∃ns:List Int,ws=ns.map V.int/\G ns
def Vq {m:List PV->List PV->W (PV×List PV)}{mp:List PV->W PV} (F:fu P w K mg base km k f fd ps (YK K m)) (hm:∀ns l Q,G ns->(mp l).run Q->(m (ns.map PV.int) l).run λt=>Q t.1/\∃Ja:List Int,t.2=Ja.map PV.int/\G Ja) :
  fu P w K mg base km k f fd ps (d8 K (.p (gH G)::Am n .v) mp):=F.imp λvs H Q E h=>by
 obtain⟨l,ha,q⟩:=h;cases ha with
 | @p a φ ws vs ks l e r t=>
  obtain⟨ns,rfl,hG⟩:=r;have tv:∀{n:Nat}{vs:List V}{l:List PV},iR K H vs (Am n .v) l->aN K [] H vs l:=by
   intro n
   induction n with
   | zero=>intro vs l h;cases h;exact .nil
   | succ n ih=>intro vs l h;cases h with | v r t=>exact .cons r (ih t)
  refine⟨a,vs,ns.map V.int,ns.map PV.int,l,rfl,e,nC _ _ ns,tv t,(m _ _).mono (λt q1 u pI H' sx hth e' r' rv=>?_) (hm ns l _ hG q)⟩;obtain⟨q1,Ja,et,hG'⟩:=q1;rw [et] at r';have:=lM r';subst this;refine q1 u H' ⟨λb o eb nb=>sx b o (λz=>?_) eb,hth,λb φ p=>?_⟩ rv
  ·subst z;exact nb _ ⟨0,rfl,rfl⟩
  ·obtain⟨i,e1,e2⟩:=p;cases i with
   | zero=>simp at e1 e2;subst e1;subst e2;exact⟨_,e',Ja,rfl,hG'⟩
   | succ i=>
    simp at e1;rw [Bx] at e1
    split at e1 <;> simp at e1
end
section
variable {PY:List u8}{T:Type}{w:W T}{out:T->End}{x:Bool}
def Za (G:List Int->Prop) (l:List PV) (w:W T):W T:=.fq (∃ns:List Int,l=ns.map PV.int/\G ns) w
def SF.kI (i:Nat) (hs:fs[i]?=ap (ap (.ol bv l))) (hr:SF X K x (fs.set i (ap (.kI (gH G)))) PY w out):SF X K x fs PY (Za G l w) out:=⟨λZ s σ H D I ⟨sr,q⟩=>by
 obtain⟨⟨ns,el,hG⟩,q⟩:=q;obtain⟨a,ws,e1,h1,r1⟩:=dc sr hs;subst el;have:=lM r1;subst this;obtain⟨s2,g2⟩:=jJ (t':=.kI (gH G)) sr hs rfl (by simp) e1 (λ_ _ _ z=>z:oe a H H) λtk=>⟨_,h1,ns,rfl,hG⟩;exact hr.p Z s σ H D I ⟨s2,w.mono (λt q2=>q2.go g2 sr s2) q⟩⟩
end
end
end FL
variable {W':FL.W PL.PV}
namespace FL
section
open PySem PySem.Spec PyProof.Rows L2 PL
variable {K:Ab}
abbrev chB (m m':M2) (wa wb wc:W PV):W PV:=.bind wa λx=>.bind wb λy=>.bind (of2 m x y) λz=>lq z (.bind wc λw=>of2 m' y w)
abbrev chT (m m':M2) (wa wb wc:W PV):W Bool:=.bind wa λx=>.bind wb λy=>.bind (of2 m x y) λz=>.bind (lq z (.bind wc λw=>of2 m' y w)) X3
abbrev sZ (wa wb:W PV):W PV:=.bind wa λx=>LH x wb
abbrev orB (wa wb:W PV):W PV:=.bind wa λx=>orW x wb
abbrev ui (wl:W (List PV)):W PV:=.bind wl λl=>.ret (.cl l)
abbrev F0 (t:W Bool) (w:W PV):W (Option PV):=.bind t λk=>if k=true then .bind w λv=>.ret (ap v) else .ret bv
section
variable {c:lw}{WL:W (List PV)}
def SG (G:Tf X.prog X.w X.K X.mg X.base x k ps (d8 K ks m)) (hr:c7 k' X.A) (hk:k<=k') (hg:Gl X x) (ha:AF X K fs (e::es) ks B) (hW:W'=B m) (nF:(x==("__debug__":Str))=false:=by decide)
  (he:ce (e::es) X.env=(false,kw e X.env)::ce es X.env:=by rfl) (dJ:(lm pos (ce es X.env)).any (·.1)=false:=by rfl):EF X K fs (.Call (.Name x p) (e::es) [] pos) W':=hW▸WZ G hr hk hg ha nF he dJ
def RI {m:List PV->W (List PV)}{B:(List PV->W (List PV))->W (List PV)} (G:Tf X.prog X.w X.K X.mg X.base x k ps (eL K ks m)) (hr:c7 k' X.A) (hk:k<=k') (hg:Gl X x) (ha:AF X K fs (e::es) ks B) (hW:WL=B m) (nF:(x==("__debug__":Str))=false:=by decide)
  (he:ce (e::es) X.env=(false,kw e X.env)::ce es X.env:=by rfl) (dJ:(lm pos (ce es X.env)).any (·.1)=false:=by rfl):LF X K fs (.Call (.Name x p) (e::es) [] pos) WL:=hW▸V4 G hr hk hg ha nF he dJ
def aU {x1} (h:AF X K fs es (Am n .v) B) (hW:W'=B λl=>.ret (.tup l)) (hn:n<=1000:=by decide):EF X K fs (.Tuple es x1 pos) W':=hW▸aaA h hn
def ba {B:(List PV->W (List PV))->W (List PV)} (h:AF X K fs es (Am n .v) B) (hW:WL=B λl=>.ret l) (hn:n<=1000:=by decide):LF X K fs (.List es pos) WL:=hW▸T5 h hn
variable {T2:Type}{wt:PV->W T2}{dU:T2->bF}{tf:T2->W Bool}{te:T2->W PV}
def dq {f:PV->W PV} (hc:X.calm=true) (S:aA X.env.scope X.N sc N' ix) (hi:p0 X K fs tg iter wl) (hg:∀cl C s2 H2 fp,PG (gk X sc N' cl C s2 H2 fp) tg (dM i)) (he:∀cl C s2 H2 fp t,EF (gk X sc N' cl C s2 H2 fp) K ((cg ix fs).set i (ap (.val t))) Å (f t)) (h0:ix[i]?=ap bv) (hs:∀x,im iter X.env x=pure x:=by intro _;rfl) :
  LF X K fs (.ListComp Å [⟨tg,iter,[],0⟩] sc pos) (.bind wl λl=>mapW l f):=
 have h1:(cg ix fs)[i]?=ap bv:=by unfold cg;rw [Ai,h0];rfl
 T4 hc S hi (λcl C s2 H2 fp=>WH (hg cl C s2 H2 fp)) he (λ_=>rfl) (NM h1) (λj hj=>by rw [Bc] at hj;subst hj;exact h0) hs
def uQ {tf:PV->W Bool}{te:PV->W PV} (hc:X.calm=true) (S:aA X.env.scope X.N sc N' ix) (hi:p0 X K fs tg iter wl) (hg:∀cl C s2 H2 fp,PG (gk X sc N' cl C s2 H2 fp) tg (dM i)) (hf:∀cl C s2 H2 fp t,TF (gk X sc N' cl C s2 H2 fp) K ((cg ix fs).set i (ap (.val t))) c (tf t)) (he:∀cl C s2 H2 fp t,EF (gk X sc N' cl C s2 H2 fp) K ((cg ix fs).set i (ap (.val t))) Å (te t)) (h0:ix[i]?=ap bv) (hs:∀x,im iter X.env x=pure x:=by intro _;rfl) :
  LF X K fs (.ListComp Å [⟨tg,iter,[c],0⟩] sc pos) (.bind wl λl=>kh l λp=>F0 (tf p) (te p)):=
 have h1:(cg ix fs)[i]?=ap bv:=by unfold cg;rw [Ai,h0];rfl
 V3 (wt:=.ret) (tf:=tf) (te:=te) hc S hi (λcl C s2 H2 fp=>WH (hg cl C s2 H2 fp)) (λcl C s2 H2 fp t=>xi (hf cl C s2 H2 fp t)) he (λ_=>rfl) (NM h1) (λj hj=>by rw [Bc] at hj;subst hj;exact h0) hs
def rP (hc:X.calm=true) (S:aA X.env.scope X.N sc N' ix) (hi:p0 X K fs tg iter wl) (hg:∀cl C s2 H2 fp,GF (gk X sc N' cl C s2 H2 fp) K (cg ix fs) tg is wt dU) (he:∀cl C s2 H2 fp t,EF (gk X sc N' cl C s2 H2 fp) K (dU t) Å (te t))
  (hl:uz is (cg ix fs) dU/\∀t,jz (dU t) (cg ix fs)) (ue:∀j∈is,ix[j]?=ap bv) (hs:∀x,im iter X.env x=pure x:=by intro _;rfl) :
  LF X K fs (.ListComp Å [⟨tg,iter,[],0⟩] sc pos) (.bind wl λl=>mapW l λp=>.bind (wt p) te):=T4 hc S hi hg he (λ_=>rfl) hl ue hs
def T6 (hc:X.calm=true) (S:aA X.env.scope X.N sc N' ix) (hi:p0 X K fs tg iter wl) (hg:∀cl C s2 H2 fp,GF (gk X sc N' cl C s2 H2 fp) K (cg ix fs) tg is wt dU) (hf:∀cl C s2 H2 fp t,TF (gk X sc N' cl C s2 H2 fp) K (dU t) c (tf t)) (he:∀cl C s2 H2 fp t,EF (gk X sc N' cl C s2 H2 fp) K (dU t) Å (te t))
  (hl:uz is (cg ix fs) dU/\∀t,jz (dU t) (cg ix fs)) (ue:∀j∈is,ix[j]?=ap bv) (hs:∀x,im iter X.env x=pure x:=by intro _;rfl) :
  LF X K fs (.ListComp Å [⟨tg,iter,[c],0⟩] sc pos) (.bind wl λl=>kh l λp=>.bind (wt p) λt=>F0 (tf t) (te t)):=V3 hc S hi hg (λcl C s2 H2 fp t=>xi (hf cl C s2 H2 fp t)) he (λ_=>rfl) hl ue hs
variable {rest:List u8}{T:Type}{out:T->End}{x0:Bool}{kk:List PV->W T}
def SF.MH {tf:PV->W Bool}{te:PV->W PV} (hc:X.calm=true) (hN:X.N.Nodup) (zf:X.N[i]?=ap y) (hx:X.env.scope.names.lookup y=ap .local) (S:aA X.env.scope X.N sc N' ix) (hi:p0 X K fs tg iter wl) (hg:∀cl C s2 H2 fp,PG (gk X sc N' cl C s2 H2 fp) tg (dM j)) (hf:∀cl C s2 H2 fp t,TF (gk X sc N' cl C s2 H2 fp) K ((cg ix fs).set j (ap (.val t))) c (tf t)) (he:∀cl C s2 H2 fp t,EF (gk X sc N' cl C s2 H2 fp) K ((cg ix fs).set j (ap (.val t))) Å (te t)) (h0:ix[j]?=ap bv) (hr:∀l,SF X K x0 (fs.set i (ap (.ol bv l))) rest (kk l) out)
  (pP:nn (.ListComp Å [⟨tg,iter,[c],0⟩] sc pos) (ap (.Name y px)) mX.line X.env=pure true:=by rfl) (hs:∀x,im iter X.env x=pure x:=by intro _;rfl) :
  SF X K x0 fs (.Assign [.Name y px] (.ListComp Å [⟨tg,iter,[c],0⟩] sc pos) mX::rest) (.bind (.bind wl λl=>kh l λp=>F0 (tf p) (te p)) kk) out:=
 have h1:(cg ix fs)[j]?=ap bv:=by unfold cg;rw [Ai,h0];rfl
 SF.Tz (wt:=.ret) (tf:=tf) (te:=te) hc hN zf hx S hi (λcl C s2 H2 fp=>WH (hg cl C s2 H2 fp)) (λcl C s2 H2 fp t=>xi (hf cl C s2 H2 fp t)) he (λ_=>rfl) (NM h1) (λm hj=>by rw [Bc] at hj;subst hj;exact h0) hr pP hs
def Rz {wt:PV->W T2}{te:T2->W PV}:(λl=>mapW l λp=>.bind (wt p) te)=λl=>kh l λp=>.bind (wt p) λt=>.bind (.ret true) λk=>if k=true then .bind (te t) λv=>.ret (ap v) else .ret bv:=funext λl=>by
 rw [wA];rfl
def SF.QH (hc:X.calm=true) (hN:X.N.Nodup) (zf:X.N[i]?=ap y) (hx:X.env.scope.names.lookup y=ap .local) (S:aA X.env.scope X.N sc N' ix) (hi:p0 X K fs tg iter wl) (hg:∀cl C s2 H2 fp,GF (gk X sc N' cl C s2 H2 fp) K (cg ix fs) tg is wt dU) (he:∀cl C s2 H2 fp t,EF (gk X sc N' cl C s2 H2 fp) K (dU t) Å (te t))
  (hl:uz is (cg ix fs) dU/\∀t,jz (dU t) (cg ix fs)) (ue:∀j∈is,ix[j]?=ap bv) (hr:∀l,SF X K x0 (fs.set i (ap (.ol bv l))) rest (kk l) out)
  (pP:nn (.ListComp Å [⟨tg,iter,[],0⟩] sc pos) (ap (.Name y px)) mX.line X.env=pure true:=by rfl) (hs:∀x,im iter X.env x=pure x:=by intro _;rfl) :
  SF X K x0 fs (.Assign [.Name y px] (.ListComp Å [⟨tg,iter,[],0⟩] sc pos) mX::rest) (.bind (.bind wl λl=>mapW l λp=>.bind (wt p) te) kk) out:=by
 rw [Rz];exact SF.Tz (tf:=λ_=>.ret true) hc hN zf hx S hi hg (λ_ _ _ _ _ _=>Oy) he (λp=>rfl) hl ue hr pP hs
def SF.mY {f:PV->W PV} (hc:X.calm=true) (hN:X.N.Nodup) (zf:X.N[i]?=ap y) (hx:X.env.scope.names.lookup y=ap .local) (S:aA X.env.scope X.N sc N' ix) (hi:p0 X K fs tg iter wl) (hg:∀cl C s2 H2 fp,PG (gk X sc N' cl C s2 H2 fp) tg (dM j)) (he:∀cl C s2 H2 fp t,EF (gk X sc N' cl C s2 H2 fp) K ((cg ix fs).set j (ap (.val t))) Å (f t)) (h0:ix[j]?=ap bv) (hr:∀l,SF X K x0 (fs.set i (ap (.ol bv l))) rest (kk l) out)
  (pP:nn (.ListComp Å [⟨tg,iter,[],0⟩] sc pos) (ap (.Name y px)) mX.line X.env=pure true:=by rfl) (hs:∀x,im iter X.env x=pure x:=by intro _;rfl) :
  SF X K x0 fs (.Assign [.Name y px] (.ListComp Å [⟨tg,iter,[],0⟩] sc pos) mX::rest) (.bind (.bind wl λl=>mapW l f) kk) out:=
 have h1:(cg ix fs)[j]?=ap bv:=by unfold cg;rw [Ai,h0];rfl
 SF.QH (wt:=.ret) hc hN zf hx S hi (λcl C s2 H2 fp=>WH (hg cl C s2 H2 fp)) he (NM h1) (λm hj=>by rw [Bc] at hj;subst hj;exact h0) hr pP hs
end
def uX {f:db} (h:∀vs H Q E,¬sp vs H Q E):fu P w K mg base km k f fd ps sp:=⟨λvs H Q E q=>(h _ _ _ _ q).elim,λA outer s H args us vs Q E _ _ _ _ q=>(h _ _ _ _ q).elim⟩
def Gm {m:Qa PV n} (h:∀l Q,l.length=n->¬(bS n m l).run Q):∀vs H Q E,¬d8 K ks (bS n m) vs H Q E:=λvs H Q E ⟨l,_,q⟩=>h l _ (jB q) q
def vQ {m:Qa (List PV) n} (h:∀l Q,l.length=n->¬(bS n m l).run Q):∀vs H Q E,¬eL K ks (bS n m) vs H Q E:=λvs H Q E ⟨l,_,q⟩=>h l _ (jB q) q
theorem aM (hr:c7 k A):A.units+200 < pc:=by have:=hr.un;omega
end
section
open PySem PySem.Spec PyProof.Rows L2 PL
variable {K:Ab}
mutual
def PV.kf:PV->Bool
 | .tup l=>fV l
 | .cl l=>fV l
 | .ref _=>false
 | .ty _=>false
 | .dv _ _=>false
 | _=>true
def fV:List PV->Bool
 | []=>true
 | x::l=>PV.kf x&&fV l
end
mutual
def PV.iM:PV->Nat
 | .tup l=>eJ l+1
 | .cl l=>eJ l+1
 | _=>0
def eJ:List PV->Nat
 | []=>0
 | x::l=>max (PV.iM x) (eJ l)
end
mutual
def kj:PV->PV->Bool
 | .aX,.aX=>true
 | .bl a,.bl b=>a==b
 | .bl a,.int b=>(if a then 1 else 0)==b
 | .int a,.bl b=>a==(if b then 1 else 0)
 | .int a,.int b=>a==b
 | .str a,.str b=>a==b
 | .tup l,.tup m=>gD l m
 | .cl l,.cl m=>gD l m
 | _,_=>false
def gD:List PV->List PV->Bool
 | [],[]=>true
 | x::l,y::m=>kj x y&&gD l m
 | _,_=>false
end
theorem sC:∀{l:List PV}{j:Nat}{x:PV},fV l=true->l[j]?=ap x->PV.kf x=true
 | [],_,_,_,e=>by simp at e
 | y::l,0,x,h,e=>by
  simp at e;subst e;rw [fV,AO] at h;exact h.1
 | y::l,j+1,x,h,e=>by
  rw [fV,AO] at h;exact sC h.2 (by simpa using e)
theorem uY:∀{l:List PV}{j:Nat}{x:PV},l[j]?=ap x->PV.iM x<=eJ l
 | [],_,_,e=>by simp at e
 | y::l,0,x,e=>by
  simp at e;subst e;rw [eJ];omega
 | y::l,j+1,x,e=>by
  have:=uY (l:=l) (j:=j) (x:=x) (by simpa using e);rw [eJ];omega
mutual
theorem zx:∀(x:PV),PV.kf x=true->kj x x=true
 | .aX,_=>by rw [kj]
 | .bl b,_=>by rw [kj];simp
 | .int i,_=>by rw [kj];simp
 | .str i,_=>by rw [kj];simp
 | .tup l,h=>by rw [kj];exact lR l (by rw [PV.kf] at h;exact h)
 | .cl l,h=>by rw [kj];exact lR l (by rw [PV.kf] at h;exact h)
 | .ref _,h=>by rw [PV.kf] at h;cases h
 | .ty _,h=>by rw [PV.kf] at h;cases h
 | .dv _ _,h=>by rw [PV.kf] at h;cases h
theorem lR:∀(l:List PV),fV l=true->gD l l=true
 | [],_=>by rw [gD]
 | x::l,h=>by
  rw [fV,AO] at h;rw [gD,zx x h.1,lR l h.2];rfl
end
def OL (l m:List PV) (j:Nat):Bool:=match l[j]?,m[j]? with | some x,ap y=>kj x y | _,_=>true
theorem nM:∀(l m:List PV),((Av (min l.length m.length)).all (OL l m)&&l.length==m.length)=gD l m
 | [],[]=>by rw [gD];rfl
 | [],_::_=>by
  rw [gD]
  ·simp
  ·intros;simp_all
  ·intros;simp_all
 | _::_,[]=>by
  rw [gD]
  ·simp
  ·intros;simp_all
  ·intros;simp_all
 | x::l,y::m=>by
  rw [gD,<- nM l m];have e:min (x::l).length (y::m).length=min l.length m.length+1:=by simp only [Ao];omega
  rw [e,List.range_succ_eq_map,List.all_cons,List.all_map];have e2:((x::l).length==(y::m).length)=(l.length==m.length):=by simp
  rw [e2,Bool.and_assoc];rfl
def Oz {m:List PV} (h:l.length≠m.length):gD l m=false:=by
 rw [<- nM];have:(l.length==m.length)=false:=by simpa using h
 rw [this,Ee]
section
mutual
theorem VR.Ow (I:Inv X Z σ H s):∀{v:V}{x y:PV},VR X.K [] H v x->VR X.K [] H v y->x=y
 | _,_,_,.aX,h=>by cases h;rfl
 | _,_,_,.bl b,h=>by cases h;rfl
 | _,_,_,.int b,h=>by cases h;rfl
 | _,_,_,.str b,h=>by cases h;rfl
 | _,_,_,.ty b,h=>by cases h;rfl
 | _,_,_,.ref e,h=>by simp at e
 | _,_,_,.tup e r,h=>by
  cases h with
  | tup e' r'=>
   have ee:=I.ly (d7.of e) (d7.of e');subst ee;rw [aN.Ow I r r']
  | ref e=>simp at e
  | cl e' r'=>
   obtain⟨aw,_,⟨o,n,h1,h2,_⟩,_⟩:=I.list e'.sq;obtain⟨its',_,⟨o',gs,tG,_⟩,_⟩:=I.tuple (d7.of e);rw [h1] at gs;cases gs;rw [h2] at tG;simp at tG
  | dk e' _ _=>rw [e] at e';cases e'
  | dt e' _ _=>rw [e] at e';cases e'
 | _,_,_,.dk e k r,h=>by
  cases h with
  | dk e' k' r'=>rw [e] at e';cases e';rw [k,k',aN.Ow I r r']
  | dt e' _ _=>rw [e] at e';cases e'
  | ref e=>simp at e
  | tup e' _=>rw [e] at e';cases e'
  | cl e' r'=>
   obtain⟨aw,_,⟨o,n,h1,h2,_⟩,_⟩:=I.list e'.sq;obtain⟨_,_,vs,_,o',_,_,gs,tG,_⟩:=sQ I.bI (.inr ⟨_,e⟩);rw [h1] at gs;cases gs;have h3:=tG.1;rw [h2] at h3;simp at h3
 | _,_,_,.dt e k r,h=>by
  cases h with
  | dt e' k' r'=>rw [e] at e';cases e';rw [k,k',aN.Ow I r r']
  | dk e' _ _=>rw [e] at e';cases e'
  | ref e=>simp at e
  | tup e' _=>rw [e] at e';cases e'
  | cl e' r'=>
   obtain⟨aw,_,⟨o,n,h1,h2,_⟩,_⟩:=I.list e'.sq;obtain⟨_,_,vs,_,o',_,_,gs,tG,_⟩:=sP I.bI (.inr ⟨_,e⟩);rw [h1] at gs;cases gs;have h3:=tG.1;rw [h2] at h3;simp at h3
 | _,_,_,.cl e r,h=>by
  cases h with
  | dk e' _ _=>
   obtain⟨aw,_,⟨o,n,h1,h2,_⟩,_⟩:=I.list e.sq;obtain⟨_,_,vs,_,o',_,_,gs,tG,_⟩:=sQ I.bI (.inr ⟨_,e'⟩);rw [h1] at gs;cases gs;have h3:=tG.1;rw [h2] at h3;simp at h3
  | dt e' _ _=>
   obtain⟨aw,_,⟨o,n,h1,h2,_⟩,_⟩:=I.list e.sq;obtain⟨_,_,vs,_,o',_,_,gs,tG,_⟩:=sP I.bI (.inr ⟨_,e'⟩);rw [h1] at gs;cases gs;have h3:=tG.1;rw [h2] at h3;simp at h3
  | cl e' r'=>
   obtain⟨aw,k,⟨o,n,h1,h2,h3,h4⟩,_⟩:=I.list e.sq;obtain⟨its',k',⟨o',n',gs,tG,zg,WC⟩,_⟩:=I.list e'.sq;rw [h1] at gs;cases gs;rw [h4] at WC;have:aw=its':=by injection WC with a b;simpa using a
   subst this;have ee:=Vals.inj k k';subst ee;rw [aN.Ow I r r']
  | ref e=>simp at e
  | tup e' r'=>
   obtain⟨aw,_,⟨o,n,h1,h2,_⟩,_⟩:=I.list e.sq;obtain⟨its',_,⟨o',gs,tG,_⟩,_⟩:=I.tuple (d7.of e');rw [h1] at gs;cases gs;rw [h2] at tG;simp at tG
theorem aN.Ow (I:Inv X Z σ H s):∀{v:List V}{x y:List PV},aN X.K [] H v x->aN X.K [] H v y->x=y
 | _,_,_,.nil,h=>by cases h;rfl
 | _,_,_,.cons r t,h=>by
  cases h with
  | cons r' t'=>rw [VR.Ow I r r',aN.Ow I t t']
end
structure Cmp (A:tt) (s:dL) (w w':ci) (b:Bool):Prop where
 rc:SeqAt.RcAt A s w w' b
 ne:SeqAt.RcNeAt A s w w' (!b)
 eq:Dj A s w w' b
def aaz (I:Inv X Z σ H s) {ws:List V}{m:List PV} (r:Vals vs aw) (r':Vals ws its') (r1:aN X.K [] H vs l) (r2:aN X.K [] H ws m)
  (ih:∀(j:Nat) (x y:PV) (v v':V) (w w':ci),l[j]?=ap x->m[j]?=ap y->VR X.K [] H v x->VR X.K [] H v' y->RelV v w->RelV v' w'->Dj A s w w' (kj x y)) :
  ∀j (g1:j < aw.toArray.size) (g2:j < its'.toArray.size),Dj A s aw.toArray[j] its'.toArray[j] (OL l m j):=λj g1 g2=>by
 have h1:j < aw.length:=by simpa using g1
 have h2:j < its'.length:=by simpa using g2
 have hl:j < l.length:=by rw [<- r1.length,r.length];exact h1
 have hm:j < m.length:=by rw [<- r2.length,r'.length];exact h2
 obtain⟨v,v1,v2⟩:=r1.get (Ad hl);obtain⟨v',Yk,Ċ⟩:=r2.get (Ad hm);obtain⟨u,u1,u2⟩:=r.get v1;obtain⟨u',u1',u2'⟩:=r'.get Yk;rw [Ad h1] at u1;rw [Ad h2] at u1';cases u1;cases u1';unfold OL;rw [Ad hl,Ad hm];have:=ih j _ _ v v' _ _ (Ad hl) (Ad hm) v2 Ċ u2 u2';simpa using this
inductive Sh (X:Cx) (H:Hp) (s:dL):PV->ci->Prop
 | aX:Sh X H s .aX .none
 | bl (b:Bool):Sh X H s (.bl b) (.bool b)
 | int (i:Int) (t:Tok):Sh X H s (.int i) (.int i t)
 | str (x:Str) (t:Tok):Sh X H s (.str x) (.str x t)
 | tup {p:db}{vs:List V}{aw:List ci}{l:List PV} (e:VR X.K [] H (.ref p) (.tup l)) (k:Vals vs aw) (r:aN X.K [] H vs l) (h:s.heap.IsTuple p aw.toArray):Sh X H s (.tup l) (.ref p)
 | cl {p:db}{vs:List V}{aw:List ci}{l:List PV} (e:VR X.K [] H (.ref p) (.cl l)) (k:Vals vs aw) (r:aN X.K [] H vs l) (h:s.heap.IsList p aw.toArray):Sh X H s (.cl l) (.ref p)
def Sh.of (I:Inv X Z σ H s) {v:V}{x:PV}{w:ci} (h:VR X.K [] H v x) (r:RelV v w) (d:PV.kf x=true):Sh X H s x w:=by
 cases h with
 | ref e=>simp at e
 | aX=>cases r;exact .aX
 | bl a=>cases r;exact .bl a
 | int a=>obtain⟨t,rfl⟩:=r;exact .int a t
 | str a=>obtain⟨t,rfl⟩:=r;exact .str a t
 | tup e q=>
  cases r;obtain⟨aw,k,ht,_⟩:=I.tuple (d7.of e);exact .tup (.tup e q) k q ht
 | cl e q=>
  cases r;obtain⟨aw,k,pl,_⟩:=I.list e.sq;exact .cl (.cl e q) k q pl.isList
 | _=>rw [PV.kf] at d;cases d
set_option maxHeartbeats 8000000 in
theorem Xb (hK:X.K=K) (I:Inv X Z σ H s):∀(n:Nat) (x y:PV) (A:tt) (v v':V) (w w':ci),PV.iM x<=n->PV.kf x=true->PV.kf y=true->VR K [] H v x->VR K [] H v' y->RelV v w->RelV v' w'->A.units+n+1 < pc->Cmp A s w w' (kj x y):=by
 subst hK;intro n
 induction n using DM with
 | ind n ih=>
 intro x y A v v' w w' hd dx dy hv hv' r1 r2 hu;have a:=Sh.of I hv r1 dx;have b:=Sh.of I hv' r2 dy;clear hv hv' r1 r2;have el:∀{l m:List PV}{vs ws:List V}{aw cH:List ci},fV l=true->fV m=true->eJ l < n->Vals vs aw->Vals ws cH->aN X.K [] H vs l->aN X.K [] H ws m->aw.toArray.size=l.length/\cH.toArray.size=m.length/\∀j (g1:j < aw.toArray.size) (g2:j < cH.toArray.size),Dj A.in1 s aw.toArray[j] cH.toArray[j] (OL l m j):=λd1 d2 hd k1 k2 r r'=>⟨by rw [Aj,<- k1.length,r.length],by rw [Aj,<- k2.length,r'.length],aaz I (A:=A.in1) k1 k2 r r' λj x y v v' w w' hx hy vx vy rx ry=>(ih _ hd x y A.in1 v v' w w' (uY hx) (sC d1 hx) (sC d2 hy) vx vy rx ry (by show A.units+1+_+1 < _;omega)).eq⟩;have fin:∀{pa pb:db}{l m:List PV},(pa=pb->l=m)->fV l=true->SeqAt.RcAt A s (.ref pa) (.ref pb) (gD l m)->Dj A s (.ref pa) (.ref pb) (gD l m):=λ{pa pb l m} h d q=>by
  by_cases ë:pa=pb
  ·rw [h ë,lR _ (h ë▸d),ë];exact FO _
  ·exact Fw ë q
 cases a <;> cases b
 case tup.tup pa vs aw l e k r ht pb ws cH m e2 k2 r2 G8=>
  rw [PV.iM] at hd;obtain⟨z1,z2,ie⟩:=el dx dy ∅ k k2 r r2;have q1:=Fy ht G8 (A:=A) ∅ ie;have q2:=SeqAt.RcNeAt.tuples ht G8 (A:=A) ∅ ie;rw [z1,z2,nM] at q1 q2;exact⟨q1,q2,fin (λz=>by subst z;have:=VR.Ow I e e2;injection this) dx q1⟩
 case cl.cl pa vs aw l e k r ht pb ws cH m e2 k2 r2 G8=>
  rw [PV.iM] at hd;obtain⟨z1,z2,ie⟩:=el dx dy ∅ k k2 r r2;by_cases hz:l.length=m.length
  ·have q1:=FH ht G8 (by rw [z1,z2];exact hz) (A:=A) ∅ ie;have q2:=Fv ht G8 (by rw [z1,z2];exact hz) (A:=A) ∅ ie;have ef:(Av l.length).all (OL l m)=gD l m:=by rw [<- nM,hz,Nat.min_self,beq_self_eq_true,Bool.and_true]
   rw [z1,ef] at q1 q2;exact⟨q1,q2,fin (λz=>by subst z;have:=VR.Ow I e e2;injection this) dx q1⟩
  ·have q1:=Eo (A:=A) ht G8 (by rw [z1,z2];simpa using hz) ∅;have q2:=D4 (A:=A) ht G8 (by rw [z1,z2];simpa using hz) ∅;have ef:=Oz hz;rw [<- ef] at q1;have q2:SeqAt.RcNeAt A s (.ref pa) (.ref pb) (!gD l m):=by rw [ef];exact q2
   exact⟨q1,q2,fin (λz=>by subst z;have:=VR.Ow I e e2;injection this) dx q1⟩
 all_goals
  clear ih el fin;rw [kj] <;> try (intros;simp_all;done)
  refine⟨?_,?_,?_⟩ <;> (try simp only [Bq,Ed]) <;> first | with_reducible exact .none_none | with_reducible exact .none_bool _ | with_reducible exact .none_int _ _ | with_reducible exact .none_str _ _ | with_reducible exact .none_tuple ‹_› ∅ | with_reducible exact .none_list ‹_› ∅ | with_reducible exact .bool_none _ | with_reducible exact .bool_str _ _ _ | with_reducible exact .bool_tuple _ ‹_› ∅ | with_reducible exact .bool_list _ ‹_› ∅ | with_reducible exact .int_none _ _ | with_reducible exact .int_str _ _ _ _ | with_reducible exact .int_tuple _ _ ‹_› ∅ | with_reducible exact .int_list _ _ ‹_› ∅ | with_reducible exact .str_none _ _ | with_reducible exact .str_bool _ _ _ | with_reducible exact .str_int _ _ _ _ | with_reducible exact .str_tuple _ _ ‹_› ∅ | with_reducible exact .str_list _ _ ‹_› ∅ | with_reducible exact .tuple_none ‹_› ∅ | with_reducible exact .tuple_bool _ ‹_› ∅ | with_reducible exact .tuple_int _ _ ‹_› ∅ | with_reducible exact .tuple_str _ _ ‹_› ∅ | with_reducible exact .tuple_list ‹_› ‹_› ∅ | with_reducible exact .list_none ‹_› ∅ | with_reducible exact .list_bool _ ‹_› ∅ | with_reducible exact .list_int _ _ ‹_› ∅ | with_reducible exact .list_str _ _ ‹_› ∅ | with_reducible exact .list_tuple ‹_› ‹_› ∅ | exact .same _ | exact .bool_bool _ _ | exact .bool_int _ _ _ | exact .int_bool _ _ _ | exact .int_int _ _ _ _ | exact .str_str _ _ _ _
end
end
section
open PySem PySem.Spec PyProof.Rows L2 PL
variable {K:Ab}
mutual
theorem VR.nh {ι:List db}{H:Hp}:∀{v:V}{q:PV},VR K ι H v q->PV.kf q=true->VR K [] H v q
 | _,_,.aX,_=>.aX
 | _,_,.bl b,_=>.bl b
 | _,_,.int i,_=>.int i
 | _,_,.str x,_=>.str x
 | _,_,.ty n,h=>by rw [PV.kf] at h;cases h
 | _,_,.dk _ _ _,h=>by rw [PV.kf] at h;cases h
 | _,_,.dt _ _ _,h=>by rw [PV.kf] at h;cases h
 | _,_,.tup e r,h=>.tup e (aN.nh r (by rw [PV.kf] at h;exact h))
 | _,_,.cl e r,h=>.cl e (aN.nh r (by rw [PV.kf] at h;exact h))
 | _,_,.ref e,h=>by rw [PV.kf] at h;cases h
theorem aN.nh {ι:List db}{H:Hp}:∀{v:List V}{q:List PV},aN K ι H v q->fV q=true->aN K [] H v q
 | _,_,.nil,_=>.nil
 | _,_,.cons r s,h=>by
  rw [fV,AO] at h;exact .cons (VR.nh r h.1) (aN.nh s h.2)
end
def K5 (x y:PV):Prop:=PV.kf x=true/\PV.kf y=true/\PV.iM x<=150
def di:M2:=⟨λx y h Q=>K5 x y/\Q (.bl (kj x y)) h,λf q=>⟨q.1,f _ _ q.2⟩⟩
def wy:M2:=⟨λx y h Q=>K5 x y/\Q (.bl (!kj x y)) h,λf q=>⟨q.1,f _ _ q.2⟩⟩
def QS (K:Ab) (neg:Bool):R2:=λu v H Q=>∃x y,VR K [] H u x/\VR K [] H v y/\K5 x y/\Q (.bl (if neg then !kj x y else kj x y)) H
section
theorem VF (hK:X.K=K) (hu:X.A.units+200 < pc):hZ X (mo .Eq) (QS K false):=λZ s σ H u v w w' Q I r1 r2 ⟨x,y,h1,h2,⟨o1,o2,o3⟩,q⟩=>by
 exact EZ (Xb hK I 150 x y X.A u v w w' o3 o1 o2 h1 h2 r1 r2 ∅).rc ⟨.bl _,H,I,rfl,q⟩
theorem VB (hK:X.K=K) (hu:X.A.units+200 < pc):hZ X (mo .NotEq) (QS K true):=λZ s σ H u v w w' Q I r1 r2 ⟨x,y,h1,h2,⟨o1,o2,o3⟩,q⟩=>by
 exact Ej (Xb hK I 150 x y X.A u v w w' o3 o1 o2 h1 h2 r1 r2 ∅).ne ⟨.bl _,H,I,rfl,q⟩
def Rr:M2.Ok K (QS K false) di:=λ{ι H h u v x y Q} hr hu hv q=>⟨x,y,VR.nh hu q.1.1,VR.nh hv q.1.2.1,q.1,q.2 ι _ H (Go.refl _ _) hr (.bl _)⟩
def Rn:M2.Ok K (QS K true) wy:=λ{ι H h u v x y Q} hr hu hv q=>⟨x,y,VR.nh hu q.1.1,VR.nh hv q.1.2.1,q.1,q.2 ι _ H (Go.refl _ _) hr (.bl _)⟩
def dr (hK:X.K=K) (hu:X.A.units+200 < pc):JC X K .Eq b di:=⟨⟨_,VF hK hu,Rr⟩,kL _⟩
def Jl (hK:X.K=K) (hu:X.A.units+200 < pc):JC X K .NotEq b wy:=⟨⟨_,VB hK hu,Rn⟩,kL _⟩
end
end
end FL
variable {x:A8}{b b1:Bool}{t z i1 i2 a1 a2:BK}{ys:Array A8}{k1:Nat}
namespace L2
open PySem PySem.Spec PyProof.Rows
def tm (b:Bool) (h:r9) (it a:db) (k:Nat):Prop:=match b with
 | true=>h.IsListIter it a k
 | false=>h.IsTupleIter it a k
def iQ (b:Bool) (h:r9) (a:db) (xs:Array ci):Prop:=match b with
 | true=>h.IsList a xs
 | false=>h.IsTuple a xs
def tm.move (x:tm b h it a k) (g:∀o,h.get? it=ap o->h'.get? it=ap o):tm b h' it a k:=by
 cases b with
 | true=>obtain⟨o,e,p⟩:=(show h.IsListIter it a k from x);exact (show h'.IsListIter it a k from⟨o,g o e,p⟩)
 | false=>obtain⟨o,e,p⟩:=(show h.IsTupleIter it a k from x);exact (show h'.IsTupleIter it a k from⟨o,g o e,p⟩)
def iQ.move (x:iQ b h a xs) (g:∀o,h.get? a=ap o->h'.get? a=ap o):iQ b h' a xs:=by
 cases b with
 | true=>obtain⟨o,e,p⟩:=(show h.IsList a xs from x);exact (show h'.IsList a xs from⟨o,g o e,p⟩)
 | false=>obtain⟨o,e,p⟩:=(show h.IsTuple a xs from x);exact (show h'.IsTuple a xs from⟨o,g o e,p⟩)
def tm.obj (x:tm b h it a k):∃o,h.get? it=ap o/\∀v,o.data≠.cell v:=by
 cases b with
 | true=>obtain⟨o,e,_,d⟩:=(show h.IsListIter it a k from x);exact⟨o,e,λv z=>by rw [d] at z;cases z⟩
 | false=>obtain⟨o,e,_,d⟩:=(show h.IsTupleIter it a k from x);exact⟨o,e,λv z=>by rw [d] at z;cases z⟩
def iQ.lt (x:iQ b h a xs):a < h.objs.size:=by
 cases b with
 | true=>obtain⟨o,e,p⟩:=(show h.IsList a xs from x);exact Ar e
 | false=>obtain⟨o,e,p⟩:=(show h.IsTuple a xs from x);exact Ar e
section
def kM (h:tm b s.heap it t i) (ht:iQ b s.heap t items) (hx:items[i]?=ap x)
  (q:∀h':r9,tm b h' it t (i+1)->Cb it s.heap h'->Q x {s with heap:=h'}):d5 (ev prog w) A (Builtin.SmallTypes.nextOf (.ref it)) Q E s:=by
 cases b with
 | true=>exact wpAny_nextOf_list_item h ht hx λh' a b=>q h' a b
 | false=>exact iu h ht hx q
def rG (hA:A.handled=bv) (h:tm b s.heap it t i) (ht:iQ b s.heap t items) (hx:items[i]?=bv)
  (q:∀(h':r9) (e:db),FN it s.heap h'->(∃o,h'.get? e=ap o/\o.cls=.type "StopIteration")->E (.ref e) {s with heap:=h'}):d5 (ev prog w) A (Builtin.SmallTypes.nextOf (.ref it)) Q E s:=by
 cases b with
 | true=>exact wpAny_nextOf_list_end hA h ht hx λh' e a b=>q h' e a b
 | false=>exact i6 hA h ht hx q
def KA:Bool->String
 | true=>"list_iterator"
 | false=>"tuple_iterator"
def uI (h:iQ b s.heap a xs) (q:Q (.ref s.heap.objs.size) {s with heap:=s.heap.push {cls:=.type (KA b),data:=.fields #[.ref a,.int 0 0]}}):d5 (ev prog w) A (pyIter (.ref a)) Q E s:=by
 cases b with
 | true=>exact CH h q
 | false=>exact CY h q
def IC (e:h.get? it=ap {cls:=.type (KA b),data:=.fields #[.ref a,.int 0 0]}):tm b h it a 0:=by
 cases b with
 | true=>exact (show h.IsListIter it a 0 from⟨_,e,rfl,rfl⟩)
 | false=>exact (show h.IsTupleIter it a 0 from⟨_,e,rfl,rfl⟩)
end
structure j5 (b1 b2:Bool) (h:r9) (z TI TO i1 i2 a1 a2:db) (f0:ci) (k1 k2:Nat):Prop where
 zip:IsZip h z TI TO f0
 ti:IsPair h TI (.ref i1) (.ref i2)
 to:∃a b,IsPair h TO a b
 it1:tm b1 h i1 a1 k1
 it2:tm b2 h i2 a2 k2
def qJ {E:ci->dL->Prop}{b2:Bool}{TI TO:db}{y:ci} (hA:ZipApart z TI TO i1 i2 a1 a2)
  (hz:j5 b1 b2 s.heap z TI TO i1 i2 a1 a2 .none k1 k2) (Ub:iQ b1 s.heap a1 xs) (G8:iQ b2 s.heap a2 ys) (hx:xs[k1]?=ap x) (hy:ys[k2]?=ap y)
  (q:∀h':r9,j5 b1 b2 h' z TI TO i1 i2 a1 a2 (wP s.heap.objs.size) (k1+1) (k2+1)->IsPair h' s.heap.objs.size x y->(∀c o,c≠z->c≠TO->c≠i1->c≠i2->s.heap.get? c=ap o->h'.get? c=ap o)->Q (.ref s.heap.objs.size) {s with heap:=h'}) :
  d5 (ev prog w) A (Fk.«zip.__next__» {pos:=[.ref z]}) (λfin s'=>∃v,fin=FQ (FP v)/\Q v s') E s:=by
 obtain⟨hz,R3,⟨ta,tb,Ĝ⟩,ă,å⟩:=hz;show d5 _ _ (field (.ref z) 2 >>= λr=>_) _ _ s;refine Aa (A4 hz rfl rfl ?_);refine Aa (A4 hz rfl rfl ?_);refine Aa (BH R3 rfl ?_);refine Aa ?_;refine Aa (A4 hz rfl rfl ?_);refine Ag ?_;refine Aa (CK ?_);refine Aa (A4 hz rfl rfl ?_);show d5 _ _ (EQ (.ref z) 0 .ellipsis >>= λr=>_) _ _ s;refine Aa (A6 hz (show 0 < 5 by decide) λh1 z1 b1=>?_);show d5 _ _ ((forIn [(AD i1,0),(AD i2,1)] _ _) >>= λr=>_) _ _ _;refine Aa ?_;rw [B8];have uf:=b1.2;refine Aa ?_;refine Aa (Es ?_);refine Aa (kM (ă.move λo e=>(uf _ hA.i1z).trans e) (Ub.move λo e=>(uf _ hA.l1z).trans e) hx λh2 j2 b2=>Ag ?_);have Oo:∀b,b≠z->b≠i1->h2.get? b=s.heap.get? b:=λb n1 n2=>(b2.2 b n2).trans (uf b n1);have á:=(Oo _ hA.TOz hA.TOi1).trans Ĝ;refine Aa (BH á rfl ?_);refine Aa (Dy á λh3 t3 b3=>?_);have Ð:∀b,b≠z->b≠i1->b≠TO->h3.get? b=s.heap.get? b:=λb n1 n2 n3=>(b3.2 b n3).trans (Oo b n1 n2);refine Aa (Dz (Ag ?_));show d5 _ _ (forIn [(AD i2,1)] _ _) _ _ _;rw [B8];refine Aa ?_;refine Aa (Es ?_);refine Aa (kM (å.move λo e=>(Ð _ hA.i2z hA.i12.symm hA.TOi2.symm).trans e) (G8.move λo e=>(Ð _ hA.l2z hA.l2i1 hA.l2TO).trans e) hy λh4 j4 b4=>Ag ?_);have to4:=(b4.2 _ hA.TOi2).trans t3;refine Aa (BH to4 rfl ?_);refine Aa (Dy to4 λh5 t5 b5=>?_);have to5:=t5;refine Aa (Dz (Ag ?_));refine Ag ?_;refine Aa (BH to5 rfl ?_);have č:=b5.1.trans (b4.1.trans (b3.1.trans (b2.1.trans b1.1)));refine Aa (CM ?_ (by show 2<=sizeLine;decide));have aal:∀b,b≠z->b≠i1->b≠TO->b≠i2->h5.get? b=s.heap.get? b:=λb n1 n2 n3 n4=>(b5.2 b n3).trans ((b4.2 b n4).trans (Ð b n1 n2 n3));have z5:h5.get? z=ap {cls:=.type "zip",data:=.fields #[.ellipsis,.bool false,.bool false,.ref TI,.ref TO]}:=(b5.2 _ hA.TOz.symm).trans ((b4.2 _ hA.i2z.symm).trans ((b3.2 _ hA.TOz.symm).trans ((b2.2 _ hA.i1z.symm).trans z1)));have kp:∀b o,h5.get? b=ap o->(h5.push {cls:=.type "tuple",data:=.seq #[x,y]}).get? b=ap o:=λb o e=>Ah _ e;have ac1:(h5.push {cls:=.type "tuple",data:=.seq #[x,y]}).get? h5.objs.size=ap {cls:=.type "tuple",data:=.seq #[x,y]}:=Aq _ rfl;refine Aa ?_;show d5 _ _ (EQ (.ref z) 0 (wP h5.objs.size) >>= λ_=>EQ (.ref z) 1 (.bool false)) _ _ _;refine Aa (A6 (kp _ _ z5) (show 0 < 5 by decide) λh7 z7 b7=>?_);refine A6 z7 (show 1 < 5 by decide) λh8 z8 b8=>?_;have KS:∀b,b≠z->h8.get? b=(h5.push {cls:=.type "tuple",data:=.seq #[x,y]}).get? b:=λb n=>(b8.2 b n).trans (b7.2 b n);have nz:s.heap.objs.size≠z:=λe=>by have:=Ar hz;rw [<- e] at this;exact A9 _ this
 refine Ag ⟨.ref h5.objs.size,rfl,?_⟩;rw [č];refine q h8 ⟨?_,?_,?_,?_,?_⟩ ?_ ?_
 ·rw [<- č];exact z8
 ·rw [IsPair,KS _ hA.TIz];exact kp _ _ ((aal _ hA.TIz hA.TIi1 hA.TITO hA.TIi2).trans R3)
 ·exact⟨x,y,by rw [IsPair,KS _ hA.TOz];exact kp _ _ to5⟩
 ·refine j2.move λo e=>?_;rw [KS _ hA.i1z];exact kp _ _ ((b5.2 _ hA.TOi1.symm).trans ((b4.2 _ hA.i12).trans ((b3.2 _ hA.TOi1.symm).trans e)))
 ·refine j4.move λo e=>?_;rw [KS _ hA.i2z];exact kp _ _ ((b5.2 _ hA.TOi2.symm).trans e)
 ·rw [IsPair,KS _ nz,<- č];exact ac1
 ·intro c o n1 n2 n3 n4 e;rw [KS _ n1];exact kp _ _ ((aal _ n1 n3 n2 n4).trans e)
def tI {b2:Bool}{TI TO:db}{Q:PySem.Fin->dL->Prop} (hh:A.handled=bv) (hA:ZipApart z TI TO i1 i2 a1 a2)
  (hz:j5 b1 b2 s.heap z TI TO i1 i2 a1 a2 .none k1 k2) (Ub:iQ b1 s.heap a1 xs) (G8:iQ b2 s.heap a2 ys) (hx:xs[k1]?=bv\/ys[k2]?=bv)
  (q:∀(h':r9) (e:db),(∀c o,c≠z->c≠TO->c≠i1->c≠i2->s.heap.get? c=ap o->h'.get? c=ap o)->(∃o,h'.get? e=ap o/\o.cls=.type "StopIteration")->E (.ref e) {s with heap:=h'}) :
  d5 (ev prog w) A (Fk.«zip.__next__» {pos:=[.ref z]}) Q E s:=by
 obtain⟨hz,R3,⟨ta,tb,Ĝ⟩,ă,å⟩:=hz;show d5 _ _ (field (.ref z) 2 >>= λr=>_) _ _ s;refine Aa (A4 hz rfl rfl ?_);refine Aa (A4 hz rfl rfl ?_);refine Aa (BH R3 rfl ?_);refine Aa ?_;refine Aa (A4 hz rfl rfl ?_);refine Ag ?_;refine Aa (CK ?_);refine Aa (A4 hz rfl rfl ?_);show d5 _ _ (EQ (.ref z) 0 .ellipsis >>= λr=>_) _ _ s;refine Aa (A6 hz (show 0 < 5 by decide) λh1 z1 b1'=>?_);show d5 _ _ ((forIn [(AD i1,0),(AD i2,1)] _ _) >>= λr=>_) _ _ _;refine Aa ?_;rw [B8];have uf:=b1'.2;refine Aa ?_;refine Aa (Es ?_);have fin:∀{h2:r9}{e:db},h2.get? z=ap {cls:=.type "zip",data:=.fields #[.ellipsis,.bool false,.bool false,.ref TI,.ref TO]}->(∃o,h2.get? e=ap o/\o.cls=.type "StopIteration")->(∀c o,c≠z->c≠TO->c≠i1->c≠i2->s.heap.get? c=ap o->h2.get? c=ap o)->d5 (ev prog w) A (EQ (.ref z) 0 .none) (λ_ s'=>E (.ref e) s') (λ_ _=>True) {s with heap:=h2}:=λ{h2 e} z2 ex k=>by
  refine A6 z2 (show 0 < 5 by decide) λh3 z3 b3=>?_;refine q h3 e (λc o n1 n2 n3 n4 ec=>?_) ?_
  ·rw [b3.2 _ n1];exact k c o n1 n2 n3 n4 ec
  ·obtain⟨o,eo,hc⟩:=ex;by_cases he:e=z
   ·subst he;rw [z2] at eo;cases eo;exact absurd (show BZ "zip"=BZ "StopIteration" from hc) ⋯
   ·exact⟨o,(b3.2 _ he).trans eo,hc⟩
 cases hx1:xs[k1]? with
 | none=>
  refine Aa (rG hh (ă.move λo e=>(uf _ hA.i1z).trans e) (Ub.move λo e=>(uf _ hA.l1z).trans e) hx1 λh2 e k ex=>?_);have z2:h2.get? z=ap {cls:=.type "zip",data:=.fields #[.ellipsis,.bool false,.bool false,.ref TI,.ref TO]}:=k _ _ hA.i1z.symm z1;refine A6 z2 (show 0 < 5 by decide) λh3 z3 b3=>?_;refine q h3 e (λc o n1 n2 n3 n4 ec=>?_) ?_
  ·rw [b3.2 _ n1];exact k _ _ n3 ((uf _ n1).trans ec)
  ·obtain⟨o,eo,hc⟩:=ex;by_cases he:e=z
   ·subst he;rw [z2] at eo;cases eo;exact absurd (show BZ "zip"=BZ "StopIteration" from hc) ⋯
   ·exact⟨o,(b3.2 _ he).trans eo,hc⟩
 | some x=>
  have hy:ys[k2]?=bv:=by
   rcases hx with h | h
   ·rw [hx1] at h;cases h
   ·exact h
  refine Aa (kM (ă.move λo e=>(uf _ hA.i1z).trans e) (Ub.move λo e=>(uf _ hA.l1z).trans e) hx1 λh2 j2 b2'=>Ag ?_);have Oo:∀b,b≠z->b≠i1->h2.get? b=s.heap.get? b:=λb n1 n2=>(b2'.2 b n2).trans (uf b n1);have á:=(Oo _ hA.TOz hA.TOi1).trans Ĝ;refine Aa (BH á rfl ?_);refine Aa (Dy á λh3 t3 b3=>?_);have Ð:∀b,b≠z->b≠i1->b≠TO->h3.get? b=s.heap.get? b:=λb n1 n2 n3=>(b3.2 b n3).trans (Oo b n1 n2);refine Aa (Dz (Ag ?_));refine Aa ?_;refine Aa (Es ?_);show d5 _ _ (Builtin.SmallTypes.nextOf (.ref i2) >>= λv=>pure (ap v)) _ _ _;refine Aa (rG hh (å.move λo e=>(Ð _ hA.i2z hA.i12.symm hA.TOi2.symm).trans e) (G8.move λo e=>(Ð _ hA.l2z hA.l2i1 hA.l2TO).trans e) hy λh4 e k ex=>?_);have z4:h4.get? z=ap {cls:=.type "zip",data:=.fields #[.ellipsis,.bool false,.bool false,.ref TI,.ref TO]}:=k _ _ hA.i2z.symm ((b3.2 _ hA.TOz.symm).trans ((b2'.2 _ hA.i1z.symm).trans z1));refine A6 z4 (show 0 < 5 by decide) λh5 z5 b5=>?_;refine q h5 e (λc o n1 n2 n3 n4 ec=>?_) ?_
  ·rw [b5.2 _ n1];exact k _ _ n4 ((Ð _ n1 n3 n2).trans ec)
  ·obtain⟨o,eo,hc⟩:=ex;by_cases he:e=z
   ·subst he;rw [z4] at eo;cases eo;exact absurd (show BZ "zip"=BZ "StopIteration" from hc) ⋯
   ·exact⟨o,(b5.2 _ he).trans eo,hc⟩
def ou {b2:Bool}{TI TO:db}{y:ci}{Q:Option ci->dL->Prop} (hA:ZipApart z TI TO i1 i2 a1 a2)
  (hz:j5 b1 b2 s.heap z TI TO i1 i2 a1 a2 .none k1 k2) (Ub:iQ b1 s.heap a1 xs) (G8:iQ b2 s.heap a2 ys) (hx:xs[k1]?=ap x) (hy:ys[k2]?=ap y)
  (q:∀h':r9,j5 b1 b2 h' z TI TO i1 i2 a1 a2 (wP s.heap.objs.size) (k1+1) (k2+1)->IsPair h' s.heap.objs.size x y->(∀c o,c≠z->c≠TO->c≠i1->c≠i2->s.heap.get? c=ap o->h'.get? c=ap o)->Q (ap (.ref s.heap.objs.size)) {s with heap:=h'}) :
  d5 (ev prog w) A (pyNext (.ref z)) Q E s:=by
 have ty:s.TypeIs (.ref z) "zip":=⟨_,hz.zip,rfl⟩;refine Aa (CU (AZ ty DE (Bg DE ty F.entry_zip_next ?_ (F.args_zip_next_1 _))));exact qJ hA hz Ub G8 hx hy λh' a b c=>Ag (q h' a b c)
def pK {b2:Bool}{TI TO:db}{Q:Option ci->dL->Prop} (hh:A.handled=bv) (hA:ZipApart z TI TO i1 i2 a1 a2)
  (hz:j5 b1 b2 s.heap z TI TO i1 i2 a1 a2 .none k1 k2) (Ub:iQ b1 s.heap a1 xs) (G8:iQ b2 s.heap a2 ys) (hx:xs[k1]?=bv\/ys[k2]?=bv)
  (q:∀h':r9,(∀c o,c≠z->c≠TO->c≠i1->c≠i2->s.heap.get? c=ap o->h'.get? c=ap o)->Q bv {s with heap:=h'}) :
  d5 (ev prog w) A (pyNext (.ref z)) Q E s:=by
 have ty:s.TypeIs (.ref z) "zip":=⟨_,hz.zip,rfl⟩;refine Aa (CU (AZ ty DE (Bg DE ty F.entry_zip_next ?_ (F.args_zip_next_1 _))));refine tI (A:=A.in1) hh hA hz Ub G8 hx λh' e k ex=>?_;obtain⟨o,eo,hc⟩:=ex;refine Aa (Dm (T:="StopIteration") ⟨o,eo,hc⟩ isSubtype_stop ?_);exact Ag (q h' k)
def rK (b1 b2:Bool) (a1 a2:db) (xs ys:Array ci):Meets (Fk.«zip.__new__» {pos:=[.type "zip",.ref a1,.ref a2]}) (λ_ R s=>iQ b1 s.heap a1 xs/\iQ b2 s.heap a2 ys/\
  ∀h':r9,j5 b1 b2 h' (s.heap.objs.size+4) (s.heap.objs.size+2) (s.heap.objs.size+3) s.heap.objs.size (s.heap.objs.size+1) a1 a2 .none 0 0->(∀b o,s.heap.get? b=ap o->h'.get? b=ap o)->R (.ok (.ret (.ref (s.heap.objs.size+4)))) {s with heap:=h'}):=
 .of_wp λprog w A R s h=>by
  obtain⟨h1,h2,q⟩:=h;refine Aa ?_;refine Aa (CB (a:=true) rfl ?_);refine Aa (CB sub_zip ?_);refine Ag ?_;refine Aa ?_;refine Aa ?_;rw [B8];refine Aa ?_;refine Aa (Be (uI h1 (Ag ?_)));have k1:∀b o,s.heap.get? b=ap o->(s.heap.push {cls:=.type (KA b1),data:=.fields #[.ref a1,.int 0 0]}).get? b=ap o:=λb o e=>Ah _ e;have g1:(s.heap.push {cls:=.type (KA b1),data:=.fields #[.ref a1,.int 0 0]}).get? s.heap.objs.size=ap {cls:=.type (KA b1),data:=.fields #[.ref a1,.int 0 0]}:=Aq _ rfl;have z1:(s.heap.push {cls:=.type (KA b1),data:=.fields #[.ref a1,.int 0 0]}).objs.size=s.heap.objs.size+1:=CJ ..;generalize s.heap.push {cls:=.type (KA b1),data:=.fields #[.ref a1,.int 0 0]}=ud at k1 g1 z1 ⊢;show d5 _ _ (forIn [AD a2] _ _) _ _ _;rw [B8];refine Aa ?_;refine Aa (Be (uI (xs:=ys) (h2.move λo e=>k1 _ _ e) (Ag ?_)));show d5 _ _ (forIn [] _ _) _ _ _;rw [List.forIn_nil];refine Ag (Ag ?_);have k2:∀b o,ud.get? b=ap o->(ud.push {cls:=.type (KA b2),data:=.fields #[.ref a2,.int 0 0]}).get? b=ap o:=λb o e=>Ah _ e;have g2:(ud.push {cls:=.type (KA b2),data:=.fields #[.ref a2,.int 0 0]}).get? ud.objs.size=ap {cls:=.type (KA b2),data:=.fields #[.ref a2,.int 0 0]}:=Aq _ rfl;have z2:(ud.push {cls:=.type (KA b2),data:=.fields #[.ref a2,.int 0 0]}).objs.size=ud.objs.size+1:=CJ ..;show d5 _ _ (newTuple [.ref s.heap.objs.size,.ref ud.objs.size] >>= λr=>_) _ _ {s with heap:=ud.push {cls:=.type (KA b2),data:=.fields #[.ref a2,.int 0 0]}};generalize ud.push {cls:=.type (KA b2),data:=.fields #[.ref a2,.int 0 0]}=wX at k2 g2 z2 ⊢;refine Aa (CM ?_ (by show 2<=sizeLine;decide));have k3:∀b o,wX.get? b=ap o->(wX.push {cls:=.type "tuple",data:=.seq [AD s.heap.objs.size,AD ud.objs.size].toArray}).get? b=ap o:=λb o e=>Ah _ e;have g3:(wX.push {cls:=.type "tuple",data:=.seq [AD s.heap.objs.size,AD ud.objs.size].toArray}).get? wX.objs.size=ap {cls:=.type "tuple",data:=.seq #[.ref s.heap.objs.size,.ref ud.objs.size]}:=Aq _ rfl;have z3:(wX.push {cls:=.type "tuple",data:=.seq [AD s.heap.objs.size,AD ud.objs.size].toArray}).objs.size=wX.objs.size+1:=CJ ..;show d5 _ _ (newTuple [.none,.none] >>= λr=>_) _ _ {s with heap:=wX.push {cls:=.type "tuple",data:=.seq [AD s.heap.objs.size,AD ud.objs.size].toArray}};generalize wX.push {cls:=.type "tuple",data:=.seq [AD s.heap.objs.size,AD ud.objs.size].toArray}=KJ at k3 g3 z3 ⊢;refine Aa (CM ?_ (by show 2<=sizeLine;decide));have k4:∀b o,KJ.get? b=ap o->(KJ.push {cls:=.type "tuple",data:=.seq [AW,AW].toArray}).get? b=ap o:=λb o e=>Ah _ e;have g4:(KJ.push {cls:=.type "tuple",data:=.seq [AW,AW].toArray}).get? KJ.objs.size=ap {cls:=.type "tuple",data:=.seq #[.none,.none]}:=Aq _ rfl;have z4:(KJ.push {cls:=.type "tuple",data:=.seq [AW,AW].toArray}).objs.size=KJ.objs.size+1:=CJ ..;show d5 _ _ (newObj (.type "zip") (.fields #[.none,.bool false,.bool false,.ref wX.objs.size,.ref KJ.objs.size]) >>= λr=>_) _ _ {s with heap:=KJ.push {cls:=.type "tuple",data:=.seq [AW,AW].toArray}};generalize KJ.push {cls:=.type "tuple",data:=.seq [AW,AW].toArray}=XJ at k4 g4 z4 ⊢;refine Aa (Bh ?_ (by simp [sizeOk];decide));have k5:∀b o,XJ.get? b=ap o->(XJ.push {cls:=.type "zip",data:=.fields #[.none,.bool false,.bool false,.ref wX.objs.size,.ref KJ.objs.size]}).get? b=ap o:=λb o e=>Ah _ e;have g5:(XJ.push {cls:=.type "zip",data:=.fields #[.none,.bool false,.bool false,.ref wX.objs.size,.ref KJ.objs.size]}).get? XJ.objs.size=ap {cls:=.type "zip",data:=.fields #[.none,.bool false,.bool false,.ref wX.objs.size,.ref KJ.objs.size]}:=Aq _ rfl;have e1:=z1;have e2:wX.objs.size=s.heap.objs.size+2:=by rw [z2,e1]
  have e3:KJ.objs.size=s.heap.objs.size+3:=by rw [z3,e2]
  have e4:XJ.objs.size=s.heap.objs.size+4:=by rw [z4,e3]
  refine Ag ⟨.ref XJ.objs.size,rfl,?_⟩;rw [e2,e3] at g5 k5 ⊢;rw [e4] at g5 ⊢;rw [e3] at g4;rw [e1,e2] at g3;rw [e1] at g2;refine q _ ⟨g5,k5 _ _ (k4 _ _ g3),⟨_,_,k5 _ _ g4⟩,IC (k5 _ _ (k4 _ _ (k3 _ _ (k2 _ _ g1)))),IC (k5 _ _ (k4 _ _ (k3 _ _ g2)))⟩ λb o e=>k5 _ _ (k4 _ _ (k3 _ _ (k2 _ _ (k1 _ _ e))))
def Lu {b2:Bool} (h1:iQ b1 s.heap a1 xs) (h2:iQ b2 s.heap a2 ys)
  (q:∀h':r9,j5 b1 b2 h' (s.heap.objs.size+4) (s.heap.objs.size+2) (s.heap.objs.size+3) s.heap.objs.size (s.heap.objs.size+1) a1 a2 .none 0 0->(∀b o,s.heap.get? b=ap o->h'.get? b=ap o)->Q (.ref (s.heap.objs.size+4)) {s with heap:=h'}) :
  d5 (ev prog w) A (call (.type "zip") [.ref a1,.ref a2]) Q E s:=
 callType_new F.called_zip ⋯ (F.typeCall_zip_2 _ _) (F.newCall_zip_2 _ _) (λo=>F.args_object_init_3 o _ _) F.entry_zip_new (rK b1 b2 a1 a2 xs ys) ⟨h1,h2,λh' z k=>⟨⟨_,z.zip,rfl⟩,q h' z k⟩⟩
def L7 (b:Bool) (K:Ab) (H:Hp) (a:db) (xs:List V):Prop:=match b with
 | true=>c6 K H a xs
 | false=>d7 K H a xs
def Inv.Xz {xs:List V} (I:Inv X Z σ H s) (h:L7 b X.K H a xs):∃aw:List ci,Vals xs aw/\iQ b s.heap a aw.toArray/\xs.length<=sizeLine:=by
 cases b with
 | true=>obtain⟨aw,r,p,z⟩:=I.list (show c6 X.K H a xs from h);exact⟨aw,r,p.isList,z⟩
 | false=>obtain⟨aw,r,p,z⟩:=I.tuple (show d7 X.K H a xs from h);exact⟨aw,r,p,z⟩
def Inv.IB {xs ys:List V} (I:Inv X Z σ H s) (h:L7 b X.K H a xs) (h':L7 b X.K H a ys):xs=ys:=by
 cases b with
 | true=>
  obtain⟨aw,k,⟨o,n,h1,h2,h3,h4⟩,_⟩:=I.list (show c6 X.K H a xs from h);obtain⟨its',k',⟨o',n',gs,tG,zg,WC⟩,_⟩:=I.list (show c6 X.K H a ys from h');rw [h1] at gs;cases gs;rw [h4] at WC;have:aw=its':=by injection WC with a b;simpa using a
  subst this;exact Vals.inj k k'
 | false=>exact I.ly h h'
def aaY (b1 b2:Bool) (K:Ab) (a1 a2:db):It where
 go:=λi H=>∃xs ys x y,L7 b1 K H a1 xs/\L7 b2 K H a2 ys/\xs[i]?=ap x/\ys[i]?=ap y
 Ti:=λi H v H'=>∃p x y,v=.ref p/\H p=bv/\H'=upd H p (.tup [x,y])/\(∀xs,L7 b1 K H a1 xs->xs[i]?=ap x)/\∀ys,L7 b2 K H a2 ys->ys[i]?=ap y
 stop:=λi H=>∃xs ys,L7 b1 K H a1 xs/\L7 b2 K H a2 ys/\(xs.length<=i\/ys.length<=i)
theorem JX {K:Ab}{b2:Bool}{TI TO:db} (hA:ZipApart z TI TO i1 i2 a1 a2):Turn P w K (.Tuple Ò kk pos) (aaY b1 b2 K a1 a2) [z,TI,TO,i1,i2] z (λi h=>j5 b1 b2 h z TI TO i1 i2 a1 a2 .none i i) where
 mem:=by simp
 obj:=λi h st b hb=>by
  simp only [AA,BC,or_false] at hb;rcases hb with rfl | rfl | rfl | rfl | rfl
  ·exact⟨_,st.zip,λv z=>by cases z⟩
  ·exact⟨_,st.ti,λv z=>by cases z⟩
  ·obtain⟨_,_,e⟩:=st.to;exact⟨_,e,λv z=>by cases z⟩
  ·exact st.it1.obj
  ·exact st.it2.obj
 keep:=λi h h' st k=>⟨k z (by simp) _ st.zip,k TI (by simp) _ st.ti,let ⟨a,b,e⟩:=st.to;⟨a,b,k TO (by simp) _ e⟩,st.it1.move λo e=>k i1 (by simp) _ e,st.it2.move λo e=>k i2 (by simp) _ e⟩
 item:=by
  intro X hP hw hK hc i Z s σ H E I hf st hg;subst hP hw hK;obtain⟨xs,ys,x,y,hx,hy,gx,gy⟩:=hg;obtain⟨aw,rx,tx,_⟩:=I.Xz hx;obtain⟨cH,ry,ty,_⟩:=I.Xz hy;obtain⟨u,gu,ru⟩:=kr rx gx;obtain⟨v,gv,rv⟩:=kr ry gy;refine ou hA st tx ty (by simpa using gu) (by simpa using gv) λh' zt np k=>?_;refine⟨_,rfl,?_⟩;refine Aa (wpAny_load zt.zip ?_);show d5 _ _ (if ((["enumerate","zip","dict_itemiterator","dict_reverseitemiterator","odict_iterator","itertools.zip_longest","itertools.pairwise"].contains "zip"&&(ap (wP s.heap.objs.size)==ap (wP s.heap.objs.size)))=true) then (do rule "for.unpacks-the-owned-tuple";EQ (.ref z) 0 .none) else pure ()) _ _ _;rw [if_pos (by rw [beq_self_eq_true];decide)];refine Aa (CK ?_);refine A6 zt.zip (show 0 < 5 by decide) λh2 z2 b2=>?_;have lt:∀b∈[z,TI,TO,i1,i2],b < s.heap.objs.size:=λb hb=>by
   simp only [AA,BC,or_false] at hb;rcases hb with rfl | rfl | rfl | rfl | rfl
   ·exact Ar st.zip
   ·exact Ar st.ti
   ·obtain⟨_,_,e⟩:=st.to;exact Ar e
   ·obtain⟨o,e,_⟩:=st.it1.obj;exact Ar e
   ·obtain⟨o,e,_⟩:=st.it2.obj;exact Ar e
  have nz:s.heap.objs.size≠z:=λe=>A9 _ (by have:=lt z (by simp);rw [<- e] at this;exact this);have ZI:∀b o,b∉[z,TI,TO,i1,i2]->s.heap.get? b=ap o->h2.get? b=ap o:=λb o hb e=>by
   have G7:b≠z:=λq=>hb (by simp [q]);rw [b2.2 b G7];exact k b o G7 (λq=>hb (by simp [q])) (λq=>hb (by simp [q])) (λq=>hb (by simp [q])) e
  have Zs:h2.get? s.heap.objs.size=ap {cls:=.type "tuple",data:=.seq #[u,v]}:=(b2.2 _ nz).trans np;have ç:=I.bI.fresh (An s.heap.objs.size);refine⟨.ref s.heap.objs.size,upd H s.heap.objs.size (.tup [x,y]),I.qQ (t':=s.toks) hf ZI (An _) ⟨by show 2<=sizeLine;decide,[u,v],.cons ru (.cons rv .nil),⟨_,Zs,rfl,_,rfl⟩⟩,rfl,⟨_,x,y,rfl,ç,rfl,λxs' h'=>?_,λys' h'=>?_⟩,⟨z2,(b2.2 _ hA.TIz).trans zt.ti,let ⟨p,q,e⟩:=zt.to;⟨p,q,(b2.2 _ hA.TOz).trans e⟩,zt.it1.move λo e=>(b2.2 _ hA.i1z).trans e,zt.it2.move λo e=>(b2.2 _ hA.i2z).trans e⟩,λb hb=>?_⟩
  ·rw [I.IB h' hx];exact gx
  ·rw [I.IB h' hy];exact gy
  ·rw [aB (AJ (lt b hb))];exact (hf b hb).1
 done:=by
  intro X hP hw hK hc i Z s σ H E I hf st hg;subst hP hw hK;obtain⟨xs,ys,hx,hy,hl⟩:=hg;obtain⟨aw,rx,tx,_⟩:=I.Xz hx;obtain⟨cH,ry,ty,_⟩:=I.Xz hy;have el:=rx.length;have el2:=ry.length;refine pK (I.ok.hd hc) hA st tx ty ?_ λh' k=>⟨rfl,I.vE (t':=s.toks) hf λb o hb e=>k b o (λz=>hb (by simp [z])) (λz=>hb (by simp [z])) (λz=>hb (by simp [z])) (λz=>hb (by simp [z])) e⟩;rcases hl with hl | hl
  ·exact .inl (by simp;omega)
  ·exact .inr (by simp;omega)
 self:=λA i s Q E st h=>wpAny_pyIter_zip st.zip h
def ZP (K:Ab) (t1 t2:TE):TI:=λσ H R=>t1 σ H λx H1=>t2 σ H1 λy H2=>∃b1 b2 a b,x=.ref a/\y=.ref b/\(∃xs,L7 b1 K H2 a xs)/\(∃ys,L7 b2 K H2 b ys)/\R (aaY b1 b2 K a b) H2
def Q2 (K:Ab) (hK:X.K=K) {e2:lw}{t2:TE} (hg:Gl X "zip") (hm:X.mg "zip"=bv) (h1:PE X e1 t1) (h2:PE X e2 t2)
  (F1:ce [e1,e2] X.env=(false,kw e1 X.env)::ce [e2] X.env:=by rfl) (qx:ce [e2] X.env=(false,kw e2 X.env)::ce [] X.env:=by rfl) (dJ:(lm p2 (ce [e2] X.env)).any (·.1)=false:=by rfl) :
  PI X (.Tuple Ò kk tp) (.Call (.Name "zip" p1) [e1,e2] [] p2) (ZP K t1 t2):=by
 subst hK;intro Z s σ H R I h;refine BL (jP I hg hm boot_zip ?_ ⋯ ⋯);refine Bk ?_ F1 dJ;rw [F1,qx];refine Cg (bE (h1 Z s σ H _ I h) λu1 s1 ⟨x,H1,I1,r1,q1⟩=>?_);refine Cg (bE (h2 Z s1 σ H1 _ I1 q1) λu2 s2 ⟨y,H2,I2,r2,b1,b2,a,b,ex,ey,⟨xs,hx⟩,⟨ys,hy⟩,q⟩=>CG ?_);subst ex;subst ey;cases r1;cases r2;obtain⟨aw,rx,tx,_⟩:=I2.Xz hx;obtain⟨cH,ry,ty,_⟩:=I2.Xz hy;have l1:=tx.lt;have l2:=ty.lt;refine Lu tx ty λh' zt k=>?_;refine wpAny_pyIter_zip zt.zip ?_;have dd:∀i j:Nat,i≠j->s2.heap.objs.size+i≠s2.heap.objs.size+j:=λi j n e=>n (Nat.add_left_cancel e);have na:∀i:Nat,a≠s2.heap.objs.size+i:=λi=>AJ (Az l1 (BB _ _));have nb:∀i:Nat,b≠s2.heap.objs.size+i:=λi=>AJ (Az l2 (BB _ _));have hA:ZipApart (s2.heap.objs.size+4) (s2.heap.objs.size+2) (s2.heap.objs.size+3) s2.heap.objs.size (s2.heap.objs.size+1) a b:=
  ⟨dd 2 4 ⋯,dd 3 4 ⋯,dd 0 4 ⋯,dd 1 4 ⋯,dd 2 3 ⋯,dd 2 0 ⋯,dd 2 1 ⋯,dd 3 0 ⋯,dd 3 1 ⋯,dd 0 1 ⋯,na 4,na 3,na 0,na 1,nb 4,nb 3,nb 0,nb 1⟩
 refine⟨_,_,_,_,H2,rfl,I2.kept (t':=s2.toks) k,JX hA,zt,λc hc=>?_,q⟩;have Ü:s2.heap.objs.size<=c:=by
  simp only [AA,BC,or_false] at hc;rcases hc with rfl | rfl | rfl | rfl | rfl
  ·exact BB _ _
  ·exact BB _ _
  ·exact BB _ _
  ·exact An _
  ·exact BB _ _
 exact I2.uj Ü (I2.bI.fresh Ü)
def YW (K:Ab):V->Option Int->Option Int->Hp->VK->Prop:=λx lo hi H Q=>∃a xs,x=.ref a/\d7 K H a xs/\
 ((HT.dR xs.length 0 lo=0/\HT.dR xs.length xs.length hi=xs.length)->Q x H)/\(¬(HT.dR xs.length 0 lo=0/\HT.dR xs.length xs.length hi=xs.length)->kg H (.tup (ur xs lo hi)) Q)
def QE (K:Ab) (hK:X.K=K):S7 X (YW K):=by
 subst hK;intro Z s σ H x v vl vu lo hi sl Q I rx hs pl pu h;obtain⟨a,xs,rfl,hT,qw,qn⟩:=h;by_cases c:HT.dR xs.length 0 lo=0/\HT.dR xs.length xs.length hi=xs.length
 ·have q:=qw c;cases rx;obtain⟨aw,r,ht,hz⟩:=I.tuple hT;have Á:aw.toArray.size=xs.length:=by rw [Aj];exact r.length.symm
  refine⟨"tuple",_,Bl.lookup,ht.typeIs,?_⟩;obtain⟨os,L1,XO,R9⟩:=id hs;have XR:s.TypeIs (.ref sl) "slice":=⟨os,L1,XO⟩;unfold Gf
  try with_reducible refine Be ?_
  first | refine Aa (Ag ?_) | skip
  refine Aa (Ek ht.typeIs ⋯ ?_);refine Aa (AZ (name:=Cn "__getitem__") ht.typeIs Bl
   (Bg Bl ht.typeIs entry_tuple_getitem ?_ (args_tuple_getitem _ _)))
  show d5 _ _ (Builtin.Tuple.tupleItemsOf (.ref a) >>= _) _ _ s;refine Aa (tupleItemsOf_ ht ?_);refine Aa (Co XR ?_);refine Aa (HT.iW hs pl pu ?_);show d5 _ _ (if (((HT.dR aw.toArray.size 0 lo:Nat):Int)==0&&(1:Int)==1&&(HT.dR aw.toArray.size aw.toArray.size hi-HT.dR aw.toArray.size 0 lo)==aw.toArray.size)=true then _ else _) _ _ s;rw [if_pos (by rw [Á,c.1,c.2];simp)];refine Aa ?_
  first
   | refine Aa (Co ht.typeIs (Ag ?_))
   | refine Co ht.typeIs (Ag ?_)
  first
   | rw [if_pos ⋯]
   | rw [if_pos rfl]
  refine Aa (CK (Ag ⟨_,rfl,?_⟩));exact Ag ⟨.ref a,H,I,rfl,q⟩
 ·exact UZ Z s σ H _ v vl vu lo hi sl Q I rx hs pl pu ⟨a,xs,rfl,hT,c,λp hp=>(qn c).at p hp⟩
def Y5 (K:Ab):R2:=λx y H Q=>∃a b xs ys,x=.ref a/\y=.ref b/\d7 K H a xs/\d7 K H b ys/\xs.length+ys.length<=sizeLine/\
 (xs=[]->Q (.ref b) H)/\(xs≠[]->ys=[]->Q (.ref a) H)/\(xs≠[]->ys≠[]->kg H (.tup (xs++ys)) Q)
def Rh (K:Ab) (hK:X.K=K):hZ X (tz .Add) (Y5 K):=by
 subst hK;intro Z s σ H x y v u Q I rx ry h;obtain⟨a,b,xs,ys,rfl,rfl,ha,hb,hz,q0,q1,q2⟩:=h;by_cases c:xs=[]
 ·cases rx;cases ry;obtain⟨aw,r1,p1,_⟩:=I.tuple ha;obtain⟨cH,r2,p2,_⟩:=I.tuple hb;obtain⟨⟨cls,dd,data,sl⟩,ho,hc,n,hd⟩:=id p1;obtain⟨⟨Xc,SO,data2,PZ⟩,KL,Og,n2,Ñ⟩:=id p2;simp only at hc hd Og Ñ;subst hc hd Og Ñ;exact concat_meets ⟨_,ho,rfl⟩ ⟨_,KL,rfl⟩ noFill_tuple_add seq_tuple_add C4 C1 (CS _ _)
   (tuple_addW0 a b aw.toArray cH.toArray n n2 dd SO sl PZ (by rw [r1.jL.mpr c];rfl)) ⟨ho,KL,.ref b,H,I,rfl,q0 c⟩
 ·exact I0 Z s σ H _ _ v u Q I rx ry ⟨a,b,xs,ys,rfl,rfl,ha,hb,c,hz,q1 c,λn p hp=>(q2 c n).at p hp⟩
end L2
namespace FL
section
open PySem PySem.Spec PyProof.Rows L2 PL
variable {K:Ab}
section
variable {a b c:lw}{w:W PV}
def addW:PV->PV->W PV
 | .int i,.int j=>.ret (.int (i+j))
 | .str a,.str b=>.fq (a.length+b.length<=sizeLine) (.ret (.str (a++b)))
 | .tup a,.tup b=>.fq (a.length+b.length<=sizeLine) (.ret (.tup (a++b)))
 | _,_=>.fail
def cm (hK:X.K=K) (ha:EF X K fs a wa) (hb:EF X K fs b wb):EF X K fs (.BinOp a .Add b pos) (.bind wa λx=>.bind wb λy=>addW x y):=
 ⟨PE.imp (IQ ((Rj K hK).or (Rh K hK)) ha.p hb.p) λσ H Q ⟨sr,q⟩=>⟨sr,wa.mono (λx q1 u1 H1 g1 s1 v1=>⟨s1,wb.mono (λy q2 u2 H2 g2 s2 v2=>by
  have Yk:=g2.vr s1 v1;cases Yk with
  | int i=>
   cases v2 with
   | int j=>exact .inl ⟨_,rfl,q2 _ H2 (g1.trans g2) s2 (.int _)⟩
   | _=>exact q2.elim
  | str i=>
   cases v2 with
   | str j=>exact .inl ⟨_,rfl,q2.1,q2.2 _ H2 (g1.trans g2) s2 (.str _)⟩
   | _=>exact q2.elim
  | @tup p vs l e r=>
   cases v2 with
   | @tup p' Mf l' e' r'=>
    refine .inr ⟨p,p',vs,Mf,rfl,rfl,d7.of e,d7.of e',by rw [r.length,r'.length];exact q2.1,λz=>?_,λ_ z=>?_,λ_ _ q H3 s3 h3 n3=>?_⟩
    ·have z':=(PL.aN.jL r).mp z;subst z';exact q2.2 _ H2 (g1.trans g2) s2 (.tup e' r')
    ·have z':=(PL.aN.jL r').mp z;subst z';have q2:=q2.2;rw [CV] at q2;exact q2 _ H2 (g1.trans g2) s2 (.tup e r)
    ·exact q2.2 _ H3 ((g1.trans g2).trans (c9.same s3)) (s2.same s3) (.tup h3 (aN.tk s3.e7 (r.append r')))
   | _=>exact q2.elim
  | _=>exact q2.elim) q1⟩) q⟩⟩
theorem lx:∀(l m:List PV),(f6 l m).length=min l.length m.length
 | [],m=>by rw [f6];simp;intros;simp_all
 | x::l,[]=>by rw [f6];simp;intros;simp_all
 | x::l,y::m=>by rw [f6,Ao,lx l m];simp only [Ao];omega
def mP (l m:List PV):W (List PV):=.fq (l.length<=sizeLine) (.ret (f6 l m))
def Tx (h:Xp K H u l):∃(b:Bool) (a:db) (vs:List V),u=.ref a/\aN K [] H vs l/\∀H',bD K H H'->L7 b K H' a vs:=by
 obtain⟨a,vs,e,h | h,r⟩:=h
 ·exact⟨true,a,vs,e,r,λH' t=>(t.f _ _ h).sq⟩
 ·exact⟨false,a,vs,e,r,λH' t=>d7.of (t.t _ _ h)⟩
theorem oJ (hK:X.K=K) (hg:Gl X "zip") (hm:X.mg "zip"=bv) (ha:IF X K fs a wl) (hb:IF X K fs b wm)
  (F1:ce [a,b] X.env=(false,kw a X.env)::ce [b] X.env:=by rfl) (qx:ce [b] X.env=(false,kw b X.env)::ce [] X.env:=by rfl) (dJ:(lm p2 (ce [b] X.env)).any (·.1)=false:=by rfl) :
  p0 X K fs (.Tuple Ò kk tp) (.Call (.Name "zip" p1) [a,b] [] p2) (.bind wl λl=>.bind wm λm=>mP l m):=
 ⟨PI.imp (Q2 K hK hg hm ha.p hb.p F1 qx dJ) λσ H R ⟨sr,q⟩=>⟨sr,wl.mono (λl q1 u1 H1 g1 s1 v1=>⟨s1,wm.mono (λm q2 u2 H2 g2 s2 v2=>by
  obtain⟨b1,a1,vs,rfl,r1,x1⟩:=Tx (v1.tk (g2.eK s1));obtain⟨b2,a2,ws,rfl,r2,x2⟩:=Tx v2;have tr:bD K H2 H2:=bD.refl H2;refine⟨b1,b2,a1,a2,rfl,rfl,⟨vs,x1 H2 tr⟩,⟨ws,x2 H2 tr⟩,q2.2 _ H2 (g1.trans g2) s2 ⟨by rw [lx];have:=q2.1;omega,λH' t=>⟨λi pp hp=>?_,vs,ws,x1 H' t,x2 H' t,?_⟩⟩⟩
  ·obtain⟨x,y,hx,hy,rfl⟩:=mQ hp;obtain⟨v,h3,h4⟩:=(aN.tk t r1).get hx;obtain⟨v',zg,WC⟩:=(aN.tk t r2).get hy;refine⟨⟨vs,ws,v,v',x1 H' t,x2 H' t,h3,zg⟩,λz H3 yl=>?_⟩;obtain⟨p,x',y',rfl,hn,rfl,e1,e2⟩:=yl;have e1:=e1 vs (x1 H' t);have e2:=e2 ws (x2 H' t);rw [h3] at e1;rw [zg] at e2;cases e1;cases e2;have sm:=kH hn (.tup [v,v']);exact⟨sm,.tup aP (.cons (VR.tk sm.e7 h4) (.cons (VR.tk sm.e7 WC) .nil))⟩
  ·rw [lx,r1.length,r2.length];omega) q1⟩) q⟩⟩
variable {el eh:Option lw}{lo:W (Option Int)}
def vU (x:PV) (i j:Option Int):W PV:=match x with
 | .tup l=>.ret (.tup (dZ l i j))
 | _=>.fail
def Ls {i j:Option Int} (h:HT.dR l.length 0 i=0/\HT.dR l.length l.length j=l.length):dZ l i j=l:=by
 unfold dZ;rw [h.1,h.2];simp
def sL (hK:X.K=K) (he:EF X K fs e w) (hl:OF X K fs el lo) (hh:OF X K fs eh hi):EF X K fs (.Subscript e (.Slice el eh bv p2) pos) (.bind w λx=>.bind lo λi=>.bind hi λj=>vU x i j):=⟨PE.imp (yK (QE K hK) he.p hl.p hh.p) λσ H Q ⟨sr,q⟩=>⟨sr,w.mono (λx q1 u1 H1 g1 s1 v1=>⟨s1,lo.mono (λi q2 H2 g2 s2=>⟨s2,hi.mono (λj q3 H3 g3 s3=>by
 have Yk:=g3.vr s2 (g2.vr s1 v1);have gg:=(g1.trans g2).trans g3;cases Yk with
 | @tup p vs l e r=>
  have Á:=r.length;refine⟨p,vs,rfl,d7.of e,λc=>?_,λc q H4 s4 h4 n4=>?_⟩
  ·rw [Á] at c;have q3:(bm (PV.tup (dZ l i j))).run _:=q3;rw [Ls c] at q3;exact q3 _ H3 gg s3 (.tup e r)
  ·exact q3 _ H4 (gg.trans (c9.same s4)) (s3.same s4) (.tup h4 (aN.tk s4.e7 (r.cut i j)))
 | _=>exact q3.elim) q2⟩) q1⟩) q⟩⟩
end
end
end FL
namespace L2
open PySem PySem.Spec PyProof.Rows
def MY (K:Ab) (C:List Int->Prop) (g:List Int->Int):List V->Hp->VK->Prop:=λxs H Q=>∃(p:db) (ns:List Int),xs=[.ref p]/\c6 K H p (ns.map V.int)/\C ns/\Q (.int (g ns)) H
section
def J1 {l:db}{vs:List ci} (hh:A.handled=bv) (hl:s.heap.IsList l vs.toArray) (hi:xz vs ns)
  (h:∀(h':r9) (t:Tok) tk,(∀b o,s.heap.get? b=ap o->h'.get? b=ap o)->Q (.int ns.sum t) {s with heap:=h',toks:=tk}):d5 (ev prog w) A (call (.builtin "sum") [.ref l]) Q E s:=by
 obtain⟨xs,e⟩:=hi.allInts.items;have Ā:ns=xs.toList.map (·.1):=by rw [<- hi.numsOf,<- nums_intItems,<- e]
 rw [e] at hl;refine sum_intListG hh hl λh' tk t' hk=>?_;have:=h h' t' tk hk;rw [preSum_eq,Cd (by simp),<- Ā];exact this
end
def LA {b:String}{C:List Int->Prop}{g:List Int->Int} (K:Ab) (hK:X.K=K) (hc:X.calm=true)
  (Ú:∀{s:dL}{l:db}{vs:List ci}{ns:List Int}{Q:ci->dL->Prop},X.A.handled=bv->s.heap.IsList l vs.toArray->xz vs ns->C ns->(∀(h':r9) (t:Tok) tk,(∀b o,s.heap.get? b=ap o->h'.get? b=ap o)->Q (.int (g ns) t) {s with heap:=h',toks:=tk})->d5 (ev X.prog X.w) X.A (call (.builtin b) [.ref l]) Q X.xe s):bR X (.builtin b) (MY K C g):=by
 subst hK;intro Z s σ H xs us Q I r h;obtain⟨p,ns,rfl,hq,hC,q⟩:=h;obtain⟨u,rfl,rx⟩:=vals1 r;cases rx;obtain⟨aw,r',pl,hz⟩:=I.list hq;exact Ú (I.ok.hd hc) pl.isList (intsAre_of r') hC λh' t tk hk=>⟨.int _,H,I.kept (t':=tk) hk,⟨t,rfl⟩,q⟩
end L2
variable {x:PL.PV}
namespace FL
section
open PySem PySem.Spec PyProof.Rows L2 PL
variable {K:Ab}
section
open Classical in
noncomputable def JI (K:Ab) (H:Hp) (x:PV) (w:ci):Bool:=decide (∃p v,RelV v w/\VR K [] H v p/\kj p x=true)
open Classical in
def OM (hK:X.K=K) (I:Inv X Z σ H s) {x p:PV}{v:V}{w:ci} (r:RelV v w) (h:VR K [] H v p):JI K H x w=kj p x:=by
 subst hK;cases e:kj p x with
 | true=>exact decide_eq_true ⟨p,v,r,h,e⟩
 | false=>
  refine decide_eq_false ?_;rintro⟨p',v',r',h',e'⟩;have:=MP r r';subst this;rw [VR.Ow I h h',e'] at e;cases e
theorem qB (hK:X.K=K) (I:Inv X Z σ H s):∀{vs:List V}{aw:List ci}{l:List PV},Vals vs aw->aN K [] H vs l->aw.map (JI K H x)=l.map λy=>kj y x
 | _,_,_,.nil,.nil=>rfl
 | _,_,_,.cons r t,.cons q z=>by rw [Au,Au,OM hK I r q,qB hK I t z]
def G5 (x:PV) (l:List PV):Prop:=PV.kf x=true/\fV l=true/\eJ l<=150
theorem oY (hK:X.K=K) (I:Inv X Z σ H s) {v:V}{w:ci} (hx:VR K [] H v x) (rx:RelV v w) (dx:PV.kf x=true) (hu:A.units+150+1 < pc) :
  ∀{vs:List V}{aw:List ci}{l:List PV},Vals vs aw->aN K [] H vs l->fV l=true->eJ l<=150->∀u∈aw,Dj A s u w (JI K H x u)
 | _,_,_,.nil,.nil,_,_,u,hu=>by cases hu
 | _,_,_,.cons r t,.cons q z,d,dd,u,hm=>by
  rw [fV,AO] at d;rw [eJ] at dd;rcases AA.mp hm with rfl | hm
  ·rw [OM hK I r q];exact (Xb hK I 150 _ x A _ v _ w ∅ d.1 dx q hx r rx hu).eq
  ·exact oY hK I hx rx dx hu t z d.2 ∅ u hm
end
def w4 (x:PV) (l:List PV):Bool:=l.any λy=>kj y x
def QP (K:Ab) (neg:Bool):R2:=λx y H Q=>∃p vs l xp,y=.ref p/\(c6 K H p vs\/d7 K H p vs)/\aN K [] H vs l/\VR K [] H x xp/\G5 xp l/\Q (.bl (if neg then !w4 xp l else w4 xp l)) H
section
theorem any_map' (f:α->Bool):∀l:List α,l.any f=(l.map f).any id
 | []=>rfl
 | x::l=>by rw [Cs,Au,Cs,any_map' f l];rfl
theorem VE (K:Ab) (hK:X.K=K) (hu:X.A.units+200 < pc):hZ X (mo .In) (QP K false):=by
 intro Z s σ H x y v u Q I rx ry h;obtain⟨p,vs,l,xp,rfl,hq,hl,hx,ok,q⟩:=h;cases ry;have Ww:X.A.in1.units+150+1 < pc:=by show X.A.units+1+150+1 < _;omega
 have fin:∀{aw:List ci},Vals vs aw->aw.toArray.any (JI K H xp)=w4 xp l:=λ{aw} r=>by
  rw [show aw.toArray.any (JI K H xp)=aw.any (JI K H xp) by simp,any_map',qB hK I r hl,<- any_map'];rfl
 rcases hq with hq | hq
 ·obtain⟨aw,r,pl,hz⟩:=I.list (show c6 X.K H p vs by rw [hK];exact hq);refine SeqAt.in_listAt (JI K H xp) pl.isList (λw hw=>oY hK I hx rx ok.1 Ww r hl ok.2.1 ok.2.2 w (by simpa using hw)) ⟨.bl _,H,I,rfl,?_⟩;rw [fin r];exact q
 ·obtain⟨aw,r,pl,hz⟩:=I.tuple (show d7 X.K H p vs by rw [hK];exact hq);refine SeqAt.in_tupleAt (JI K H xp) pl (λw hw=>oY hK I hx rx ok.1 Ww r hl ok.2.1 ok.2.2 w (by simpa using hw)) ⟨.bl _,H,I,rfl,?_⟩;rw [fin r];exact q
theorem Rc (K:Ab) (hK:X.K=K) (hu:X.A.units+200 < pc):hZ X (mo .NotIn) (QP K true):=by
 intro Z s σ H x y v u Q I rx ry h;obtain⟨p,vs,l,xp,rfl,hq,hl,hx,ok,q⟩:=h;cases ry;have Ww:X.A.in1.units+150+1 < pc:=by show X.A.units+1+150+1 < _;omega
 have fin:∀{aw:List ci},Vals vs aw->aw.toArray.any (JI K H xp)=w4 xp l:=λ{aw} r=>by
  rw [show aw.toArray.any (JI K H xp)=aw.any (JI K H xp) by simp,any_map',qB hK I r hl,<- any_map'];rfl
 rcases hq with hq | hq
 ·obtain⟨aw,r,pl,hz⟩:=I.list (show c6 X.K H p vs by rw [hK];exact hq);refine SeqAt.notIn_listAt (JI K H xp) pl.isList (λw hw=>oY hK I hx rx ok.1 Ww r hl ok.2.1 ok.2.2 w (by simpa using hw)) ⟨.bl _,H,I,rfl,?_⟩;rw [fin r];exact q
 ·obtain⟨aw,r,pl,hz⟩:=I.tuple (show d7 X.K H p vs by rw [hK];exact hq);refine SeqAt.notIn_tupleAt (JI K H xp) pl (λw hw=>oY hK I hx rx ok.1 Ww r hl ok.2.1 ok.2.2 w (by simpa using hw)) ⟨.bl _,H,I,rfl,?_⟩;rw [fin r];exact q
def W9 (x:PV) (l:List PV):Nat:=l.countP λy=>kj y x
theorem countP_map (f:α->Bool):∀l:List α,l.countP f=(l.map f).countP id
 | []=>rfl
 | x::l=>by rw [Au,Dr,Dr,countP_map f l];rfl
def Y4 (K:Ab):V->List V->Hp->VK->Prop:=λx us H Q=>∃p vs l y q,x=.ref p/\us=[y]/\c6 K H p vs/\aN K [] H vs l/\VR K [] H y q/\G5 q l/\Q (.int (W9 q l)) H
theorem Ry (K:Ab) (hK:X.K=K) (hu:X.A.units+200 < pc):LR X "list.count" (Y4 K):=by
 intro Z s σ H x vs v us Q I rx rv h;obtain⟨p,ws,l,y,q,rfl,rfl,hq,hl,hy,ok,qq⟩:=h;cases rx;obtain⟨u,rfl,ru⟩:=rv.one;have Ww:X.A.in1.units+150+1 < pc:=by show X.A.units+1+150+1 < _;omega
 obtain⟨aw,r,⟨⟨cls,dd,data,sl⟩,n,ho,hc,hd,kZ⟩,hz⟩:=I.list (show c6 X.K H p ws by rw [hK];exact hq);simp only at hc hd kZ;subst hc hd kZ;refine wS F.slot_list_count ⟨_,ho,rfl⟩ F.entry_list_count (F.args_list_count_2 _ _) (SeqAt.list_countAt p aw.toArray n bv sl u (JI K H q)) ⟨ho,?_,?_⟩
 ·intro w hw;exact oY hK I hy ru ok.1 Ww r hl ok.2.1 ok.2.2 w (by simpa using hw)
 ·refine⟨.int _,H,I.tok _,⟨s.toks,?_⟩,qq⟩;rw [show aw.toArray.toList=aw from rfl,countP_map,qB hK I r hl,<- countP_map];rfl
end
end
end FL
variable {Q:PL.PV->Prop}
namespace FL
section
open PySem PySem.Spec PyProof.Rows L2 PL
variable {K:Ab}
section
variable {a b c:lw}{w:W PV}
def rX (neg:Bool) (x:PV) (l:List PV):W Bool:=.fq (G5 x l) (.ret (if neg then !w4 x l else w4 x l))
def blW (b:Bool):W PV:=.ret (.bl b)
def WN:∀σ H Q,fE K fs (.bind wa λx=>.bind wl λl=>.bind (rX neg x l) blW) σ H Q->Tu (QP K neg) (fE K fs wa) (fQ K fs wl) σ H Q:=λσ H Q ⟨sr,q⟩=>
 ⟨sr,wa.mono (λx q1 u1 H1 g1 s1 v1=>⟨s1,wl.mono (λl q2 u2 H2 g2 s2 v2=>by
  obtain⟨ad,vs,rfl,h,rs⟩:=v2.sq s2;exact⟨ad,vs,l,x,rfl,h,rs,g2.vr s1 v1,q2.1,q2.2 _ H2 (g1.trans g2) s2 (.bl _)⟩) q1⟩) q⟩
def WM:∀σ H Q,fT K fs (.bind wa λx=>.bind wl λl=>rX neg x l) σ H Q->Tu (QP K neg) (fE K fs wa) (fQ K fs wl) σ H λx H'=>∃k,x=.bl k/\Q k H':=λσ H Q ⟨sr,q⟩=>
 ⟨sr,wa.mono (λx q1 u1 H1 g1 s1 v1=>⟨s1,wl.mono (λl q2 u2 H2 g2 s2 v2=>by
  obtain⟨ad,vs,rfl,h,rs⟩:=v2.sq s2;exact⟨ad,vs,l,x,rfl,h,rs,g2.vr s1 v1,q2.1,_,rfl,q2.2 H2 (g1.trans g2) s2⟩) q1⟩) q⟩
def Uq (hK:X.K=K) (hu:X.A.units+200 < pc) (ha:EF X K fs a wa) (hb:QF X K fs b wl) (hk:nw .In b=false:=by rfl):EF X K fs (.Compare a [.In] [b] pos) (.bind wa λx=>.bind wl λl=>.bind (rX false x l) blW):=⟨PE.imp (qg (VE K hK hu) ha.p hb.p hk) (WN (neg:=false))⟩
def vJ (hK:X.K=K) (hu:X.A.units+200 < pc) (ha:EF X K fs a wa) (hb:QF X K fs b wl) (hk:nw .NotIn b=false:=by rfl):TF X K fs (.Compare a [.NotIn] [b] pos) (.bind wa λx=>.bind wl λl=>rX true x l):=⟨PT.imp (qe (Rc K hK hu) ha.p hb.p hk) (WM (neg:=true))⟩
abbrev ZN (neg:Bool) (wa:W PV) (wl:W (List PV)):W PV:=.bind wa λx=>.bind wl λl=>.bind (rX neg x l) blW
abbrev R0 (neg:Bool) (wa:W PV) (wl:W (List PV)):W Bool:=.bind wa λx=>.bind wl λl=>rX neg x l
def sumLW (l:List PV):W PV:=.bind (pA l) λns=>.ret (.int ns.sum)
def KH {C:List Int->Prop}{g:List Int->Int}{f:List PV->W PV} (hf:∀{l:List PV}{Q:PV->Prop},(f l).run Q->∃ns:List Int,l=ns.map PV.int/\C ns/\Q (.int (g ns))):∀σ H Q,fE K fs (.bind wl f) σ H Q->tCB (MY K C g) (Tv (fQL K fs wl) Yv) σ H Q:=λσ H Q ⟨sr,q⟩=>⟨sr,wl.mono (λl q1 u1 H1 g1 s1 _ v1=>by
 obtain⟨ns,el,hC,q2⟩:=hf q1;obtain⟨a,vs,rfl,h1,r1⟩:=v1 H1 .refl s1;rw [el] at r1;have:=lM r1;subst this;exact⟨a,ns,rfl,h1,hC,q2 _ H1 g1 s1 (.int _)⟩) q⟩
def J4 (h:(sumLW l).run Q):∃ns:List Int,l=ns.map PV.int/\True/\Q (.int ns.sum):=let ⟨ns,e,q⟩:=lN h;⟨ns,e,trivial,q⟩
def OT (hK:X.K=K) (hc:X.calm=true) (hg:Gl X "sum") (hm:X.mg "sum"=bv) (ha:yd X K fs e wl) (he:ce [e] X.env=(false,kw e X.env)::ce [] X.env:=by rfl) (dJ:(lm pos (ce [] X.env)).any (·.1)=false:=by rfl):EF X K fs (.Call (.Name "sum" p) [e] [] pos) (.bind wl sumLW):=⟨PE.imp (eO (LA (C:=λ_=>True) (g:=λns=>ns.sum) K hK hc λa b c _ q=>J1 a b c q) hg hm (show pr "sum"=ap (.builtin "sum") by rfl) (bp ha.p cG he) ⋯ ⋯ he dJ) (KH J4)⟩
def sortI (ns:List Int):List Int:=ns.mergeSort (λa b=>decide (a<=b))
theorem Mw (h1:ms.Perm ns) (h2:ms.Pairwise (·<=·)):ms=sortI ns:=by
 have h3:(sortI ns).Perm ns:=CP ns _;have h4:(sortI ns).Pairwise (λa b=>decide (a<=b)=true):=Ez (λa b c=>by simp;omega) (λa b=>by simp;omega) ns;exact List.Perm.eq_of_pairwise (le:=λa b=>a<=b) (λa b _ _ h h'=>Int.le_antisymm h h') h2 (h4.imp (by simp)) (h1.trans h3.symm)
def vR (l:List PV):W (List PV):=.bind (pA l) λns=>.fq (ns.length < 64) (.ret ((sortI ns).map PV.int))
def RG (hK:X.K=K) (hg:Gl X "sorted") (hm:X.mg "sorted"=bv) (ha:yd X K fs e wl) (he:ce [e] X.env=(false,kw e X.env)::ce [] X.env:=by rfl) (dJ:(lm pos (ce [] X.env)).any (·.1)=false:=by rfl):LF X K fs (.Call (.Name "sorted" p) [e] [] pos) (.bind wl vR):=⟨PE.imp (eO (HK K hK) hg hm boot_sorted (bp ha.p cG he) ⋯ ⋯ he dJ) λσ H Q ⟨sr,q⟩=>⟨sr,wl.mono (λl q1 u1 H1 g1 s1 _ v1=>by
 obtain⟨ns,el,hC,q2⟩:=lN (l:=l) q1;obtain⟨a,vs,rfl,h1,r1⟩:=v1 H1 .refl s1;rw [el] at r1;have:=lM r1;subst this;refine⟨a,ns,rfl,h1,hC,λms a2 a3=>?_⟩;rw [Mw a2 a3];exact yW g1 s1 (nC _ _ _) q2) q⟩⟩
def SR (l:List PV) (x:PV):W PV:=.fq (G5 x l) (.ret (.int (W9 x l)))
def SD (hK:X.K=K) (hu:X.A.units+200 < pc) (ho:yd X K fs o wl) (he:EF X K fs e w)
  (eV:sw o "count" X.env (kw o X.env)=kw o X.env:=by rfl)
  (oQ:((lm bK (ce [e] X.env)).all (λx=>!x.1)&&(GE bK (Db [] X.env)).all (λx=>x.1.isSome)
   && decide ([e].length+([]:List ww).length+(if ([]:List ww).isEmpty then 0 else 1) < 30))=true:=by rfl)
  (eU:(Â.endLine==bK.line)=true:=by rfl) (tF:ce [e] X.env=(false,kw e X.env)::ce [] X.env:=by rfl) (fo:(lm bK (ce [] X.env)).any (·.1)=false:=by rfl) :
  EF X K fs (.Call (.Attribute o "count" Â) [e] [] bK) (.bind wl λl=>.bind w λx=>SR l x):=
 ⟨PE.imp (rm K hK BM PySem.F.slot_list_count PySem.F.type_list_count (Ry K hK hu) ho.p (bp he.p cG tF) eV oQ eU tF fo) λσ H Q ⟨sr,q⟩=>⟨sr,wl.mono (λl q1 u1 H1 g1 s1 _ v1=>by
  obtain⟨a,vs,eu,h1,_⟩:=v1 H1 .refl s1;subst eu;refine⟨.inl ⟨rfl,_,h1⟩,s1,w.mono (λx q2 u2 H2 g2 s2 v2=>?_) q1⟩
  ·obtain⟨a',vs,ea,h2,r2⟩:=v1 H2 g2 s2;cases ea;exact⟨a,vs,l,u2,x,rfl,rfl,h2,r2,v2,q2.1,q2.2 _ H2 (g1.trans g2) s2 (.int _)⟩) q⟩⟩
end
end
end FL
variable {x:Bool}
namespace FL
section
open PySem PySem.Spec PyProof.Rows L2 PL
variable {K:Ab}
section
variable {rest:List u8}{T:Type}{out:T->End}
def Wo (l:List PV):PV->W PV
 | .int k=>.fq (0<=k/\k < 1000) (.wu l[k.toNat]?)
 | _=>.fail
def SF.aer (i:Nat) {M:M2}{k:List PV->W T} (hs:fs[i]?=ap (ap (.ol q0 l))) (hK:X.K=K) (hN:X.N[i]?=ap y) (hv:tH X.env.scope y) (hi:EF X K fs ei wi) (he:EF X K fs e we) (ho:X7 X op ti) (hM:M2.Ok K ti M) (hr:∀l',SF X K x (fs.set i (ap (.ol q0 l'))) rest (k l') out)
  (hd:(y==("__debug__":Str))=false:=by decide) (hJ:(y==("__classdict__":Str))=false:=by decide)
  (ha:∀ov iv new,augStore ei ov iv new=(do sB [new,ov,iv] (Ev ov iv new);release [new,ov,iv] [];pure .next):=by intros;rfl) :
  SF X K x fs (.AugAssign (.Subscript (.Name y p) ei fH) op e pos::rest) (.bind wi λn=>.bind (Wo l n) λg=>.bind we λv=>.bind (of2 M g v) λr=>.bind (f7 l n r) k) out:=
 SF.step (IK (cV hN hv hd hJ) hi.p (Om K hK) he.p ho oq ha) λD σ H ⟨sr,q⟩=>by
  obtain⟨a,ws,e1,h1,r1⟩:=dc sr hs;refine⟨_,e1,sr,wi.mono (λn q1 u1 H1 g1 s1 v1=>?_) q⟩;obtain⟨a',ws1,kl,gs,tw⟩:=dc s1 hs;rw [e1] at kl;cases kl;cases v1 with
  | int kk=>
   have q1:(0<=kk/\kk < 1000)/\(W.wu l[kk.toNat]?).run _:=q1;obtain⟨⟨b1,b2⟩,q1⟩:=q1;cases hg:l[kk.toNat]? with
   | none=>rw [hg] at q1;exact q1.elim
   | some g=>
    rw [hg] at q1;obtain⟨u,hu,ru⟩:=tw.get hg;refine⟨a,ws1,kk,u,rfl,rfl,c6.of gs,b1,b2,hu,s1,we.mono (λv q2 u2 H2 g2 s2 v2=>?_) q1⟩;refine oD hM s2 (g2.vr s1 ru) v2 ((of2 M g v).mono (λr q3 u3 H3 g3 s3 v3=>?_) q2);obtain⟨a',Yj,O7,zg,M4⟩:=dc s3 hs;rw [e1] at O7;cases O7;have q3:(match nA l.length kk with | some j=>bm (l.set j r) | none=>W.fail).run _:=q3;cases hj:nA l.length kk with
    | none=>rw [hj] at q3;exact q3.elim
    | some j=>
     rw [hj] at q3;refine⟨a,Yj,kk,j,rfl,rfl,zg,by rw [M4.length];exact hj,λH4 sx h4=>?_⟩;obtain⟨s4,g4⟩:=jI s3 hs e1 sx h4 (M4.set v3 j);exact⟨_,k _,hr _,s4,(k _).mono (λt q4=>q4.go (((g1.trans g2).trans g3).f.trans g4) sr s4) q3⟩
  | _=>exact q1.elim
def QD (l:List PV) (i j:PV) (m:List PV):W (List PV):=match i,j with
 | .int a,.int c=>.fq (0<=a/\a<=c/\c<=l.length/\l.length+m.length<=sizeLine) (.ret (l.take a.toNat++m++l.drop c.toNat))
 | _,_=>.fail
def SF.YL (i:Nat) {lo hi:lw}{k:List PV->W T} (hs:fs[i]?=ap (ap (.ol q0 l))) (hN:X.N[i]?=ap y) (hv:tH X.env.scope y) (he:LF X K fs e wl) (hl:EF X K fs lo wa) (hh:EF X K fs hi wb) (hr:∀l',SF X K x (fs.set i (ap (.ol q0 l'))) rest (k l') out)
  (ha:∀v,Da (.Subscript (.Name y p) (.Slice (ap lo) (ap hi) bv p2) fH) X.env v=(do
   let ov <- sB [v] (kw (.Name y p) X.env)
   let iv <- sB [v,ov] (kw (.Slice (ap lo) (ap hi) bv p2) X.env)
   GT fH
   sB [v,ov,iv] (Ev ov iv v)
   release [iv,v,ov] []):=by intro _;rfl)
  (hd:(y==("__debug__":Str))=false:=by decide) (hJ:(y==("__classdict__":Str))=false:=by decide)
  (ZZ:xL [.Subscript (.Name y p) (.Slice (ap lo) (ap hi) bv p2) fH] e pos.line X.env=pure false:=by rfl) (hw:zn [.Subscript (.Name y p) (.Slice (ap lo) (ap hi) bv p2) fH] e X.env=pure bv:=by rfl)
  (h1:(wT [.Subscript (.Name y p) (.Slice (ap lo) (ap hi) bv p2) fH] X.env).map (·.2)=[Da (.Subscript (.Name y p) (.Slice (ap lo) (ap hi) bv p2) fH) X.env]:=by rfl) :
  SF X K x fs (.Assign [.Subscript (.Name y p) (.Slice (ap lo) (ap hi) bv p2) fH] e pos::rest) (.bind wl λm=>.bind wa λa=>.bind wb λb=>.bind (QD l a b m) k) out:=
 SF.step (v9 he.p (Nf (cV hN hv hd hJ) hl.p hh.p ha) ZZ hw h1) λD σ H ⟨sr,q⟩=>by
  refine⟨sr,wl.mono (λm q1 b vb H1 g1 s1 nb eb rb=>?_) q⟩;obtain⟨a,ws,e1,h1,r1⟩:=dc s1 hs;refine⟨_,e1,s1,wa.mono (λi1 q2 u2 H2 g2 s2 v2=>⟨s2,wb.mono (λj1 q3 u3 H3 g3 s3 v3=>?_) q2⟩) q1⟩;obtain⟨a',Yj,O7,zg,M4⟩:=dc s3 hs;rw [e1] at O7;cases O7;have Ċ:=g3.vr s2 v2;have no:¬dH σ fs b:=sr.noOwn nb;have eb3:=(g2.trans g3).pz eb no;have rb3:=(g2.trans g3).LV s1 rb;have ne:a≠b:=λz=>no ⟨i,_,a,hs,rfl,e1,.inl z.symm⟩;cases Ċ with
  | int aa=>
   cases v3 with
   | int cc=>
    have q3:(0<=aa/\aa<=cc/\cc<=l.length/\l.length+m.length<=sizeLine)/\(k (l.take aa.toNat++m++l.drop cc.toNat)).run _:=q3;obtain⟨⟨c1,c2,c3,c4⟩,q3⟩:=q3;refine⟨a,b,Yj,vb,aa,cc,rfl,rfl,rfl,rfl,zg,eb3,ne,c1,c2,by rw [M4.length];exact c3,by rw [M4.length,rb3.length];exact c4,?_⟩;have sx:oe a H3 (upd H3 a (.lst (Yj.take aa.toNat++vb++Yj.drop cc.toNat))):=λz o n hz=>by rw [aB n];exact hz
    obtain⟨s4,g4⟩:=jI s3 hs e1 sx aP (((M4.take aa.toNat).append rb3).append (M4.drop cc.toNat));exact⟨_,k _,hr _,s4,(k _).mono (λt q4=>q4.go (((g1.trans g2).trans g3).f.trans g4) sr s4) q3⟩
   | _=>exact q3.elim
  | _=>exact q3.elim
def U7 (l:List PV) (v:PV):W (List PV):=match v with
 | .int k=>.bind (pA l) λns=>.fq (k∈ns) (.ret ((ns.erase k).map PV.int))
 | _=>.fail
theorem SF.remove (i:Nat) {k:List PV->W T} (hs:fs[i]?=ap (ap (.ol q0 l))) (hK:X.K=K) (hN:X.N[i]?=ap y) (hv:tH X.env.scope y) (he:EF X K fs e we) (hr:∀l',SF X K x (fs.set i (ap (.ol q0 l'))) rest (k l') out)
  (hd:(y==("__debug__":Str))=false:=by decide) (hJ:(y==("__classdict__":Str))=false:=by decide) (eV:sw (.Name y p) "remove" X.env (kw (.Name y p) X.env)=kw (.Name y p) X.env:=by rfl)
  (oQ:((lm bK (ce [e] X.env)).all (λx=>!x.1)&&(GE bK (Db [] X.env)).all (λx=>x.1.isSome)
   && decide ([e].length+([]:List ww).length+(if ([]:List ww).isEmpty then 0 else 1) < 30))=true:=by rfl)
  (eU:(Â.endLine==bK.line)=true:=by rfl) (tF:ce [e] X.env=(false,kw e X.env)::ce [] X.env:=by rfl) (fo:(lm bK (ce [] X.env)).any (·.1)=false:=by rfl)
  (pP:nn (.Call (.Attribute (.Name y p) "remove" Â) [e] [] bK) bv pos.line X.env=pure false:=by rfl) :
  SF X K x fs (.Expr (.Call (.Attribute (.Name y p) "remove" Â) [e] [] bK) pos::rest) (.bind we λv=>.bind (U7 l v) k) out:=
 SF.step (m5 (rm K hK BM PySem.F.slot_list_remove PySem.F.type_list_remove GD (cV hN hv hd hJ) (bp he.p cG tF) eV oQ eU tF fo) pP) λD σ H ⟨sr,q⟩=>by
  obtain⟨a,ws,e1,h1,r1⟩:=dc sr hs;refine⟨_,e1,.inl ⟨rfl,_,c6.of h1⟩,sr,we.mono (λv q1 u H1 g1 s1 v1=>?_) q⟩;obtain⟨a',pI,kl,gs,tw⟩:=dc s1 hs;rw [e1] at kl;cases kl;cases v1 with
  | int kk=>
   obtain⟨ns,el,hk,q2⟩:=lN (l:=l) q1;subst el;have:=lM tw;subst this;refine⟨a,ns,kk,rfl,rfl,gs,hk,λH2 sx h2=>?_⟩;obtain⟨s2,g2⟩:=jI s1 hs e1 sx h2 (nC _ _ (ns.erase kk));exact⟨_,k _,hr _,s2,(k _).mono (λt q3=>q3.go (g1.f.trans g2) sr s2) q2⟩
  | _=>exact q1.elim
end
end
end FL
variable {vs:List (L2.Key×L2.V)}{kvs:List (L2.Key×PL.PV)}{q:L2.Key×PL.PV}
namespace FL
section
open PySem PySem.Spec PyProof.Rows L2 PL
variable {K:Ab}
abbrev w2 (f:PV->PV->W PV) (wa wb:W PV):W PV:=.bind wa λx=>.bind wb λy=>f x y
structure Xw (P:ul) (w:wv) (K:Ab) (mg:Str->Option ci) (base:r9) (f:db) (k:Nat) (ps:List Str) (sp:Sp) where
 fd:FS
 ok:fu P w K mg base km k f fd ps sp
 bi:Binds K fd ps []
 kp:CI K (.ref f)=true
section
variable {x:Str}{R:Type}{B:(List PV->W R)->W R}{fa:db}
def aet (hg:Gl X x) (hm:X.mg x=ap (.ref fa)) (hr:AF X K fs es ks B) (hd:(x==("__debug__":Str))=false:=by decide) (tF:ce (.Name x pos::es) X.env=(false,kw (.Name x pos) X.env)::ce es X.env:=by rfl):AF X K fs (.Name x pos::es) (.f fa::ks) B:=by
 obtain⟨wr,hp,hB⟩:=hr.p;refine⟨wr,PA.imp (bp (qf (v:=.ref fa) hg hm rfl hd) hp tF) λσ H Q ⟨sr,q⟩=>?_,hB⟩;exact⟨sr,wr.mono (λl q2 vs H2 g2 s2 v2=>q2 _ H2 g2 s2 (.f v2)) q⟩
def SH {B:(List PV->W PV)->W PV} (i:Nat) (G:Xw X.prog X.w X.K X.mg X.base fa k ps (d8 K ks m)) (hr:c7 k' X.A) (hk:k<=k') (hs:fs[i]?=ap (ap (.adr fa))) (ha:AF X K fs (e::es) ks B) (hW:W'=B m) (hN:X.N[i]?=ap x:=by rfl) (hv:tH X.env.scope x:=by first | exact Ci rfl | exact Cc (Ci rfl) | exact Cc (Cc rfl)) (hd:(x==("__debug__":Str))=false:=by decide) (hJ:(x==("__classdict__":Str))=false:=by decide)
  (he:ce (e::es) X.env=(false,kw e X.env)::ce es X.env:=by rfl) (dJ:(lm pos (ce es X.env)).any (·.1)=false:=by rfl):EF X K fs (.Call (.Name x p) (e::es) [] pos) W':=by
 subst hW;obtain⟨w,hp,hB⟩:=ha.p;rw [hB];refine⟨PE.imp (Nl (dvs:=[]) (ds:=[]) (E:=E0) G.ok (hr.mono hk) (cV hN hv hd hJ) G.kp G.bi .nil TQ hp he dJ) λσ H Q ⟨sr,q⟩=>?_⟩;obtain⟨u,e1,r⟩:=sr.at' i _ hs;rcases r with⟨v,e,_⟩ | ⟨a,e,r⟩
 ·cases e
 ·have r:a=fa:=r;subst r;subst e;refine⟨_,e1,rfl,sr,w.mono (λl q1 vs H1 g1 s1 v1=>?_) q⟩;show d8 K ks m (vs++[]) H1 Q E0;rw [CV];exact⟨l,v1.c s1,(m l).mono (λz q2 u H2 g2 r2=>let ⟨s2,g3⟩:=g2.caller v1 s1;q2 u H2 (g1.trans g3) s2 r2) q1⟩
end
def oI:PV->W Key
 | .int i=>.ret (.inl i)
 | .str s=>.ret (.inr s)
 | _=>.fail
def oS (kvs:List (Key×PV)) (k:Key):Bool:=kvs.any λkv=>decide (kv.1=k)
def gz (kvs:List (Key×PV)) (k:Key):Option PV:=(kvs.find? λkv=>decide (kv.1=k)).map (·.2)
def putP (kvs:List (Key×PV)) (k:Key) (v:PV):List (Key×PV):=if oS kvs k=true then kvs.map (λkv=>if kv.1=k then (kv.1,v) else kv) else kvs++[(k,v)]
def da (K:Ab) (H:Hp) (vs:List (Key×V)) (kvs:List (Key×PV)):Prop:=vs.map (·.1)=kvs.map (·.1)/\aN K [] H (vs.map (·.2)) (kvs.map (·.2))
section
def da.cons_inv {p:Key×V} (h:da K H (p::vs) (q::kvs)):p.1=q.1/\VR K [] H p.2 q.2/\da K H vs kvs:=by
 obtain⟨h1,h2⟩:=h;injection h1 with a b;cases h2 with
 | cons r t=>exact⟨a,r,b,t⟩
def da.mk {p:Key×V} (e:p.1=q.1) (r:VR K [] H p.2 q.2) (h:da K H vs kvs):da K H (p::vs) (q::kvs):=⟨by rw [Au,Au,e,h.1],.cons r h.2⟩
theorem da.ind {C:List (Key×V)->List (Key×PV)->Prop} (h0:C [] []) (h1:∀p q vs kvs,p.1=q.1->VR K [] H p.2 q.2->da K H vs kvs->C vs kvs->C (p::vs) (q::kvs)):∀{vs kvs},da K H vs kvs->C vs kvs
 | [],[],_=>h0
 | [],_::_,h=>by simp [da] at h
 | _::_,[],h=>by simp [da] at h
 | p::vs,q::kvs,h=>let ⟨a,b,c⟩:=h.cons_inv;h1 p q vs kvs a b c (da.ind h0 h1 c)
def da.has (h:da K H vs kvs) (k:Key):(iE vs k).isSome=oS kvs k:=by
 rw [<- mS];refine da.ind (C:=λvs kvs=>(vs.any λkv=>decide (kv.1=k))=kvs.any λkv=>decide (kv.1=k)) rfl (λp q vs kvs e _ _ ih=>?_) h;rw [Cs,Cs,ih,e]
def da.get (h:da K H vs kvs) (k:Key) (g:gz kvs k=ap v):∃u,iE vs k=ap u/\VR K [] H u v:=by
 refine da.ind (C:=λvs kvs=>gz kvs k=ap v->∃u,iE vs k=ap u/\VR K [] H u v) (λg=>by simp [gz] at g) (λp q vs kvs e r _ ih g=>?_) h g;by_cases c:p.1=k
 ·rw [ku c];have c':=e▸c;have:gz (q::kvs) k=ap q.2:=by simp [gz,BJ,c']
  rw [this] at g;cases g;exact⟨_,rfl,r⟩
 ·rw [kz c];have c':=e▸c;have:gz (q::kvs) k=gz kvs k:=by simp [gz,BJ,c']
  exact ih (this▸g)
def da.put (h:da K H vs kvs) (k:Key) (r:VR K [] H u v):da K H (putK vs k u) (putP kvs k v):=by
 have hh:(vs.any λkv=>decide (kv.1=k))=oS kvs k:=by rw [mS];exact h.has k
 unfold putK putP;rw [hh]
 split
 ·refine da.ind (C:=λvs kvs=>da K H (vs.map λkv=>if kv.1=k then (kv.1,u) else kv) (kvs.map λkv=>if kv.1=k then (kv.1,v) else kv)) ⟨rfl,.nil⟩ (λp q vs kvs e rr _ ih=>?_) h;rw [Au,Au];by_cases c:p.1=k
  ·rw [if_pos c,if_pos (e▸c)];exact da.mk e r ih
  ·rw [if_neg c,if_neg (e▸c)];exact da.mk e rr ih
 ·refine da.ind (C:=λvs kvs=>da K H (vs++[(k,u)]) (kvs++[(k,v)])) ⟨rfl,.cons r .nil⟩ (λp q vs kvs e rr _ ih=>da.mk e rr ih) h
def da.length (h:da K H vs kvs):vs.length=kvs.length:=by
 have:=congrArg BV h.1;simpa using this
end
section
variable {a:lw}{rest:List u8}{T:Type}{out:T->End}
def ir (sr:a8 K H σ fs) (hs:fs[i]?=ap (ap (.od kvs))):∃a vs,σ[i]?=ap (ap (.ref a))/\H a=ap (.dK vs)/\da K H vs kvs:=by
 obtain⟨u,e1,r⟩:=sr.at' i _ hs;rcases r with⟨v,e,_⟩ | ⟨a,e,vs,q1,q2,q3⟩
 ·cases e
 ·subst e;exact⟨a,vs,e1,q1,q2,q3⟩
def SF.acM {k:W T} (hN:X.N.Nodup) (hi:X.N[i]?=ap y) (hx:Loc X.env.scope y) (hr:SF X K x (fs.set i (ap (.od []))) rest k out) (hs:nn (.Dict [] [] p2) (ap (.Name y p')) pos.line X.env=pure false:=by rfl)
  (hf:X.fn y=true\/X.env.scope.names.lookup y=ap .local:=by first | exact .inl rfl | exact .inr rfl | assumption):SF X K x fs (.Assign [.Name y p'] (.Dict [] [] p2) pos::rest) k out:=SF.step (oz hN hi hx Nj hs hf) λD σ H ⟨sr,q⟩=>λa H1 s1 e1 n1=>by
 have no:=sr.noOwn n1;have s2:=(sr.same s1).oy (t:=.od []) ⟨[],e1,rfl,.nil⟩ no i;exact⟨_,k,hr,s2,k.mono (λt q2=>q2.go (cE.oy (sr.same s1) (cE.same s1 sr) no n1 i) sr s2) q⟩
def Jj {Q:Key->Prop} (r:VR K [] H u v) (q:(oI v).run Q):∃k,u=kV k/\Q k:=by
 cases r with
 | int i=>exact⟨.inl i,rfl,q⟩
 | str s=>exact⟨.inr s,rfl,q⟩
 | _=>exact q.elim
def RZ (i:Nat) (hs:fs[i]?=ap (ap (.od kvs))) (hN:X.N[i]?=ap y):∀σ H Q,fT K fs (.bind wa λx=>.bind (oI x) λk=>.ret (if neg then !oS kvs k else oS kvs k)) σ H Q->(fE K fs wa) σ H λu H1=>(Yr i) σ H1 λz H2=>∃a o,z=.ref a/\o9 H2 a u o/\(∃b,(V.bl (if neg then !o.isSome else o.isSome))=.bl b/\Q b H2):=λσ H Q ⟨sr,q⟩=>
 ⟨sr,wa.mono (λv q1 u H1 g1 s1 v1=>by
  obtain⟨k,rfl,q2⟩:=Jj v1 q1;obtain⟨a,vs,e1,h1,r1⟩:=ir s1 hs;refine⟨_,e1,a,_,rfl,o9.k h1,_,rfl,?_⟩;rw [r1.has k];exact q2 H1 g1 s1) q⟩
theorem Yp (i:Nat) (hs:fs[i]?=ap (ap (.od kvs))) (hu:X.A.units+200 < pc) (ha:EF X K fs a wa) (hN:X.N[i]?=ap y:=by rfl) (hv:tH X.env.scope y:=by first | exact Ci rfl | exact Cc (Ci rfl) | exact Cc (Cc rfl)) (hd:(y==("__debug__":Str))=false:=by decide) (hJ:(y==("__classdict__":Str))=false:=by decide) (hk:nw .In (.Name y p)=false:=by rfl) :
  TF X K fs (.Compare a [.In] [.Name y p] pos) (.bind wa λx=>.bind (oI x) λk=>.ret (oS kvs k)):=⟨PT.imp (Vl (Vx ∅ ha.p (cV hN hv hd hJ)) hk) (RZ (neg:=false) i hs hN)⟩
theorem HB (i:Nat) (hs:fs[i]?=ap (ap (.od kvs))) (hu:X.A.units+200 < pc) (ha:EF X K fs a wa) (hN:X.N[i]?=ap y:=by rfl) (hv:tH X.env.scope y:=by first | exact Ci rfl | exact Cc (Ci rfl) | exact Cc (Cc rfl)) (hd:(y==("__debug__":Str))=false:=by decide) (hJ:(y==("__classdict__":Str))=false:=by decide) (hsl:Ta a) :
  EF X K fs (.Subscript (.Name y p) a pos) (.bind wa λx=>.bind (oI x) λk=>.wu (gz kvs k)):=⟨PE.imp (IU ∅ (cV hN hv hd hJ) ha.p hsl) λσ H Q ⟨sr,q⟩=>by
 obtain⟨a,vs,e1,h1,r1⟩:=ir sr hs;refine⟨_,e1,sr,wa.mono (λv q1 u H1 g1 s1 v1=>?_) q⟩;obtain⟨k,rfl,q2⟩:=Jj v1 q1;have q2:(W.wu (gz kvs k)).run _:=q2;obtain⟨a',Mf,kl,gs,tw⟩:=ir s1 hs;rw [e1] at kl;cases kl;cases hg:gz kvs k with
 | none=>rw [hg] at q2;exact q2.elim
 | some z=>
  rw [hg] at q2;obtain⟨u,k1,k2⟩:=tw.get k hg;exact⟨a,u,rfl,by rw [<- k1];exact o9.k gs,q2 u H1 g1 s1 k2⟩⟩
def Vj (kvs:List (Key×PV)) (n v:PV):W (List (Key×PV)):=.bind (oI n) λkk=>.fq (kvs.length < sizeLine) (.ret (putP kvs kk v))
theorem SF.putD (i:Nat) {k:List (Key×PV)->W T} (hs:fs[i]?=ap (ap (.od kvs))) (hu:X.A.units+200 < pc) (hN:X.N[i]?=ap y) (hv:tH X.env.scope y) (he:EF X K fs e we) (hi:EF X K fs ei wi) (hr:∀l',SF X K x (fs.set i (ap (.od l'))) rest (k l') out)
  (hd:(y==("__debug__":Str))=false:=by decide) (hJ:(y==("__classdict__":Str))=false:=by decide) (pP:nn e (ap (.Subscript (.Name y p) ei fH)) pos.line X.env=pure false:=by rfl) :
  SF X K x fs (.Assign [.Subscript (.Name y p) ei fH] e pos::rest) (.bind we λv=>.bind wi λn=>.bind (Vj kvs n v) k) out:=
 SF.step (QX ∅ (cV hN hv hd hJ) hi.p he.p pP) λD σ H ⟨sr,q⟩=>by
  refine⟨sr,we.mono (λv q1 u H1 g1 s1 v1=>?_) q⟩;obtain⟨a,vs,e1,h1,r1⟩:=ir s1 hs;refine⟨_,e1,s1,wi.mono (λn q2 u2 H2 g2 s2 v2=>?_) q1⟩;obtain⟨kk,rfl,hz,q3⟩:=Jj v2 q2;obtain⟨a',Mf,kl,gs,tw⟩:=ir s2 hs;rw [e1] at kl;cases kl;refine⟨a,_,rfl,LS.k gs (by rw [tw.length];exact hz),?_⟩;have sx:oe a H2 (upd H2 a (.dK (putK Mf kk u))):=λz o n hz=>by rw [aB n];exact hz
  obtain⟨s3,g3⟩:=jJ (t':=.od (putP kvs kk v)) s2 hs rfl (by simp) e1 sx λtk=>⟨_,aP,(tw.put kk (g2.vr s1 v1)).1,aN.tk tk (tw.put kk (g2.vr s1 v1)).2⟩;exact⟨_,k _,hr _,s3,(k _).mono (λt q4=>q4.go ((g1.trans g2).f.trans g3) sr s3) q3⟩
end
end
section
open PySem PySem.Spec PyProof.Rows L2 PL
variable {K:Ab}
def fAs (K:Ab) (fs:bF) (i:Nat) (w:W (List PV)):TS:=λD σ H=>a8 K H σ fs/\w.run λl=>∀a vs H',c9 σ fs H H'->a8 K H' σ fs->H a=bv->H' a=ap (.lst vs)->aN K [] H' vs l->D.nx (σ.set i (ap (.ref a))) H'
structure AS (X:Cx) (K:Ab) (fs:bF) (st:u8) (i:Nat) (w:W (List PV)):Prop where p:PS X st (fAs K fs i w)
section
variable {st:u8}{rest:List u8}{T:Type}{out:T->End}{k:List PV->W T}
def SF.as (h:AS X K fs st i wl) (hr:∀l,SF X K x (fs.set i (ap (.ol bv l))) rest (k l) out):SF X K x fs (st::rest) (.bind wl k) out:=SF.step h.p λD σ H ⟨sr,q⟩=>⟨sr,wl.mono (λl q1 a ws H1 g1 s1 n e v1=>by
 have no:=sr.noOwn n;have s2:=s1.oy (t:=.ol bv l) ⟨by simp,ws,e,v1⟩ no i;exact⟨_,k l,hr l,s2,(k l).mono (λt q2=>q2.go (cE.oy s1 g1.f no n i) sr s2) q1⟩) q⟩
def Xi (b:Nat) (hs:fs[b]?=ap (ap (.ol q0 l))) (h:AS X K (fs.set b (ap (.val (.cl l)))) st i wl):AS X K fs st i (.bind wl Mj):=⟨λZ s σ H D I ⟨sr,q⟩=>by
 obtain⟨a,ws,ob,I2,s2,Í⟩:=bor I sr hs;refine bE (h.p Z s σ _ {nx:=λσ' H1=>∃b vs l',σ'=σ.set i (ap (.ref b))/\c9 σ (fs.set _ (ap (.val (.cl l)))) (upd H a (.cO ob (.lst ws))) H1/\a8 K H1 σ (fs.set _ (ap (.val (.cl l))))/\upd H a (.cO ob (.lst ws)) b=bv/\H1 b=ap (.lst vs)/\aN K [] H1 vs l'/\uq l'=true/\∀a vs H',c9 σ fs H H'->a8 K H' σ fs->H a=bv->H' a=ap (.lst vs)->aN K [] H' vs l'->D.nx (σ.set i (ap (.ref a))) H',rt:=D.rt,bk:=D.bk,ct:=D.ct} I2 ⟨s2,wl.mono (λl' q1 b vs H1 g1 s1 n e v1=>⟨b,vs,l',rfl,g1,s1,n,e,v1,q1.1,q1.2⟩) q⟩) λf s1 q1=>?_;cases f with
 | next=>
  obtain⟨σ',H1,I1,b,vs,l',rfl,g1,QL,n,eb,v1,d,q1⟩:=q1;obtain⟨I3,g3,s3,t3,k3⟩:=Í _ s1 H1 I1 g1 QL;have nb:b≠a:=λy=>by subst y;rw [aP] at n;cases n
  exact⟨_,_,I3,q1 b vs _ g3 s3 (by rw [aB nb] at n;exact n) (k3 b vs nb eb) (aN.jV t3 v1 d)⟩
 | ret v=>exact q1
 | brk=>exact q1
 | cont=>exact q1⟩
end
section
variable {c:lw}{T2:Type}{wt:PV->W T2}{dU:T2->bF}{tf:T2->W Bool}{te:T2->W PV}
def aaU (hc:X.calm=true) (hN:X.N.Nodup) (zf:X.N[i]?=ap y) (hx:X.env.scope.names.lookup y=ap .local) (S:aA X.env.scope X.N sc N' ix) (hi:p0 X K fs tg iter wl) (hg:∀cl C s2 H2 fp,GF (gk X sc N' cl C s2 H2 fp) K (cg ix fs) tg is wt dU) (æ:∀cl C s2 H2 fp t,FF (gk X sc N' cl C s2 H2 fp) K (dU t) Ì (tf t)) (he:∀cl C s2 H2 fp t,EF (gk X sc N' cl C s2 H2 fp) K (dU t) Å (te t))
  (hf:∀p,f p=.bind (wt p) λt=>.bind (tf t) λk=>if k=true then .bind (te t) λv=>.ret (ap v) else .ret bv) (hl:uz is (cg ix fs) dU/\∀t,jz (dU t) (cg ix fs)) (ue:∀j∈is,ix[j]?=ap bv)
  (pP:nn (.ListComp Å [⟨tg,iter,Ì,0⟩] sc pos) (ap (.Name y px)) mX.line X.env=pure true:=by rfl) (hs:∀x,im iter X.env x=pure x:=by intro _;rfl) :
  AS X K fs (.Assign [.Name y px] (.ListComp Å [⟨tg,iter,Ì,0⟩] sc pos) mX) i (.bind wl λl=>kh l f):=
 ⟨PS.imp (yH hc hN zf hx S hi.p (λcl C s2 H2 fp=>(hg cl C s2 H2 fp).p) (λcl C s2 H2 fp Z s σ H Q I ⟨t,q⟩=>(æ cl C s2 H2 fp t).p Z s σ H Q I q) (λcl C s2 H2 fp Z s σ H Q I ⟨t,q⟩=>(he cl C s2 H2 fp t).p Z s σ H Q I q) pP hs) λD σ H ⟨sr,q⟩=>
  OB (K:=K) S rfl hf hl.1 hl.2 ue σ H _ ⟨sr,q⟩⟩
def Xh {tf:PV->W Bool}{te:PV->W PV} (hc:X.calm=true) (hN:X.N.Nodup) (zf:X.N[i]?=ap y) (hx:X.env.scope.names.lookup y=ap .local) (S:aA X.env.scope X.N sc N' ix) (hi:p0 X K fs tg iter wl) (hg:∀cl C s2 H2 fp,PG (gk X sc N' cl C s2 H2 fp) tg (dM j)) (hf:∀cl C s2 H2 fp t,TF (gk X sc N' cl C s2 H2 fp) K ((cg ix fs).set j (ap (.val t))) c (tf t)) (he:∀cl C s2 H2 fp t,EF (gk X sc N' cl C s2 H2 fp) K ((cg ix fs).set j (ap (.val t))) Å (te t)) (h0:ix[j]?=ap bv)
  (pP:nn (.ListComp Å [⟨tg,iter,[c],0⟩] sc pos) (ap (.Name y px)) mX.line X.env=pure true:=by rfl) (hs:∀x,im iter X.env x=pure x:=by intro _;rfl) :
  AS X K fs (.Assign [.Name y px] (.ListComp Å [⟨tg,iter,[c],0⟩] sc pos) mX) i (.bind wl λl=>kh l λp=>F0 (tf p) (te p)):=
 have h1:(cg ix fs)[j]?=ap bv:=by unfold cg;rw [Ai,h0];rfl
 aaU (wt:=.ret) (tf:=tf) (te:=te) hc hN zf hx S hi (λcl C s2 H2 fp=>WH (hg cl C s2 H2 fp)) (λcl C s2 H2 fp t=>xi (hf cl C s2 H2 fp t)) he (λ_=>rfl) (NM h1) (λm hj=>by rw [Bc] at hj;subst hj;exact h0) pP hs
end
end
end FL
namespace L2
open PySem PySem.Spec PyProof.Rows
def Inv.Si {σ:St}{kvs:List (Key×V)} (I:Inv X Z σ H s) (e:H a=ap (.dK kvs)):∃o,Inv X Z σ (upd H a (.cO o (.dK kvs))) s:=by
 obtain⟨z,hs,vs,r,o,es,ep,h1,h2⟩:=(show bx X.prog X.w H s.heap a (.dK kvs) from I.bI a _ e);exact⟨o,I.write (x:=a) (e:=a) (o:=.cO o (.dK kvs)) (h':=s.heap) (t':=s.toks) (by rw [e];exact BX) (.inl rfl) (λb u _ z=>z) ⟨o,h1⟩ ⟨h1,z,hs,vs,r,o,es,ep,h1,h2⟩⟩
end L2
variable {kvs:List (List L2.Key×PL.PV)}
namespace FL
section
open PySem PySem.Spec PyProof.Rows L2 PL
variable {K:Ab}
def dvK (kvs:List (Key×PV)):PV:=.dv (kvs.map λkv=>kP kv.1) (kvs.map (·.2))
def P7 (kvs:List (List Key×PV)):PV:=.dv (kvs.map λkv=>.tup (kv.1.map kP)) (kvs.map (·.2))
def og (K:Ab) (H:Hp) (vs:List (List Key×V)) (kvs:List (List Key×PV)):Prop:=vs.map (·.1)=kvs.map (·.1)/\aN K [] H (vs.map (·.2)) (kvs.map (·.2))
def Te (K:Ab) (H:Hp) (ob:HO) (v:PV):Prop:=(∃vs kvs,ob=.dK vs/\v=dvK kvs/\da K H vs kvs)\/∃vs kvs,ob=.dT vs/\v=P7 kvs/\og K H vs kvs
def fDv (K:Ab) (fs:bF) (w:W PV):TE:=λσ H Q=>a8 K H σ fs/\w.run λv=>∀a ob H',c9 σ fs H H'->a8 K H' σ fs->H a=bv->H' a=ap ob->Te K H' ob v->Q (.ref a) H'
structure DVF (X:Cx) (K:Ab) (fs:bF) (e:lw) (w:W PV):Prop where p:PE X e (fDv K fs w)
section
variable {σ:L2.St}{fs:bF}{H:Hp}{a:db}{ob:HO}{v:PV}
def qR (o':HO) (e:H a=ap ob) (n1:∀vs,ob≠.tup vs) (n2:∀o u,ob≠.cO o u):bD K H (upd H a o'):=⟨λb ws q=>by rw [aB (λz=>by subst z;rw [e] at q;cases q;exact n1 _ rfl)];exact q,λb o u q=>by rw [aB (λz=>by subst z;rw [e] at q;cases q;exact n2 _ _ rfl)];exact q⟩
def a8.YM (s:a8 K H σ fs) (n:¬dH σ fs a) (e:H a=ap ob) (n1:∀vs,ob≠.tup vs) (n2:∀o u,ob≠.cO o u) (o':HO):a8 K (upd H a o') σ fs:=⟨s.len,λi t q=>by
 obtain⟨u,h1,h2⟩:=s.at' i t q;exact⟨u,h1,h2.mono (qR o' e n1 n2) (λx b o eb ow hb z=>by subst eb;rw [aB (λy:b=a=>n ⟨i,t,x,q,ow,h1,y▸hb⟩)];exact z)⟩,s.nd⟩
def ZJ {vs:List (List Key×V)} (h:vs.map (·.1)=kvs.map (·.1)):(kvs.map λkv=>PV.tup (kv.1.map kP))=vs.map λkv=>PV.tup (kv.1.map kP):=by
 have:=congrArg (FT λk:List Key=>PV.tup (k.map kP)) h;rw [AY,AY] at this;exact this.symm
def ZK {kvs:List (Key×PV)} (h:vs.map (·.1)=kvs.map (·.1)):(kvs.map λkv=>kP kv.1)=vs.map λkv=>kP kv.1:=by
 have:=congrArg (FT kP) h;rw [AY,AY] at this;exact this.symm
def Te.cO {X:Cx}{Z:List (db×Obj)}{s:dL}{σ':L2.St} (I:Inv X Z σ' H s) (e:H a=ap ob) (d:Te K H ob v):∃u,Inv X Z σ' (upd H a u) s/\VR K [] (upd H a u) (.ref a) v/\(∀vs,ob≠.tup vs)/\∀o u,ob≠.cO o u:=by
 rcases d with⟨vs,kvs,rfl,rfl,d1,d2⟩ | ⟨vs,kvs,rfl,rfl,d1,d2⟩
 ·obtain⟨o,I2⟩:=I.Si e;exact⟨_,I2,.dk aP (ZK d1) (aN.tk (qR _ e (by simp) (by simp)) d2),by simp,by simp⟩
 ·obtain⟨o,I2⟩:=I.freeze e;exact⟨_,I2,.dt aP (ZJ d1) (aN.tk (qR _ e (by simp) (by simp)) d2),by simp,by simp⟩
end
section
variable {a b c:lw}{w:W PV}
def aem (h:DVF X K fs e w):EF X K fs e w:=⟨λZ s σ H Q I ⟨sr,q⟩=>by
 refine bE (h.p Z s σ H (λu H1=>∃a ob v,u=.ref a/\c9 σ fs H H1/\a8 K H1 σ fs/\H a=bv/\H1 a=ap ob/\Te K H1 ob v/\∀u H',c9 σ fs H H'->a8 K H' σ fs->VR K [] H' u v->Q u H') I ⟨sr,w.mono (λv q1 a ob H1 g1 s1 n e d=>⟨a,ob,v,rfl,g1,s1,n,e,d,q1⟩) q⟩) λu s1 ⟨v,H1,I1,r1,a,ob,v',e,g1,QL,n,ea,d,q1⟩=>?_;subst e;obtain⟨o',I2,vr,n1,n2⟩:=d.cO I1 ea;exact⟨.ref a,_,I2,r1,q1 _ _ (g1.side n _) (QL.YM (λz=>sr.noOwn n z) ea n1 n2 _) vr⟩⟩
def IW (kv:List Key×PV):PV:=.tup [.tup (kv.1.map kP),kv.2]
theorem NW (H:Hp):∀k:List Key,aN K [] H (k.map kV) (k.map kP)
 | []=>.nil
 | .inl i::k=>.cons (.int i) (NW H k)
 | .inr i::k=>.cons (.str i) (NW H k)
theorem Jk:∀{k:List Key}{vs:List V},aN K [] H vs (k.map kP)->vs=k.map kV
 | [],_,h=>by cases h;rfl
 | .inl i::k,_,h=>by
  cases h with
  | cons x t=>cases x;rw [Jk t];rfl
 | .inr i::k,_,h=>by
  cases h with
  | cons x t=>cases x;rw [Jk t];rfl
theorem yO:∀{kvs:List (List Key×PV)}{vs:List V},aN K [] H vs (kvs.map IW)->∃zs:List Pz,vs=zs.map (λz=>V.ref z.pa)/\(∀z∈zs,z.At H)/\zs.map (·.k)=kvs.map (·.1)/\aN K [] H (zs.map (·.v)) (kvs.map (·.2))
 | [],_,h=>by cases h;exact⟨[],rfl,by simp,rfl,.nil⟩
 | kv::kvs,_,h=>by
  cases h with
  | cons x t=>
  obtain⟨zs,z1,z2,z3,z4⟩:=yO t;cases x with
  | @tup p ws _ e r=>
  cases r with
  | cons x1 t1=>
  cases t1 with
  | cons x2 t2=>
  cases t2;cases x1 with
  | @tup b us _ e1 r1=>
  have:=Jk r1;subst this;refine⟨⟨p,kv.1,b,_⟩::zs,by rw [Au,z1],λz hz=>?_,by rw [Au,Au,z3],.cons x2 z4⟩;rcases AA.mp hz with rfl | hz
  ·exact⟨e,e1⟩
  ·exact z2 z hz
def HI (l:List PV):W PV:=⟨λQ=>∃kvs:List (List Key×PV),l=kvs.map IW/\(kvs.map (·.1)).Nodup/\kvs.length<=1000/\Q (P7 kvs),λf q=>q.imp λkvs h=>⟨h.1,h.2.1,h.2.2.1,f _ h.2.2.2⟩⟩
theorem SQ (hK:X.K=K) (hc:X.calm=true) (hu:X.A.units+200 < pc) (hg:Gl X "dict") (hm:X.mg "dict"=bv) (ha:yd X K fs e wl) (he:ce [e] X.env=(false,kw e X.env)::ce [] X.env:=by rfl) (dJ:(lm pos (ce [] X.env)).any (·.1)=false:=by rfl) :
  DVF X K fs (.Call (.Name "dict" p) [e] [] pos) (.bind wl HI):=⟨PE.imp (lE (HP K hK hc ∅) hg hm boot_dict (bp ha.p cG he) ⋯ ⋯ he dJ) λσ H Q ⟨sr,q⟩=>⟨sr,wl.mono (λl q1 u H1 g1 s1 v0 v1=>by
  obtain⟨kvs,rfl,nd,hl,q1⟩:=q1;obtain⟨a,vs,rfl,e3,e4⟩:=v1 H1 .refl s1;obtain⟨zs,rfl,z2,z3,z4⟩:=yO e4;have hzl:zs.length=kvs.length:=by have:=congrArg BV z3;simpa using this
  refine⟨a,zs,rfl,e3,z2,by rw [z3];exact nd,by omega,λp H2 s2 h2 n2=>?_⟩;exact q1 _ _ H2 (g1.trans (c9.same s2)) (s1.same s2) (g1.there _ n2) h2 (.inr ⟨_,_,rfl,rfl,by rw [AY,<- z3];rfl,by rw [AY];exact aN.tk s2.e7 z4⟩)) q⟩⟩
def Lk (nd:(kvs.map (·.1)).Nodup) (hl:kvs.length<=1000) (q:Q (P7 kvs)):(HI (kvs.map IW)).run Q:=⟨kvs,rfl,nd,hl,q⟩
def lY (kvs:List (List Key×PV)) (k:List Key):Option PV:=(kvs.find? λkv=>decide (kv.1=k)).map (·.2)
theorem og.get {k:List Key}:∀{vs:List (List Key×V)}{kvs:List (List Key×PV)},og K H vs kvs->(lY kvs k=bv->iE vs k=bv)/\∀{v},lY kvs k=ap v->∃u,iE vs k=ap u/\VR K [] H u v
 | [],[],_=>⟨λ_=>rfl,λg=>by simp [lY] at g⟩
 | [],_::_,h=>by simp [og] at h
 | _::_,[],h=>by simp [og] at h
 | p::vs,q::kvs,h=>by
  obtain⟨h1,h2⟩:=h;rw [Au,Au] at h1 h2;injection h1 with e b;cases h2 with
  | cons r t=>
  have ih:=og.get (k:=k) (vs:=vs) (kvs:=kvs) ⟨b,t⟩;by_cases c:p.1=k
  ·rw [ku c];have c':=e▸c;have:lY (q::kvs) k=ap q.2:=by simp [lY,BJ,c']
   rw [this];refine⟨λz=>(by cases z),λ{v} z=>?_⟩;cases z;exact⟨_,rfl,r⟩
  ·rw [kz c];have c':=e▸c;have:lY (q::kvs) k=lY kvs k:=by simp [lY,BJ,c']
   rw [this];exact ih
def da.get' {k:Key}:∀{vs:List (Key×V)}{kvs:List (Key×PV)},da K H vs kvs->(gz kvs k=bv->iE vs k=bv)/\∀{v},gz kvs k=ap v->∃u,iE vs k=ap u/\VR K [] H u v:=λ{vs kvs} h=>⟨λz=>by
 have:=h.has k;cases e:iE vs k with
 | none=>rfl
 | some u=>
  rw [e] at this;have h2:=this.symm;unfold gz at z;rw [Option.map_eq_none_iff,List.find?_eq_none] at z;obtain⟨x,hx,ė⟩:=BO.mp h2;exact absurd ė (z x hx),λz=>h.get k z⟩
def T8 (k:Key) (l:List PV):kP k≠.tup l:=by cases k <;> exact PV.noConfusion
def Wk {a b:Key} (h:kP a=kP b):a=b:=by
 cases a <;> cases b <;> simp [kP] at h <;> rw [h]
theorem wQ:∀{a b:List Key},a.map kP=b.map kP->a=b
 | [],[],_=>rfl
 | [],_::_,h=>by simp at h
 | _::_,[],h=>by simp at h
 | x::a,y::b,h=>by
  rw [Au,Au] at h;injection h with h1 h2;rw [Wk h1,wQ h2]
inductive FZ:PV->PV->Option PV->Prop
 | k (kvs:List (Key×PV)) (k:Key):kvs≠[]->FZ (dvK kvs) (kP k) (gz kvs k)
 | t (kvs:List (List Key×PV)) (k:List Key):kvs≠[]->FZ (P7 kvs) (.tup (k.map kP)) (lY kvs k)
def UI {kvs:List (Key×PV)} (h0:kvs≠[]) (h:VR K [] H u (dvK kvs)):∃a o vs,u=.ref a/\H a=ap (.cO o (.dK vs))/\da K H vs kvs:=by
 have É:∀{vs:List (Key×V)}{kvs:List (Key×PV)},(kvs.map λkv=>kP kv.1)=(vs.map λkv=>kP kv.1)->vs.map (·.1)=kvs.map (·.1):=λ{vs kvs} e=>by
  have e:(kvs.map (·.1)).map kP=(vs.map (·.1)).map kP:=by rw [AY,AY];exact e
  exact (wQ e).symm
 cases h with
 | @dk a o vs _ _ e k r=>exact⟨a,o,vs,rfl,e,É k,r⟩
 | @dt a o vs _ _ e k r=>
  cases kvs with
  | nil=>exact absurd rfl h0
  | cons x l=>cases vs with
   | nil=>simp at k
   | cons y m=>simp at k;exact absurd k.1 (T8 _ _)
def Mg (h0:kvs≠[]) (h:VR K [] H u (P7 kvs)):∃a o vs,u=.ref a/\H a=ap (.cO o (.dT vs))/\og K H vs kvs:=by
 have É:∀{vs:List (List Key×V)}{kvs:List (List Key×PV)},(kvs.map λkv=>PV.tup (kv.1.map kP))=(vs.map λkv=>PV.tup (kv.1.map kP))->vs.map (·.1)=kvs.map (·.1):=λ{vs kvs} e=>by
  induction kvs generalizing vs with
  | nil=>cases vs with
   | nil=>rfl
   | cons y m=>simp at e
  | cons x l ih=>cases vs with
   | nil=>simp at e
   | cons y m=>
    injection e with e1 e2;injection e1 with e1;rw [Au,Au,wQ e1,ih e2]
 cases h with
 | @dt a o vs _ _ e k r=>exact⟨a,o,vs,rfl,e,É k,r⟩
 | @dk a o vs _ _ e k r=>
  cases kvs with
  | nil=>exact absurd rfl h0
  | cons x l=>cases vs with
   | nil=>simp at k
   | cons y m=>simp at k;exact absurd k.1.symm (T8 _ _)
def FZ.ok {z:V}{d y:PV}{r:Option PV} (h:FZ d y r) (hu:VR K [] H u d) (hz:VR K [] H z y):∃a o,u=.ref a/\IsD H a/\o9 H a z o/\(r=bv->o=bv)/\∀v,r=ap v->∃w,o=ap w/\VR K [] H w v:=by
 cases h with
 | k kvs k h0=>
  obtain⟨a,o,vs,rfl,e,d⟩:=UI h0 hu;have ez:z=kV k:=by
   cases k with
   | inl i=>cases hz;rfl
   | inr i=>cases hz;rfl
  subst ez;exact⟨a,iE vs k,rfl,.inl ⟨vs,.inr ⟨o,e⟩⟩,.inl ⟨vs,k,.inr ⟨o,e⟩,rfl,rfl⟩,(da.get' d).1,λv=>(da.get' d).2⟩
 | t kvs k h0=>
  obtain⟨a,o,vs,rfl,e,d⟩:=Mg h0 hu;cases hz with
  | @tup b us _ e1 r1=>
  have:=Jk r1;subst this;exact⟨a,iE vs k,rfl,.inr ⟨vs,.inr ⟨o,e⟩⟩,.inr ⟨vs,k,b,.inr ⟨o,e⟩,rfl,e1,rfl⟩,(og.get d).1,λv=>(og.get d).2⟩
def dgW (d y:PV):W PV:=⟨λQ=>∃v,FZ d y (ap v)/\Q v,λf ⟨v,a,q⟩=>⟨v,a,f _ q⟩⟩
def dgB (a b:W PV):W PV:=.bind a λx=>.bind b λy=>dgW x y
theorem O4 (hu:X.A.units+200 < pc) (ha:EF X K fs a wa) (hb:EF X K fs b wb) (hs:Ta b):EF X K fs (.Subscript a b pos) (dgB wa wb):=⟨PE.imp (IU ∅ ha.p hb.p hs) λσ H Q ⟨sr,q⟩=>⟨sr,wa.mono (λx q1 u1 H1 g1 s1 v1=>⟨s1,wb.mono (λy q2 u2 H2 g2 s2 v2=>by
 obtain⟨v,g,q2⟩:=q2;obtain⟨a,o,rfl,_,g2',_,h⟩:=g.ok (g2.vr s1 v1) v2;obtain⟨w,rfl,vw⟩:=h v rfl;exact⟨a,w,rfl,g2',q2 _ H2 (g1.trans g2) s2 vw⟩) q1⟩) q⟩⟩
def JN {k:List Key} (h:lY kvs k=ap v) (q:Q v):(dgW (P7 kvs) (.tup (k.map kP))).run Q:=⟨v,by rw [<- h];exact .t kvs k (λz=>by subst z;simp [lY] at h),q⟩
def NR (d:PV):W (List PV):=⟨λQ=>∃kvs:List (List Key×PV),d=P7 kvs/\kvs≠[]/\kvs.length<=1000/\Q (kvs.map λkv=>.tup (kv.1.map kP)),λf q=>q.imp λkvs h=>⟨h.1,h.2.1,h.2.2.1,f _ h.2.2.2⟩⟩
theorem RU (h:EF X K fs e w):p0 X K fs tg e (.bind w NR):=⟨PI.imp (Nc h.p) λσ H R ⟨sr,q⟩=>⟨sr,w.mono (λx q1 u1 H1 g1 s1 v1=>by
 obtain⟨kvs,rfl,h0,hl,q1⟩:=q1;obtain⟨a,o,vs,rfl,e,d1,d2⟩:=Mg h0 v1;have len:vs.length=kvs.length:=by have:=congrArg BV d1;simpa using this
 refine⟨a,o,vs,rfl,e,q1 _ H1 g1 s1 ⟨a9 (by simpa using hl),λH' t=>?_⟩⟩;have e':=t.z _ _ _ e;refine⟨λi p hp=>?_,vs,e',by simp [len]⟩;rw [Ai] at hp;cases z:kvs[i]? with
 | none=>rw [z] at hp;cases hp
 | some kv=>
  rw [z] at hp;have hp:=Option.some.inj hp;subst hp;have hi:=(Ak.mp z).1;refine⟨⟨vs,e',by omega⟩,λy H2 yy=>?_⟩;obtain⟨rfl,yy⟩:=yy;obtain⟨b,k,v,rfl,k2,k3⟩:=yy vs e';have ek:k=kv.1:=by
   have h1:(vs.map (·.1))[i]?=ap k:=by rw [Ai,k2];rfl
   rw [d1,Ai,z] at h1;exact (Option.some.inj h1).symm
  subst ek;exact⟨jx.refl _,.tup k3 (NW _ _)⟩) q⟩⟩
def Kx {Q:List PV->Prop} (h0:kvs≠[]) (hl:kvs.length<=1000) (q:Q (kvs.map λkv=>.tup (kv.1.map kP))):(NR (P7 kvs)).run Q:=⟨kvs,rfl,h0,hl,q⟩
end
end
end FL
namespace L2
open PySem PySem.Spec PyProof.Rows
section
variable {σ:St}
theorem Inv.zp (I:Inv X Z σ H s):∀bs:List db,(∀b∈bs,∃ws,H b=ap (.lst ws))->∃H',Inv X Z σ H' s/\(∀c,c∉bs->H' c=H c)/\∀b∈bs,∃ob ws,H b=ap (.lst ws)/\H' b=ap (.cO ob (.lst ws))
 | [],_=>⟨H,I,λ_ _=>rfl,λb hb=>nomatch hb⟩
 | b::bs,h=>by
  obtain⟨H',I',h1,h2⟩:=Inv.zp I bs λc hc=>h c (.tail _ hc);by_cases hb:b∈bs
  ·refine⟨H',I',λc hc=>h1 c λz=>hc (.tail _ z),λc hc=>?_⟩;rcases AA.mp hc with rfl | hc
   ·exact h2 _ hb
   ·exact h2 c hc
  ·obtain⟨ws,e⟩:=h b (.head _);obtain⟨ob,I2⟩:=I'.qz ((h1 b hb).trans e);refine⟨_,I2,λc hc=>?_,λc hc=>?_⟩
   ·rw [aB (λz=>by subst z;exact hc (.head _))];exact h1 c λz=>hc (.tail _ z)
   ·by_cases cb:c=b
    ·subst cb;exact⟨ob,ws,e,aP⟩
    ·rcases AA.mp hc with z | hc
     ·exact absurd z cb
     ·obtain⟨VJ,pI,e1,e2⟩:=h2 c hc;exact⟨VJ,pI,e1,by rw [aB cb];exact e2⟩
open Classical in
theorem Inv.Mi {f:db->List V} (J:Inv X Z σ H s):∀bs:List db,(∀b∈bs,∃ob,H b=ap (.cO ob (.lst (f b))))->(∀b∈bs,∀o u,X.H₀ b≠ap (.cO o u))->Inv X Z σ (λc=>if c∈bs then ap (.lst (f c)) else H c) s
 | [],_,_=>by
  have:(λc=>if c∈([]:List db) then ap (HO.lst (f c)) else H c)=H:=funext λc=>if_neg (by simp);rw [this];exact J
 | b::bs,h,h0=>by
  have J2:=Inv.Mi J bs (λc hc=>h c (.tail _ hc)) λc hc=>h0 c (.tail _ hc);by_cases hb:b∈bs
  ·have:(λc=>if c∈b::bs then ap (HO.lst (f c)) else H c)=λc=>if c∈bs then ap (.lst (f c)) else H c:=funext λc=>by
    by_cases z:c=b
    ·subst z;rw [if_pos (.head _),if_pos hb]
    ·by_cases y:c∈bs
     ·rw [if_pos (.tail _ y),if_pos y]
     ·rw [if_neg (λx=>(AA.mp x).elim z y),if_neg y]
   rw [this];exact J2
  ·obtain⟨ob,e⟩:=h b (.head _);have e2:(λc=>if c∈bs then ap (HO.lst (f c)) else H c) b=ap (.cO ob (.lst (f b))):=by show (if b∈bs then _ else _)=_;rw [if_neg hb];exact e
   have hk:=uU J2.bI e2;have J3:=J2.Yo e2 (h0 b (.head _)) (hk b _ aP) hk;have:(λc=>if c∈b::bs then ap (HO.lst (f c)) else H c)=upd (λc=>if c∈bs then ap (HO.lst (f c)) else H c) b (.lst (f b)):=funext λc=>by
    by_cases z:c=b
    ·subst z;rw [if_pos (.head _),aP]
    ·rw [aB z];by_cases y:c∈bs
     ·rw [if_pos (.tail _ y),if_pos y]
     ·rw [if_neg (λx=>(AA.mp x).elim z y),if_neg y]
   rw [this];exact J3
end
end L2
namespace FL
section
open PySem PySem.Spec PyProof.Rows L2 PL
variable {K:Ab}
section
variable {bs:List db}{ls:List (List PV)}
def iX (sr:a8 K H σ fs) (hs:fs[i]?=ap (ap (.qj bs ls))):∃a,σ[i]?=ap (ap (.ref a))/\iD K H a (.qj bs ls):=by
 obtain⟨u,e1,r⟩:=sr.at' i _ hs;rcases r with⟨v,e,_⟩ | ⟨a,e,r⟩
 ·cases e
 ·subst e;exact⟨a,e1,r⟩
theorem Ph:∀{bs:List db}{ls:List (List PV)},bs.length=ls.length->(∀(j:Nat) (b:db) (l:List PV),bs[j]?=ap b->ls[j]?=ap l->VR K [] H' (.ref b) (.cl l))->aN K [] H' (bs.map V.ref) (ls.map PV.cl)
 | [],[],_,_=>.nil
 | [],_::_,h,_=>by simp at h
 | _::_,[],h,_=>by simp at h
 | b::bs,l::ls,h,hv=>.cons (hv 0 b l rfl rfl) (Ph (by simpa using h) λj b l h1 h2=>hv (j+1) b l (by simpa using h1) (by simpa using h2))
def aaR (I:Inv X Z σ H s) (sr:a8 K H σ fs) (hs:fs[i]?=ap (ap (.qj bs ls))):∃H',Inv X Z σ H' s/\a8 K H' σ (fs.set i (ap (.ol bv (ls.map PV.cl))))/\cE σ fs H σ (fs.set i (ap (.ol bv (ls.map PV.cl)))) H'/\(∀c,H c=bv->H' c=bv)/\
  ∀σ' s' H1,Inv X Z σ' H1 s'->c9 σ (fs.set i (ap (.ol bv (ls.map PV.cl)))) H' H1->a8 K H1 σ (fs.set i (ap (.ol bv (ls.map PV.cl))))->∃H2,Inv X Z σ' H2 s'/\c9 σ fs H H2/\a8 K H2 σ fs/\(∀p vs,H1 p=ap (.tup vs)->H2 p=ap (.tup vs))/\∀p vs,H p=bv->H1 p=ap (.lst vs)->H2 p=ap (.lst vs):=by
 obtain⟨a,e1,q1,q2,q3,q4,q5⟩:=iX sr hs;have inn:∀b∈bs,∃ws,H b=ap (.lst ws):=λb hb=>by
  obtain⟨j,hj⟩:=CN hb;have h1:=(Ak.mp hj).1;obtain⟨ws,e,_⟩:=q5 j b _ hj (Ad (by rw [<- q4];exact h1));exact⟨ws,e⟩
 obtain⟨H',I',k1,k2⟩:=I.zp bs inn;have tk:bD K H H':=⟨λb vs z=>by
  by_cases c:b∈bs
  ·obtain⟨ws,e⟩:=inn b c;rw [e] at z;cases z
  ·rw [k1 b c];exact z,λb o u z=>by
  by_cases c:b∈bs
  ·obtain⟨ws,e⟩:=inn b c;rw [e] at z;cases z
  ·rw [k1 b c];exact z⟩
 have aX:∀c,H c=bv->H' c=bv:=λc z=>by
  by_cases y:c∈bs
  ·obtain⟨ws,e⟩:=inn c y;rw [e] at z;cases z
  ·rw [k1 c y];exact z
 have it:∀{t:SL},(ap t:Option SL)=ap (.ol bv (ls.map PV.cl))->t=.ol bv (ls.map PV.cl):=λz=>by injection z
 have s2:a8 K H' σ (fs.set i (ap (.ol bv (ls.map PV.cl)))):=by
  refine⟨by simp [sr.len],λj t z=>?_,λj k t u b1 b2 b z1 z2 o1 o2=>?_⟩
  ·rcases bo z with⟨rfl,rfl⟩ | ⟨n,z⟩
   ·refine⟨_,e1,.inr ⟨a,rfl,by simp,bs.map V.ref,by rw [k1 a q2];exact q1,Ph q4 λj b l h1 h2=>?_⟩⟩;obtain⟨ob,ws,f1,f2⟩:=k2 b (Ba h1);obtain⟨pI,f3,f4⟩:=q5 j b l h1 h2;rw [f1] at f3;cases f3;exact .cl (.inl ⟨ob,f2⟩) (aN.tk tk f4)
   ·obtain⟨u,h1,h2⟩:=sr.at' j t z;exact⟨u,h1,h2.mono tk (λx b o eb ow hb zz=>by
     subst eb;rw [k1 b (λy=>n (sr.nd j i t _ x a b z hs ow rfl h1 e1 hb (.inr y)))];exact zz)⟩
  ·intro y1 y2 w1 w2;have f:∀{j:Nat}{t:SL}{c:db},(fs.set i (ap (.ol bv (ls.map PV.cl))))[j]?=ap (ap t)->t.own=true->σ[j]?=ap (ap (.ref c))->t.has c b->∃t',fs[j]?=ap (ap t')/\t'.own=true/\t'.has c b:=λ{j t c} z ow y hb=>by
    rcases bo z with⟨rfl,rfl⟩ | ⟨n,z⟩
    ·refine⟨_,hs,rfl,?_⟩;rcases hb with hb | hb
     ·exact .inl hb
     ·cases hb
    ·exact⟨t,z,ow,hb⟩
   obtain⟨t',a1,a2,a3⟩:=f z1 o1 y1 w1;obtain⟨u',c1,c2,c3⟩:=f z2 o2 y2 w2;exact sr.nd j k t' u' b1 b2 b a1 c1 a2 c2 y1 y2 a3 c3
 have pf:∀φ b,eY σ (fs.set i (ap (.ol bv (ls.map PV.cl)))) φ b->eY σ fs φ b:=λφ b ⟨j,z1,z3⟩=>by
  rcases bo z1 with⟨_,z⟩ | ⟨n,z1⟩
  ·cases z
  ·exact⟨j,z1,z3⟩
 have pb:∀φ b,eY σ fs φ b->eY σ (fs.set i (ap (.ol bv (ls.map PV.cl)))) φ b:=λφ b ⟨j,z1,z3⟩=>by
  have ji:j≠i:=λy=>by subst y;rw [hs] at z1;cases z1
  exact⟨j,by rw [aL ji];exact z1,z3⟩
 have npb:∀b∈bs,∀φ,¬eY σ fs φ b:=λb hb φ ⟨j,z1,z3⟩=>by
  have:=sr.nd j i _ _ b a b z1 hs rfl rfl z3 e1 (.inl rfl) (.inr hb);subst this;rw [hs] at z1;cases z1
 have gf:cE σ fs H σ (fs.set i (ap (.ol bv (ls.map PV.cl)))) H':=by
  refine⟨λb o z n=>⟨?_,λy=>?_⟩,λb z=>?_,λb φ z=>.inl (pb φ b z)⟩
  ·rw [k1 b (λy=>n ⟨i,_,a,hs,rfl,e1,.inr y⟩)];exact z
  ·obtain⟨j,t,x,z1,z2,z3,z4⟩:=y;rcases bo z1 with⟨rfl,rfl⟩ | ⟨m,z1⟩
   ·rcases z4 with z4 | z4
    ·exact n ⟨j,_,x,hs,rfl,z3,.inl z4⟩
    ·cases z4
   ·exact n ⟨j,t,x,z1,z2,z3,z4⟩
  ·by_cases c:b∈bs
   ·obtain⟨ob,ws,f1,f2⟩:=k2 b c;rw [f2] at z;cases z
   ·rw [k1 b c] at z;exact z
 refine⟨H',I',s2,gf,aX,λσ' s' H1 J g s1=>?_⟩
 classical
 have fz:∀b∈bs,∃ob,H1 b=ap (.cO ob (.lst ((match H b with | some (.lst ws)=>ws | _=>[]):List V))):=λb hb=>by
  obtain⟨ob,ws,f1,f2⟩:=k2 b hb;rw [f1];exact⟨ob,g.keep b _ f2 λφ p=>npb b hb φ (pf φ b p)⟩
 have h0:∀b∈bs,∀o u,X.H₀ b≠ap (.cO o u):=λb hb o u z=>by
  have:=I.base.pT b o u z;obtain⟨ws,e⟩:=inn b hb;rw [e] at this;cases this
 have J2:=Inv.Mi (f:=λb=>match H b with | some (.lst ws)=>ws | _=>[]) J bs fz h0;have ue:∀b∈bs,(λc=>if c∈bs then ap (HO.lst (match H c with | some (.lst ws)=>ws | _=>[])) else H1 c) b=H b:=λb hb=>by
  obtain⟨ws,e⟩:=inn b hb;show (if b∈bs then _ else _)=_;rw [if_pos hb,e]
 have zd:∀b,b∉bs->(λc=>if c∈bs then ap (HO.lst (match H c with | some (.lst ws)=>ws | _=>[])) else H1 c) b=H1 b:=λb hb=>by
  show (if b∈bs then _ else _)=_;rw [if_neg hb]
 generalize (λc=>if c∈bs then ap (HO.lst (match H c with | some (.lst ws)=>ws | _=>[])) else H1 c)=H2 at J2 ue zd;have ge:c9 σ fs H H2:=by
  refine⟨λb o z n=>?_,λb z=>?_⟩
  ·by_cases c:b∈bs
   ·rw [ue b c];exact z
   ·rw [zd b c];exact g.keep b o (by rw [k1 b c];exact z) λφ p=>n φ (pf φ b p)
  ·by_cases c:b∈bs
   ·rw [ue b c] at z;exact z
   ·rw [zd b c] at z;have:=g.there b z;rw [k1 b c] at this;exact this
 refine⟨H2,J2,ge,⟨sr.len,λj t z=>?_,sr.nd⟩,λp vs z=>?_,λp vs n z=>?_⟩
 ·obtain⟨u,m1,m2⟩:=sr.at' j t z;refine⟨u,m1,?_⟩;by_cases c:∃φ,t=.kI φ
  ·obtain⟨φ,rfl⟩:=c;have ji:j≠i:=λy=>by subst y;rw [hs] at z;cases z
   rcases m2 with⟨v,y,_⟩ | ⟨b,rfl,_⟩
   ·cases y
   ·obtain⟨vs,y1,y2⟩:=s1.ownAt (t:=.kI φ) (i:=j) (by rw [aL ji];exact z) rfl m1;refine .inr ⟨b,rfl,vs,?_,y2⟩;rw [zd b (λy=>npb b y φ ⟨j,z,m1⟩)];exact y1
  ·refine m2.mono (ge.eK sr) (λx b o eb ow hb zz=>ge.keep b o zz λφ ⟨j',p1,p3⟩=>?_);subst eb;have:=sr.nd j j' t _ x b b z p1 ow rfl m1 p3 hb (.inl rfl);subst this;rw [z] at p1;cases p1;exact c ⟨φ,rfl⟩
 ·rw [zd p (λy=>by obtain⟨ob,f⟩:=fz p y;rw [f] at z;cases z)];exact z
 ·rw [zd p (λy=>by obtain⟨ws,e⟩:=inn p y;rw [e] at n;cases n)];exact z
end
section
variable {a e2:lw}{rest:List u8}{qT:Pos}{T:Type}{out:T->End}{w w1 w2:W PV}{bs:List db}{ls:List (List PV)}
def JK (i:Nat) (hs:fs[i]?=ap (ap (.qj bs ls))) (h:EF X K (fs.set i (ap (.ol bv (ls.map PV.cl)))) e w):EF X K fs e (.bind w qS):=⟨λZ s σ H Q I ⟨sr,q⟩=>by
 obtain⟨H',I2,s2,_,_,Í⟩:=aaR I sr hs;refine bE (h.p Z s σ _ (λu H1=>∃v,c9 σ (fs.set i (ap (.ol bv (ls.map PV.cl)))) H' H1/\a8 K H1 σ (fs.set i (ap (.ol bv (ls.map PV.cl))))/\VR K [] H1 u v/\v.dat=true/\∀u H',c9 σ fs H H'->a8 K H' σ fs->VR K [] H' u v->Q u H') I2 ⟨s2,w.mono (λv q1 u H1 g1 s1 v1=>⟨v,g1,s1,v1,q1.1,q1.2⟩) q⟩) λu s1 ⟨x,H1,I1,r1,v,g1,QL,v1,d,q1⟩=>?_;obtain⟨H2,I3,g3,s3,t3,_⟩:=Í σ s1 H1 I1 g1 QL;exact⟨x,_,I3,r1,q1 x _ g3 s3 (VR.jV t3 v1 d)⟩⟩
def SF.aan (i:Nat) {PY:List u8}{wt:W T} (hs:fs[i]?=ap (ap (.qj bs ls))) (hr:SF X K x (fs.set i (ap (.ol bv (ls.map PV.cl)))) PY wt out):SF X K x fs PY wt out:=⟨λZ s σ H D I ⟨sr,q⟩=>by
 obtain⟨H',I2,s2,gf,_,_⟩:=aaR I sr hs;exact hr.p Z s σ _ D I2 ⟨s2,wt.mono (λt q3=>q3.go gf sr s2) q⟩⟩
def SF.YN {k:W T} (hN:X.N.Nodup) (hi:X.N[i]?=ap y) (hx:Loc X.env.scope y) (hr:SF X K x (fs.set i (ap (.qj [] []))) rest k out) (hs:nn (.List [] p2) (ap (.Name y p')) pos.line X.env=pure false:=by rfl)
  (hf:X.fn y=true\/X.env.scope.names.lookup y=ap .local:=by first | exact .inl rfl | exact .inr rfl | assumption):SF X K x fs (.Assign [.Name y p'] (.List [] p2) pos::rest) k out:=SF.step (oz hN hi hx (IT cG) hs hf) λD σ H ⟨sr,q⟩=>⟨A7 _,λa H1 s1 e1 n1=>by
 have no:=sr.noOwn n1;have oa:iD K H1 a (.qj [] []):=⟨e1,by simp,by simp,rfl,λj b l h=>by simp at h⟩;have s2:=(sr.same s1).oy (t:=.qj [] []) oa no i;exact⟨_,k,hr,s2,k.mono (λt q2=>q2.go (cE.oy (sr.same s1) (cE.same s1 sr) no n1 i) sr s2) q⟩⟩
def RT (ls:List (List PV)):PV->W (Nat×List PV)
 | .int k=>.wu ((nA ls.length k).bind λj=>(ls[j]?).map λl=>(j,l))
 | _=>.fail
theorem SF.Pw (i:Nat) {k:List db->List (List PV)->W T} (hs:fs[i]?=ap (ap (.qj bs ls))) (hK:X.K=K) (hN:X.N[i]?=ap y) (hv:tH X.env.scope y) (he:LF X K fs e wl) (hr:∀ć VW,SF X K x (fs.set i (ap (.qj ć VW))) rest (k ć VW) out)
  (hd:(y==("__debug__":Str))=false:=by decide) (hJ:(y==("__classdict__":Str))=false:=by decide) (eV:sw (.Name y p) "append" X.env (kw (.Name y p) X.env)=kw (.Name y p) X.env:=by rfl)
  (oQ:((lm bK (ce [e] X.env)).all (λx=>!x.1)&&(GE bK (Db [] X.env)).all (λx=>x.1.isSome)
   && decide ([e].length+([]:List ww).length+(if ([]:List ww).isEmpty then 0 else 1) < 30))=true:=by rfl)
  (eU:(Â.endLine==bK.line)=true:=by rfl) (tF:ce [e] X.env=(false,kw e X.env)::ce [] X.env:=by rfl) (fo:(lm bK (ce [] X.env)).any (·.1)=false:=by rfl)
  (pP:nn (.Call (.Attribute (.Name y p) "append" Â) [e] [] bK) bv pos.line X.env=pure false:=by rfl) :
  SF X K x fs (.Expr (.Call (.Attribute (.Name y p) "append" Â) [e] [] bK) pos::rest) (.bind wl λl=>.fq (ls.length < sizeLine) (.bind (.any λ_=>True) λć=>.bind (.ret (ls++[l])) λVW=>k ć VW)) out:=
 SF.step (m5 (rm K hK BM Er Ep rH (cV hN hv hd hJ) (bp he.p cG tF) eV oQ eU tF fo) pP) λD σ H ⟨sr,q⟩=>by
  obtain⟨a,e1,q1,q2,q3,q4,q5⟩:=iX sr hs;refine⟨_,e1,.inl ⟨rfl,_,c6.of q1⟩,sr,wl.mono (λl ql b vs H1 g1 s1 nb eb vl=>?_) q⟩;obtain⟨a',kl,r1,r2,r3,r4,r5⟩:=iX s1 hs;rw [e1] at kl;cases kl;refine⟨a,_,_,rfl,rfl,r1,by rw [Af,r4];exact ql.1,λH2 sx h2=>?_⟩;have hq:=ql.2 (bs++[b]) trivial;have Ha:H a≠bv:=λz=>by rw [q1] at z;cases z
  have ab:a≠b:=λz=>Ha (z▸nb);have bin:∀c∈bs,∃ws,H c=ap (.lst ws):=λc hc=>by
   obtain⟨j,hj⟩:=CN hc;obtain⟨ws,e,_⟩:=q5 j c _ hj (Ad (by rw [<- q4];exact (Ak.mp hj).1));exact⟨ws,e⟩
  have bn:b∉bs:=λz=>by obtain⟨ws,e⟩:=bin b z;rw [nb] at e;cases e
  have nbo:=sr.noOwn nb;have tk:bD K H1 H2:=⟨λc us z=>sx c _ (λw=>by subst w;rw [r1] at z;cases z) z,λc o u z=>sx c _ (λw=>by subst w;rw [r1] at z;cases z) z⟩;have oa:iD K H2 a (.qj (bs++[b]) (ls++[l])):=by
   refine⟨by rw [h2,AM];rfl,λz=>?_,?_,by simp [r4],λj c l' h1 h3=>?_⟩
   ·rcases AX.mp z with z | z
    ·exact r2 z
    ·exact ab (by simpa using z)
   ·exact Cq.mpr ⟨r3,by simp,λu hu v hv w=>by simp at hv;subst hv;subst w;exact bn hu⟩
   ·rcases iJ h1 with h1 | ⟨rfl,rfl⟩
    ·rcases iJ h3 with h3 | ⟨rfl,rfl⟩
     ·obtain⟨ws,f1,f2⟩:=r5 j c l' h1 h3;exact⟨ws,sx c _ (λz=>by subst z;exact r2 (Ba h1)) f1,aN.tk tk f2⟩
     ·have:=(Ak.mp h1).1;omega
    ·rcases iJ h3 with h3 | ⟨_,rfl⟩
     ·have:=(Ak.mp h3).1;omega
     ·exact⟨vs,sx c _ (BF ab) eb,aN.tk tk vl⟩
  have WB:∀c,(SL.qj (bs++[b]) (ls++[l])).has a c->(SL.qj bs ls).has a c\/c=b:=λc h=>by
   rcases h with h | h
   ·exact .inl (.inl h)
   ·rcases AX.mp (show c∈bs++[b] from h) with h | h
    ·exact .inl (.inr h)
    ·exact .inr (by simpa using h)
  have s2:a8 K H2 σ (fs.set i (ap (.qj (bs++[b]) (ls++[l])))):=by
   refine⟨by simp [s1.len],λj t z=>?_,λj k t u b1 b2 c z1 z2 o1 o2 y1 y2 w1 w2=>?_⟩
   ·rcases bo z with⟨rfl,rfl⟩ | ⟨n,z⟩
    ·exact⟨_,e1,.inr ⟨a,rfl,oa⟩⟩
    ·obtain⟨u,m1,m2⟩:=s1.at' j t z;exact⟨u,m1,m2.mono tk (λx c o ec ow hc zz=>sx c o (λw=>by subst ec;subst w;exact n (s1.nd j i t _ x c c z hs ow rfl m1 e1 hc (.inl rfl))) zz)⟩
   ·have Nx:∀{j:Nat}{t:SL}{c':db},fs[j]?=ap (ap t)->t.own=true->σ[j]?=ap (ap (.ref c'))->¬t.has c' b:=λ{j t c'} m1 m2 m3 m4=>nbo ⟨j,t,c',m1,m2,m3,m4⟩;rcases bo z1 with⟨rfl,rfl⟩ | ⟨n1,v1⟩ <;> rcases bo z2 with⟨m,rfl⟩ | ⟨n2,v2⟩
    ·exact m.symm
    ·rw [e1] at y1;cases y1;rcases WB c w1 with w1 | w1
     ·exact s1.nd _ k _ u _ b2 c hs v2 rfl o2 e1 y2 w1 w2
     ·exact absurd (w1▸w2) (Nx v2 o2 y2)
    ·subst m;rw [e1] at y2;cases y2;rcases WB c w2 with w2 | w2
     ·exact s1.nd j _ t _ b1 _ c v1 hs o1 rfl y1 e1 w1 w2
     ·exact absurd (w2▸w1) (Nx v1 o1 y1)
    ·exact s1.nd j k t u b1 b2 c v1 v2 o1 o2 y1 y2 w1 w2
  have g2:cE σ fs H σ (fs.set i (ap (.qj (bs++[b]) (ls++[l])))) H2:=by
   refine⟨λc o z n=>⟨sx c o (λw=>by subst w;exact n ⟨i,_,c,hs,rfl,e1,.inl rfl⟩) (g1.pz z n),λyy=>?_⟩,λc z=>?_,λc φ z=>?_⟩
   ·obtain⟨j,t,x,z1,z2,z3,z4⟩:=yy;rcases bo z1 with⟨rfl,rfl⟩ | ⟨m,z1⟩
    ·rw [e1] at z3;cases z3;rcases WB c z4 with z4 | rfl
     ·exact n ⟨j,_,_,hs,rfl,e1,z4⟩
     ·rw [nb] at z;cases z
    ·exact n ⟨j,t,x,z1,z2,z3,z4⟩
   ·refine g1.there c ?_;cases zz:H1 c with
    | none=>rfl
    | some o=>
     by_cases ca:c=a
     ·subst ca;rw [h2] at z;cases z
     ·rw [sx c o ca zz] at z;cases z
   ·obtain⟨j,p1,p2⟩:=z;have ji:j≠i:=λw=>by subst w;rw [hs] at p1;cases p1
    exact .inl ⟨j,by rw [aL ji];exact p1,p2⟩
  exact⟨_,k _ _,hr _ _,s2,(k _ _).mono (λt q2=>q2.go g2 sr s2) hq⟩
theorem SF.YO (i:Nat) {k:List (List PV)->W T} (hs:fs[i]?=ap (ap (.qj bs ls))) (hK:X.K=K) (hN:X.N[i]?=ap y) (hv:tH X.env.scope y) (he:EF X K fs e we) (h1:EF X K fs e1 w1) (h2:EF X K fs e2 w2) (ud:qH e1) (hr:∀VW,SF X K x (fs.set i (ap (.qj bs VW))) rest (k VW) out)
  (ha:∀v,Da (.Subscript (.Subscript (.Name y p) e1 qT) e2 fH) X.env v=(do
   let ov <- sB [v] (kw (.Subscript (.Name y p) e1 qT) X.env)
   let iv <- sB [v,ov] (kw e2 X.env)
   GT fH
   sB [v,ov,iv] (Ev ov iv v)
   release [v,ov,iv] []):=by intro _;rfl)
  (hd:(y==("__debug__":Str))=false:=by decide) (hJ:(y==("__classdict__":Str))=false:=by decide) (ZZ:xL [.Subscript (.Subscript (.Name y p) e1 qT) e2 fH] e pos.line X.env=pure false:=by rfl) (hw:zn [.Subscript (.Subscript (.Name y p) e1 qT) e2 fH] e X.env=pure bv:=by rfl)
  (hq1:(wT [.Subscript (.Subscript (.Name y p) e1 qT) e2 fH] X.env).map (·.2)=[Da (.Subscript (.Subscript (.Name y p) e1 qT) e2 fH) X.env]:=by rfl) :
  SF X K x fs (.Assign [.Subscript (.Subscript (.Name y p) e1 qT) e2 fH] e pos::rest) (.bind we λv=>.bind w1 λn=>.bind (RT ls n) λjl=>.bind w2 λm=>.bind (f7 jl.2 m v) λl'=>.bind (.ret (ls.set jl.1 l')) k) out:=
 SF.step (v9 he.p (Nd (Nh (Jo K hK) (cV hN hv hd hJ) h1.p ud) h2.p oq ha) ZZ hw hq1) λD σ H ⟨sr,q⟩=>by
  refine⟨sr,we.mono (λv qv u H1 g1 s1 v1=>?_) q⟩;obtain⟨a,kl,q1,q2,q3,q4,q5⟩:=iX s1 hs;refine⟨_,kl,s1,w1.mono (λn qn u2 H2 g2 s2 v2=>?_) qv⟩;obtain⟨a2,W3,r1,r2,r3,r4,r5⟩:=iX s2 hs;rw [kl] at W3;cases W3;cases v2 with
  | int kk=>
   have qn:(W.wu ((nA ls.length kk).bind λj=>(ls[j]?).map λl=>(j,l))).run _:=qn;cases hj:nA ls.length kk with
   | none=>rw [hj] at qn;exact qn.elim
   | some j=>
    have jl:=(wU hj).2.1;have hl:ls[j]?=ap ls[j]:=Ad jl;rw [hj] at qn;simp only [Option.bind_some] at qn;rw [hl] at qn;have qn:(am w2 λm=>.bind (f7 ls[j] m v) λl'=>.bind (.ret (ls.set j l')) k).run _:=qn;have hb:bs[j]?=ap (bs[j]'∅):=Ad ∅;generalize bs[j]'∅=b at hb;generalize ls[j]=l at hl qn;have hix:bW (bs.map V.ref) kk=ap (.ref b):=by
     unfold bW;rw [Af,r4,hj];show (bs.map V.ref)[j]?=_;rw [Ai,hb];rfl
    refine .inl ⟨a,_,kk,.ref b,rfl,rfl,c6.of r1,hix,s2,w2.mono (λm qm u3 H3 g3 s3 v3=>?_) qn⟩;obtain⟨a3,O7,p1,p2,p3,p4,p5⟩:=iX s3 hs;rw [kl] at O7;cases O7;cases v3 with
    | int k2=>
     have qm:(match nA l.length k2 with | some j2=>bm (l.set j2 v) | none=>W.fail).run _:=qm;cases Ob:nA l.length k2 with
     | none=>rw [Ob] at qm;exact qm.elim
     | some j2=>
      rw [Ob] at qm;obtain⟨ws,f1,f2⟩:=p5 j b l hb hl;refine⟨b,ws,k2,j2,rfl,rfl,f1,by rw [f2.length];exact Ob,λH4 sx h4=>?_⟩;have Ĭ:=Ba hb;have ab:a≠b:=λz=>p2 (z▸Ĭ);obtain⟨s4,g4⟩:=pq (t':=.qj bs (ls.set j (l.set j2 v))) s3 hs rfl (by simp) kl (c:=b) (.inr Ĭ) (.inr Ĭ) (λc h=>h) rfl sx λtk=>by
       refine⟨sx a _ ab p1,p2,p3,by simp [p4],λj' b' l' m1 m2=>?_⟩;by_cases c:j'=j
       ·subst c;rw [hb] at m1;cases m1;rw [Bu ∅] at m2;cases m2;exact⟨_,h4,aN.tk tk (f2.set ((g2.trans g3).vr s1 v1) j2)⟩
       ·rw [Bb (BF c)] at m2;obtain⟨pI,f3,f4⟩:=p5 j' b' l' m1 m2;refine⟨pI,sx b' _ (λz=>?_) f3,aN.tk tk f4⟩;subst z;have h1:=Ak.mp hb;have h2:=Ak.mp m1;exact c ((ED p3).mp (h2.2.trans h1.2.symm))
      exact⟨_,k _,hr _,s4,(k _).mono (λt q3=>q3.go (((g1.trans g2).trans g3).f.trans g4) sr s4) qm⟩
    | _=>exact qm.elim
  | _=>exact qn.elim
end
end
end FL
variable {κ:PyProof.Rows.SortKind}{vs:List A8}{p:Array Nat}
namespace L2
open PySem PySem.Spec PyProof.Rows
def eZ (N:Nat) (P:α->Prop):DU α->Prop
 | .ret a=>P a
 | .ask i j k=>i < N/\j < N/\∀b,eZ N P (k b)
theorem eZ.mono {N:Nat}{P P':α->Prop} (h:∀a,P a->P' a):∀{t:DU α},eZ N P t->eZ N P' t
 | .ret a,q=>h a q
 | .ask i j k,q=>⟨q.1,q.2.1,λb=>eZ.mono h (q.2.2 b)⟩
theorem eZ.bind {N:Nat}{P:α->Prop}{P':β->Prop}{f:α->DU β} (hf:∀a,P a->eZ N P' (f a)):∀{t:DU α},eZ N P t->eZ N P' (t.bind f)
 | .ret a,q=>hf a q
 | .ask i j k,q=>⟨q.1,q.2.1,λb=>eZ.bind hf (q.2.2 b)⟩
theorem eZ.wp {N:Nat}{P:α->Prop}{cmp:Nat->Nat->(Bool->dL->Prop)->dL->Prop}{Q:α->dL->Prop} (hc:∀i j C,i < N->j < N->(∀b,C b s)->cmp i j C s) (hq:∀a,P a->Q a s):∀{t:DU α},eZ N P t->t.kasWp cmp Q s
 | .ret a,q=>hq a q
 | .ask i j k,q=>hc i j _ q.1 q.2.1 λb=>eZ.wp hc hq (q.2.2 b)
def c8 (N:Nat) (p:Array Nat):Prop:=p.toList.Perm (Av N)
def c8.lt {N:Nat} (h:c8 N p) (h0:0 < N) (k:Nat):p.getD k 0 < N:=by
 by_cases c:k < p.size
 ·have:p.getD k 0=p[k]:=by simp [Array.getD,c]
  rw [this];exact AN.mp (h.mem_iff.mp (by simp))
 ·have:p.getD k 0=0:=by simp [Array.getD,c]
  rw [this];exact h0
def c8.rev {N:Nat} (h:c8 N p) (i j:Nat):c8 N (EW p i j):=(Ef.mp (mirror_perm p i j _)).trans h
def c8.bub {N:Nat} (h:c8 N p) (i j:Nat):c8 N (bubble p i j):=(Ef.mp (bubble_perm p i j)).trans h
section
variable {N:Nat} (h0:0 < N)
include h0
theorem NV (h:c8 N p):∀f n,eZ N (λ_=>True) (PySem.W.kas_asc p f n)
 | 0,n=>trivial
 | f+1,n=>⟨h.lt h0 _,h.lt h0 _,λb=>by
  cases b with
  | true=>exact trivial
  | false=>exact NV h f (n+1)⟩
theorem wN:∀f (p:Array Nat) n q,c8 N p->eZ N (λr=>c8 N r.1) (PySem.W.kas_desc f p n q)
 | 0,p,n,q,h=>h
 | f+1,p,n,q,h=>⟨h.lt h0 _,h.lt h0 _,λb=>by
  cases b with
  | true=>
   show eZ N _ (if q > 0 then _ else _)
   split
   ·exact wN f _ _ _ (h.rev _ _)
   ·exact wN f _ _ _ h
  | false=>exact⟨h.lt h0 _,h.lt h0 _,λb=>by
    cases b with
    | true=>exact h
    | false=>exact wN f _ _ _ h⟩⟩
def NT {m:Nat} (h:c8 N p):eZ N (λr=>c8 N r.2) (PySem.W.kas_tail3 n m p):=by
 exact eZ.bind (N:=N) (P:=λ_=>True) (P':=λr:Nat×Array Nat=>c8 N r.2) (f:=λk=>.ret (k,EW p 0 n)) (λk _=>(show c8 N (EW p 0 n) from h.rev _ _)) (NV h0 (h.rev _ _) _ _)
def NU {m:Nat} (h:c8 N p):eZ N (λr=>c8 N r.2) (PySem.W.kas_descPart n m p):=eZ.bind (λr hr=>by
 split
 ·exact NT h0 (hr.rev _ _)
 ·exact NT h0 hr) (wN h0 _ _ _ _ h)
def RP {m:Nat} (h:c8 N p):eZ N (λr=>c8 N r.2) (PySem.W.kas_count m p):=eZ.bind (λn _=>by
 split
 ·exact h
 ·split
  ·exact⟨h.lt h0 _,h.lt h0 _,λb=>by
    cases b with
    | true=>exact h
    | false=>exact NU h0 (h.rev _ _)⟩
  ·exact NU h0 h) (NV h0 h _ _)
theorem wM (h:c8 N p) (k:Nat):∀f l r,eZ N (λ_=>True) (PySem.W.kas_place p k f l r)
 | 0,l,r=>trivial
 | f+1,l,r=>by
  show eZ N _ (if l≥r then _ else _)
  split
  ·exact trivial
  ·exact⟨h.lt h0 _,h.lt h0 _,λb=>by
    cases b with
    | true=>exact wM h k f _ _
    | false=>exact wM h k f _ _⟩
theorem T7:∀f (p:Array Nat) k,c8 N p->eZ N (c8 N) (PySem.W.kas_bin f p k)
 | 0,p,k,h=>h
 | f+1,p,k,h=>eZ.bind (λl _=>T7 f _ _ (h.bub _ _)) (wM h0 h k _ _ _)
def Wi:eZ N (c8 N) (FG N):=eZ.bind (λr hr=>by
 split
 ·exact T7 h0 _ _ _ hr
 ·exact hr) (RP h0 (List.Perm.refl _))
end
section
theorem GQ {P:PySem.Fin->dL->Prop} (ho:s.heap.get? a=ap (wn "list" vs.toArray n)) (ì:vs.length < 64)
  (ĥ:2<=vs.length->∀h',(∀b o,b≠a->s.heap.get? b=ap o->h'.get? b=ap o)->d5 (ev prog w) A (keyKind' vs.toArray) (λk s'=>k=κ/\s'={s with heap:=h'}) (λ_ _=>False) {s with heap:=h'})
  (lP:∀h',(∀b o,b≠a->s.heap.get? b=ap o->h'.get? b=ap o)->∀i j,i < vs.length->j < vs.length->∀C:Bool->dL->Prop,(∀b,C b {s with heap:=h'})->d5 (ev prog w) A (keyLt' κ (vs.getD i AW) (vs.getD j AW)) C (λ_ _=>False) {s with heap:=h'})
  (h:∀out:List ci,out.Perm vs->P (.done (.ret .none)) {s with heap:=sortedHeap s.heap a vs out.toArray}) :
  d5 (ev prog w) A (Fk.«list.sort» ⟨[.ref a],[]⟩) P E s:=by
 rw [list_sort_plain];have ha:=Ar ho;refine Aa (listItems_at ho rfl ?_);refine Aa (listUpdate_at ho rfl ?_);obtain⟨e1,ho1⟩:∃e1,(s.heap.update a (Bm λ_=>#[])).get? a=ap (wn "list" #[] e1):=⟨_,get?_update_seq ho (λ_=>#[])⟩;refine Aa (seqEpoch_at ho1 rfl ?_);refine Aa (CM ?_);refine Aa (wpAny_newList ?_);refine Be ?_;have ÿ:(((s.heap.update a (Bm λ_=>#[])).push (wn "tuple" vs.toArray 0)).push (wn "list" #[] 0)).get? a=ap (wn "list" #[] e1):=by
  rw [Heap.get?_push_ne _ _ _ (by rw [size_push',Ew];exact AJ (C7 ha)),Heap.get?_push_ne _ _ _ (by rw [Ew];exact AJ ha)];exact ho1
 have kp:∀b o,b≠a->s.heap.get? b=ap o->(((s.heap.update a (Bm λ_=>#[])).push (wn "tuple" vs.toArray 0)).push (wn "list" #[] 0)).get? b=ap o:=λb o n e=>Ah _ (Ah _ (by rw [Fm _ _ _ _ n];exact e));dsimp only;have hsz:vs.toArray.size=vs.length:=by simp
 by_cases h2:vs.toArray.size < 2
 ·rw [if_pos h2,if_pos h2];refine Aa (Ag ?_);refine Aa (Ag ?_);dsimp only;refine Aa (seqEpoch_at ÿ rfl ?_);refine Aa (listUpdate_at ÿ rfl ?_ (hsz2:=by rw [Array.size_map];show (pairsOf vs).size<=_;rw [pairsOf_size,Ge];omega));simp only [bne_self_eq_false,Al,if_false];refine Ag ?_;have e:(arrOf (SortSt.mk' general' (vs.toArray.zip vs.toArray) #[] 7 bv)).map (·.2)=vs.toArray:=by
   apply EH.mp;simp [List.map_snd_zip]
  show P _ {s with heap:=_};rw [e];exact h vs (List.Perm.refl _)
 ·rw [if_neg h2,if_neg h2];have tG:2<=vs.length:=by omega
  refine Aa (BQ (ĥ tG _ kp) (λk s0 hk=>?_) λ_ _ x=>x.elim);obtain⟨rfl,rfl⟩:=hk;have hw:(FG vs.length).kasWp (PySem.W.kas_ask prog w A k vs) (λp s'=>c8 vs.length p/\s'={s with heap:=((s.heap.update a (Bm λ_=>#[])).push (wn "tuple" vs.toArray 0)).push (wn "list" #[] 0)}) {s with heap:=((s.heap.update a (Bm λ_=>#[])).push (wn "tuple" vs.toArray 0)).push (wn "list" #[] 0)}:=
   eZ.wp (λi j C hi hj hC=>lP _ kp i j hi hj C hC) (λp hp=>⟨hp,rfl⟩) (Wi (show 0 < vs.length by omega))
  refine Aa (BQ (PySem.W.kat_run (Q:=λmN s'=>∃p:Array Nat,c8 vs.length p/\arrOf mN=p.map (PySem.W.kas_item (vs.toArray.zip vs.toArray))/\failedOf mN=bv/\s'={s with heap:=((s.heap.update a (Bm λ_=>#[])).push (wn "tuple" vs.toArray 0)).push (wn "list" #[] 0)})
   rfl tG ì (λp' mN s' a1 a2 a3 a4=>⟨p',a4.1,a2,a3,a4.2⟩) hw) ?_ λ_ _ e=>e)
  rintro⟨⟨⟩,mN⟩ s' ⟨p,hp,har,hf,rfl⟩;have zd:=PySem.W.kat_snds rfl har;have Uc:(p.toList.map λi=>vs.getD i AW).Perm vs:=by
   have e:(Av vs.length).map (λi=>vs.getD i AW)=vs:=by
    apply Bi;intro i;by_cases c:i < vs.length
    ·rw [Ai,Bw c,Ad c];show ap (vs.getD i AW)=_;rw [Ap,Ad c];rfl
    ·rw [Ax (by simp;omega),Ax ∅]
   have:=hp.map (λi=>vs.getD i AW);rw [e] at this;exact this
  rw [zd];refine Aa (seqEpoch_at ÿ rfl ?_);refine Aa (listUpdate_at ÿ rfl ?_ (hsz2:=by rw [Aj,Uc.length_eq,Ge];omega));rw [hf];simp only [bne_self_eq_false,Al,if_false];exact Ag (h _ Uc)
def QB {l:db}{Q:ci->dL->Prop} (hl:s.heap.IsList l vs.toArray) (ì:vs.length < 64)
  (ĥ:2<=vs.length->∀h',(∀b o,s.heap.get? b=ap o->h'.get? b=ap o)->d5 (ev prog w) A.in1.in1 (keyKind' vs.toArray) (λk s'=>k=κ/\s'={s with heap:=h'}) (λ_ _=>False) {s with heap:=h'})
  (lP:∀h',(∀b o,s.heap.get? b=ap o->h'.get? b=ap o)->∀i j,i < vs.length->j < vs.length->∀C:Bool->dL->Prop,(∀b,C b {s with heap:=h'})->d5 (ev prog w) A.in1.in1 (keyLt' κ (vs.getD i AW) (vs.getD j AW)) C (λ_ _=>False) {s with heap:=h'})
  (h:∀out:List ci,out.Perm vs->Q (.ref (s.heap.objs.size+1)) {s with heap:=sortedAll s.heap vs out.toArray}) :
  d5 (ev prog w) A (call (.builtin "sorted") [.ref l]) Q E s:=by
 refine Calls.call_function_entry kind_sorted plain_sorted entry_sorted (args_sorted1 _) ?_;refine Aa (m:=checkCount "sorted" 1 1 _) (Ag ?_);refine Aa (collect_list hl ?_);refine Aa (wpAny_newList ?_);have hsz:((s.heap.push (wn "list" #[] 0)).update s.heap.objs.size (Bm (·++vs.toArray))).objs.size=s.heap.objs.size+1:=by
  rw [Ew,size_push']
 have þ:(((s.heap.push (wn "list" #[] 0)).update s.heap.objs.size (Bm (·++vs.toArray))).push (wn "list" vs.toArray 0)).get? (s.heap.objs.size+1)=ap (wn "list" vs.toArray 0):=by
  rw [<- hsz];exact Aq _ rfl
 have kp:∀b o,s.heap.get? b=ap o->b≠s.heap.objs.size+1/\(((s.heap.push (wn "list" #[] 0)).update s.heap.objs.size (Bm (·++vs.toArray))).push (wn "list" vs.toArray 0)).get? b=ap o:=λb o e=>by
  have lt:=Ar e;refine⟨AJ (C7 lt),Ah _ ?_⟩;rw [Fm _ _ _ _ (AJ lt)];exact Ah _ e
 show d5 _ _ _ _ _ {s with heap:=((s.heap.push (wn "list" #[] 0)).update s.heap.objs.size (Bm (·++vs.toArray))).push (wn "list" vs.toArray 0)};rw [hsz];refine Aa (Be (Bg slot_list_sort ⟨_,þ,rfl⟩ entry_list_sort (GQ (κ:=κ) þ ì (λh2 h' k=>?_) (λh' k=>?_) λout hp=>⟨_,rfl,?_⟩) (args_list_sort _)))
 ·exact ĥ h2 h' λb o e=>k b o (kp b o e).1 (kp b o e).2
 ·exact lP h' λb o e=>k b o (kp b o e).1 (kp b o e).2
 ·exact Ag ⟨_,rfl,h out hp⟩
end
end L2
variable {x:PL.PV}{j:Int}{p:Cv}{t1:PySem.Tok}
namespace FL
section
open PySem PySem.Spec PyProof.Rows L2 PL
variable {K:Ab}
def oM:PV->Bool
 | .tup [.str _,.tup [.int _,.int _]]=>true
 | _=>false
def G0 (h:oM x=true):∃s i j,x=.tup [.str s,.tup [.int i,.int j]]:=by
 unfold oM at h
 split at h
 ·exact⟨_,_,_,rfl⟩
 ·cases h
section
def SM (I:Inv X Z σ H s) {v:V}{u:ci} (hv:VR X.K [] H v x) (ru:RelV v u) (hx:oM x=true):∃(a b:db) (st:Str) (i j:Int) (t t1 t2:Tok) (oa ob:Obj) (na nb:Nat),u=.ref a/\s.heap.get? a=ap oa/\oa.cls=.type "tuple"/\oa.data=.seq #[.str st t,.ref b] na/\s.heap.get? b=ap ob/\ob.cls=.type "tuple"/\ob.data=.seq #[.int i t1,.int j t2] nb:=by
 obtain⟨st,i,j,rfl⟩:=G0 hx;cases hv with
 | @tup p vs _ e r=>
 cases ru;cases r with
 | cons r1 r2=>
 cases r1;cases r2 with
 | cons r2 r3=>
 cases r3;cases r2 with
 | @tup b ws _ e2 r4=>
 cases r4 with
 | cons r4 r5=>
 cases r4;cases r5 with
 | cons r5 r6=>
 cases r6;cases r5;obtain⟨aw,rv,⟨o,h1,h2,n,h3⟩,_⟩:=I.tuple (d7.of (K:=X.K) e);obtain⟨cH,rv2,⟨o2,k1,k2,n2,k3⟩,_⟩:=I.tuple (d7.of (K:=X.K) e2);cases rv with
 | cons q1 q2=>
 cases q2 with
 | cons q2 q3=>
 cases q3;cases rv2 with
 | cons m1 m2=>
 cases m2 with
 | cons m2 m3=>
 cases m3;obtain⟨t,rfl⟩:=q1;cases q2;obtain⟨t1,rfl⟩:=m1;obtain⟨t2,rfl⟩:=m2;exact⟨p,b,st,i,j,t,t1,t2,o,o2,n,n2,rfl,h1,h2,h3,k1,k2,k3⟩
end
theorem SJ {b a' b':db}{st mN:Str}{i i' j':Int}{t t2 t' YI YG:Tok}{oa XC VJ:Obj}{na nb na' đ:Nat} (hu:A.units+1 < pc)
  (h1:s.heap.get? a=ap oa) (h3:oa.data=.seq #[.str st t,.ref b] na) (k1:s.heap.get? b=ap ob) (k2:ob.cls=.type "tuple") (k3:ob.data=.seq #[.int i t1,.int j t2] nb)
  (gs:s.heap.get? a'=ap XC) (zg:XC.data=.seq #[.str mN t',.ref b'] na') (ĕ:s.heap.get? b'=ap VJ) (Ĕ:VJ.cls=.type "tuple") (ē:VJ.data=.seq #[.int i' YI,.int j' YG] đ)
  {C:Bool->dL->Prop} (hC:∀b,C b s):d5 (ev prog w) A (keyLt' (tuples' true) (.ref a) (.ref a')) C (λ_ _=>False) s:=by
 refine PySem.W.kat_lt h1 h3 gs zg (FE (Dj.str_str st t mN t' prog w _ _ (PySem.W.kat_go (λ_=>PySem.W.kat_yes ?_) λ_=>PySem.W.kat_no ?_)))
 ·refine FE ?_;have hT:s.heap.IsTuple b #[.int i t1,.int j t2]:=⟨ob,k1,k2,nb,k3⟩;have hT':s.heap.IsTuple b' #[.int i' YI,.int j' YG]:=⟨VJ,ĕ,Ĕ,đ,ē⟩;have go:∀e,PySem.W.KatGo prog w A true (decide ((#[D1 st t,.ref b]:Array ci).size < (#[D1 mN t',.ref b']:Array ci).size)) C (.ref b) (.ref b') [] 1 e s:=λe=>PySem.W.kat_go (λ_=>PySem.W.kat_yes (PySem.W.kat_nil (hC _))) λ_=>PySem.W.kat_no (PySem.W.kat_one _ _ (HT.GN hT hT' (.cons i t1 (.cons j t2 .nil)) (.cons i' YI (.cons j' YG .nil)) ∅ (hC _)));by_cases c:b=b'
  ·subst c;exact FO (.ref b) prog w _ _ (go _)
  ·refine Fw c (Fy (e:=λk=>if k=0 then i==i' else j==j') hT hT' ∅ λk g1 g2=>?_) prog w _ _ (go _);have:k=0\/k=1:=by simp at g1;omega
   rcases this with rfl | rfl
   ·exact D5 i t1 i' YI
   ·exact D5 j t2 j' YG
 ·exact oneLt_str (hC _)
section
def U8 (K:Ab):List V->Hp->VK->Prop:=λxs H Q=>∃(p:db) (vs:List V) (l:List PV),xs=[.ref p]/\c6 K H p vs/\aN K [] H vs l/\l.length < 64/\l.all oM=true/\∀m:List PV,m.Perm l->∀ws,aN K [] H ws m->kg H (.lst ws) Q
def Ng {vs:List V}{out:List ci} (r:Vals vs us) (v:aN K [] H vs l) (p:out.Perm us):∃ws m,Vals ws out/\aN K [] H ws m/\m.Perm l:=by
 induction p generalizing vs l with
 | nil=>cases r;cases v;exact⟨[],[],.nil,.nil,.refl _⟩
 | cons x p ih=>
  cases r with
  | cons r1 r2=>
  cases v with
  | cons v1 v2=>
  obtain⟨ws,m,a,b,c⟩:=ih r2 v2;exact⟨_::ws,_::m,.cons r1 a,.cons v1 b,.cons _ c⟩
 | swap x y l'=>
  cases r with
  | cons r1 r2=>
  cases r2 with
  | cons r2 r3=>
  cases v with
  | cons v1 v2=>
  cases v2 with
  | cons v2 v3=>exact⟨_::_::_,_::_::_,.cons r2 (.cons r1 r3),.cons v2 (.cons v1 v3),.swap _ _ _⟩
 | trans p1 p2 ih1 ih2=>
  obtain⟨ws,m,a,b,c⟩:=ih2 r v;obtain⟨pI,m',a',b',c'⟩:=ih1 a b;exact⟨pI,m',a',b',c'.trans c⟩
theorem HJ (hK:X.K=K) (hu:X.A.units+200 < pc):bR X (.builtin "sorted") (U8 K):=by
 subst hK;intro Z s σ H xs us Q I r h;obtain⟨p,vs,l,rfl,hq,hv,ì,hd,q⟩:=h;obtain⟨u,rfl,rx⟩:=vals1 r;cases rx;obtain⟨aw,r',pl,hz⟩:=I.list hq;have hl:=r'.length;have KN:=hv.length;have el:∀i,i < aw.length->∃(a b:db) (st:Str) (i1 j1:Int) (t t1 t2:Tok) (oa ob:Obj) (na nb:Nat),aw.getD i AW=.ref a/\s.heap.get? a=ap oa/\oa.cls=.type "tuple"/\oa.data=.seq #[.str st t,.ref b] na/\s.heap.get? b=ap ob/\ob.cls=.type "tuple"/\ob.data=.seq #[.int i1 t1,.int j1 t2] nb:=λi hi=>by
  have e1:vs[i]?=ap vs[i]:=Ad ∅;obtain⟨x,ex,vx⟩:=hv.aak e1;have hx:=Cz.mp hd x (Ba ex);have ru:RelV vs[i] (aw.getD i AW):=by
   obtain⟨u,ě,Ě⟩:=Vals.get r' e1;rw [Ap,ě];exact Ě
  exact SM I vx ru hx
 refine QB (κ:=tuples' true) pl.isList ∅ (λh2 h' kp=>?_) (λh' kp i j hi hj C hC=>?_) λout hp=>?_
 ·have à:∀l:List ci,(∀v∈l,∃(a:db) (x:ci) (st:Str) (t:Tok) (oa:Obj) (na:Nat),v=.ref a/\h'.get? a=ap oa/\oa.cls=.type "tuple"/\oa.data=.seq #[.str st t,x] na)->∃fs,PySem.W.KatTups h' l fs/\fs.length=l.length/\∀v∈fs,∃st t,v=D1 st t:=by
   intro l
   induction l with
   | nil=>intro _;exact⟨[],trivial,rfl,by simp⟩
   | cons v l ih=>
    intro hl;obtain⟨fs,f1,f2,f3⟩:=ih λy hy=>hl y (.tail _ hy);obtain⟨a,x,st,t,oa,na,rfl,g1,g2,g3⟩:=hl v (.head _);refine⟨.str st t::fs,PySem.W.KatTups.cons g1 g2 g3 rfl f1,by simp [f2],λy hy=>?_⟩;rcases AA.mp hy with rfl | hy
    ·exact⟨st,t,rfl⟩
    ·exact f3 y hy
  obtain⟨fs,f1,f2,f3⟩:=à aw λv hv=>by
   obtain⟨i,hi,rfl⟩:=DS hv;obtain⟨a,b,st,i1,j1,t,t1,t2,oa,ob,na,nb,e,h1,h2,h3,_⟩:=el i hi;rw [Ap,Ad hi] at e;exact⟨a,.ref b,st,t,oa,na,e,kp _ _ h1,h2,h3⟩
  refine PySem.W.kat_kind (T:=.type "str") f1 ∅ (λv hv=>?_) ⋯ ⟨rfl,rfl⟩;obtain⟨st,t,rfl⟩:=f3 v hv;exact PySem.W.Looks.now
 ·obtain⟨a,b,st,i1,j1,t,t1,t2,oa,ob,na,nb,e,h1,h2,h3,k1,k2,k3⟩:=el i hi;obtain⟨a',b',mN,i1',j1',t',YI,YG,XC,VJ,na',đ,e',gs,tG,zg,ĕ,Ĕ,ē⟩:=el j hj;rw [e,e'];exact SJ (s:={s with heap:=h'}) (by show X.A.units+1+1+1 < _;omega) (kp _ _ h1) h3 (kp _ _ k1) k2 k3 (kp _ _ gs) zg (kp _ _ ĕ) Ĕ ē hC
 ·obtain⟨ws,m,a1,a2,a3⟩:=Ng r' hv hp;obtain⟨e,he⟩:=sortedAll_at s.heap aw out.toArray;refine⟨.ref (s.heap.objs.size+1),_,I.laid (t':=s.toks) (λ_ _=>sortedAll_old) (Fg _) (show bx X.prog X.w _ _ _ (.lst ws) from⟨?_,out,e,a1,he⟩),rfl,(q m a3 ws a2).at _ (I.bI.fresh (Fg _))⟩;rw [a2.length,a3.length_eq];rw [<- KN];exact hz
def Mv (l:List PV):W (List PV):=.fq (l.length < 64/\l.all oM=true) (.any λm=>m.Perm l)
def RF (hK:X.K=K) (hu:X.A.units+200 < pc) (hg:Gl X "sorted") (hm:X.mg "sorted"=bv) (ha:yd X K fs e wl) (he:ce [e] X.env=(false,kw e X.env)::ce [] X.env:=by rfl) (dJ:(lm pos (ce [] X.env)).any (·.1)=false:=by rfl):LF X K fs (.Call (.Name "sorted" p) [e] [] pos) (.bind wl Mv):=
 ⟨PE.imp (eO (HJ hK hu) hg hm boot_sorted (bp ha.p cG he) ⋯ ⋯ he dJ) λσ H Q ⟨sr,q⟩=>⟨sr,wl.mono (λl q1 u1 H1 g1 s1 _ v1=>by
  obtain⟨⟨c1,c2⟩,q2⟩:=q1;obtain⟨a,vs,rfl,h1,r1⟩:=v1 H1 .refl s1;exact⟨a,vs,l,rfl,h1,r1,c1,c2,λm hm ws hw=>yW g1 s1 hw (q2 m hm)⟩) q⟩⟩
end
end
end FL
variable {x:Ce}
namespace FL
section
open PySem PySem.Spec PyProof.Rows L2 PL
variable {K:Ab}
structure TupK (K:Ab) (a:db) (ts:List Str):Prop where
 ex:∃(o:Obj) (aw:Array ci) (n:Nat),K.lookup a=ap o/\o.cls=.type "tuple"/\o.data=.seq aw n/\aw.size<=sizeLine/\Vals (ts.map V.str) aw.toList
def tup3K {z:Str}{t2 t3:Tok} (h:K.lookup a=ap ⟨.type "tuple",od,.seq #[.str x t1,.str y t2,.str z t3] n,P0⟩):TupK K a [x,y,z]:=⟨_,_,_,h,rfl,rfl,a9 (by show 3<=_;decide),.cons ⟨_,rfl⟩ (.cons ⟨_,rfl⟩ (.cons ⟨_,rfl⟩ .nil))⟩
section
theorem strs_vr (H:Hp):∀ts:List Str,aN K [] H (ts.map V.str) (ts.map PV.str)
 | []=>.nil
 | t::ts=>.cons (.str t) (strs_vr H ts)
def it_mt (hK:X.K=K) {ts:List Str} (hm:X.mg x=ap (.ref a)) (T:TupK K a ts) (hg:Gl X x:=by rfl) (hd:(x==("__debug__":Str))=false:=by decide):p0 X K fs tg (.Name x pos) (.ret (ts.map PV.str)):=⟨by
 subst hK;intro Z s σ H R I ⟨sr,q⟩;have sq:∀H',d7 X.K H' a (ts.map V.str):=λ_=>.inr T.ex;refine bE (qf hg hm (v:=.ref a) rfl hd Z s σ H (λu H1=>u=.ref a/\H1=H) I ⟨rfl,rfl⟩) λv s1 ⟨x,H1,I1,r1,e1,e2⟩=>?_;subst e1;subst e2;cases r1;obtain⟨aw,rv,pl,hz⟩:=I1.tuple (sq _);have jf:JF X.K H1 (Itt X.K a) (ts.map PV.str):=⟨by rw [Af] at hz ⊢;exact hz,λH' t=>by
  have e2:=strs_vr (K:=X.K) H' ts;refine⟨λi p hp=>?_,_,sq H',by rw [e2.length];exact An _⟩;obtain⟨v,h3,h4⟩:=e2.get hp;refine⟨⟨_,v,sq H',h3⟩,λx H3 y=>?_⟩;obtain⟨rfl,y⟩:=y;have:=y _ (sq _);rw [h3] at this;cases this;exact⟨jx.refl _,h4⟩⟩
 refine CY (show s1.heap.IsTuple a aw.toArray from pl) ?_;refine⟨s1.heap.objs.size,[s1.heap.objs.size],_,_,H1,rfl,I1.kept (t':=s1.toks) λb o e=>Ah _ e,qP a _,⟨_,Aq _ rfl,rfl,rfl⟩,λb hb=>?_,q _ H1 .refl sr jf⟩;have e:b=s1.heap.objs.size:=by simpa using hb
 subst e;exact I1.uj (An _) (I1.bI.fresh (An _))⟩
end
def get_dict (hu:X.A.units+1 < pc):Xq X (λo i H Q=>∃a v,o=.ref a/\o9 H a i (ap v)/\Q v H):=λZ s σ H o i ov iv Q I ro ri ⟨a,v,e,g,q⟩=>by
 subst e;cases ro;exact vf hu I g ri λw' s' I' r=>⟨v,H,I',r,q⟩
section
variable {a:lw}{rest:List u8}{T:Type}{out:T->End}{x:Bool}{kvs:List (Key×PV)}
theorem SF.augD (i:Nat) {M:M2}{k:List (Key×PV)->W T} (hs:fs[i]?=ap (ap (.od kvs))) (hu:X.A.units+200 < pc) (hN:X.N[i]?=ap y) (hv:tH X.env.scope y) (hi:EF X K fs ei wi) (he:EF X K fs e we) (ho:X7 X op ti) (hM:M2.Ok K ti M) (hr:∀l',SF X K x (fs.set i (ap (.od l'))) rest (k l') out)
  (hd:(y==("__debug__":Str))=false:=by decide) (hJ:(y==("__classdict__":Str))=false:=by decide)
  (ha:∀ov iv new,augStore ei ov iv new=(do sB [new,ov,iv] (Ev ov iv new);release [new,ov,iv] [];pure .next):=by intros;rfl) :
  SF X K x fs (.AugAssign (.Subscript (.Name y p) ei fH) op e pos::rest) (.bind wi λn=>.bind (oI n) λkk=>.bind (.wu (gz kvs kk)) λg=>.bind we λv=>.bind (of2 M g v) λr=>.bind (.fq (kvs.length < sizeLine) (.ret (putP kvs kk r))) k) out:=
 SF.step (IK (cV hN hv hd hJ) hi.p (get_dict ∅) he.p ho (Kc ∅) ha) λD σ H ⟨sr,q⟩=>by
  obtain⟨a,vs,e1,h1,r1⟩:=ir sr hs;refine⟨_,e1,sr,wi.mono (λn q1 u1 H1 g1 s1 v1=>?_) q⟩;obtain⟨kk,rfl,q1⟩:=Jj v1 q1;have q1:(W.wu (gz kvs kk)).run _:=q1;obtain⟨a',vs1,kl,gs,tw⟩:=ir s1 hs;rw [e1] at kl;cases kl;cases hg:gz kvs kk with
  | none=>rw [hg] at q1;exact q1.elim
  | some g=>
   rw [hg] at q1;obtain⟨u,k1,k2⟩:=tw.get kk hg;refine⟨a,u,rfl,by rw [<- k1];exact o9.k gs,s1,we.mono (λv q2 u2 H2 g2 s2 v2=>?_) q1⟩;refine oD hM s2 (g2.vr s1 k2) v2 ((of2 M g v).mono (λr q3 u3 H3 g3 s3 v3=>?_) q2);obtain⟨a',vs3,O7,zg,M4⟩:=ir s3 hs;rw [e1] at O7;cases O7;obtain⟨hz,q3⟩:=q3;refine⟨a,vs3,kk,rfl,rfl,zg,by rw [M4.length];exact hz,λH4 sx h4=>?_⟩;obtain⟨s4,g4⟩:=jJ (t':=.od (putP kvs kk r)) s3 hs rfl (by simp) e1 sx λtk=>⟨_,h4,(M4.put kk v3).1,aN.tk tk (M4.put kk v3).2⟩;exact⟨_,k _,hr _,s4,(k _).mono (λt q4=>q4.go (((g1.trans g2).trans g3).f.trans g4) sr s4) q3⟩
def dcP (ts:List (Str×Int)):List (Key×PV):=ts.map λt=>(.inr t.1,.int t.2)
def dcV (ts:List (Str×Int)):List (Key×V):=ts.map λt=>(.inr t.1,.int t.2)
theorem merge_new:∀(more Ä:List (Key×V)),((Ä++more).map (·.1)).Nodup->mergeK Ä more=Ä++more
 | [],Ä,_=>by simp [mergeK]
 | kv::more,Ä,h=>by
  have e:putK Ä kv.1 kv.2=Ä++[kv]:=by
   unfold putK;rw [if_neg];intro hc;obtain⟨z,hz,e⟩:=BO.mp hc;have e:=of_decide_eq_true e;rw [AM,Cq] at h;exact h.2.2 z.1 (Aw.mpr ⟨z,hz,rfl⟩) kv.1 (by simp) e
  have h2:mergeK Ä (kv::more)=mergeK (putK Ä kv.1 kv.2) more:=rfl;rw [h2,e,merge_new more (Ä++[kv]) (by simpa using h)];simp
theorem pairs_c {Q:List (V×V)->Hp->Prop}:∀(ts:List (Str×Int)) (H:Hp) (Q:List (V×V)->Hp->Prop),Q (ts.map λt=>(V.str t.1,V.int t.2)) H->vK (ts.map λt=>(tC (.str t.1),tC (.int t.2))) σ H Q
 | [],H,Q,q=>q
 | t::ts,H,Q,q=>pairs_c (Q:=Q) ts H (λps H3=>Q ((V.str t.1,V.int t.2)::ps) H3) q
def dc_rel (H:Hp) (ts:List (Str×Int)):da K H (dcV ts) (dcP ts):=by
 refine⟨by simp [dcV,dcP],?_⟩
 induction ts with
 | nil=>exact .nil
 | cons t ts ih=>exact .cons (.int t.2) ih
def SF.setDc (ts:List (Str×Int)) {k:W T} (hN:X.N.Nodup) (hi:X.N[i]?=ap y) (hx:Loc X.env.scope y) (hp:PPs X p2 É È (ts.map λt=>(tC (.str t.1),tC (.int t.2)))) (hr:SF X K x (fs.set i (ap (.od (dcP ts)))) rest k out) (Oi:É.all (·.isSome)=true:=by rfl) (hl:É.length=È.length:=by rfl) (h0:É≠[]:=by simp) (İ:É.length<=15:=by decide) (ht:ts.length<=15:=by decide) (hnd:(ts.map (·.1)).Nodup:=by decide +kernel) (hs:nn (.Dict É È p2) (ap (.Name y p')) pos.line X.env=pure false:=by rfl)
  (hf:X.fn y=true\/X.env.scope.names.lookup y=ap .local:=by first | exact .inl rfl | exact .inr rfl | assumption):SF X K x fs (.Assign [.Name y p'] (.Dict É È p2) pos::rest) k out:=SF.step (oz hN hi hx (Q7 hp Oi hl h0 İ) hs hf) λD σ H ⟨sr,q⟩=>λa n1=>by
 refine pairs_c (Q:=λ_ _=>True) ts _ _ ⟨aP,dcV ts,by simp [dcV,kV],by simpa [dcV] using ht,?_⟩;have em:mergeK [] (dcV ts)=dcV ts:=merge_new _ [] (by
  have e:(dcV ts).map (·.1)=(ts.map (·.1)).map EI:=by simp [dcV]
  rw [E4,e];exact List.Pairwise.map _ (λa b h e=>h (EI.inj e)) hnd)
 rw [em];have s1:jx H (upd (upd H a (.dK [])) a (.dK (dcV ts))):=λb u hb=>by
  have:b≠a:=λe=>by rw [e,n1] at hb;cases hb
  rw [aB this,aB this];exact hb
 have e1:(upd (upd H a (.dK [])) a (.dK (dcV ts))) a=ap (.dK (dcV ts)):=aP;generalize upd (upd H a (.dK [])) a (.dK (dcV ts))=H1 at s1 e1;have no:=sr.noOwn n1;have s2:=(sr.same s1).oy (t:=.od (dcP ts)) ⟨dcV ts,e1,(dc_rel (K:=K) H1 ts).1,(dc_rel (K:=K) H1 ts).2⟩ no i;exact⟨_,k,hr,s2,k.mono (λt q2=>q2.go (cE.oy (sr.same s1) (cE.same s1 sr) no n1 i) sr s2) q⟩
end
end
open PySem PySem.Spec PyProof.Rows L2 PL
def f9 (ns:List Int):Prop:=∃g s c:Int,ns=[g,s,c]/\0<=g/\0<=s/\s < 2305843009213693951/\0<=c
def drawn (m:Int):W PV:=.any λv=>∃d:Int,v=.int d/\0<=d/\d < m
def bq:PV->W PV
 | .int m=>.fq (0 < m/\m<=2000) (drawn m)
 | _=>.fail
end FL
variable {i:Int}
namespace FL
open PySem PySem.Spec PyProof.Rows L2 PL
def oE:of2 (aI g) (.int i) (.int j)=.ret (g i j):=BT λQ=>⟨CA,λq=>⟨rfl,q⟩⟩
def qk {C:Int->Int->Prop}:of2 (Xl C g) (.int i) (.int j)=.fq (C i j) (.ret (g i j)):=BT λQ=>⟨λq=>⟨q.1,q.2.2⟩,λq=>⟨q.1,rfl,q.2⟩⟩
section
variable (i j:Int) (a b:Bool) (x y:PV) (l m:List PV) (s t:Str)
@[simp] theorem mH:of2 m8 (.int i) (.int j)=.ret (.int (i-j)):=oE
@[simp] theorem OI:of2 mz (.int i) (.int j)=.fq (t0 i j) (.ret (.int (i*j))):=qk
@[simp] theorem aej:of2 oDiv (.int i) (.int j)=.fq (Th i j) (.ret (.int (i / j))):=qk
@[simp] theorem OJ:of2 oMod (.int i) (.int j)=.fq (0 < j) (.ret (.int (i % j))):=qk
@[simp] theorem WR:of2 yT (.int i) (.int j)=.fq (PX i j) (.ret (.int (i ^ j.toNat))):=qk
@[simp] theorem zA:of2 oLt (.int i) (.int j)=.ret (.bl (decide (i < j))):=oE
@[simp] theorem OK:of2 oLe (.int i) (.int j)=.ret (.bl (decide (i<=j))):=oE
@[simp] theorem Uo:of2 Zr (.int i) (.int j)=.ret (.bl (decide (j < i))):=oE
@[simp] theorem aax:of2 oGe (.int i) (.int j)=.ret (.bl (decide (j<=i))):=oE
@[simp] theorem zB:of2 Js (.int i) (.int j)=.ret (.int (i+j)):=oE
def sH:of2 di x y=.fq (K5 x y) (.ret (.bl (kj x y))):=BT λQ=>⟨λq=>⟨q.1,q.2.2⟩,λq=>⟨q.1,rfl,q.2⟩⟩
def Um:of2 wy x y=.fq (K5 x y) (.ret (.bl (!kj x y))):=BT λQ=>⟨λq=>⟨q.1,q.2.2⟩,λq=>⟨q.1,rfl,q.2⟩⟩
@[simp] theorem aei:of2 acX (.bl a) (.bl b)=.ret (.bl (a==b)):=BT λQ=>⟨CA,λq=>⟨rfl,q⟩⟩
@[simp] theorem uZ:of2 m9 (.bl a) (.bl b)=.ret (.bl (!(a==b))):=BT λQ=>⟨CA,λq=>⟨rfl,q⟩⟩
@[simp] theorem oX:of2 Gy x .aX=.ret (.bl x.me):=BT λQ=>⟨CA,λq=>⟨rfl,q⟩⟩
@[simp] theorem WW:of2 Rq (.str s) (.str t)=.ret (.bl (!(Builtin.Str.occurrences t s 0 t.length 1).isEmpty)):=BT λQ=>⟨CA,λq=>⟨rfl,q⟩⟩
def WV {c:Nat} (h:bW s.cps.toList i=ap c):of2 Nw (.str s) (.int i)=.fq (s.length<=sizeLine) (.ret (.str ⟨#[c]⟩)):=BT λQ=>by
 show (s.length<=sizeLine/\match bW s.cps.toList i with | some c=>_/\_ | none=>False)↔_;rw [h];exact⟨λq=>⟨q.1,q.2.2⟩,λq=>⟨q.1,rfl,q.2⟩⟩
@[simp] theorem fF:addW (.int i) (.int j)=.ret (.int (i+j)):=(rfl)
@[simp] theorem Sw:addW (.str s) (.str t)=.fq (s.length+t.length<=sizeLine) (.ret (.str (s++t))):=(rfl)
@[simp] theorem xn:addW (.tup l) (.tup m)=.fq (l.length+m.length<=sizeLine) (.ret (.tup (l++m))):=(rfl)
@[simp] theorem gc:jM (.int i)=.ret (.int (-i)):=(rfl)
@[simp] theorem br:X3 (.bl a)=.ret a:=(rfl)
@[simp] theorem u7 (w:W PV):lq (.bl true) w=w:=(rfl)
@[simp] theorem X0 (w:W PV):lq (.bl false) w=.ret (.bl false):=(rfl)
@[simp] theorem gF (w:W PV):LH (.bl true) w=w:=(rfl)
@[simp] theorem xl (w:W PV):LH (.bl false) w=.ret (.bl false):=(rfl)
@[simp] theorem OG (w:W PV):orW (.bl true) w=.ret (.bl true):=(rfl)
@[simp] theorem OH (w:W PV):orW (.bl false) w=w:=(rfl)
@[simp] theorem Hs:Ny (.bl a)=.ret (.bl (!a)):=(rfl)
@[simp] theorem a7:cv (.bl a)=.ret a:=(rfl)
@[simp] theorem abT:cv (.int i)=.ret (i != 0):=(rfl)
@[simp] theorem abR:cv .aX=.ret false:=(rfl)
@[simp] theorem abQ:cv (.tup l)=.ret (!l.isEmpty):=(rfl)
@[simp] theorem abU:cv (.cl l)=.ret (!l.isEmpty):=(rfl)
@[simp] theorem ay:av (.tup l)=.ret l:=(rfl)
@[simp] theorem bJ:av (.cl l)=.ret l:=(rfl)
@[simp] theorem lS:kS (.cl l)=.ret l:=(rfl)
@[simp] theorem bb:LZ l (.int i)=.wu (bW l i):=(rfl)
@[simp] theorem mI:mC l=.ret (.int l.length):=(rfl)
@[simp] theorem sG:kE l=.ret (.tup l):=(rfl)
@[simp] theorem aay:blW a=.ret (.bl a):=(rfl)
@[simp] theorem eW:part (.int i)=.ret (ap i):=(rfl)
@[simp] theorem mG:oj (.tup [x,y])=.ret (x,y):=(rfl)
@[simp] theorem WQ (z:PV):un3 (.tup [x,y,z])=.ret (x,y,z):=(rfl)
@[simp] theorem WO (z u:PV):Yn (.tup [x,y,z,u])=.ret (x,y,z,u):=(rfl)
@[simp] theorem Sv (k:Kd):du k (.int i)=.ret (.bl (k.is (.int i))):=(rfl)
@[simp] theorem eX (k:Kd):du k (.str s)=.ret (.bl (k.is (.str s))):=(rfl)
@[simp] theorem dE (k:Kd):du k (.tup l)=.ret (.bl (k.is (.tup l))):=(rfl)
@[simp] theorem ab0 (k:Kd):du k (.cl l)=.ret (.bl (k.is (.cl l))):=(rfl)
@[simp] theorem ab1 (k:Kd):du k (.bl a)=.ret (.bl (k.is (.bl a))):=(rfl)
@[simp] theorem abZ (k:Kd):du k .aX=.ret (.bl (k.is .aX)):=(rfl)
@[simp] theorem bU:qo dg [.tup l]=.ret (.int l.length):=BT λQ=>⟨CA,λq=>⟨rfl,q⟩⟩
@[simp] theorem gE:qo dg [.cl l]=.ret (.int l.length):=BT λQ=>⟨CA,λq=>⟨rfl,q⟩⟩
@[simp] theorem So:qo dg [.str s]=.fq (s.length<=sizeLine) (.ret (.int s.length)):=BT λQ=>⟨λq=>⟨q.1,q.2.2⟩,λq=>⟨q.1,rfl,q.2⟩⟩
@[simp] theorem WY:qo Pt [.int i]=.ret (.int (if i < 0 then -i else i)):=BT λQ=>⟨CA,λq=>⟨rfl,q⟩⟩
@[simp] theorem ab2:qo pY [.int i]=.ret (.int i):=BT λQ=>⟨CA,λq=>⟨rfl,q⟩⟩
@[simp] theorem lT:qo pY [.bl a]=.ret (.int (if a then 1 else 0)):=BT λQ=>⟨CA,λq=>⟨rfl,q⟩⟩
@[simp] theorem WU:qo Pr [.int i,.int j]=.ret (.int (if j > i then j else i)):=BT λQ=>⟨CA,λq=>⟨rfl,q⟩⟩
@[simp] theorem WS:qo Pq [.int i,.int j]=.ret (.int (if j < i then j else i)):=BT λQ=>⟨CA,λq=>⟨rfl,q⟩⟩
@[simp] theorem iO (p q:Option Int):vU (.tup l) p q=.ret (.tup (dZ l p q)):=(rfl)
@[simp] theorem abV:oI (.int i)=.ret (.inl i):=(rfl)
@[simp] theorem JG:oI (.str s)=.ret (.inr s):=(rfl)
@[simp] theorem fB:j9 (.int j)=.fq (okN 0 j) (.ret (kd 0 j.toNat)):=(rfl)
@[simp] theorem JE (k:Int):II (.int i) (.int j) (.int k)=.fq (k = -1/\okN j i) (.ret (ml i (i-j).toNat)):=(rfl)
@[simp] theorem OD:Gp (.str s)=.fq (s.cps.size<=sizeLine) (.ret (s.cps.toList.map λc=>.str ⟨#[c]⟩)):=(rfl)
@[simp] theorem Hr:tW (l++[x])=.ret (l,x):=by unfold tW;simp
@[simp] theorem OE:yD l (.int i)=.fq (-(2 ^ 63)<=i/\i < 2 ^ 63/\l.length*i.toNat<=sizeLine) (.ret (Am i.toNat l).flatten):=(rfl)
@[simp] theorem Ss:Kd.is .int (.int i)=true:=(rfl)
@[simp] theorem abX:Kd.is .int (.bl a)=true:=(rfl)
@[simp] theorem abY:Kd.is .bool (.bl a)=true:=(rfl)
@[simp] theorem Su:Kd.is .bool (.int i)=false:=(rfl)
@[simp] theorem fD:Kd.is .str (.str s)=true:=(rfl)
@[simp] theorem fC:Kd.is .str (.tup l)=false:=(rfl)
@[simp] theorem Sr:Kd.is .str (.int i)=false:=(rfl)
@[simp] theorem xk:Kd.is .tup (.tup l)=true:=(rfl)
@[simp] theorem JH:Kd.is .tup (.str s)=false:=(rfl)
@[simp] theorem Sq:Kd.is .tup (.int i)=false:=(rfl)
@[simp] theorem abW:Kd.is .tup (.bl a)=false:=(rfl)
@[simp] theorem cD (h0:0 < i) (h1:i<=2000):bq (.int i)=drawn i:=re ⟨h0,h1⟩
def bt {m:Int} (h:∀d:Int,0<=d->d < m->Q (.int d)):(drawn m).run Q:=λv ⟨d,e,h0,h1⟩=>e▸h d h0 h1
end
namespace W
variable {α β:Type}
def le (a b:W α):Prop:=∀Q,b.run Q->a.run Q
def le.refl (a:W α):a.le a:=λ_ h=>h
def le.of_eq {a b:W α} (h:a=b):a.le b:=h▸le.refl a
def le.ret {a:W α}{v:α}{f:α->W β}{b:W β} (h:a.le (.ret v)) (hf:(f v).le b):(a.bind f).le b:=λQ q=>h _ (hf Q q)
def le.use {a:W α}{v:α}{Q:α->Prop} (h:a.le (.ret v)) (q:Q v):a.run Q:=h _ q
end W
section
variable {S R:Type}
@[simp] theorem aap (s:S) (f:PV->S->W S):dD [] s f=.ret s:=(rfl)
@[simp] theorem XT (x:PV) (r:List PV) (s:S) (f:PV->S->W S):dD (x::r) s f=.bind (f x s) λs'=>dD r s' f:=(rfl)
theorem su {f:PV->S->W S}{Q:S->Prop} (I:List PV->S->Prop):∀{l:List PV}{s:S},I l s->(∀x r s,I (x::r) s->(f x s).run (I r))->(∀s,I [] s->Q s)->(dD l s f).run Q
 | [],s,h0,_,he=>he s h0
 | x::r,s,h0,hs,he=>(f x s).mono (λs' h=>su I h hs he) (hs x r s h0)
theorem forF_run {f:PV->S->W (Lp S R)}{Q:Lp S R->Prop} (I:List PV->S->Prop):∀{l:List PV}{s:S},I l s->(∀x r s,I (x::r) s->(f x s).run λo=>match o with | .go s'=>I r s' | .out t=>Q (.out t))->(∀s,I [] s->Q (.go s))->(FL.nK l s f).run Q
 | [],s,h0,_,he=>he s h0
 | x::r,s,h0,hs,he=>(f x s).mono (λo h=>match o,h with
  | .go s',h=>forF_run I h hs he
  | .out t,h=>h) (hs x r s h0)
theorem gC {f:PV->S->W S}{Q:S->Prop} (I:Nat->S->Prop) {s:S} (h0:I 0 s) (hs:∀(i:Nat) (x:PV) s,l[i]?=ap x->I i s->(f x s).run (I (i+1))) (he:∀s,I l.length s->Q s):(dD l s f).run Q:=by
 refine su (λr s=>∃i,i<=l.length/\r=l.drop i/\I i s) ⟨0,A7 _,rfl,h0⟩ (λx r s ⟨i,hi,e,h⟩=>?_) (λs ⟨i,hi,e,h⟩=>?_)
 ·have lP:i < l.length:=by
   rcases C8 i l.length with h | h
   ·exact h
   ·rw [ES h] at e;cases e
  rw [Bs lP] at e;injection e with e1 e2;subst e1;exact (f _ s).mono (λs' h'=>⟨i+1,lP,e2,h'⟩) (hs i _ s (Ad lP) h)
 ·have:i=l.length:=by
   have:=congrArg BV e;rw [Cy] at this;simp at this;omega
  subst this;exact he s h
theorem JA {f:PV->S->W (Lp S R)}{Q:Lp S R->Prop} (I:Nat->S->Prop) {s:S} (h0:I 0 s) (hs:∀(i:Nat) (x:PV) s,l[i]?=ap x->I i s->(f x s).run λo=>match o with | .go s'=>I (i+1) s' | .out t=>Q (.out t)) (he:∀s,I l.length s->Q (.go s)):(FL.nK l s f).run Q:=by
 refine forF_run (λr s=>∃i,i<=l.length/\r=l.drop i/\I i s) ⟨0,A7 _,rfl,h0⟩ (λx r s ⟨i,hi,e,h⟩=>?_) (λs ⟨i,hi,e,h⟩=>?_)
 ·have lP:i < l.length:=by
   rcases C8 i l.length with h | h
   ·exact h
   ·rw [ES h] at e;cases e
  rw [Bs lP] at e;injection e with e1 e2;subst e1;exact (f _ s).mono (λo h'=>match o,h' with
   | .go s',h'=>⟨i+1,lP,e2,h'⟩
   | .out t,h'=>h') (hs i _ s (Ad lP) h)
 ·have:i=l.length:=by
   have:=congrArg BV e;simp at this;omega
  subst this;exact he s h
def nJ {f:PV->S->W S}{Q:S->Prop} (I:Nat->S->Prop) {s:S} (h0:I 0 s) (hs:∀(i:Nat) s,i < n->I i s->(f (.int (i:Int)) s).run (I (i+1))) (he:∀s,I n s->Q s):(dD (kd 0 n) s f).run Q:=
 gC I h0 (λi x s hx h=>by obtain⟨hi,rfl⟩:=oP hx;rw [ET];exact hs i s hi h) (λs h=>he s (by rw [jo] at h;exact h))
def Ov {f:PV->S->W (Lp S R)}{Q:Lp S R->Prop} (I:Nat->S->Prop) {s:S} (h0:I 0 s) (hs:∀(i:Nat) s,i < n->I i s->(f (.int (i:Int)) s).run λo=>match o with | .go s'=>I (i+1) s' | .out t=>Q (.out t)) (he:∀s,I n s->Q (.go s)):(FL.nK (kd 0 n) s f).run Q:=
 JA I h0 (λi x s hx h=>by obtain⟨hi,rfl⟩:=oP hx;rw [ET];exact hs i s hi h) (λs h=>he s (by rw [jo] at h;exact h))
theorem gL {c:S->W Bool}{b:S->W S}{Q:S->Prop} (I:Nat->S->Prop) {s:S} (h0:I n s) (hs:∀n s,I n s->(c s).run λk=>if k=true then (b s).run (λs'=>∃m,m < n/\I m s') else Q s):(kq c b s).run Q:=by
 refine⟨n+1,?_⟩;have:∀k n s,n < k->I n s->(mw c b k s).run Q:=by
  intro k
  induction k with
  | zero=>intro n s h;omega
  | succ k ih=>
   intro n s hn h;refine (c s).mono (λz q=>?_) (hs n s h);cases z with
   | true=>exact (b s).mono (λs' ⟨m,hm,h'⟩=>ih m s' ∅ h') (show (b s).run _ from q)
   | false=>exact q
 exact this (n+1) n s ∅ h0
theorem F6 {c:S->W Bool}{b:S->W (Lp S R)}{Q:Lp S R->Prop} (I:Nat->S->Prop) {s:S} (h0:I n s) (hs:∀n s,I n s->(c s).run λk=>if k=true then (b s).run (λo=>match o with | .go s'=>∃m,m < n/\I m s' | .out t=>Q (.out t)) else Q (.go s)):(FL.qN c b s).run Q:=by
 refine⟨n+1,?_⟩;have:∀k n s,n < k->I n s->(jA c b k s).run Q:=by
  intro k
  induction k with
  | zero=>intro n s h;omega
  | succ k ih=>
   intro n s hn h;refine (c s).mono (λz q=>?_) (hs n s h);cases z with
   | true=>exact (b s).mono (λo q=>match o,q with
    | .go s',⟨m,hm,h'⟩=>ih m s' ∅ h'
    | .out t,q=>q) (show (b s).run _ from q)
   | false=>exact q
 exact this (n+1) n s ∅ h0
theorem wB {f:PV->W PV}{g:PV->PV}:∀{l:List PV},(∀x∈l,f x=.ret (g x))->mapW l f=.ret (l.map g)
 | [],_=>rfl
 | x::r,h=>by
  show am (f x) (λy=>am (mapW r f) λl=>bm (y::l))=_;rw [h x (.head _),wB λy hy=>h y (.tail _ hy)];rfl
theorem GW {g:PV->Option PV}:∀{l:List PV},(∀x∈l,f x=.ret (g x))->kh l f=.ret (l.filterMap g)
 | [],_=>rfl
 | x::r,h=>by
  show am (f x) (λo=>am (kh r f) λl=>bm (o.toList++l))=_;rw [h x (.head _),GW λy hy=>h y (.tail _ hy),BE];cases g x <;> rfl
@[simp] theorem n6 (bs:List Bool):xO (bs.map PV.bl)=.ret (.bl (bs.all id)):=by unfold xO;rw [xM];rfl
@[simp] theorem S2 (bs:List Bool):Py (bs.map PV.bl)=.ret (.bl (bs.any id)):=by unfold Py;rw [xM];rfl
theorem all_map (f:PV->Bool) (l:List PV):xO (l.map λx=>.bl (f x))=.ret (.bl (l.all f)):=by
 have:(l.map λx=>PV.bl (f x))=(l.map f).map PV.bl:=by rw [AY];rfl
 rw [this,n6,List.all_map];rfl
end
section
variable (i j:Int) (a b:Bool) (x y:PV) (l m:List PV) (s t:Str)
@[simp] theorem Uk:kj (.int i) (.int j)=(i==j):=by rw [kj]
@[simp] theorem OA:kj (.str s) (.str t)=(s==t):=by rw [kj]
@[simp] theorem Ul:kj (.bl a) (.bl b)=(a==b):=by rw [kj]
@[simp] theorem afy:kj (.tup l) (.tup m)=gD l m:=by rw [kj]
@[simp] theorem afz:kj (.cl l) (.cl m)=gD l m:=by rw [kj]
@[simp] theorem aef:gD [] []=true:=by rw [gD]
@[simp] theorem aee:gD (x::l) (y::m)=(kj x y&&gD l m):=by rw [gD]
@[simp] theorem abK:PV.kf (.int i)=true:=by rw [PV.kf] <;> simp
@[simp] theorem aed:PV.kf (.bl a)=true:=by rw [PV.kf] <;> simp
@[simp] theorem abI:PV.kf (.str s)=true:=by rw [PV.kf] <;> simp
@[simp] theorem abJ:PV.kf .aX=true:=by rw [PV.kf] <;> simp
@[simp] theorem abH:PV.kf (.tup l)=fV l:=by rw [PV.kf]
@[simp] theorem aec:PV.kf (.cl l)=fV l:=by rw [PV.kf]
@[simp] theorem aaq:fV []=true:=by rw [fV]
@[simp] theorem XU:fV (x::l)=(PV.kf x&&fV l):=by rw [fV]
@[simp] theorem aav:PV.iM (.int i)=0:=by rw [PV.iM] <;> simp
@[simp] theorem abP:PV.iM (.bl a)=0:=by rw [PV.iM] <;> simp
@[simp] theorem aat:PV.iM (.str s)=0:=by rw [PV.iM] <;> simp
@[simp] theorem aau:PV.iM .aX=0:=by rw [PV.iM] <;> simp
@[simp] theorem aas:PV.iM (.tup l)=eJ l+1:=by rw [PV.iM]
@[simp] theorem abO:PV.iM (.cl l)=eJ l+1:=by rw [PV.iM]
@[simp] theorem XX:eJ []=0:=by rw [eJ]
@[simp] theorem WK:eJ (x::l)=max (PV.iM x) (eJ l):=by rw [eJ]
def zC:K5 (.int i) (.int j):=⟨by simp,by simp,by simp⟩
@[simp] theorem cI:of2 di (.int i) (.int j)=.ret (.bl (i==j)):=by rw [sH,re (zC i j),Uk]
@[simp] theorem xj:of2 wy (.int i) (.int j)=.ret (.bl (!(i==j))):=by rw [Um,re (zC i j),Uk]
@[simp] theorem WX:of2 di (.bl a) (.bl b)=.ret (.bl (a==b)):=by rw [sH,re ⟨by simp,by simp,by simp⟩,Ul]
@[simp] theorem aeh:of2 wy (.bl a) (.bl b)=.ret (.bl (!(a==b))):=by rw [Um,re ⟨by simp,by simp,by simp⟩,Ul]
end
theorem jr:∀{l:List PV},fV l=true↔∀x∈l,PV.kf x=true
 | []=>by simp
 | x::l=>by rw [fV,AO,jr (l:=l)];simp
theorem jt:∀{l:List PV},(∀x∈l,PV.iM x<=n)->eJ l<=n
 | [],_=>by simp
 | x::l,h=>by
  have h1:=h x (.head _);have h2:=jt (l:=l) λy hy=>h y (.tail _ hy);rw [eJ];omega
structure EV where
 P:ul
 w:wv
 K:Ab
 mg:Str->Option ci
 base:r9
structure DF where
 x:Str
 s:u8
 ps:List Str
 k:Nat
 sp:Ab->Sp
abbrev DF.C (d:DF) (v:EV):=Tf v.P v.w v.K v.mg v.base d.x d.k d.ps (d.sp v.K)
structure DI (v:EV) (d:DF) where
 f:db
 fd:FS
 fn:P9 v.K d.x d.x d.s f fd
 bi:Binds v.K fd d.ps []
 at':v.mg d.x=ap (.ref f)
abbrev DI.O {v:EV}{d:DF} (D:DI v d):Prop:=fu v.P v.w v.K v.mg v.base km d.k D.f D.fd d.ps (d.sp v.K)
def DI.c {v:EV}{d:DF} (D:DI v d) (h:D.O):d.C v:=⟨D.f,D.fd,h,D.bi,D.fn.kp,D.at'⟩
def DI.cN {v:EV}{d:DF} (D:DI v d) (h:fu v.P v.w v.K v.mg v.base km k D.f D.fd d.ps sp):Tf v.P v.w v.K v.mg v.base d.x k d.ps sp:=⟨D.f,D.fd,h,D.bi,D.fn.kp,D.at'⟩
def DI.cA {v:EV}{d:DF} (D:DI v d) (h:D.O):Xw v.P v.w v.K v.mg v.base D.f d.k d.ps (d.sp v.K):=⟨D.fd,h,D.bi,D.fn.kp⟩
structure DX (K:Ab) (x:Str) (st:u8):Prop where
 ex:∃f fd,AE K f8 x=ap (ap (.ref f))/\P9 K x x st f fd
def dx {K:Ab}{st:u8}{f:db}{kV:ci} (a:AE K f8 x=ap (ap (.ref f))) (l:K.lookup f=ap ⟨oc,od,.func (B4 x x (gG st) (bu st) (ag st) .none kV Ê pm an cS ct),P0⟩)
  (c:D3 K cS x=true) (k:CI K (.ref f)=true):DX K x st:=⟨f,_,a,WJ l c k⟩
def eM {N P:List Str} (h1:sc.kind=.function:=by rfl) (h2:sc.isCoroutine=false:=by rfl) (h3:sc.isGenerator=false:=by rfl) (h4:N.Nodup:=by decide +kernel) (h5:N.take P.length=P:=by rfl) (h6:∀x∈P,sc.names.lookup x=ap .local\/sc.names.lookup x=ap .cell:=by decide +kernel) (h7:∀y∈sc.names,y.2≠.free:=by decide +kernel):aq N P sc:=⟨h1,h2,h3,h4,h5,h6,h7⟩
def lcs {N:List Str} (h1:sc.kind=.function:=by rfl) (h2:∀y∈sc.names,y.2≠.cell:=by decide +kernel) (h3:∀y∈sc.names,y.2=.local->sc.names.lookup y.1=ap .local:=by decide +kernel) (h4:∀y∈sc.names,y.2=.free->(Xs.names.lookup y.1=ap .cell\/Xs.names.lookup y.1=ap .free):=by decide +kernel) (h5:N'.Nodup:=by decide +kernel) (h6:ix.length=N'.length:=by rfl)
  (h7:((ix.zip N').all λp=>match p.1 with | none=>true | some j=>decide (N[j]?=ap p.2)&&decide (sc.names.lookup p.2=ap .free))=true:=by decide +kernel):aA Xs N sc N' ix:=⟨h1,h2,h3,h4,h5,h6,h7⟩
abbrev ka (l:List (Str×Fa)):o0:={kind:=.function,names:=(Cn ".0",.local)::l,isGenerator:=false,isCoroutine:=false,more:=[]}
abbrev lo:Fa:=.local
abbrev gi:Fa:=.globalImplicit
abbrev fr:Fa:=.free
section
variable {v:EV}{st:u8}{N:List Str}
def Zy {m:Qa PV n} (D:DI v ⟨x,st,ps,k+1,λK=>d8 K ks (bS n m)⟩) (S:aq N ps (ag st)) (Ã:∀l:List PV,l.length=n->∀(cS:ci) (A:tt) (outer:List Env) (s:dL) (H:Hp) (E:XK),c7 k (A.deeper (ut x (ag st) s.heap.objs.size D.f cS))->SF (ju km v.P v.w v.K v.mg v.base N x (ag st) D.f cS A outer s H E).yh v.K false (jw ks l N.length) (bu st) (bS n m l) .rt)
  (pR:ks.length=ps.length:=by rfl) (one:jy ks:=by repeat' first | exact cK | exact aG (n:=0) | exact aG (n:=1) | exact aG (n:=2) | exact aG (n:=3) | exact aG (n:=4) | exact aG (n:=5) | exact aG (n:=6) | apply dW | apply kK):D.O:=fnV D.fn S pR one Ã
def mkL {m:Qa (List PV) n} (D:DI v ⟨x,st,ps,k+1,λK=>eL K ks (bS n m)⟩) (S:aq N ps (ag st)) (Ã:∀l:List PV,l.length=n->∀(cS:ci) (A:tt) (outer:List Env) (s:dL) (H:Hp) (E:XK),c7 k (A.deeper (ut x (ag st) s.heap.objs.size D.f cS))->SF (ju km v.P v.w v.K v.mg v.base N x (ag st) D.f cS A outer s H E).yh v.K false (jw ks l N.length) (bu st) (bS n m l) .rl)
  (pR:ks.length=ps.length:=by rfl) (one:jy ks:=by repeat' first | exact cK | exact aG (n:=0) | exact aG (n:=1) | exact aG (n:=2) | exact aG (n:=3) | exact aG (n:=4) | exact aG (n:=5) | exact aG (n:=6) | apply dW | apply kK):D.O:=fnL D.fn S pR one Ã
def Zx {m:W PV} (D:DI v ⟨x,st,ps,k+1,λK=>d8 K ks (bS 0 m)⟩) (S:aq N ps (ag st)) (Ã:∀(cS:ci) (A:tt) (outer:List Env) (s:dL) (H:Hp) (E:XK),c7 k (A.deeper (ut x (ag st) s.heap.objs.size D.f cS))->SF (ju km v.P v.w v.K v.mg v.base N x (ag st) D.f cS A outer s H E).yh v.K false (jw ks [] N.length) (bu st) (m) .rt)
  (pR:ks.length=ps.length:=by rfl) (one:jy ks:=by repeat' first | exact cK | exact aG (n:=0) | exact aG (n:=1) | exact aG (n:=2) | exact aG (n:=3) | exact aG (n:=4) | exact aG (n:=5) | exact aG (n:=6) | apply dW | apply kK):D.O:=Zy (n:=0) (m:=m) D S (λl hl=>match l,hl with | [],_=>Ã) pR one
def kO {m:PV->W PV} (D:DI v ⟨x,st,ps,k+1,λK=>d8 K ks (bS 1 m)⟩) (S:aq N ps (ag st)) (Ã:∀(x0:PV) (cS:ci) (A:tt) (outer:List Env) (s:dL) (H:Hp) (E:XK),c7 k (A.deeper (ut x (ag st) s.heap.objs.size D.f cS))->SF (ju km v.P v.w v.K v.mg v.base N x (ag st) D.f cS A outer s H E).yh v.K false (jw ks [x0] N.length) (bu st) (m x0) .rt)
  (pR:ks.length=ps.length:=by rfl) (one:jy ks:=by repeat' first | exact cK | exact aG (n:=0) | exact aG (n:=1) | exact aG (n:=2) | exact aG (n:=3) | exact aG (n:=4) | exact aG (n:=5) | exact aG (n:=6) | apply dW | apply kK):D.O:=Zy (n:=1) (m:=m) D S (λl hl=>match l,hl with | [x0],_=>Ã x0) pR one
def nk {m:PV->PV->W PV} (D:DI v ⟨x,st,ps,k+1,λK=>d8 K ks (bS 2 m)⟩) (S:aq N ps (ag st)) (Ã:∀(x0:PV) (x1:PV) (cS:ci) (A:tt) (outer:List Env) (s:dL) (H:Hp) (E:XK),c7 k (A.deeper (ut x (ag st) s.heap.objs.size D.f cS))->SF (ju km v.P v.w v.K v.mg v.base N x (ag st) D.f cS A outer s H E).yh v.K false (jw ks [x0,x1] N.length) (bu st) (m x0 x1) .rt)
  (pR:ks.length=ps.length:=by rfl) (one:jy ks:=by repeat' first | exact cK | exact aG (n:=0) | exact aG (n:=1) | exact aG (n:=2) | exact aG (n:=3) | exact aG (n:=4) | exact aG (n:=5) | exact aG (n:=6) | apply dW | apply kK):D.O:=Zy (n:=2) (m:=m) D S (λl hl=>match l,hl with | [x0,x1],_=>Ã x0 x1) pR one
def ND {m:PV->PV->PV->W PV} (D:DI v ⟨x,st,ps,k+1,λK=>d8 K ks (bS 3 m)⟩) (S:aq N ps (ag st)) (Ã:∀(x0:PV) (x1:PV) (x2:PV) (cS:ci) (A:tt) (outer:List Env) (s:dL) (H:Hp) (E:XK),c7 k (A.deeper (ut x (ag st) s.heap.objs.size D.f cS))->SF (ju km v.P v.w v.K v.mg v.base N x (ag st) D.f cS A outer s H E).yh v.K false (jw ks [x0,x1,x2] N.length) (bu st) (m x0 x1 x2) .rt)
  (pR:ks.length=ps.length:=by rfl) (one:jy ks:=by repeat' first | exact cK | exact aG (n:=0) | exact aG (n:=1) | exact aG (n:=2) | exact aG (n:=3) | exact aG (n:=4) | exact aG (n:=5) | exact aG (n:=6) | apply dW | apply kK):D.O:=Zy (n:=3) (m:=m) D S (λl hl=>match l,hl with | [x0,x1,x2],_=>Ã x0 x1 x2) pR one
def Zw {m:PV->PV->PV->PV->PV->W PV} (D:DI v ⟨x,st,ps,k+1,λK=>d8 K ks (bS 5 m)⟩) (S:aq N ps (ag st)) (Ã:∀(x0:PV) (x1:PV) (x2:PV) (x3:PV) (x4:PV) (cS:ci) (A:tt) (outer:List Env) (s:dL) (H:Hp) (E:XK),c7 k (A.deeper (ut x (ag st) s.heap.objs.size D.f cS))->SF (ju km v.P v.w v.K v.mg v.base N x (ag st) D.f cS A outer s H E).yh v.K false (jw ks [x0,x1,x2,x3,x4] N.length) (bu st) (m x0 x1 x2 x3 x4) .rt)
  (pR:ks.length=ps.length:=by rfl) (one:jy ks:=by repeat' first | exact cK | exact aG (n:=0) | exact aG (n:=1) | exact aG (n:=2) | exact aG (n:=3) | exact aG (n:=4) | exact aG (n:=5) | exact aG (n:=6) | apply dW | apply kK):D.O:=Zy (n:=5) (m:=m) D S (λl hl=>match l,hl with | [x0,x1,x2,x3,x4],_=>Ã x0 x1 x2 x3 x4) pR one
def NF {m:PV->W (List PV)} (D:DI v ⟨x,st,ps,k+1,λK=>eL K ks (bS 1 m)⟩) (S:aq N ps (ag st)) (Ã:∀(x0:PV) (cS:ci) (A:tt) (outer:List Env) (s:dL) (H:Hp) (E:XK),c7 k (A.deeper (ut x (ag st) s.heap.objs.size D.f cS))->SF (ju km v.P v.w v.K v.mg v.base N x (ag st) D.f cS A outer s H E).yh v.K false (jw ks [x0] N.length) (bu st) (m x0) .rl)
  (pR:ks.length=ps.length:=by rfl) (one:jy ks:=by repeat' first | exact cK | exact aG (n:=0) | exact aG (n:=1) | exact aG (n:=2) | exact aG (n:=3) | exact aG (n:=4) | exact aG (n:=5) | exact aG (n:=6) | apply dW | apply kK):D.O:=mkL (n:=1) (m:=m) D S (λl hl=>match l,hl with | [x0],_=>Ã x0) pR one
def Ks {m:PV->PV->W (List PV)} (D:DI v ⟨x,st,ps,k+1,λK=>eL K ks (bS 2 m)⟩) (S:aq N ps (ag st)) (Ã:∀(x0:PV) (x1:PV) (cS:ci) (A:tt) (outer:List Env) (s:dL) (H:Hp) (E:XK),c7 k (A.deeper (ut x (ag st) s.heap.objs.size D.f cS))->SF (ju km v.P v.w v.K v.mg v.base N x (ag st) D.f cS A outer s H E).yh v.K false (jw ks [x0,x1] N.length) (bu st) (m x0 x1) .rl)
  (pR:ks.length=ps.length:=by rfl) (one:jy ks:=by repeat' first | exact cK | exact aG (n:=0) | exact aG (n:=1) | exact aG (n:=2) | exact aG (n:=3) | exact aG (n:=4) | exact aG (n:=5) | exact aG (n:=6) | apply dW | apply kK):D.O:=mkL (n:=2) (m:=m) D S (λl hl=>match l,hl with | [x0,x1],_=>Ã x0 x1) pR one
def Zz {m:PV->PV->PV->W (List PV)} (D:DI v ⟨x,st,ps,k+1,λK=>eL K ks (bS 3 m)⟩) (S:aq N ps (ag st)) (Ã:∀(x0:PV) (x1:PV) (x2:PV) (cS:ci) (A:tt) (outer:List Env) (s:dL) (H:Hp) (E:XK),c7 k (A.deeper (ut x (ag st) s.heap.objs.size D.f cS))->SF (ju km v.P v.w v.K v.mg v.base N x (ag st) D.f cS A outer s H E).yh v.K false (jw ks [x0,x1,x2] N.length) (bu st) (m x0 x1 x2) .rl)
  (pR:ks.length=ps.length:=by rfl) (one:jy ks:=by repeat' first | exact cK | exact aG (n:=0) | exact aG (n:=1) | exact aG (n:=2) | exact aG (n:=3) | exact aG (n:=4) | exact aG (n:=5) | exact aG (n:=6) | apply dW | apply kK):D.O:=mkL (n:=3) (m:=m) D S (λl hl=>match l,hl with | [x0,x1,x2],_=>Ã x0 x1 x2) pR one
def ac3 {m:PV->PV->PV->PV->PV->W (List PV)} (D:DI v ⟨x,st,ps,k+1,λK=>eL K ks (bS 5 m)⟩) (S:aq N ps (ag st)) (Ã:∀(x0:PV) (x1:PV) (x2:PV) (x3:PV) (x4:PV) (cS:ci) (A:tt) (outer:List Env) (s:dL) (H:Hp) (E:XK),c7 k (A.deeper (ut x (ag st) s.heap.objs.size D.f cS))->SF (ju km v.P v.w v.K v.mg v.base N x (ag st) D.f cS A outer s H E).yh v.K false (jw ks [x0,x1,x2,x3,x4] N.length) (bu st) (m x0 x1 x2 x3 x4) .rl)
  (pR:ks.length=ps.length:=by rfl) (one:jy ks:=by repeat' first | exact cK | exact aG (n:=0) | exact aG (n:=1) | exact aG (n:=2) | exact aG (n:=3) | exact aG (n:=4) | exact aG (n:=5) | exact aG (n:=6) | apply dW | apply kK):D.O:=mkL (n:=5) (m:=m) D S (λl hl=>match l,hl with | [x0,x1,x2,x3,x4],_=>Ã x0 x1 x2 x3 x4) pR one
end
section
variable {K:Ab}{WL:W (List PV)}
theorem eC (G:Tf X.prog X.w X.K X.mg X.base x k ps (d8 K ks m)) (hr:c7 k' X.A) (ha:AF X K fs (e::es) ks B) (hk:k<=k':=by first | exact Dh rfl | exact An _ | omega) (hg:Gl X x:=by rfl) (hW:W'=B m:=by rfl) (nF:(x==("__debug__":Str))=false:=by decide)
  (he:ce (e::es) X.env=(false,kw e X.env)::ce es X.env:=by rfl) (dJ:(lm pos (ce es X.env)).any (·.1)=false:=by rfl):EF X K fs (.Call (.Name x p) (e::es) [] pos) W':=SG G hr hk hg ha hW nF he dJ
theorem lC {m:List PV->W (List PV)}{B:(List PV->W (List PV))->W (List PV)} (G:Tf X.prog X.w X.K X.mg X.base x k ps (eL K ks m)) (hr:c7 k' X.A) (ha:AF X K fs (e::es) ks B) (hk:k<=k':=by first | exact Dh rfl | exact An _ | omega) (hg:Gl X x:=by rfl) (hW:WL=B m:=by rfl) (nF:(x==("__debug__":Str))=false:=by decide)
  (he:ce (e::es) X.env=(false,kw e X.env)::ce es X.env:=by rfl) (dJ:(lm pos (ce es X.env)).any (·.1)=false:=by rfl):LF X K fs (.Call (.Name x p) (e::es) [] pos) WL:=RI G hr hk hg ha hW nF he dJ
def cU (i:Nat) (hN:X.N.Nodup) (hi:X.N[i]?=ap x:=by rfl) (hx:Loc X.env.scope x:=by first | exact .inl rfl | exact .inr rfl) (hf:X.fn x=true\/X.env.scope.names.lookup x=ap .local:=by first | exact .inl rfl | exact .inr rfl | assumption):PG X (.Name x pos) (dM i):=Q3 hN hi hx hf
variable {T:Type}{out:T->End}{rest:List u8}
def sv (i:Nat) {k:PV->W T} (hN:X.N.Nodup) (he:EF X K fs e we) (hr:∀v,SF X K b (fs.set i (ap (.val v))) rest (k v) out) (hi:X.N[i]?=ap y:=by rfl) (hx:Loc X.env.scope y:=by first | exact .inl rfl | exact .inr rfl) (hs:nn e (ap (.Name y p')) pos.line X.env=pure false:=by rfl)
  (hf:X.fn y=true\/X.env.scope.names.lookup y=ap .local:=by first | exact .inl rfl | exact .inr rfl | assumption):SF X K b fs (.Assign [.Name y p'] e pos::rest) (.bind we k) out:=SF.set hN hi hx he hr hs hf
def sl (i:Nat) {k:List PV->W T} (hN:X.N.Nodup) (he:LF X K fs e wl) (hr:∀l,SF X K b (fs.set i (ap (.ol bv l))) rest (k l) out) (hi:X.N[i]?=ap y:=by rfl) (hx:Loc X.env.scope y:=by first | exact .inl rfl | exact .inr rfl) (hs:nn e (ap (.Name y p')) pos.line X.env=pure false:=by rfl)
  (hf:X.fn y=true\/X.env.scope.names.lookup y=ap .local:=by first | exact .inl rfl | exact .inr rfl | assumption):SF X K b fs (.Assign [.Name y p'] e pos::rest) (.bind wl k) out:=SF.acL hN hi hx he hr hs hf
end
end FL
variable {P:List A8->Prop}{m:PL.PV->FL.W PL.PV}{d:FL.DF}
namespace FL
open PySem PySem.Spec PyProof.Rows L2 PL
def us1 (h:∀a,P [a]):∀us:List ci,us.length=1->P us
 | [_],_=>h _
def us2 (h:∀a b,P [a,b]):∀us:List ci,us.length=2->P us
 | a::_,e=>us1 (P:=λl=>P (a::l)) (h _) _ (FC.inj e)
def us3 (h:∀a b c,P [a,b,c]):∀us:List ci,us.length=3->P us
 | a::_,e=>us2 (P:=λl=>P (a::l)) (h _) _ (FC.inj e)
def us4 (h:∀a b c d,P [a,b,c,d]):∀us:List ci,us.length=4->P us
 | a::_,e=>us3 (P:=λl=>P (a::l)) (h _) _ (FC.inj e)
def us5 (h:∀a b c d e,P [a,b,c,d,e]):∀us:List ci,us.length=5->P us
 | a::_,e=>us4 (P:=λl=>P (a::l)) (h _) _ (FC.inj e)
def us6 (h:∀a b c d e f,P [a,b,c,d,e,f]):∀us:List ci,us.length=6->P us
 | a::_,e=>us5 (P:=λl=>P (a::l)) (h _) _ (FC.inj e)
def DX.mk2 {v:EV} (D:DX v.K d.x d.s) (X:v.K.In h) (G:h.Ns f8 v.mg)
  (hb:∀(kV Ê pm:ci) (an:Option db) (cS ct:ci) (us:List ci),us.length=d.ps.length->bindArgs (B4 d.x d.x (gG d.s) (bu d.s) (ag d.s) .none kV Ê pm an cS ct) ⟨us,[]⟩=pure (d.ps.zip us):=by
   first
    | exact λ_ _ _ _ _ _=>us1 λ_=>rfl
    | exact λ_ _ _ _ _ _=>us2 λ_ _=>rfl
    | exact λ_ _ _ _ _ _=>us3 λ_ _ _=>rfl
    | exact λ_ _ _ _ _ _=>us4 λ_ _ _ _=>rfl
    | exact λ_ _ _ _ _ _=>us5 λ_ _ _ _ _=>rfl
    | exact λ_ _ _ _ _ _=>us6 λ_ _ _ _ _ _=>rfl
    | exact λ_ _ _ _ _ _=>us7 λ_ _ _ _ _ _ _=>rfl
    | exact λ_ _ _ _ _ _=>us8 λ_ _ _ _ _ _ _ _=>rfl):Nonempty (DI v d):=by
 obtain⟨f,fd,a,F⟩:=D.ex;exact⟨⟨f,fd,F,F.binds hb,BG X G a⟩⟩
def DX.go {v:EV} (D:DX v.K d.x d.s) (X:v.K.In h) (G:h.Ns f8 v.mg) {P:Prop} (k:∀D:DI v d,D.O) (r:d.C v->P)
  (hb:∀(kV Ê pm:ci) (an:Option db) (cS ct:ci) (us:List ci),us.length=d.ps.length->bindArgs (B4 d.x d.x (gG d.s) (bu d.s) (ag d.s) .none kV Ê pm an cS ct) ⟨us,[]⟩=pure (d.ps.zip us):=by
   first
    | exact λ_ _ _ _ _ _=>us1 λ_=>rfl
    | exact λ_ _ _ _ _ _=>us2 λ_ _=>rfl
    | exact λ_ _ _ _ _ _=>us3 λ_ _ _=>rfl
    | exact λ_ _ _ _ _ _=>us4 λ_ _ _ _=>rfl
    | exact λ_ _ _ _ _ _=>us5 λ_ _ _ _ _=>rfl
    | exact λ_ _ _ _ _ _=>us6 λ_ _ _ _ _ _=>rfl
    | exact λ_ _ _ _ _ _=>us7 λ_ _ _ _ _ _ _=>rfl
    | exact λ_ _ _ _ _ _=>us8 λ_ _ _ _ _ _ _ _=>rfl):P:=by
 obtain⟨D⟩:=D.mk2 X G hb;exact r (D.c (k D))
def IE (K:Ab):Sp:=λvs H Q _=>∃(a:db) (ns:List Int),vs=[.ref a]/\S9 H/\c6 K H a (ns.map V.int)/\ns.length<=63/\∀H',Q (.bl true) H'
def RE {K:Ab} (ok:∀ns:List Int,ns.length<=63->(m (.cl (ns.map PV.int))).run (·=.bl true)):∀vs H Q E,IE K vs H Q E->d8 K [.v] (bS 1 m) vs H Q E:=λvs H Q E ⟨a,ns,e,hO,hS,hl,q⟩=>by
 subst e;have fz:Uy K H a (ns.map V.int):=by
  rcases hS with (h | ⟨o,h⟩) | h
  ·rcases hO a with z | ⟨o,xs,z⟩
   ·rw [h] at z;cases z
   ·rw [h] at z;cases z
  ·exact .inl ⟨o,h⟩
  ·exact .inr h
 refine⟨[.cl (ns.map PV.int)],.v (.cl fz (nC _ _ ns)) .nil,(m (.cl (ns.map PV.int))).mono (λv e u H' _ r=>?_) (ok ns hl)⟩;subst e;cases r;exact q H'
structure aa3 (K:Ab) (mg:Str->Option ci) (d:DF):Prop where
 f:∀v:EV,v.K=K->v.mg=mg->∀D:DI v d,D.O
def mkAll {l:EY}{K:Ab}{fa:db}{st:u8} (ok:∀ns:List Int,ns.length<=63->(m (.cl (ns.map PV.int))).run (·=.bl true)) (X:K.In h) (G:h.Ns f8 mg) (hfa:mg "law"=ap (.ref fa)) (aaF:DX K "law" st)
  (hb:∀(kV Ê pm:ci) (an:Option db) (cS ct:ci) (us:List ci),us.length=1->bindArgs (B4 "law" "law" (gG st) (bu st) (ag st) .none kV Ê pm an cS ct) ⟨us,[]⟩=pure (([("_law_script":Str)]:List Str).zip us))
  (F:aa3 K mg ⟨"law",st,["_law_script"],k,λK=>d8 K [.v] (bS 1 m)⟩) :
  ∃fd:FS,(∀(s:dL) (v:ci),BindsTo s fd ⟨[v],[]⟩ [("_law_script",v)])/\∀base:r9,K.In base->base.Ns f8 mg->fu l.prog w K mg base km k fa fd ["_law_script"] (IE K):=by
 obtain⟨f,fd,a,F'⟩:=aaF.ex;have e:=hfa.symm.trans (BG X G a);cases e;have fb:=F'.binds (ps:=["_law_script"]) hb;obtain⟨oc,od,kV,Ê,pm,an,cS,ct,P0,rfl,_⟩:=id F'.ex;exact⟨B4 "law" "law" (gG st) (bu st) (ag st) .none kV Ê pm an cS ct,λs v=>.of_eq (hb kV Ê pm an cS ct [v] rfl),λbase _ _=>(F.f ⟨l.prog,w,K,mg,base⟩ rfl rfl ⟨_,_,F',fb,hfa⟩).imp (RE ok)⟩
end FL
namespace My
open PySem PySem.Spec PyProof.Rows L2 PL FL
def jO (iU:PV):W (List PV):=
 []\λeD=>
 am (iU\λx3=>bm [x3]) λcL=>
 am (kq (λs4=>(s4.2\λl5=>bm (!l5.isEmpty))) (λs4=>(
 am (tW s4.2) λt7=>
 t7.2\λx9=>am (jX s4.1 x9) λft=>
 de (mV (am (am (bm t7.2) (du .str)) cv)) (
 am (am (bm t7.2) av) λV8=>am (sF t7.1 V8) λdh=>
 bm (ft,dh)) (
 bm (ft,t7.1)))) (eD,cL)) λs4=>
 (s4.1\λZH=>bm ZH.reverse)
def iy (iU:PV):W PV:=
 []\λjC=>
 []\λwF=>
 am (iU\λx3=>jO x3) λl30=>am (dD l30 (jC,wF) λwg s4=>(
 am (am (am (bm wg) (du .str)) cv) λb=>am (if b=true then (
 wg\λtM=>am (jX s4.1 tM) λIq=>
 bm (Iq,s4.2)) else (
 am (tW s4.2) λt20=>
 am (tW t20.1) λt22=>
 am (t22.2\λvv=>t20.2\λtJ=>bm (.tup [vv,tJ])) λpH=>am (jX s4.1 pH) λIp=>
 bm (Ip,t22.1))) λU3=>
 am (b2 m8 (am (bm U3.1) mC) (bm (.int 1))) λMa=>am (jX U3.2 Ma) λy6=>
 bm (U3.1,y6))) λs4=>
 (am (bm s4.1) kE)
def dj (ck:PV):W PV:=
 (de (am (am (bm ck) (du .str)) cv) (bm (.tup [])) (bm ck))
def fm (iU:PV):W PV:=
 am (iU\λx2=>iy x2) λjC=>
 am (am (am (bm jC) av) λl4=>mapW l4 λp5=>(bm .aX)) λxQ=>
 am (am (am (bm jC) av) λl6=>.fq (l6.length<=sizeLine) (.ret (dY 0 l6))) λl19=>am (dD l19 xQ λp8 s7=>am (oj p8) λt9=>(
 am (am (t9.2\λlX=>dj lX) av) λKw=>am (dD Kw s7 λJz pJ=>(
 t9.1\λiT=>Jz\λko=>am (f7 pJ ko iT) λzV=>
 bm zV)) λpJ=>
 bm pJ)) λs7=>
 (am (bm s7) kE)
def eF (fy:PV) (kY:PV):W PV:=
 (de (am (am (bh (am (bm fy) av) (bm kY)) (du .str)) cv) (bh (am (bm fy) av) (bm kY)) (bm kY))
def gV (dP:PV):W (List PV):=
 am (dP\λx2=>fm x2) λd6=>
 am (am (am (bm d6) av) λl4=>mapW l4 λp5=>(bm (.tup []))) λlK=>
 am (am (b2 m8 (c1 dg (bm d6)) (bm (.int 1))) λx6=>am (am (bm (.int 1)) jM) λx7=>am (am (bm (.int 1)) jM) λx8=>II x6 x7 x8) λKw=>am (dD Kw lK λkX s9=>(
 am (de (t2 Gy (bh (am (bm d6) av) (bm kX)) (bm .aX)) (bm (.tup [])) (bh (bm s9) (bh (am (bm d6) av) (bm kX)))) λzW=>
 am (w2 addW (kX\λlW=>bm (.tup [lW])) (bm zW)) λiT=>kX\λko=>am (f7 s9 ko iT) λy8=>
 bm y8)) λs9=>
 bm s9
def eP (wH:PV) (kY:PV):W PV:=
 (am (am (am (c1 dg (bm wH)) j9) λl2=>kh l2 λp3=>F0 (tS (R0 true (bm p3) (am (bh (am (bm wH) av) (bm kY)) av)) (R0 true (bm kY) (am (bh (am (bm wH) av) (bm p3)) av))) (bm p3)) kE)
def kQ (dP:PV):W PV:=
 am (dP\λx2=>iy x2) λfU=>
 am (dP\λx4=>gV x4) λlK=>
 (am (am (am (c1 dg (bm fU)) j9) λl6=>mapW l6 λp7=>(am (fU\λx8=>p7\λx9=>eF x8 x9) λlX=>(.int 0)\λtN=>am (am (bh (am (bm fU) av) (bm p7)) λvA=>dj vA) λlW=>am ((.cl lK)\λiT=>p7\λko=>eP iT ko) λJT=>bm (.tup [lX,tN,lW,JT]))) kE)
def gY (gn:PV) (k_:PV):W (List PV):=
 (.int 0)\λPl=>
 am (t2 oLt (bm k_) (c1 dg (bm gn))) λb=>am (if b=true then (
 am (c1 Pt (bh (am (bm gn) av) (bm k_))) λPk=>
 bm Pk) else (
 bm Pl)) λs3=>
 am (b2 mz (b2 oMod (bm s3) (b2 mz (b2 yT (bm (.int 10)) (bm (.int 60))) (b2 yT (bm (.int 10)) (bm (.int 60))))) (c1 pY (b2 oGe (bm s3) (b2 yT (bm (.int 10)) (bm (.int 18)))))) λnS=>
 (nS\λx6=>am (b2 oMod (w2 addW (w2 addW (bm s3) (b2 mz (bm (.int 104729)) (bm k_))) (bm (.int 7))) (bm (.int 2305843009213693951))) λx7=>(.int 0)\λx8=>bm [x6,x7,x8])
def fR (dz:List PV) (jb:PV):W (PV×List PV):=
 de (t2 Zr (bh (bm dz) (bm (.int 0))) (bm (.int 0))) (
 am (b2 oMod (bh (bm dz) (bm (.int 0))) (bm jb)) λJM=>
 am (b2 oDiv (bh (bm dz) (bm (.int 0))) (bm jb)) λx3=>(.int 0)\λx4=>am (f7 dz x4 x3) λmy=>
 JM\λx5=>bm (x5,my)) (
 (.int 2)\λx6=>am (Wo dz x6) λx7=>(.int 1)\λx8=>am (of2 Js x7 x8) λlX=>am (f7 dz x6 lX) λgR=>
 am (b2 oMod (w2 addW (w2 addW (b2 mz (bh (bm gR) (bm (.int 1))) (bm (.int 69069))) (b2 mz (bm (.int 9973)) (bh (bm gR) (bm (.int 2))))) (bm (.int 5))) (bm (.int 2305843009213693921))) λrJ=>
 am (b2 oMod (b2 mz (bm rJ) (w2 addW (w2 addW (b2 oMod (bm rJ) (bm (.int 999983))) (b2 mz (bm (.int 2)) (bh (bm gR) (bm (.int 2))))) (bm (.int 3)))) (bm (.int 2305843009213693907))) λlW=>(.int 1)\λiT=>am (f7 gR iT lW) λip=>
 am (b2 oMod (b2 oDiv (bh (bm ip) (bm (.int 1))) (bm (.int 65537))) (bm jb)) λko=>bm (ko,ip))
def dA (jb:PV):W (List PV):=
 (.str "abcdefghijklmnopqrstuvwxyz")\λoH=>
 am ((.int 26)\λx3=>bq x3) λqA=>
 am (bh ((.int 1)\λx5=>(.int 3)\λx6=>(.int 5)\λx7=>(.int 7)\λx8=>(.int 9)\λx9=>(.int 11)\λlX=>bm [x5,x6,x7,x8,x9,lX]) ((.int 6)\λtN=>bq tN)) λGb=>
 am (bh ((.str "")\λlW=>(.str "k")\λiT=>bm [lW,iT]) ((.int 2)\λko=>bq ko)) λvL=>
 am ((.str "")\λqM=>(.str "q")\λtM=>(.str "zz")\λtL=>(.str "abcdef")\λqL=>bm [qM,tM,tL,qL]) λxo=>
 []\λsj=>
 am (am (bm jb) j9) λV5=>am (dD V5 sj λWj U2=>(
 am (b2 Nw (bm oH) (b2 oMod (w2 addW (bm qA) (b2 mz (bm Gb) (bm Wj))) (bm (.int 26)))) λuO=>
 am (w2 addW (w2 addW (bm vL) (bm uO)) (bh (am (bm (.cl xo)) av) (b2 oMod (w2 addW (bm qA) (bm Wj)) (bm (.int 4))))) λQf=>am (jX U2 Qf) λzr=>
 bm zr)) λU2=>
 bm U2
def m__law_same:Nat->PV->PV->W PV
 | 0,_,_=>W.fail
 | n+1,gb,pW=>
 de (am (am (bm pW) (du .tup)) cv) (
 de (Tq (mV (am (am (bm gb) (du .tup)) cv)) (t2 wy (c1 dg (bm gb)) (c1 dg (bm pW)))) (
 (bm (.bl false))) (
 (am (am (am (am (bm gb) av) λl1=>am (am (bm pW) av) λl2=>mP l1 l2) λl3=>mapW l3 λp4=>am (oj p4) λt5=>(t5.1\λx6=>t5.2\λx7=>m__law_same n x6 x7)) xO))) (
 de (Tq (am (am (bm pW) (du .str)) cv) (t2 Gy (bm pW) (bm .aX))) (
 (sZ (b2 di (am (bm gb) (du .str)) (am (bm pW) (du .str))) (b2 di (bm gb) (bm pW)))) (
 (sZ (am (bm gb) (du .int)) (sZ (am (am (bm gb) (du .bool)) Ny) (b2 di (bm gb) (bm pW))))))
def gW (aQ:PV):W PV:=
 (sZ (am (bm aQ) (du .int)) (am (am (bm aQ) (du .bool)) Ny))
def fM (aQ:PV) (jb:PV):W PV:=
 (sZ (am (bm aQ) (du .tup)) (b2 di (c1 dg (bm aQ)) (bm jb)))
def jd (aQ:PV):W PV:=
 de (Tq (mV (am (am (bm aQ) (du .str)) cv)) (mV (chT oLe oLe (bm (.int 1)) (c1 dg (bm aQ)) (bm (.int 8))))) (
 (bm (.bl false))) (
 (am (am (am (bm aQ) Gp) λl1=>mapW l1 λp2=>(b2 Rq (bm p2) (bm (.str "abcdefghijklmnopqrstuvwxyz")))) xO))
def gX (aQ:PV) (Gw:PV):W PV:=
 am (aQ\λx3=>bm [x3]) λcL=>
 am (qN (λs4=>(s4.2\λl5=>bm (!l5.isEmpty))) (λs4=>(
 am (tW s4.2) λt7=>
 de (am (t7.2\λx8=>(.int 2)\λx9=>fM x8 x9) cv) (
 am (am (bm t7.2) av) λV8=>am (sF t7.1 V8) λdh=>
 bm (.go (s4.1,dh))) (
 de (Tq (mV (am (t7.2\λiT=>jd iT) cv)) (tS (t7.2\λvA=>am (oI vA) λk13=>bm (oS s4.1 k13)) (mV (am (bm Gw) cv)))) (
 (.bl false)\λko=>bm (Lp.out ko)) (
 (.bl true)\λqM=>t7.2\λtM=>am (Vj s4.1 tM qM) λIH=>
 bm (.go (IH,t7.1)))))) ([],cL)) (Hd (λs4=>
 (bm (.bl true))) id)
def dX (fy:PV) (dQ:PV):W (List PV):=
 (am (am (am (bm fy) av) λl1=>am (am (bm dQ) av) λl2=>mP l1 l2) λl3=>kh l3 λp4=>am (oj p4) λt5=>F0 (mV (am (am (bm t5.1) (du .str)) cv)) (bm t5.2))
def bL (Mz:PV):W PV:=
 (bh (am (bm Mz) av) (am (c1 dg (bm Mz)) λx1=>bq x1))
def kR (eE:PV):W PV:=
 am (am (bm eE) av) λqU=>
 am ((.int 4)\λx3=>bq x3) λTn=>
 am (kq (λs4=>(t2 Zr (am (bm s4) mC) (bm (.int 1)))) (λs4=>(
 am (bh (am (am (b2 m8 (am (bm s4) mC) (bm (.int 1))) λx6=>bq x6) λx7=>am (b2 m8 (am (bm s4) mC) (bm (.int 2))) λx8=>(.int 0)\λx9=>(.int 0)\λlX=>bm [x7,x8,x9,lX]) (bm Tn)) λmM=>
 am (am (bh (bm s4) (bm mM)) λvA=>am (bh (bm s4) (w2 addW (bm mM) (bm (.int 1)))) λlW=>bm (.tup [vA,lW])) λqi=>
 am (tS (t2 di (bm Tn) (bm (.int 3))) (t2 di ((.int 2)\λiT=>bq iT) (bm (.int 0)))) λb=>am (if b=true then (
 am (am (bh (bm s4) (w2 addW (bm mM) (bm (.int 1)))) λqL=>am (bh (bm s4) (bm mM)) λtK=>bm (.tup [qL,tK])) λqh=>
 bm qh) else (
 bm qi)) λXA=>
 am (XA\λqK=>bm [qK]) λZE=>mM\λtJ=>am (w2 addW (bm mM) (bm (.int 2))) λpH=>am (QD s4 tJ pH ZE) λqd=>
 bm qd)) qU) λs4=>
 (bh (bm s4) (bm (.int 0)))
def nv:W PV:=
 (am (ui (am (w2 addW (bm (.int 1)) (am (bh ((.int 5)\λx1=>(.int 8)\λx2=>bm [x1,x2]) (c1 pY (b2 di ((.int 8)\λx3=>bq x3) (bm (.int 0))))) λx4=>bq x4)) λx5=>dA x5)) λx6=>kR x6)
def a6:Nat->PV->W (List PV)
 | 0,_=>W.fail
 | n+1,aD=>
 de (am (am (bm aD) (du .str)) cv) (
 (aD\λx1=>bm [x1])) (
 am (am (bh (am (bm aD) av) (bm (.int 0))) λx3=>a6 n x3) λvX=>
 am (am (bm vX) mC) λrL=>
 am (am (bh (am (bm aD) av) (bm (.int 1))) λx5=>a6 n x5) λl18=>am (dD l18 vX λyA s6=>(
 am (de (am (am (bm yA) (du .str)) cv) (bm yA) (am (w2 addW (bh (am (bm yA) av) (bm (.int 0))) (bm rL)) λx9=>am (w2 addW (bh (am (bm yA) av) (bm (.int 1))) (bm rL)) λlX=>bm (.tup [x9,lX]))) λtN=>am (jX s6 tN) λMM=>
 bm MM)) λs6=>
 (s6\λRK=>am (am (am (b2 m8 (bm rL) (bm (.int 1))) λvA=>am (b2 m8 (am (bm s6) mC) (bm (.int 1))) λlW=>bm (.tup [vA,lW])) λiT=>bm [iT]) λV6=>mK RK V6))
def eT (bX:PV):W PV:=
 am (am ((.int 0)\λx2=>bm [x2]) λl3=>am (c1 dg (bm bX)) λx4=>yD l3 x4) λjU=>
 am (am (am (am (bm bX) av) λl6=>.fq (l6.length<=sizeLine) (.ret (dY 0 l6))) λl7=>kh l7 λp8=>am (oj p8) λt9=>F0 (mV (am (am (bm t9.2) (du .str)) cv)) (bm t9.1)) λGU=>
 (.int 0)\λxH=>
 am (kq (λpJ=>(pJ.2.1\λZH=>bm (!ZH.isEmpty))) (λpJ=>(
 am (am (am (am (bm (.cl pJ.2.1)) av) λXG=>kh XG λZh=>F0 (tS (R0 true (bh (am (bh (am (bm bX) av) (bm Zh)) av) (bm (.int 0))) (am (bm (.cl pJ.2.1)) av)) (R0 true (bh (am (bh (am (bm bX) av) (bm Zh)) av) (bm (.int 1))) (am (bm (.cl pJ.2.1)) av))) (bm Zh)) Mj) λyE=>
 am ((.cl yE)\λqM=>bL qM) λrY=>
 am (w2 addW (w2 addW (bm pJ.2.2) (bm (.int 1))) (am (bh ((.int 1)\λtL=>(.int 3)\λqL=>(.int 13)\λtK=>bm [tL,qL,tK]) ((.int 3)\λF5=>bq F5)) λqK=>bq qK)) λxG=>
 xG\λtJ=>rY\λpH=>am (f7 pJ.1 pH tJ) λmm=>
 rY\λMa=>am (U7 pJ.2.1 Ma) λJf=>
 bm (mm,Jf,xG))) (jU,GU,xH)) λpJ=>
 (am (bm pJ.1) kE)
def gT (dP:PV) (dQ:PV) (jW:PV):W (List PV):=
 am (dP\λx2=>fm x2) λd6=>
 []\λwo=>
 am (am (am (bm jW) av) λl4=>.fq (l4.length<=sizeLine) (.ret (dY 0 l4))) λl19=>am (dD l19 wo λp6 s5=>am (oj p6) λt7=>(
 am (am (am (bm dQ) av) λl8=>.fq (l8.length<=sizeLine) (.ret (dY 0 l8))) λKw=>am (dD Kw s5 λXB s9=>am (oj XB) λYH=>(
 de (tS (t2 oLe (bm YH.2) (bm t7.2)) (Tq (t2 Gy (bh (am (bm d6) av) (bm YH.1)) (bm .aX)) (t2 oLt (bm t7.2) (bh (am (bm dQ) av) (bh (am (bm d6) av) (bm YH.1)))))) (
 am (YH.1\λlW=>t7.1\λiT=>bm (.tup [lW,iT])) λko=>am (jX s9 ko) λyP=>
 bm yP) (
 bm s9))) λs9=>
 bm s9)) λs5=>
 bm s5
def jc (fy:PV) (dQ:PV) (jW:PV) (ng:PV) (Np:PV):W PV:=
 am (bh (am (bm Np) av) (bm (.int 0))) λlO=>
 am (bh (am (bm Np) av) (bm (.int 1))) λny=>
 am (b2 oLt (bh (am (bm dQ) av) (bm lO)) (bh (am (bm jW) av) (bm ny))) λuW=>
 am (de (am (bm uW) cv) (lO\λx5=>bm (.tup [x5])) (am (bh (am (bm fy) av) (bm lO)) λx6=>dj x6)) λbelow_4=>
 am (am (am (am (bm below_4) av) λl8=>mapW l8 λp9=>(dgB (bm ng) (p9\λlX=>am (b2 m8 (bm ny) (bm (.int 1))) λtN=>bm (.tup [lX,tN])))) kE) λIo=>
 am (am (am (am (bm ng) NR) λV7=>kh V7 λZi=>F0 (tS (t2 di (bh (am (bm Zi) av) (bm (.int 1))) (bm ny)) (t2 wy (bh (am (bm Zi) av) (bm (.int 0))) (bm lO))) (dgB (bm ng) (bm Zi))) kE) λvm=>
 (am (fy\λko=>lO\λJT=>eF ko JT) λqM=>ny\λtM=>Io\λtL=>vm\λqL=>bm (.tup [qM,tM,tL,qL]))
def lJ (dP:PV) (dQ:PV):W PV:=
 am (dP\λx2=>iy x2) λfU=>
 am (am ((.int 0)\λx4=>bm [x4]) λl7=>am (am (fU\λx5=>dQ\λx6=>dX x5 x6) vR) λl8=>mK l7 l8) λsX=>
 am (dP\λlX=>dQ\λtN=>(.cl sX)\λvA=>gT lX tN vA) λwj=>
 am (am (am (am (am (bm (.cl wj)) av) λXG=>.fq (XG.length<=sizeLine) (.ret (dY 0 XG))) λRK=>mapW RK λó=>am (oj ó) λČ=>(Č.2\λtM=>Č.1\λtL=>bm (.tup [tM,tL]))) HI) λrC=>
 (am (am (am (bm (.cl wj)) av) λZG=>mapW ZG λp21=>(fU\λF5=>dQ\λqK=>(.cl sX)\λvv=>rC\λtJ=>p21\λpH=>jc F5 qK vv tJ pH)) kE)
def lI (aQ:PV):W PV:=
 (aQ\λx1=>(.bl true)\λx2=>gX x1 x2)
def cW (aH:PV) (bj:PV):W PV:=
 (bh (am (bh (am (bm aH) av) (bm bj)) av) (bm (.int 2)))
def fP (aH:PV) (bj:PV):W PV:=
 (bh (am (bh (am (bm aH) av) (bm bj)) av) (bm (.int 3)))
def jk (aH:PV) (bj:PV) (Tj:PV):W PV:=
 (sZ (b2 di (aH\λx1=>bj\λx2=>cW x1 x2) (bm (.tup []))) (b2 di (bh (am (bh (am (bm aH) av) (bm bj)) av) (bm (.int 0))) (bm Tj)))
def dm (gN:PV):W PV:=
 (bh (am (bh (am (bm gN) av) (bm (.int 0))) av) (bm (.int 0)))
def fi (gN:PV):W PV:=
 (bh (am (bh (am (bm gN) av) (bm (.int 0))) av) (am (bm (.int 1)) jM))
def nu (gN:PV):W PV:=
 (am (am (am (gN\λx3=>am (am (bm (.int 2)) part) λi1=>bv\λj2=>vU x3 i1 j2) av) λl4=>mapW l4 λp5=>(p5\λx6=>dm x6)) kE)
def fK (aO:PV) (bj:PV):W (List PV):=
 am (aO\λx2=>bj\λx3=>cW x2 x3) λmU=>
 (de (t2 di (c1 dg (bm mU)) (bm (.int 2))) (mU\λx4=>am (am (bh (am (bm mU) av) (bm (.int 1))) λx5=>am (bh (am (bm mU) av) (bm (.int 0))) λx6=>bm (.tup [x5,x6])) λx7=>bm [x4,x7]) (bm []))
def gU (aO:PV) (bj:PV):W (List PV):=
 am (aO\λx2=>bj\λx3=>fP x2 x3) λsW=>
 (am (am (am (bm sW) av) λl4=>mapW l4 λp5=>(bj\λx6=>p5\λx7=>bm (.tup [x6,x7]))) λZH=>am (am (am (bm sW) av) λl8=>mapW l8 λp9=>(p9\λlX=>bj\λtN=>bm (.tup [lX,tN]))) λV7=>mK ZH V7)
def fj (aO:PV) (ck:PV) (bj:PV):W (List PV):=
 de (am (am (bm ck) (du .str)) cv) (
 (de (am (aO\λx1=>bj\λx2=>ck\λx3=>jk x1 x2 x3) cv) (am ((.str "found")\λx4=>(.tup [])\λx5=>bm (.tup [x4,x5])) λx6=>bm [x6]) (bm []))) (
 am (am (aO\λx8=>bj\λx9=>fK x8 x9) λV9=>mapW V9 λIX=>((.str "split")\λvA=>IX\λlW=>bm (.tup [vA,lW]))) λID=>
 am (am (aO\λko=>bj\λJT=>gU ko JT) λKw=>mapW Kw λp18=>((.str "over")\λtL=>p18\λqL=>bm (.tup [tL,qL]))) λIZ=>
 (am (am (am (am ((.str "doubled")\λtK=>am (bj\λF5=>bj\λqK=>bm (.tup [F5,qK])) λvv=>bm (.tup [tK,vv])) λtJ=>bm [tJ]) λl26=>am (am (bm (.cl ID)) kS) λRJ=>mK l26 RJ) λl28=>am (am (bm (.cl IZ)) kS) λV5=>mK l28 V5) Mv))
def jg (aO:PV) (aQ:PV):W PV:=
 (sZ (aQ\λx1=>gW x1) (chB oLe oLt (bm (.int 0)) (bm aQ) (c1 dg (bm aO))))
def jh (aO:PV) (aQ:PV):W PV:=
 de (Tq (mV (am (am (bm aQ) (du .tup)) cv)) (t2 di (c1 dg (bm aQ)) (bm (.int 0)))) (
 (bm (.bl false))) (
 de (mV (am (am (am (am (bm aQ) av) λl1=>mapW l1 λp2=>(aO\λx3=>p2\λx4=>jg x3 x4)) xO) cv)) (
 (bm (.bl false))) (
 (am (am (am (am (bm aQ) av) λl8=>am (am (aQ\λx7=>am (am (bm (.int 1)) part) λi5=>bv\λj6=>vU x7 i5 j6) av) λl9=>mP l8 l9) λV9=>mapW V9 λIX=>am (oj IX) λom=>(ZN false (bm om.2) (am (aO\λlW=>om.1\λiT=>cW lW iT) av))) xO)))
def fN (aO:PV) (ck:PV) (aQ:PV):W PV:=
 am (de (am (am (bm ck) (du .str)) cv) (bm (.int 2)) (bm (.int 4))) λNI=>
 (sZ (aQ\λx4=>NI\λx5=>fM x4 x5) (sZ (aO\λx2=>am (bh (am (bm aQ) av) (bm (.int 0))) λx3=>jh x2 x3) (am (bh (am (bm aQ) av) (bm (.int 1))) (du .str))))
def cZ (aO:PV) (uB:PV) (aQ:PV):W PV:=
 am (am (am (bm uB) av) λl2=>mapW l2 λp3=>(bm .aX)) λMe=>
 aQ\λx5=>am (am (bm (.int 1)) jM) λx6=>am (f7 Me x6 x5) λmx=>
 am (am (b2 m8 (c1 dg (bm uB)) (bm (.int 1))) λx7=>am (am (bm (.int 1)) jM) λx8=>am (am (bm (.int 1)) jM) λx9=>II x7 x8 x9) λl33=>am (nK l33 mx λlF QK=>(
 am (bh (am (bm uB) av) (bm lF)) λqp=>
 am (bh (bm QK) (bm lF)) λvC=>
 de (mV (am (aO\λiT=>qp\λko=>vC\λJT=>fN iT ko JT) cv)) (
 .aX\λqM=>bm (Lp.out qM)) (
 am (am (am (qp\λtM=>dj tM) av) λZF=>am (am (vC\λtK=>am (am (bm (.int 2)) part) λi19=>bv\λj20=>vU tK i19 j20) av) λl23=>mP ZF l23) λl31=>am (dD l31 QK λp25 U1=>am (oj p25) λċ=>(
 ċ.2\λMa=>ċ.1\λQe=>am (f7 U1 Qe Ma) λIk=>
 bm Ik)) λU1=>
 bm (.go U1)))) (Hd (λQK=>
 (bm (.cl QK))) id)
def jm (aO:PV) (ck:PV) (gN:PV):W PV:=
 (ZN false (am (bh (am (bm gN) av) (bm (.int 1))) λx1=>am (gN\λx2=>nu x2) λx3=>bm (.tup [x1,x3])) (aO\λx4=>ck\λx5=>am (gN\λx6=>fi x6) λx7=>fj x4 x5 x7))
def je (aO:PV) (Gn:PV) (aQ:PV):W PV:=
 de (mV (am (Gn\λx1=>lI x1) cv)) (
 (bm (.bl false))) (
 am (Gn\λx3=>iy x3) λGd=>
 am (aO\λx5=>Gd\λx6=>aQ\λx7=>cZ x5 x6 x7) λmx=>
 de (Tq (t2 Gy (bm mx) (bm .aX)) (t2 wy (c1 dg (bh (am (bm aQ) av) (bm (.int 0)))) (bm (.int 1)))) (
 (bm (.bl false))) (
 (am (am (am (am (bm Gd) av) λl8=>am (am (bm mx) av) λl9=>mP l8 l9) λV9=>mapW V9 λIX=>am (oj IX) λom=>(aO\λlW=>om.1\λiT=>om.2\λko=>jm lW iT ko)) xO)))
def fv (eE:PV):W PV:=
 am (am (bm eE) av) λqU=>
 am ((.int 4)\λx3=>bq x3) λgM=>
 am (kq (λs4=>(t2 Zr (am (bm s4) mC) (bm (.int 1)))) (λs4=>(
 am (bh (am (am (b2 m8 (am (bm s4) mC) (bm (.int 1))) λx6=>bq x6) λx7=>am (b2 m8 (am (bm s4) mC) (bm (.int 2))) λx8=>(.int 0)\λx9=>(.int 0)\λlX=>bm [x7,x8,x9,lX]) (bm gM)) λmM=>
 am (am (bh (bm s4) (bm mM)) λvA=>am (bh (bm s4) (w2 addW (bm mM) (bm (.int 1)))) λlW=>bm (.tup [vA,lW])) λqi=>
 am (tS (t2 di (bm gM) (bm (.int 3))) (t2 di ((.int 2)\λiT=>bq iT) (bm (.int 0)))) λb=>am (if b=true then (
 am (am (bh (bm s4) (w2 addW (bm mM) (bm (.int 1)))) λqL=>am (bh (bm s4) (bm mM)) λtK=>bm (.tup [qL,tK])) λqh=>
 bm qh) else (
 bm qi)) λXA=>
 am (XA\λqK=>bm [qK]) λZE=>mM\λtJ=>am (w2 addW (bm mM) (bm (.int 2))) λpH=>am (QD s4 tJ pH ZE) λqd=>
 bm qd)) qU) λs4=>
 (bh (bm s4) (bm (.int 0)))
def eR:W PV:=
 (am (ui (am (w2 addW (bm (.int 1)) (am (bh ((.int 5)\λx1=>(.int 8)\λx2=>bm [x1,x2]) (c1 pY (b2 di ((.int 8)\λx3=>bq x3) (bm (.int 0))))) λx4=>bq x4)) λx5=>dA x5)) λx6=>fv x6)
def eQ (dw:PV):W PV:=
 am (am (dw\λx2=>a6 12 x2) λl3=>kh l3 λp4=>F0 (am (am (bm p4) (du .str)) cv) (bm p4)) λmR=>
 am (w2 addW (bm (.int 1)) (am (bh ((.int 6)\λx6=>(.int 10)\λx7=>bm [x6,x7]) (c1 pY (b2 di ((.int 8)\λx8=>bq x8) (bm (.int 0))))) λx9=>bq x9)) λNH=>
 (am (ui (am (am (bm NH) j9) λV8=>mapW V8 λô=>((.cl mR)\λlW=>bL lW))) λiT=>fv iT)
def cy (dw:PV):W PV:=
 de (t2 di ((.int 2)\λx1=>bq x1) (bm (.int 0))) (
 (dw\λx2=>kQ x2)) (
 (dw\λx3=>am (am (ui (dw\λx4=>a6 12 x4)) λx5=>eT x5) λx6=>lJ x3 x6))
def eS (aH:PV) (bj:PV):W (List PV):=
 am (bh (am (bm aH) av) (bm bj)) λx1=>am (Yn x1) λt3=>
 am (am ((.str "doubled")\λx5=>bj\λx6=>bj\λx7=>bm (.tup [x5,x6,x7])) λx8=>bm [x8]) λxh=>
 am (t2 di (c1 dg (bm t3.2.2.1)) (bm (.int 2))) λb=>am (if b=true then (
 am (am ((.str "split")\λtK=>am (bh (am (bm t3.2.2.1) av) (bm (.int 0))) λF5=>am (bh (am (bm t3.2.2.1) av) (bm (.int 1))) λqK=>bm (.tup [tK,F5,qK])) λvv=>am ((.str "split")\λtJ=>am (bh (am (bm t3.2.2.1) av) (bm (.int 1))) λpH=>am (bh (am (bm t3.2.2.1) av) (bm (.int 0))) λQf=>bm (.tup [tJ,pH,Qf])) λMa=>bm [vv,Ma]) λV5=>am (sF xh V5) λzu=>
 bm zu) else (
 bm xh)) λYR=>
 am (am (bm t3.2.2.2) av) λl43=>am (dD l43 YR λiY QJ=>(
 am (am ((.str "over")\λUD=>bj\λx34=>iY\λx35=>bm (.tup [UD,x34,x35])) λx36=>am ((.str "over")\λx37=>iY\λx38=>bj\λx39=>bm (.tup [x37,x38,x39])) λx40=>bm [x36,x40]) λl41=>am (sF QJ l41) λnI=>
 bm nI)) λQJ=>
 bm QJ
def cx (aH:PV) (bX:PV) (bc:PV) (ck:PV) (bj:PV):W (List PV):=
 am (bh (am (bm bX) av) (bm ck)) λyB=>
 de (am (am (bm yB) (du .str)) cv) (
 (am (am ((.str "found")\λx2=>bj\λx3=>bj\λx4=>bm (.tup [x2,x3,x4])) λx5=>bm [x5]) λl6=>am (c1 pY (sZ (b2 di (bh (am (bh (am (bm aH) av) (bm bj)) av) (bm (.int 2))) (bm (.tup []))) (b2 di (bh (am (bh (am (bm aH) av) (bm bj)) av) (bm (.int 0))) (bm yB)))) λx7=>yD l6 x7)) (
 (am (aH\λx8=>bj\λx9=>eS x8 x9) λV9=>kh V9 λIX=>F0 (tS (am (bh (am (bh (am (bm bc) av) (bh (am (bm yB) av) (bm (.int 0)))) av) (bh (am (bm IX) av) (bm (.int 1)))) cv) (am (bh (am (bh (am (bm bc) av) (bh (am (bm yB) av) (bm (.int 1)))) av) (bh (am (bm IX) av) (bm (.int 2)))) cv)) (bm IX)))
def gZ (aH:PV) (bX:PV):W (List PV):=
 am (am (c1 dg (bm bX)) j9) λl32=>am (dD l32 (([]:List db),([]:List (List PV))) λrF s3=>(
 am (am ((.bl false)\λx5=>bm [x5]) λl6=>am (c1 dg (bm aH)) λx7=>yD l6 x7) λl8=>W.fq (s3.2.length < sizeLine) (am (W.any λ_=>True) λb9=>(s3.2++[l8])\λso=>
 am (am (c1 dg (bm aH)) j9) λl30=>am (dD l30 (b9,so) λqb LW=>(
 am (am (am (am (am (am (bh (am (bh (am (bm aH) av) (bm qb)) av) (bm (.int 2))) av) λRK=>mapW RK λó=>(bh (am (bh (am (bm (.cl (LW.2.map PV.cl))) av) (bm rF)) av) (bm ó))) Py) qS) qS) λTR=>
 am (am (am (orB (bm TR) (am (aH\λqM=>bX\λtM=>am (bm (.cl (LW.2.map PV.cl))) λtL=>rF\λqL=>qb\λtK=>cx qM tM tL qL tK) λZF=>bm (.bl (!ZF.isEmpty)))) qS) qS) λqK=>rF\λvv=>am (RT LW.2 vv) λZM=>qb\λpH=>am (f7 ZM.2 pH qK) λRJ=>(LW.2.set ZM.1 RJ)\λzq=>
 bm (LW.1,zq))) λLW=>
 bm LW))) λs3=>
 bm (s3.2.map PV.cl)
def eG (aH:PV) (bX:PV) (bc:PV) (ck:PV) (bj:PV):W PV:=
 am (bj\λx2=>bm [x2]) λkJ=>
 am (am (c1 dg (bm aH)) j9) λl35=>am (dD l35 kJ λUM s4=>(
 am (am (am (bh (am (bh (am (bm aH) av) (bh (bm s4) (am (bm (.int 1)) jM))) av) (bm (.int 2))) av) λl7=>kh l7 λp8=>F0 (am (bh (am (bh (am (bm bc) av) (bm ck)) av) (bm p8)) cv) (bm p8)) λVI=>
 am (orB (am (aH\λtN=>bX\λvA=>bc\λlW=>ck\λiT=>am (bh (bm s4) (am (bm (.int 1)) jM)) λko=>cx tN vA lW iT ko) λV6=>bm (.bl (V6.isEmpty))) (b2 di ((.int 3)\λlX=>bq lX) (bm (.int 0)))) λOQ=>
 de (tS (am (am (bm (.cl VI)) kS) λKw=>bm (!Kw.isEmpty)) (am (bm OQ) cv)) (
 am ((.cl VI)\λtL=>bL tL) λqL=>am (jX s4 qL) λgq=>
 bm gq) (
 bm s4))) λs4=>
 am (kq (λuH=>(am (aH\λF5=>bX\λqK=>bc\λvv=>ck\λtJ=>am (bh (bm uH) (am (bm (.int 1)) jM)) λpH=>cx F5 qK vv tJ pH) λRJ=>bm (RJ.isEmpty))) (λuH=>(
 am (am (ui (am (am (bh (am (bh (am (bm aH) av) (bh (bm uH) (am (bm (.int 1)) jM))) av) (bm (.int 2))) av) λV5=>kh V5 λò=>F0 (am (bh (am (bh (am (bm bc) av) (bm ck)) av) (bm ò)) cv) (bm ò))) λUG=>bL UG) λUE=>am (jX uH UE) λm7=>
 bm m7)) s4) λuH=>
 (am (bm uH) kE)
def cX:Nat->PV->PV->PV->PV->PV->W PV
 | 0,_,_,_,_,_=>W.fail
 | n+1,aH,bX,bc,ck,eg=>
 am (am (ui (aH\λx1=>bX\λx2=>bc\λx3=>ck\λx4=>am (bh (am (bm eg) av) (am (bm (.int 1)) jM)) λx5=>cx x1 x2 x3 x4 x5)) λx6=>bL x6) λx7=>am (un3 x7) λt8=>
 de (t2 di (bm t8.1) (bm (.str "found"))) (
 (eg\λx9=>t8.1\λlX=>bm (.tup [x9,lX]))) (
 am (bh (am (bm bX) av) (bm ck)) λq9=>
 am (aH\λlW=>bX\λiT=>bc\λko=>am (bh (am (bm q9) av) (bm (.int 0))) λJT=>am (aH\λqM=>bX\λtM=>bc\λtL=>am (bh (am (bm q9) av) (bm (.int 0))) λqL=>t8.2.1\λtK=>eG qM tM tL qL tK) λF5=>cX n lW iT ko JT F5) λzw=>
 (eg\λqK=>t8.1\λvv=>zw\λtJ=>am (aH\λpH=>bX\λQf=>bc\λMa=>am (bh (am (bm q9) av) (bm (.int 1))) λQe=>am (aH\λUH=>bX\λUG=>bc\λUE=>am (bh (am (bm q9) av) (bm (.int 1))) λUD=>t8.2.2\λx34=>eG UH UG UE UD x34) λx35=>cX n pH Qf Ma Qe x35) λx36=>bm (.tup [qK,vv,tJ,x36])))
def cM (aH:PV) (pj:PV):W PV:=
 am (pj\λx2=>a6 12 x2) λq8=>
 am (aH\λx4=>(.cl q8)\λx5=>gZ x4 x5) λmL=>
 am (b2 m8 (c1 dg (bm (.cl q8))) (bm (.int 1))) λGY=>
 am (am (am (c1 dg (bm aH)) j9) λl9=>kh l9 λXB=>F0 (am (aH\λtN=>(.cl q8)\λvA=>(.cl mL)\λlW=>GY\λiT=>XB\λko=>cx tN vA lW iT ko) λV6=>bm (!V6.isEmpty)) (bm XB)) λMx=>
 (aH\λqM=>(.cl q8)\λtM=>(.cl mL)\λtL=>GY\λqL=>am (am ((.cl Mx)\λtK=>bL tK) λF5=>bm (.tup [F5])) λqK=>cX 12 qM tM tL qL qK)
def gr:W PV:=
 am (eR) λgw=>
 am (gw\λx3=>cy x3) λvM=>
 am (gw\λx5=>eQ x5) λjF=>
 (gw\λx6=>vM\λx7=>jF\λx8=>am (vM\λx9=>jF\λlX=>cM x9 lX) λtN=>bm (.tup [x6,x7,x8,tN]))
def m_ways_within (gN:PV):W (List PV):=
 []\λeD=>
 am (gN\λx3=>bm [x3]) λcL=>
 am (kq (λs4=>(s4.2\λl5=>bm (!l5.isEmpty))) (λs4=>(
 am (tW s4.2) λt7=>
 t7.2\λx9=>am (jX s4.1 x9) λft=>
 am (am (t7.2\λlW=>am (am (bm (.int 2)) part) λi11=>bv\λj12=>vU lW i11 j12) av) λXG=>am (sF t7.1 XG) λdh=>
 bm (ft,dh))) (eD,cL)) λs4=>
 (s4.1\λRK=>bm RK.reverse)
def m_places (gN:PV):W PV:=
 (am (am (gN\λx1=>m_ways_within x1) λl2=>mapW l2 λp3=>(am (p3\λx4=>fi x4) λx5=>am (bh (am (bm p3) av) (bm (.int 1))) λx6=>bm (.tup [x5,x6]))) kE)
def m__law_parts:Nat->PV->W (List PV)
 | 0,_=>W.fail
 | n+1,aV=>
 de (t2 di (c1 dg (bm aV)) (bm (.int 2))) (
 (aV\λx1=>bm [x1])) (
 (am (am (am (bh (am (bm aV) av) (bm (.int 2))) λx2=>m__law_parts n x2) λl4=>am (am (bh (am (bm aV) av) (bm (.int 3))) λx3=>m__law_parts n x3) λl5=>mK l4 l5) λl7=>am (aV\λx6=>bm [x6]) λl8=>mK l7 l8))
def m_lost_on (aO:PV) (TN:PV):W PV:=
 (am (am (am (TN\λx3=>bv\λi1=>am (am (am (bm (.int 1)) jM) part) λj2=>vU x3 i1 j2) av) λl4=>kh l4 λp5=>F0 (t2 di (c1 dg (aO\λx6=>p5\λx7=>cW x6 x7)) (bm (.int 2))) (bm p5)) mC)
def m_counted (aO:PV) (gN:PV):W PV:=
 am (gN\λx2=>m_ways_within x2) λwd=>
 am (am (am (bm (.cl wd)) av) λl4=>mapW l4 λp5=>(bh (am (bm p5) av) (bm (.int 1)))) λO9=>
 am (am (am (am (bm (.cl wd)) av) λl7=>mapW l7 λp8=>(aO\λx9=>am (bh (am (bm p8) av) (bm (.int 0))) λlX=>m_lost_on x9 lX)) sumLW) λNJ=>
 (am (am (am (bm ([("split":Str),("doubled":Str),("over":Str)].map PV.str)) λV8=>mapW V8 λô=>(am (am (bm (.cl O9)) kS) λV7=>ô\λiT=>SR V7 iT)) λV6=>am (NJ\λko=>bm [ko]) λKw=>mK V6 Kw) kE)
def m_priced (IL:PV) (Pg:PV):W PV:=
 (am (am (am (am (bm IL) av) λl1=>am (am (bm Pg) av) λl2=>mP l1 l2) λl3=>mapW l3 λp4=>am (oj p4) λt5=>(b2 mz (bm t5.1) (bm t5.2))) sumLW)
def m__law_counts (aH:PV) (aV:PV):W PV:=
 (.int 0)\λGP=>
 am (aV\λx3=>m__law_parts 12 x3) λl32=>am (dD l32 ((dcP [("split",0),("doubled",0),("over",0),("found",0)]),GP) λpw s4=>(
 am (bh (am (bm pw) av) (bm (.int 1))) λx6=>am (oI x6) λk9=>am (.wu (gz s4.1 k9)) λx7=>(.int 1)\λx8=>am (of2 Js x7 x8) λlX=>am (.fq (s4.1.length < sizeLine) (.ret (putP s4.1 k9 lX))) λsk=>
 am (am (am (bh (am (bm pw) av) (bm (.int 0))) λiT=>bv\λi12=>am (am (am (bm (.int 1)) jM) part) λj13=>vU iT i12 j13) av) λZG=>am (dD ZG s4.2 λIz U4=>(
 am (c1 pY (b2 di (c1 dg (bh (am (bh (am (bm aH) av) (bm Iz)) av) (bm (.int 2)))) (bm (.int 2)))) λqM=>am (of2 Js U4 qM) λJe=>
 bm Je)) λU4=>
 bm (sk,U4))) λs4=>
 (am ((.str "split")\λtK=>am (oI tK) λk22=>W.wu (gz s4.1 k22)) λqK=>am ((.str "doubled")\λvv=>am (oI vv) λk25=>W.wu (gz s4.1 k25)) λpH=>am ((.str "over")\λQf=>am (oI Qf) λk28=>W.wu (gz s4.1 k28)) λQe=>s4.2\λUH=>bm (.tup [qK,pH,Qe,UH]))
def m__law_turns (aD:PV):W (List PV):=
 (am (aD\λx1=>a6 12 x1) λl2=>mapW l2 λp3=>(sZ (b2 di ((.int 2)\λx4=>bq x4) (bm (.int 0))) (am (am (bm p3) (du .str)) Ny)))
def m__law_exchanged:Nat->PV->PV->PV->W PV
 | 0,_,_,_=>W.fail
 | n+1,aD,aV,aY=>
 de (am (am (bm aD) (du .str)) cv) (
 (aD\λx1=>aV\λx2=>bm (.tup [x1,x2]))) (
 am (am (am (bh (am (bm aD) av) (bm (.int 0))) λx4=>a6 12 x4) mC) λwC=>
 am (am (bh (am (bm aD) av) (bm (.int 0))) λx6=>am (bh (am (bm aV) av) (bm (.int 2))) λx7=>am (ui (am (am (bm aY) kS) λl8=>bv\λi9=>am (am (bm wC) part) λj10=>bm (dZ l8 i9 j10))) λtN=>m__law_exchanged n x6 x7 tN) λpw=>
 am (am (bh (am (bm aD) av) (bm (.int 1))) λlW=>am (bh (am (bm aV) av) (bm (.int 3))) λiT=>am (ui (am (am (bm aY) kS) λRK=>am (am (bm wC) part) λi16=>am (am (am (bm (.int 1)) jM) part) λj17=>bm (dZ RK i16 j17))) λtM=>m__law_exchanged n lW iT tM) λrq=>
 am (am (bh (am (bm aY) av) (am (bm (.int 1)) jM)) cv) λb=>am (if b=true then (
 rq\λNt=>pw\λyR=>
 bm (Nt,yR)) else (
 bm (pw,rq))) λuH=>
 (am (am (bh (am (bm uH.1) av) (bm (.int 0))) λvv=>am (bh (am (bm uH.2) av) (bm (.int 0))) λtJ=>bm (.tup [vv,tJ])) λpH=>am (w2 addW (aV\λQe=>bv\λi27=>am (am (bm (.int 2)) part) λj28=>vU Qe i27 j28) (am (bh (am (bm uH.1) av) (bm (.int 1))) λUH=>am (bh (am (bm uH.2) av) (bm (.int 1))) λUG=>bm (.tup [UH,UG]))) λUE=>bm (.tup [pH,UE])))
def m__law_order:Nat->PV->PV->PV->W (List PV)
 | 0,_,_,_=>W.fail
 | n+1,aD,aY,k8=>
 de (am (am (bm aD) (du .str)) cv) (
 (k8\λx1=>bm [x1])) (
 am (am (am (bh (am (bm aD) av) (bm (.int 0))) λx3=>a6 12 x3) mC) λwD=>
 am (am (bh (am (bm aD) av) (bm (.int 0))) λx5=>am (ui (am (am (bm aY) kS) λl6=>bv\λi7=>am (am (bm wD) part) λj8=>bm (dZ l6 i7 j8))) λx9=>k8\λlX=>m__law_order n x5 x9 lX) λNr=>
 am (am (bh (am (bm aD) av) (bm (.int 1))) λvA=>am (ui (am (am (bm aY) kS) λV7=>am (am (bm wD) part) λi14=>am (am (am (bm (.int 1)) jM) part) λj15=>bm (dZ V7 i14 j15))) λJT=>am (w2 addW (bm k8) (bm wD)) λqM=>m__law_order n vA JT qM) λrz=>
 am (am (b2 m8 (w2 addW (bm k8) (c1 dg (bm aY))) (bm (.int 1))) λtL=>bm [tL]) λwL=>
 de (am (bh (am (bm aY) av) (am (bm (.int 1)) jM)) cv) (
 (am (am (am (bm (.cl rz)) kS) λZG=>am (am (bm (.cl Nr)) kS) λl21=>mK ZG l21) λZF=>am (am (bm (.cl wL)) kS) λl23=>mK ZF l23)) (
 (am (am (am (bm (.cl Nr)) kS) λZE=>am (am (bm (.cl rz)) kS) λl25=>mK ZE l25) λl26=>am (am (bm (.cl wL)) kS) λRJ=>mK l26 RJ)))
def m_law_8 (gn:PV):W PV:=
 am (am ((.int 1)\λx3=>am (am (c1 dg (bm gn)) λx1=>(.int 6)\λx2=>qo Pq [x1,x2]) λx4=>qo Pr [x3,x4]) j9) λl61=>am (nK l61 () λk_7 s6=>(
 am (gn\λx9=>k_7\λlX=>gY x9 lX) λrf=>Za f9 rf (
 am (gr) λtN=>am (Yn tN) λom=>
 am (om.2.2.1\λiT=>m__law_turns iT) λiG=>
 am (om.2.2.1\λko=>om.2.2.2\λJT=>(.cl iG)\λqM=>m__law_exchanged 12 ko JT qM) λtM=>am (oj tM) λXy=>
 de (Tq (t2 m9 (om.2.1\λqK=>om.2.2.1\λvv=>om.2.2.2\λtJ=>je qK vv tJ) (bm (.bl true))) (t2 m9 (om.2.1\λqL=>Xy.1\λtK=>Xy.2\λF5=>je qL tK F5) (bm (.bl true)))) (
 (.bl false)\λpH=>bm (Lp.out pH)) (
 de (mV (am (am (om.2.1\λQf=>Xy.2\λMa=>m_counted Qf Ma) λQe=>am (om.2.1\λUH=>om.2.2.2\λUG=>m_counted UH UG) λUE=>m__law_same 4 Qe UE) cv)) (
 (.bl false)\λUD=>bm (Lp.out UD)) (
 am (am (am (am (bm (.int 4)) j9) λl36=>mapW l36 λp37=>((.int 1001)\λx38=>bq x38)) kE) λoA=>
 de (t2 wy (oA\λx39=>am (om.2.1\λx40=>Xy.2\λx41=>m_counted x40 x41) λx42=>m_priced x39 x42) (oA\λx43=>am (om.2.1\λx44=>om.2.2.2\λx45=>m__law_counts x44 x45) λx46=>m_priced x43 x46)) (
 (.bl false)\λx47=>bm (Lp.out x47)) (
 am (om.2.2.2\λx49=>m_places x49) λJx=>
 am (am (am (om.2.2.1\λx51=>(.cl iG)\λx52=>(.int 0)\λx53=>m__law_order 12 x51 x52 x53) λl54=>mapW l54 λp55=>(bh (am (bm Jx) av) (bm p55))) kE) λO8=>
 de (mV (am (am (Xy.2\λx56=>m_places x56) λx57=>O8\λx58=>m__law_same 4 x57 x58) cv)) (
 (.bl false)\λx59=>bm (Lp.out x59)) (
 bm (.go ())))))))) (Hd (λs6=>
 (bm (.bl true))) id)
end My
variable {Q:List PL.PV->Prop}{t:My.Tr}
namespace My
open PySem PySem.Spec PyProof.Rows L2 PL FL
def Tr.pv:Tr->PV
 | .leaf x=>.str x
 | .node l r=>.tup [l.pv,r.pv]
def Ent.pv:Ent->PV
 | .word x=>.str x
 | .pair a b=>.tup [.int (a:Int),.int (b:Int)]
def vS {l:List α} (h:l≠[]):∃a x,l=a++[x]:=⟨l.dropLast,l.getLast h,(List.dropLast_concat_getLast h).symm⟩
def MF {a b:List Tr} (h:posts a++b=t.post):sizes a+b.length=t.size:=by
 have h1:=congrArg BV h;rw [Ae,t.post_len] at h1;have h2:∀l:List Tr,(posts l).length=sizes l:=by
  intro l
  induction l with
  | nil=>rfl
  | cons x l ih=>
   have e1:posts (x::l)=x.post++posts l:=rfl;have e2:sizes (x::l)=x.size+sizes l:=rfl;rw [e1,e2,Ae,ih,x.post_len]
 rw [h2] at h1;exact h1
theorem hX {x:PV} (h:l.length < 1000):jX l x=.ret (l++[x]):=re (by have:=a9 (n:=1000) (An _);omega)
theorem Nn (t:Tr) (hz:t.size<=900):(jO t.pv).le (.ret (t.post.map Tr.pv)):=λQ q=>by
 refine gL (λn s=>∃ts bs:List Tr,n=sizes ts/\s=(bs.map Tr.pv,ts.map Tr.pv)/\posts ts++bs.reverse=t.post) ⟨[t],[],rfl,rfl,by rw [oB];simp⟩ ?_;rintro n s ⟨ts,bs,rfl,rfl,hp⟩;have hs:=MF hp;rw [Cu] at hs;by_cases he:ts=[]
 ·subst he;have ġ:bs.reverse=t.post:=hp;simp;rw [<- List.map_reverse,ġ];exact q
 ·obtain⟨us,u,rfl⟩:=vS he;have KN:=len_sizes us;rw [bT,fe] at hs;simp;rw [hX (by rw [Af];omega)];cases u with
  | leaf x=>
   simp [Tr.pv];refine⟨_,?_,us,rfl,bs++[.leaf x],⟨by simp [Tr.pv],rfl⟩,?_⟩
   ·rw [bT,fe];show sizes us < sizes us+1;omega
   ·rw [jH,oB] at hp;rw [DR,<- hp];simp [Tr.post]
  | node c d=>
   have e1:sF (us.map Tr.pv) [c.pv,d.pv]=.ret (us.map Tr.pv++[c.pv,d.pv]):=re (a9 (by
    have:(Tr.node c d).size=c.size+d.size+1:=rfl;simp;omega))
   simp [Tr.pv,e1];refine⟨_,?_,us++[c,d],rfl,bs++[.node c d],⟨by simp [Tr.pv],by simp⟩,?_⟩
   ·have e2:sizes [Tr.node c d]=c.size+d.size+1:=by rw [fe];rfl
    have e3:sizes [c,d]=c.size+d.size:=by simp [sizes]
    rw [bT,bT,e2,e3];omega
   ·rw [jH,oB] at hp;rw [DR,<- hp,jH,Kj];simp [Tr.post]
def az (l:List Nat):List PV:=l.map λ(n:Nat)=>.int (n:Int)
@[simp] theorem aZ (l:List Nat):(az l).length=l.length:=Af _
@[simp] theorem i8 (a b:List Nat):az (a++b)=az a++az b:=AM
@[simp] theorem lH (a:Nat) (l:List Nat):az (a::l)=.int (a:Int)::az l:=rfl
@[simp] theorem kN:az []=[]:=rfl
def oO (n:Nat):kd 0 n=az (Av n):=by
 refine Ct λi _=>?_;rw [ET]
theorem GV {p:Nat->Bool}:∀{l:List Nat},(∀k∈l,f (.int ((k:Nat):Int))=.ret (if p k=true then ap (.int ((k:Nat):Int)) else bv))->kh (az l) f=.ret (az (l.filter p))
 | [],_=>rfl
 | k::l,h=>by
  show am (f _) (λo=>am (kh (az l) f) λm=>bm (o.toList++m))=_;rw [h k (.head _),GV λy hy=>h y (.tail _ hy),Dq];cases p k <;> rfl
theorem nr {f:PV->W PV}{g:Nat->PV}:∀{l:List Nat},(∀k∈l,f (.int ((k:Nat):Int))=.ret (g k))->mapW (az l) f=.ret (l.map g)
 | [],_=>rfl
 | k::l,h=>by
  show am (f _) (λy=>am (mapW (az l) f) λm=>bm (y::m))=_;rw [h k (.head _),nr λy hy=>h y (.tail _ hy)];rfl
def ZC (g:PV->Option PV) (h:∀x∈l,f x=.ret (g x)) (q:Q (l.filterMap g)):(kh l f).run Q:=by rw [GW h];exact q
def GK {f:PV->W PV} (g:PV->PV) (h:∀x∈l,f x=.ret (g x)) (q:Q (l.map g)):(mapW l f).run Q:=by rw [wB h];exact q
def rN {l:List Nat} (p:Nat->Bool) (h:∀k∈l,f (.int ((k:Nat):Int))=.ret (if p k=true then ap (.int ((k:Nat):Int)) else bv)) (q:Q (az (l.filter p))):(kh (az l) f).run Q:=by rw [GV h];exact q
def uM {l:List Nat}{f:PV->W PV} (g:Nat->PV) (h:∀k∈l,f (.int ((k:Nat):Int))=.ret (g k)) (q:Q (l.map g)):(mapW (az l) f).run Q:=by rw [nr h];exact q
theorem nj (t:Tr) (hz:t.size<=900):(iy t.pv).le (.ret (.tup ((t.nd 0).map Ent.pv))):=λQ q=>by
 unfold iy;simp only [gt,cr];refine W.le.use (Nn t hz) ?_;refine su (λr s=>∃(k:List Tr) (À:List Ent) (ls:List Nat),r=k.map Tr.pv/\s=(À.map Ent.pv,az ls.reverse)/\run k À ls=ap (t.nd 0,[t.size-1])/\À.length+k.length<=900/\ls.length<=À.length) ⟨t.post,[],[],rfl,rfl,Kg t,by simp [t.post_len];omega,An _⟩ ?_ ?_
 ·rintro x r s ⟨k,À,ls,e,rfl,h,hl,Z5⟩;cases k with
  | nil=>cases e
  | cons p k=>
   injection e with e1 e2;subst e1;subst e2;rw [Ao] at hl;cases p with
   | leaf x=>
    have a1:∀y,jX (az ls.reverse) y=.ret (az ls.reverse++[y]):=λy=>hX (by simp;omega);simp [Tr.pv,hX (l:=À.map Ent.pv) (by simp;omega),a1];refine⟨k,rfl,À++[Ent.word x],À.length::ls,⟨by simp [Ent.pv],by simp⟩,h,by simp;omega,by simp;omega⟩
   | node c d=>
    match ls,h,Z5 with
    | b::a::ls,h,Z5=>
     rw [Ao,Ao] at Z5;have a0:az (b::a::ls).reverse=(az ls.reverse++[.int (a:Int)])++[.int (b:Int)]:=by simp
     have a1:∀y,jX (az ls.reverse) y=.ret (az ls.reverse++[y]):=λy=>hX (by simp;omega);rw [a0];simp only [Tr.pv,gt,dE,fC,a7,Al,if_false,Hr];simp [hX (l:=À.map Ent.pv) (by simp;omega),a1];refine⟨k,rfl,À++[Ent.pair a b],À.length::ls,⟨by simp [Ent.pv],by simp⟩,h,by simp;omega,by simp;omega⟩
 ·rintro s ⟨k,À,ls,e,rfl,h,hl,Z5⟩;cases k with
  | nil=>
   cases h;simpa using q
  | cons p k=>cases e
end My
variable {a b d:Int}
namespace My
open PySem PySem.Spec PyProof.Rows L2 PL FL
theorem mulL (h:-1000000000<=a/\a<=1000000000):t0 a b:=TX ∅ ∅
theorem mulR (h:-1000000000<=b/\b<=1000000000):t0 a b:=mul_r ∅ ∅
theorem Qq:∀ns l Q,f9 ns->((bS 1 bq) l).run Q->((λlo l=>bS 1 (fR lo) l) (ns.map PV.int) l).run λt=>Q t.1/\∃Ja:List Int,t.2=Ja.map PV.int/\f9 Ja:=by
 rintro ns l Q ⟨g,s,c,rfl,g0,s0,s1,c0⟩ q
 match l,q with
 | [],q=>exact q.elim
 | _::_::_,q=>exact q.elim
 | [x],q=>
  show (fR _ x).run _;have q:=q;cases x with
  | int m=>
   obtain⟨⟨m0,m1⟩,q⟩:=q;have q:∀d:Int,0<=d->d < m->Q (.int d):=λd h0 h1=>q _ ⟨d,rfl,h0,h1⟩;unfold fR;generalize hA:(2305843009213693921:Int)=A;generalize hB:(2305843009213693907:Int)=B;generalize hC:(65537:Int)=C;generalize hD:(999983:Int)=D;have A0:0 < A:=by omega
   have B0:0 < B:=by omega
   have C0:0 < C:=by omega
   have D0:0 < D:=by omega
   by_cases hg:0 < g
   ·simp [bW,nA,hg,m0,f7,Th];refine⟨by omega,q _ (B9 _ ∅) (B3 _ m0),[g / m,s,c],rfl,_,_,_,rfl,Int.ediv_nonneg g0 ∅,s0,s1,c0⟩
   ·have e1:t0 s 69069:=mulR ∅;have e2:t0 9973 (c+1):=mulL ∅;have e3:t0 2 (c+1):=mulL ∅;simp [bW,nA,hg,m0,f7,Wo,e1,e2,e3,A0,B0,C0,D0];generalize hM:(s*69069+9973*(c+1)+5) % A=M;have M0:0<=M:=by rw [<- hM];exact B9 _ ∅
    have M1:M < A:=by rw [<- hM];exact B3 _ A0
    have e4:∀y,t0 M y:=λy=>TX ∅ ∅;generalize hN:M*(M % D+2*(c+1)+3) % B=N;have N0:0<=N:=by rw [<- hN];exact B9 _ ∅
    have N1:N < B:=by rw [<- hN];exact B3 _ B0
    refine⟨e4 _,⟨C0,by omega⟩,q _ (B9 _ ∅) (B3 _ m0),[g,N,c+1],rfl,_,_,_,rfl,g0,N0,by omega,by omega⟩
  | _=>exact q.elim
theorem Xk (i:Int):0<=(if i < 0 then -i else i):=by split <;> omega
theorem QZ {k:Int} (k0:0<=k) (q:∀l,(∃ms:List Int,l=ms.map PV.int/\f9 ms)->Q l):(gY (.cl (ns.map PV.int)) (.int k)).run Q:=by
 unfold gY;generalize hA:(2305843009213693951:Int)=A;have A0:0 < A:=by omega
 have fin:∀x:Int,0<=x->(am (b2 mz (b2 oMod (bm (.int x)) (b2 mz (b2 yT (bm (.int 10)) (bm (.int 60))) (b2 yT (bm (.int 10)) (bm (.int 60))))) (c1 pY (b2 oGe (bm (.int x)) (b2 yT (bm (.int 10)) (bm (.int 18)))))) λnS=>
 (nS\λx6=>am (b2 oMod (w2 addW (w2 addW (bm (.int x)) (b2 mz (bm (.int 104729)) (bm (.int k)))) (bm (.int 7))) (bm (.int A))) λx7=>(.int 0)\λx8=>bm [x6,x7,x8])).run Q:=by
  intro x x0;have p1:PX 10 60:=⟨by decide,by decide,by decide⟩;have p2:PX 10 18:=⟨by decide,by decide,by decide⟩;simp only [gt,WR,re p1,re p2,OI,OJ,aax,lT,fF,W.Pj,W.QM,ga,re (mulL (show -1000000000<=(104729:Int)/\(104729:Int)<=1000000000 by decide)),re A0];refine⟨IntMulOk.of_bits (by decide +kernel) (by decide +kernel),by decide +kernel,?_,?_⟩
  ·split
   ·exact mulR ∅
   ·exact mulR ∅
  ·refine q _ ⟨[_,_,_],rfl,_,_,_,rfl,Int.mul_nonneg (B9 _ (by decide +kernel)) ?_,B9 _ ∅,by rw [hA];exact B3 _ A0,DC _⟩
   split <;> decide
 by_cases lP:k < (ns.length:Int)
 ·obtain⟨v,e,e2⟩:=Pu (xs:=ns.map PV.int) k0 (by rw [Af];exact lP);rw [Ai] at e2;obtain⟨c,rfl⟩:∃c,v=.int c:=by
   cases z:ns[k.toNat]? with
   | none=>rw [z] at e2;cases e2
   | some c=>rw [z] at e2;exact⟨c,(Option.some.inj e2).symm⟩
  simp only [gt,gE,zA,Af,lP,decide_true,br,if_true,bJ,bb,e,sK,WY];exact fin _ (Xk _)
 ·simp only [gt,gE,zA,Af,lP,decide_false,br,Al,if_false];exact fin 0 (DC _)
theorem GH (h0:0<=d) (h1:d < 6):∃st:Int,bW [PV.int 1,PV.int 3,PV.int 5,PV.int 7,PV.int 9,PV.int 11] d=ap (.int st)/\(st=1\/st=3\/st=5\/st=7\/st=9\/st=11):=by
 have:d=0\/d=1\/d=2\/d=3\/d=4\/d=5:=by omega
 rcases this with rfl | rfl | rfl | rfl | rfl | rfl
 ·exact⟨1,rfl,by decide⟩
 ·exact⟨3,rfl,by decide⟩
 ·exact⟨5,rfl,by decide⟩
 ·exact⟨7,rfl,by decide⟩
 ·exact⟨9,rfl,by decide⟩
 ·exact⟨11,rfl,by decide⟩
theorem GI (h0:0<=d) (h1:d < 2):∃bg:Str,bW [PV.str "",PV.str "k"] d=ap (.str bg)/\Part bg 1:=by
 have:d=0\/d=1:=by omega
 rcases this with rfl | rfl
 ·exact⟨"",rfl,by decide +kernel,by decide +kernel⟩
 ·exact⟨"k",rfl,by decide +kernel,by decide +kernel⟩
theorem GJ (h0:0<=d) (h1:d < 4):∃bg:Str,bW [PV.str "",PV.str "q",PV.str "zz",PV.str "abcdef"] d=ap (.str bg)/\Part bg 6:=by
 have:d=0\/d=1\/d=2\/d=3:=by omega
 rcases this with rfl | rfl | rfl | rfl
 ·exact⟨"",rfl,by decide +kernel,by decide +kernel⟩
 ·exact⟨"q",rfl,by decide +kernel,by decide +kernel⟩
 ·exact⟨"zz",rfl,by decide +kernel,by decide +kernel⟩
 ·exact⟨"abcdef",rfl,by decide +kernel,by decide +kernel⟩
theorem cq (h:-1000<=i/\i<=1000/\-1000<=j/\j<=1000) (h2:j-i<=1000):okN i j:=⟨by omega,by omega,by omega,by omega,a9 ∅⟩
theorem JU {m:Int} (m0:0<=m) (m1:m<=26) (q:∀ws:List Str,ws.length=m.toNat->(∀x∈ws,Wd x)->ws.Nodup->Q (ws.map PV.str)):(dA (.int m)).run Q:=by
 unfold dA;simp only [gt,cr,cD 26 ⋯ ⋯,cD 6 ⋯ ⋯,cD 2 ⋯ ⋯];refine bt λd1 a1 b1=>bt λd3 a3 b3=>?_;obtain⟨st,tF,kst⟩:=GH a3 b3;simp only [bb,tF,sK,ga];refine bt λd5 a5 b5=>?_;obtain⟨bg,hbg,kbg⟩:=GI a5 b5;simp only [bb,hbg,sK,ga,fB,re (cq (i:=0) (j:=m) ∅ ∅)];have lb:=kbg.1;refine nJ (λi s=>∃ws:List Str,s=ws.map PV.str/\ws.length=i/\(∀x∈ws,Wd x)/\(ws.map λx=>x.cps[bg.length]?)=(Av i).map λk:Nat=>ap (97+((d1+st*(0+(k:Int))) % 26).toNat)) ⟨[],rfl,rfl,by simp,rfl⟩ ?_ ?_
 ·rintro i s hi ⟨ws,rfl,hl,hw,hs⟩;have e0:0<=(d1+st*(0+(i:Int))) % 26:=B9 _ ⋯;have e1:(d1+st*(0+(i:Int))) % 26 < 26:=B3 _ ⋯;have e2:(d1+st*(i:Int))=d1+st*(0+(i:Int)):=by rw [ET]
  obtain⟨en,hen,ken⟩:=GJ (d:=(d1+(i:Int)) % 4) (B9 _ ⋯) (B3 _ ⋯);have le:=ken.1;have c1:t0 st (i:Int):=mulL ∅;have c2:("abcdefghijklmnopqrstuvwxyz":Str).length<=sizeLine:=by decide +kernel
  have c3:bg.length+(⟨#[97+((d1+st*(0+(i:Int))) % 26).toNat]⟩:Str).length<=sizeLine:=a9 (by show bg.length+1<=1000;omega);have c4:(bg++(⟨#[97+((d1+st*(0+(i:Int))) % 26).toNat]⟩:Str)).length+en.length<=sizeLine:=a9 (by rw [C2];show bg.length+1+en.length<=1000;omega);simp only [gt,cr,OI,re c1,fF,OJ,re (show (0:Int) < 26 by decide),re (show (0:Int) < 4 by decide),e2,WV _ _ (Ku e0 e1),re c2,Sw,re c3,bJ,bb,hen,sK,re c4,hX (l:=ws.map PV.str) (by rw [Af];omega),ga];refine⟨ws++[bg++⟨#[97+((d1+st*(0+(i:Int))) % 26).toNat]⟩++en],by rw [AM];rfl,by rw [Ae,hl];rfl,?_,by rw [AM,hs,List.range_succ,AM,List.map_singleton,List.map_singleton,JV]⟩;intro x hx;rcases AX.mp hx with z | z
  ·exact hw x z
  ·rw [Bc.mp z];exact Mb kbg ken ∅ ∅
 ·rintro s ⟨ws,rfl,hl,hw,hs⟩;refine q ws hl hw ?_;refine wz (g:=λx:Str=>x.cps[bg.length]?) ?_;rw [hs];exact tZ kst ∅
end My
variable {Q:PL.PV->Prop}{ws:List Ce}
namespace My
open PySem PySem.Spec PyProof.Rows L2 PL FL
theorem Xg {l:List α} (h:k+1 < l.length):∃a x y b,l=a++x::y::b/\a.length=k:=by
 refine⟨l.take k,l[k],l[k+1],l.drop (k+2),?_,by rw [B2];omega⟩;have e1:l.drop k=l[k]::l.drop (k+1):=Bs ∅;have e2:=Bs ∅;rw [<- e2,<- e1,Di]
theorem yq (hw:ws≠[]) (h8:ws.length<=100) (q:∀t:Tr,t.aJ.Perm ws->Q t.pv):(kR (.cl (ws.map PV.str))).run Q:=by
 unfold kR;simp only [gt,cr,bJ,ga,cD 4 ⋯ ⋯];refine bt λw w0 w1=>?_;refine gL (λn s=>∃ts:List Tr,s=ts.map Tr.pv/\n=ts.length/\ts≠[]/\(ts.flatMap Tr.aJ).Perm ws/\ts.length<=100) (n:=ws.length) ⟨ws.map Tr.leaf,by simp [Tr.pv],by simp,by simpa using hw,?_,by simpa using h8⟩ ?_
 ·rw [List.flatMap_map];have:ws.flatMap (λx=>(Tr.leaf x).aJ)=ws:=by
   simp [Tr.aJ,List.flatMap_singleton']
  rw [this]
 ·rintro n s ⟨ts,rfl,rfl,Oa,hp,hl⟩;by_cases h1:1 < ts.length
  ·have c0:(1:Int) < (ts.length:Int):=by omega
   simp only [gt,cr,mI,Af,Uo,c0,decide_true,br,ga,if_true,mH,cD ((ts.length:Int)-1) ∅ ∅];refine bt λd d0 d1=>?_;obtain⟨a,ha,a0,a1⟩:∃a:Nat,bW [PV.int d,PV.int ((ts.length:Int)-2),PV.int 0,PV.int 0] w=ap (.int (a:Int))/\0<=a/\a+1 < ts.length:=by
    have:w=0\/w=1\/w=2\/w=3:=by omega
    rcases this with rfl | rfl | rfl | rfl
    ·exact⟨d.toNat,by show ap (PV.int d)=_;rw [Int.toNat_of_nonneg d0],by omega,by omega⟩
    ·exact⟨ts.length-2,by show ap (PV.int ((ts.length:Int)-2))=_;congr 2;omega,by omega,by omega⟩
    ·exact⟨0,rfl,by omega,by omega⟩
    ·exact⟨0,rfl,by omega,by omega⟩
   obtain⟨as,x,y,bs,rfl,hk⟩:=Xg a1;have i0:bW ((as++x::y::bs).map Tr.pv) (a:Int)=ap x.pv:=bV (by rw [Ai,AB ∅];simp [hk]);have i1:bW ((as++x::y::bs).map Tr.pv) ((a:Int)+1)=ap y.pv:=by
    have:((a:Int)+1)=((a+1:Nat):Int):=by push_cast;rfl
    rw [this];exact bV (by rw [Ai,AB ∅];simp [hk])
   simp only [bb,ha,sK,ga,i0,i1,fF,gt];have fin:∀p:Tr,p.aJ.Perm (x.aJ++y.aJ)->(QD ((as++x::y::bs).map Tr.pv) (.int (a:Int)) (.int ((a:Int)+2)) [p.pv]).run λa=>∃m,m < (as++x::y::bs).length/\∃ts:List Tr,a=ts.map Tr.pv/\m=ts.length/\ts≠[]/\(ts.flatMap Tr.aJ).Perm ws/\ts.length<=100:=by
    intro p Ġ;rw [Ae,Ao,Ao] at hl;refine⟨⟨by omega,by omega,?_,a9 ?_⟩,?_⟩
    ·rw [Af,Ae,Ao,Ao];push_cast;omega
    ·rw [Af,Ae,Ao,Ao];simp;omega
    ·have e:((as++x::y::bs).map Tr.pv).take (a:Int).toNat++[p.pv]++((as++x::y::bs).map Tr.pv).drop ((a:Int)+2).toNat=(as++p::bs).map Tr.pv:=by
      have t1:(a:Int).toNat=as.length:=by omega
      have t2:((a:Int)+2).toNat=as.length+2:=by omega
      rw [t1,t2,<- List.map_take,<- List.map_drop,List.take_left' rfl];have:(as++x::y::bs).drop (as.length+2)=bs:=by
       rw [show as++x::y::bs=(as++[x,y])++bs by simp,List.drop_left' (by simp)]
      rw [this];simp
     show ∃m,_/\∃ts:List Tr,_;rw [e];refine⟨(as++p::bs).length,by simp,as++p::bs,rfl,rfl,by simp,?_,by simp;omega⟩;refine List.Perm.trans ?_ hp;simp only [Ca,List.flatMap_cons];refine List.Perm.append_left _ ?_;rw [<- AR];exact Ġ.append_right _
   by_cases h3:w=3
   ·subst h3;simp only [cI,br,beq_self_eq_true,ga,gt,if_true,cr,cD 2 ⋯ ⋯];refine bt λd2 d20 d21=>?_;by_cases h4:d2=0
    ·subst h4;simp only [cI,br,beq_self_eq_true,ga,gt,if_true,cr,i0,i1,bb,fF,sK];exact fin (.node y x) List.perm_append_comm
    ·have e4:(d2==0)=false:=by simpa using h4
     simp only [cI,br,e4,ga,gt,cr,Al,if_false];exact fin (.node x y) (List.Perm.refl _)
   ·have e3:(w==3)=false:=by simpa using h3
    simp only [cI,br,e3,ga,gt,cr,Al,if_false];exact fin (.node x y) (List.Perm.refl _)
  ·have c0:¬(1:Int) < (ts.length:Int):=by omega
   simp only [gt,cr,mI,Af,Uo,c0,decide_false,br,ga,Al,if_false]
   match ts,Oa,h1,hp with
   | [t],_,_,hp=>
    have:t.aJ.Perm ws:=by simpa using hp
    exact q t this
   | _::_::_,_,h1,_=>simp at h1
structure pF (t:Tr):Prop where
 ws:t.Ws
 nd:t.aJ.Nodup
 few:t.aJ.length<=8
theorem KR (q:∀t:Tr,pF t->Q t.pv):nv.run Q:=by
 unfold nv;simp only [gt,cr,cD 8 ⋯ ⋯];refine bt λd d0 d1=>?_;obtain⟨n,hn,n0,n1⟩:∃n:Int,bW [PV.int 5,PV.int 8] (if (d==0)=true then 1 else 0)=ap (.int n)/\0 < n/\n<=8:=by
  by_cases h:d=0
  ·subst h;exact⟨8,rfl,by decide,by decide⟩
  ·have e:(d==0)=false:=by simpa using h
   rw [e];exact⟨5,rfl,by decide,by decide⟩
 simp only [cI,ga,lT,bb,hn,sK,cD n n0 ∅];refine bt λk k0 k1=>?_;refine JU ∅ ∅ λws hl hw hd=>?_;refine yq (λz=>by rw [z] at hl;simp at hl;omega) ∅ λt ht=>q t ⟨λx hx=>hw x (ht.mem_iff.mp hx),ht.nodup_iff.mpr hd,by rw [ht.length_eq,hl];omega⟩
end My
variable {a b i j y:Nat}{ds:List Int}{m:List PL.PV}
namespace My
open PySem PySem.Spec PyProof.Rows L2 PL FL
def uc:Ent->Bool
 | .word _=>false
 | .pair _ _=>true
structure Dt (t:Tr) (ds:List Int) (left:List Nat) (d:Int):Prop where
 len:ds.length=t.size
 zero:∀j,j < t.size->(uc (en t 0 j)=false\/j∈left)->ds.getD j 0=0
 up:∀j,j < t.size->j∉left->∀a b,en t 0 j=.pair a b->a∉left/\b∉left/\ds.getD a 0 < ds.getD j 0/\ds.getD b 0 < ds.getD j 0/\1<=ds.getD j 0/\ds.getD j 0<=d
 inj:∀i j,i < t.size->j < t.size->i∉left->j∉left->uc (en t 0 i)=true->uc (en t 0 j)=true->ds.getD i 0=ds.getD j 0->i=j
 pos:0<=d
 XF:∀j∈left,j < t.size/\uc (en t 0 j)=true
 ris:left.Pairwise (· < ·)
def iK {l:List Int}{v:Int} (h:i < l.length):(l.set i v).getD i 0=v:=by rw [Ap,Bu h];rfl
def bZ {l:List Int}{v:Int} (h:i≠j):(l.set i v).getD j 0=l.getD j 0:=by rw [Ap,Bb h,<- Ap]
def tX {l:List Nat} (h:l.Pairwise (· < ·)) {x:Nat}:y∈l.erase x↔y∈l/\y≠x:=by
 have nd:l.Nodup:=h.imp (λz=>AJ z);rw [nd.mem_erase_iff];exact⟨λz=>⟨z.2,z.1⟩,λz=>⟨z.2,z.1⟩⟩
theorem dF (t:Tr) (h:j < t.size) (e:en t 0 j=.pair a b):a < j/\b < j:=by
 rcases Pp t 0 j h with⟨x,e1,_⟩ | ⟨a',b',e1,e2,e3,_⟩
 ·rw [e1] at e;cases e
 ·rw [e1] at e;injection e with h1 h2;omega
theorem Dt.next {left:List Nat}{x:Int} (D:Dt t ds left d) (hj:j∈left) (e:en t 0 j=.pair a b) (ha:a∉left) (hb:b∉left) (hx:0<=x):Dt t (ds.set j (d+1+x)) (left.erase j) (d+1+x):=by
 obtain⟨hjs,hjp⟩:=D.XF j hj;obtain⟨haj,hbj⟩:=dF t hjs e;have P4:j < ds.length:=by rw [D.len];exact hjs
 have hm:∀y,y∈left.erase j↔y∈left/\y≠j:=λy=>tX D.ris;have Ö:∀y,y < t.size->y∉left->ds.getD y 0<=d:=λy hy ú=>by
  cases ey:en t 0 y with
  | word w=>rw [D.zero y hy (.inl (by rw [ey];rfl))];exact D.pos
  | pair p q=>exact (D.up y hy ú p q ey).2.2.2.2.2
 refine⟨by rw [BU];exact D.len,λy hy hc=>?_,λy hy ú p q ey=>?_,λu v hu hv hul hvl pu pv Ua=>?_,by have:=D.pos;omega,λy hy=>D.XF y ((hm y).mp hy).1,List.Pairwise.sublist List.erase_sublist D.ris⟩
 ·have ZU:j≠y:=λz=>by
   subst z;rcases hc with hc | hc
   ·rw [hjp] at hc;cases hc
   ·exact ((hm j).mp hc).2 rfl
  rw [bZ ZU];exact D.zero y hy (hc.imp id λz=>((hm y).mp z).1)
 ·by_cases ZU:j=y
  ·subst ZU;rw [e] at ey;injection ey with h1 h2;subst h1 h2;have la:=Ö a ∅ ha;have lb:=Ö b ∅ hb;rw [iK P4,bZ ∅,bZ ∅];have:=D.pos;exact⟨λz=>ha ((hm a).mp z).1,λz=>hb ((hm b).mp z).1,by omega,by omega,by omega,by omega⟩
  ·have adj:y∉left:=λz=>ú ((hm y).mpr ⟨z,BF ZU⟩);obtain⟨p1,p2,p3,p4,p5,p6⟩:=D.up y hy adj p q ey;have np:j≠p:=λz=>p1 (z▸hj);have nq:j≠q:=λz=>p2 (z▸hj);rw [bZ ZU,bZ np,bZ nq];exact⟨λz=>p1 ((hm p).mp z).1,λz=>p2 ((hm q).mp z).1,p3,p4,p5,by omega⟩
 ·by_cases c1:j=u
  ·by_cases c2:j=v
   ·exact c1.symm.trans c2
   ·exfalso;subst c1;have Wu:v∉left:=λz=>hvl ((hm v).mpr ⟨z,BF c2⟩);rw [iK P4,bZ c2] at Ua;have:=Ö v hv Wu;omega
  ·have ZX:u∉left:=λz=>hul ((hm u).mpr ⟨z,BF c1⟩);by_cases c2:j=v
   ·exfalso;subst c2;rw [iK P4,bZ c1] at Ua;have:=Ö u hu ZX;omega
   ·have Wu:v∉left:=λz=>hvl ((hm v).mpr ⟨z,BF c2⟩);rw [bZ c1,bZ c2] at Ua;exact D.inj u v hu hv ZX Wu pu pv Ua
def splits (t:Tr):List Nat:=(Av t.size).filter λj=>uc (en t 0 j)
def Dt.first (t:Tr):Dt t (Am t.size 0) (splits t) 0:=by
 have z:∀j,(Am t.size (0:Int)).getD j 0=0:=λj=>by
  rw [Ap,Bx]
  split <;> rfl
 have mem:∀j,j∈splits t↔j < t.size/\uc (en t 0 j)=true:=λj=>by unfold splits;rw [AQ,AN]
 refine⟨Bd,λj _ _=>z j,λj hj hn a b e=>absurd ((mem j).mpr ⟨hj,by rw [e];rfl⟩) hn,λi j hi hj hni _ pi _ _=>absurd ((mem i).mpr ⟨hi,pi⟩) hni,DC _,λj hj=>(mem j).mp hj,?_⟩;exact List.Pairwise.filter _ De
theorem JJ (t:Tr):dY 0 ((t.nd 0).map Ent.pv)=(Av t.size).map λj=>PV.tup [.int ((j:Nat):Int),(en t 0 j).pv]:=by
 have hl:(dY 0 ((t.nd 0).map Ent.pv)).length=t.size:=by rw [cP,Af,t.bz]
 apply Bi;intro i;by_cases hi:i < t.size
 ·have h1:(dY 0 ((t.nd 0).map Ent.pv))[i]?=ap ((dY 0 ((t.nd 0).map Ent.pv))[i]'∅):=Ad _;obtain⟨y,hy,e⟩:=gI h1;rw [Ai,fJ t 0 i hi] at hy;have R1:=Option.some.inj hy;rw [h1,e,<- R1,Ai,Bw hi,AI];rfl
 ·rw [Ax ∅,Ax (by rw [Af,BR];omega)]
def RB:PV->Option PV
 | .tup [_,.str _]=>bv
 | .tup [k,_]=>ap k
 | _=>bv
def VZ (t:Tr):(dY 0 ((t.nd 0).map Ent.pv)).filterMap RB=az (splits t):=by
 rw [JJ];unfold splits;generalize Av t.size=l
 induction l with
 | nil=>rfl
 | cons j l ih=>
  rw [Au,BE,Dq];cases e:en t 0 j with
  | word w=>exact ih
  | pair a b=>
   rw [ih];rfl
def uK (l:List Nat):az l=(l.map λn=>((n:Nat):Int)).map PV.int:=by unfold az;rw [AY];rfl
theorem sI (y:Nat):∀l:List Nat,(l.map λn=>((n:Nat):Int)).erase (y:Int)=(l.erase y).map λn=>((n:Nat):Int)
 | []=>rfl
 | a::l=>by
  rw [Au,List.erase_cons,List.erase_cons,sI y l];by_cases c:a=y
  ·subst c;simp
  ·have c1:(((a:Nat):Int)==(y:Int))=false:=by simp;omega
   have c2:(a==y)=false:=by simpa using c
   rw [c1,c2];simp
theorem VS (h0:0<=d) (h1:d < 3):∃m:Int,bW [PV.int 1,PV.int 3,PV.int 13] d=ap (.int m)/\0 < m/\m<=13:=by
 have:d=0\/d=1\/d=2:=by omega
 rcases this with rfl | rfl | rfl
 ·exact⟨1,rfl,by decide,by decide⟩
 ·exact⟨3,rfl,by decide,by decide⟩
 ·exact⟨13,rfl,by decide,by decide⟩
theorem IJ:∀(l:List Nat) (k n:Nat),l.Pairwise (· < ·)->(∀x∈l,k<=x/\x < n)->l.length<=n-k
 | [],_,_,_,_=>A7 _
 | a::l,k,n,h,hb=>by
  have h1:=(Eb.mp h);have h2:=hb a BA;have ih:=IJ l (a+1) n h1.2 λx hx=>⟨h1.1 x hx,(hb x (AV _ hx)).2⟩;rw [Ao];omega
def U0 (s:Nat):Ent->Ent
 | .word x=>.word x
 | .pair p q=>.pair (p+s) (q+s)
theorem GA:∀(t:Tr) (o s:Nat),t.nd (o+s)=(t.nd o).map (U0 s)
 | .leaf _,_,_=>rfl
 | .node a b,o,s=>by
  have ha:=a.size_pos;rw [Tr.nd,Tr.nd,GA a o s,show o+s+a.size=o+a.size+s by omega,GA b (o+a.size) s,AM,AM];congr 2;congr 1 <;> omega
def gh (h:l.length+m.length<=1000):mK l m=.ret (l++m):=re (a9 h)
theorem eI:∀(n:Nat) (t:Tr),t.depth < n->t.size<=900->(a6 n t.pv).le (.ret ((t.nd 0).map Ent.pv))
 | 0,_,h,_=>by omega
 | n+1,.leaf w,_,_=>λQ q=>by
  unfold a6;simp [Tr.pv];exact q
 | n+1,.node a b,h,hz=>λQ q=>by
  have hs:(Tr.node a b).size=a.size+b.size+1:=rfl;have hpa:=a.size_pos;have hd:a.depth < n/\b.depth < n:=by simp [Tr.depth] at h;omega
  unfold a6;have i0:bW [a.pv,b.pv] 0=ap a.pv:=rfl;have i1:bW [a.pv,b.pv] 1=ap b.pv:=rfl;simp only [Tr.pv,gt,cr,dE,fC,a7,Al,if_false,ay,bb,i0,i1,sK];refine W.le.use (eI n a hd.1 ∅) ?_;simp only [mI,Af,a.bz,ga];refine W.le.use (eI n b hd.2 ∅) ?_;refine gC (λi s=>s=(a.nd 0++((b.nd 0).take i).map (U0 a.size)).map Ent.pv) (by simp) (λi x s hx hs=>?_) (λs hs=>?_)
  ·subst hs;rw [Ai] at hx;cases e:(b.nd 0)[i]? with
   | none=>rw [e] at hx;cases hx
   | some en=>
    rw [e] at hx;have ex:=Option.some.inj hx;subst ex;have hi:i < b.size:=by have:=(Ak.mp e).1;rw [b.bz] at this;exact this
    have et:(b.nd 0).take (i+1)=(b.nd 0).take i++[en]:=by rw [C9,e];rfl
    have al:∀y,jX ((a.nd 0++((b.nd 0).take i).map (U0 a.size)).map Ent.pv) y=.ret ((a.nd 0++((b.nd 0).take i).map (U0 a.size)).map Ent.pv++[y]):=λy=>hX (by simp [a.bz];omega);cases en with
    | word w=>
     simp only [Ent.pv,gt,cr,eX,fD,a7,if_true,al,ga,et];simp [U0,Ent.pv]
    | pair u v=>
     have j0:bW [PV.int (u:Int),PV.int (v:Int)] 0=ap (.int u):=rfl;have j1:bW [PV.int (u:Int),PV.int (v:Int)] 1=ap (.int v):=rfl;simp only [Ent.pv,gt,cr,dE,fC,a7,Al,if_false,ay,bb,j0,j1,sK,fF,al,ga,et];simp [U0,Ent.pv]
  ·subst hs;rw [Cd (by rw [Af];exact An _)];have es:(b.nd 0).map (U0 a.size)=b.nd a.size:=by rw [<- GA b 0 a.size,AI]
   rw [es];simp only [gt,cr,mH,mI,Af,Ae,a.bz,b.bz,ga];rw [gh (by simp [a.bz,b.bz];omega)];have e:(Tr.node a b).nd 0=a.nd 0++b.nd a.size++[.pair (a.size-1) (a.size+b.size-1)]:=by rw [Tr.nd];simp
   rw [e] at q;have e1:((a.size:Int)-1)=((a.size-1:Nat):Int):=by omega
   have e2:(((a.size+b.size:Nat):Int)-1)=((a.size+b.size-1:Nat):Int):=by omega
   rw [e1,e2];simpa [Ent.pv] using q
theorem pick_run (h0:l≠[]) (h1:l.length<=1000) (q:∀x∈l,Q x):(bL (.cl l)).run Q:=by
 unfold bL;have hp:0 < l.length:=Fp.mpr h0;simp only [gt,cr,bJ,gE,cD (l.length:Int) ∅ ∅,ga];refine bt λd d0 d1=>?_;obtain⟨v,hv,ę⟩:=Pu (xs:=l) d0 d1;simp only [bb,hv,sK,ga];exact q v (Ba ę)
theorem G3 (k:Nat) (l:List Nat) (b:Bool):rX b (.int (k:Int)) (az l)=.ret (if b then !decide (k∈l) else decide (k∈l)):=by
 have h1:G5 (.int (k:Int)) (az l):=⟨by simp,jr.mpr λx hx=>by
  obtain⟨n,_,rfl⟩:=Aw.mp hx;simp,jt λx hx=>by
  obtain⟨n,_,rfl⟩:=Aw.mp hx;simp⟩
 have h2:w4 (.int (k:Int)) (az l)=decide (k∈l):=by
  unfold w4 az;rw [List.any_map]
  induction l with
  | nil=>simp
  | cons a l ih=>
   have ih:=ih ⟨by simp,jr.mpr λx hx=>by
    obtain⟨n,_,rfl⟩:=Aw.mp hx;simp,jt λx hx=>by
    obtain⟨n,_,rfl⟩:=Aw.mp hx;simp⟩
   rw [Cs,ih];by_cases c:a=k
   ·subst c;simp
   ·have c1:(((a:Nat):Int)==(k:Int))=false:=by simp;omega
    have c2:¬k=a:=λz=>c z.symm;simp [c1,c2]
 unfold rX;rw [re h1,h2]
def Pe (l:List Nat):uq (az l)=true:=zQ.mpr λx hx=>by
 obtain⟨n,_,rfl⟩:=Aw.mp hx;rw [PV.dat] <;> simp
def dB (ds:List Int):List PV:=ds.map PV.int
@[simp] theorem hE (ds:List Int):(dB ds).length=ds.length:=Af _
def N3 (ds:List Int) (y:Nat) (v:Int):(dB ds).set y (.int v)=dB (ds.set y v):=by unfold dB;rw [EN]
def QO (t:Tr) (left:List Nat) (j:Nat):Bool:=match en t 0 j with
 | .pair a b=>!decide (a∈left)&&!decide (b∈left)
 | _=>false
theorem Jp (h:k < n):nA n (k:Int)=ap k:=by
 unfold nA;rw [if_pos ∅,if_pos ∅];simp
def jG (h:k < l.length):f7 l (.int (k:Int)) v=.ret (l.set k v):=by
 unfold f7;simp [Jp h]
def GC (t:Tr) (h:j < t.size):bW ((t.nd 0).map Ent.pv) (j:Int)=ap (en t 0 j).pv:=bV (by rw [Ai,fJ t 0 j h];rfl)
theorem Lr (t:Tr) (hz:t.size<=900) (q:∀ds d,Dt t ds [] d->d<=13*((splits t).length:Int)->Q (.tup (dB ds))):(eT (.cl ((t.nd 0).map Ent.pv))).run Q:=by
 unfold eT;have e1:yD [PV.int 0] (.int ((t.nd 0).map Ent.pv).length)=.ret (dB (Am t.size 0)):=by
  rw [OE,re ⟨by omega,by rw [Af,t.bz];omega,a9 (by simp [t.bz];omega)⟩];congr 1;rw [Af,t.bz,A1]
  induction t.size with
  | zero=>rfl
  | succ n ih=>rw [Bv,B6,ih];rfl
 have e3:((t.nd 0).map Ent.pv).length<=sizeLine:=a9 (by rw [Af,t.bz];omega);simp only [gt,gE,e1,bJ,re e3,cr];refine ZC RB (λx hx=>?_) ?_
 ·rw [JJ] at hx;obtain⟨j,hj,rfl⟩:=Aw.mp hx;cases en t 0 j with
  | word w=>simp [Ent.pv,RB]
  | pair u v=>simp [Ent.pv,RB]
 rw [VZ t];refine gL (λn s=>∃(ds:List Int) (left:List Nat) (d:Int),s=(dB ds,az left,PV.int d)/\n=left.length/\Dt t ds left d/\d+13*(left.length:Int)<=13*((splits t).length:Int)) ⟨_,_,0,rfl,rfl,Dt.first t,by omega⟩ ?_;rintro n s ⟨ds,left,d,rfl,rfl,D,hd⟩;by_cases he:left=[]
 ·subst he;simp;exact q ds d D (by simpa using hd)
 ·have ee:(!(az left).isEmpty)=true:=by cases left with | nil=>exact absurd rfl he | cons a l=>rfl
  have Z5:left.length<=t.size:=by
   have:=IJ left 0 t.size D.ris λx hx=>⟨A7 _,(D.XF x hx).1⟩;omega
  obtain⟨r,hr,hr2⟩:∃r∈left,QO t left r=true:=by
   obtain⟨l0,l1,rfl⟩:∃l0 l1,left=l0::l1:=by cases left with | nil=>exact absurd rfl he | cons a l=>exact⟨a,l,rfl⟩
   refine⟨l0,.head _,?_⟩;obtain⟨h1,h2⟩:=D.XF l0 (.head _);unfold QO;cases e:en t 0 l0 with
   | word w=>rw [e] at h2;cases h2
   | pair a b=>
    obtain⟨g1,g2⟩:=dF t h1 e;have Ö:∀y∈l0::l1,l0<=y:=λy hy=>by
     rcases AA.mp hy with rfl | hy
     ·exact An _
     ·exact DZ ((Eb.mp D.ris).1 y hy)
    have na:a∉l0::l1:=λz=>by have:=Ö a z;omega
    have nb:b∉l0::l1:=λz=>by have:=Ö b z;omega
    show (!decide _&&!decide _)=true;rw [decide_eq_false na,decide_eq_false nb];rfl
  have ne:az (left.filter (QO t left))≠[]:=by
   intro z;have:=congrArg BV z;rw [aZ] at this;have m:=AQ.mpr ⟨hr,hr2⟩;rw [EA.mp this] at m;cases m
  have e5:Mj (az (left.filter (QO t left)))=.ret (az (left.filter (QO t left))):=re (Pe _);simp only [ga,ee,if_true,gt,cr];refine rN (QO t left) (λk hk=>?_) ?_
  ·obtain⟨h1,h2⟩:=D.XF k hk;unfold QO;cases e:en t 0 k with
   | word w=>rw [e] at h2;cases h2
   | pair a b=>
    have j0:bW [PV.int (a:Int),PV.int (b:Int)] 0=ap (.int a):=rfl;have j1:bW [PV.int (a:Int),PV.int (b:Int)] 1=ap (.int b):=rfl;simp only [gt,bJ,bb,GC t h1,e,Ent.pv,sK,ay,j0,j1,G3,if_true];by_cases ca:a∈left
    ·simp [ca]
    ·simp [ca];by_cases cb:b∈left
     ·simp [cb]
     ·simp [cb]
  rw [e5];refine pick_run ne (by rw [aZ];have:=A5 (QO t left) left;omega) λx hx=>?_;obtain⟨j,hj,rfl⟩:=Aw.mp hx;obtain⟨Wy,Ob⟩:=AQ.mp hj;obtain⟨js,jp⟩:=D.XF j Wy;cases ej:en t 0 j with
  | word w=>rw [ej] at jp;cases jp
  | pair a b=>
  unfold QO at Ob;rw [ej] at Ob;simp at Ob;simp only [fF,ga,cD 3 ⋯ ⋯];refine bt λz z0 z1=>?_;obtain⟨m,hm,m0,m1⟩:=VS z0 z1;simp only [bb,hm,sK,ga,cD m m0 ∅];refine bt λy y0 y1=>?_;have ė:U7 (az left) (.int (j:Int))=.ret (az (left.erase j)):=by
   show am (pA (az left)) _=_;rw [uK,jn];show W.fq _ _=_;rw [re (Aw.mpr ⟨j,Wy,rfl⟩),sI,<- uK]
  simp only [fF,ga,jG (l:=dB ds) (k:=j) (by rw [hE,D.len];exact js),ė,N3];refine⟨(left.erase j).length,by rw [Eu Wy];have:=EO Wy;omega,_,_,_,rfl,rfl,D.next Wy ej Ob.1 Ob.2 y0,?_⟩;rw [Eu Wy];have:=EO Wy;omega
theorem pF.size (g:pF t):t.size<=15:=by have:=t.size_eq;have:=g.few;omega
theorem pF.depth (g:pF t):t.depth < 8:=by have:=t.nT;have:=g.few;omega
theorem Qg (h:Wd x):jd (.str x)=.ret (.bl true):=by
 unfold jd;obtain⟨h1,h2,h3⟩:=h;have c1:x.length<=sizeLine:=a9 ∅;have c2:x.cps.size<=sizeLine:=c1;have c3:(1:Int)<=(x.length:Int):=by omega
 have c4:(x.length:Int)<=8:=by omega
 simp only [gt,eX,fD,a7,Bq,Al,if_false,So,re c1,OK,c3,c4,decide_true,u7,br,OD,re c2];rw [wB (g:=λ_=>PV.bl true) λy hy=>?_]
 ·simp only [gt];rw [all_map (λ_=>true)];congr 2;exact Cz.mpr λ_ _=>rfl
 ·obtain⟨c,hc,rfl⟩:=Aw.mp hy;obtain⟨k1,k2⟩:=h3 c hc;simp only [WW,G4 k1 k2]
def Gr (l:List PV) (n:Int):fM (.tup l) (.int n)=.ret (.bl ((l.length:Int)==n)):=by
 unfold fM;simp only [gt,dE,xk,gF,bU,cI]
def U5 (x:Str) (n:PV):fM (.str x) n=.ret (.bl false):=by
 unfold fM;simp only [gt,eX,JH,xl]
def Mc (i:Int):gW (.int i)=.ret (.bl true):=by
 unfold gW;simp
theorem Ol (t:Tr) (hw:t.Ws) (b:Bool) (hd:b=true\/t.aJ.Nodup) (hz:t.size<=900):(gX t.pv (.bl b)).le (.ret (.bl true)):=λQ q=>by
 unfold gX;simp only [gt,cr];refine F6 (λn s=>∃(ts:List Tr) (kvs:List (Key×PV)),n=sizes ts/\s=(kvs,ts.map Tr.pv)/\(∀x∈ts.flatMap Tr.aJ,Wd x)/\(b=true\/(ts.flatMap Tr.aJ).Nodup/\∀x∈ts.flatMap Tr.aJ,oS kvs (.inr x)=false)/\sizes ts+kvs.length<=900) (n:=sizes [t]) ⟨[t],[],rfl,rfl,λx hx=>hw x (by simpa using hx),by rcases hd with h | h;exact .inl h;exact .inr ⟨by simpa using h,by simp [oS]⟩,by rw [fe];simpa using hz⟩ ?_;rintro n s ⟨ts,kvs,rfl,rfl,h1,h2,h3⟩;by_cases he:ts=[]
 ·subst he;exact q
 ·obtain⟨us,u,rfl⟩:=vS he;have hsu:=u.size_pos;have KN:=len_sizes us;rw [bT,fe] at h3;have ee:(!((us++[u]).map Tr.pv).isEmpty)=true:=by simp
  have em:(us++[u]).map Tr.pv=us.map Tr.pv++[u.pv]:=by simp
  simp only [gt,ga,ee,if_true,cr];rw [em];simp only [Hr,ga];cases u with
  | leaf x=>
   have wx:Wd x:=h1 x (by simp [Tr.aJ]);have c1:kvs.length < sizeLine:=uG ∅;have cb:=h2.imp id λh=>h.2 x (by simp [Tr.aJ]);have ct:(if (oS kvs (.inr x))=true then (bm (!b)) else bm false)=bm false:=by
    rcases cb with h | h
    ·rw [h];split <;> rfl
    ·rw [h];rfl
   simp only [Tr.pv,U5,a7,ga,Al,if_false,Qg wx,Bq,gt,JG,ct,Vj,re c1,cr];refine⟨sizes us,by rw [bT,fe];show sizes us < sizes us+1;omega,us,_,rfl,rfl,λy hy=>h1 y (by simp [hy]),?_,?_⟩
   ·rcases h2 with h | ⟨h,k⟩
    ·exact .inl h
    ·right
     rw [Ca] at h;have nx:x∉us.flatMap Tr.aJ:=λz=>by
      have:=(Cq.mp h).2.2 x z x (by simp [Tr.aJ]);exact this rfl
     refine⟨(Cq.mp h).1,λy hy=>?_⟩;have ky:=k y (by simp [hy]);have kx:=k x (by simp [Tr.aJ]);have nyx:x≠y:=λz=>nx (z▸hy);unfold putP;rw [kx];show oS (kvs++[_]) _=false;unfold oS at ky ⊢;rw [List.any_append,ky];simp [nyx]
   ·have:(putP kvs (.inr x) (.bl true)).length<=kvs.length+1:=by
     unfold putP
     split <;> simp
    omega
  | node c d=>
   have hsz:(Tr.node c d).size=c.size+d.size+1:=rfl;have e1:sF (us.map Tr.pv) [c.pv,d.pv]=.ret (us.map Tr.pv++[c.pv,d.pv]):=re (a9 (by simp;omega));have e2:(([c.pv,d.pv].length:Int)==2)=true:=rfl;simp only [Tr.pv,Gr,e2,a7,ga,if_true,ay,e1,cr];have e3:sizes [c,d]=c.size+d.size:=by simp [sizes]
   refine⟨sizes (us++[c,d]),by rw [bT,bT,fe,e3];omega,us++[c,d],kvs,rfl,by simp,λy hy=>h1 y (by simpa [Tr.aJ,Ca] using hy),?_,by rw [bT,e3];omega⟩;refine h2.imp id λ⟨h,k⟩=>⟨by simpa [Tr.aJ,Ca] using h,λy hy=>k y (by simpa [Tr.aJ,Ca] using hy)⟩
def Zp (t:Tr) (ds:List Int) (j:Nat):Bool:=match en t 0 j with
 | .word _=>ds.getD j 0==0
 | .pair a b=>decide (ds.getD a 0 < ds.getD j 0)&&decide (ds.getD b 0 < ds.getD j 0)&&decide (1<=ds.getD j 0)&&decide (ds.getD j 0<=99)
def J9 (t:Tr) (ds:List Int):List Int:=(splits t).map (ds.getD · 0)
def RV (t:Tr) (ds:List Int):Bool:=decide (ds.length=t.size)&&(decide (J9 t ds).Nodup&&(Av t.size).all (Zp t ds))
def int_at (h:j < ds.length):bW (dB ds) (j:Int)=ap (.int (ds.getD j 0)):=bV (by
 unfold dB;rw [Ai,Ad h,Ap,Ad h];rfl)
theorem Uz (t:Tr) (ds:List Int) (h:ds.length=t.size):f6 ((t.nd 0).map Ent.pv) (dB ds)=(Av t.size).map λj=>PV.tup [(en t 0 j).pv,.int (ds.getD j 0)]:=by
 refine Bi λj=>?_;by_cases hj:j < t.size
 ·have hl:j < (f6 ((t.nd 0).map Ent.pv) (dB ds)).length:=by rw [lx];simp [t.bz,h];exact hj
  obtain⟨x,y,hx,hy,e⟩:=mQ (Ad hl);rw [Ai,fJ t 0 j hj] at hx;have tE:=Option.some.inj hx;have P4:j < ds.length:=by omega
  unfold dB at hy;rw [Ai,Ad P4] at hy;have R1:=Option.some.inj hy;rw [Ad hl,e,<- tE,<- R1,Ai,Bw hj];show _=ap (PV.tup [_,.int (ds.getD j 0)]);rw [Ap,Ad P4];rfl
 ·rw [Ax (by rw [lx];simp [t.bz,h];omega),Ax (by simp;omega)]
theorem split_le (t:Tr) (ds:List Int) (h:ds.length=t.size) (hz:t.size<=900):dX (.tup ((t.nd 0).map Ent.pv)) (.tup (dB ds))=.ret (dB (J9 t ds)):=by
 unfold dX;have c:((t.nd 0).map Ent.pv).length<=sizeLine:=a9 (by rw [Af,t.bz];omega);simp only [gt,ay,mP,re c,Uz t ds h];rw [GW (g:=λx=>match x with | .tup [.str _,_]=>bv | .tup [_,y]=>ap y | _=>bv) λx hx=>?_]
 ·congr 1;unfold J9 splits dB;generalize Av t.size=l
  induction l with
  | nil=>rfl
  | cons j l ih=>
   rw [Au,BE,Dq,ih];cases e:en t 0 j with
   | word w=>rfl
   | pair a b=>rfl
 ·obtain⟨j,hj,rfl⟩:=Aw.mp hx;cases en t 0 j with
  | word w=>simp [Ent.pv]
  | pair a b=>simp [Ent.pv]
end My
variable {e:My.Ent}{es:List My.Ent}{bs:List Int}
namespace My
open PySem PySem.Spec PyProof.Rows L2 PL FL
section
variable {α β:Type}
theorem NG {c:α->PV}{f:PV->W PV}{g:α->PV}:∀{l:List α},(∀x∈l,(f (c x)).le (.ret (g x)))->(mapW (l.map c) f).le (.ret (l.map g))
 | [],_=>W.le.refl _
 | x::r,h=>W.le.ret (h x (.head _)) (W.le.ret (NG λy hy=>h y (.tail _ hy)) (W.le.refl _))
theorem TY {c:α->PV}{g:α->Option PV}:∀{l:List α},(∀x∈l,(f (c x)).le (.ret (g x)))->(kh (l.map c) f).le (.ret (l.filterMap g))
 | [],_=>W.le.refl _
 | x::r,h=>W.le.ret (h x (.head _)) (W.le.ret (TY λy hy=>h y (.tail _ hy)) (W.le.of_eq (by rw [BE];cases g x <;> rfl)))
def iw {c:α->PV}{f:PV->W PV}{Q:List PV->Prop} (g:α->PV) {l:List α} (h:∀x∈l,(f (c x)).le (.ret (g x))) (q:Q (l.map g)):(mapW (l.map c) f).run Q:=NG h Q q
def wK {c:α->PV}{Q:List PV->Prop} (g:α->Option PV) {l:List α} (h:∀x∈l,(f (c x)).le (.ret (g x))) (q:Q (l.filterMap g)):(kh (l.map c) f).run Q:=TY h Q q
theorem JB {p:α->Bool}{g:α->β}:∀l:List α,l.filterMap (λx=>if p x=true then ap (g x) else bv)=(l.filter p).map g
 | []=>rfl
 | x::l=>by
  rw [BE,Dq,JB l];cases p x <;> rfl
end
def OP (c:α->PV) (l:List α) (k:Nat):dY k (l.map c)=(l.zipIdx k).map λp=>PV.tup [.int ((p.2:Nat):Int),c p.1]:=by
 induction l generalizing k with
 | nil=>rfl
 | cons a l ih=>rw [Au,dY,ih,List.zipIdx_cons,Au]
def vp:V->PV
 | .int i=>.int i
 | .str x=>.str x
 | .bl b=>.bl b
 | _=>.aX
def X5 (t:Tr):List PV:=(ah (t.nd 0) 0 (Am t.size V.aX)).map vp
@[simp] theorem JR (t:Tr):(X5 t).length=t.size:=by unfold X5;rw [Af,HW,Bd]
def JS (t:Tr) (h:j < t.size):(X5 t)[j]?=ap (vp (jZ t 0 j .aX)):=by unfold X5;rw [Ai,Xj t h];rfl
def cu (t:Tr):((t.nd 0).map Ent.pv).length=t.size:=by rw [Af,t.bz]
theorem zU (t:Tr) (hz:t.size<=900):(fm t.pv).le (.ret (.tup (X5 t))):=λQ q=>by
 unfold fm;have c:((t.nd 0).map Ent.pv).length<=sizeLine:=a9 (by rw [cu];omega);simp only [gt,cr];refine W.le.use (nj t hz) ?_;simp only [ay,ga];refine GK (λ_=>.aX) (λx hx=>rfl) ?_;simp only [re c,ga];have e0:((t.nd 0).map Ent.pv).map (λ_=>PV.aX)=(ah ((t.nd 0).take 0) 0 (Am t.size V.aX)).map vp:=by
  rw [List.take_zero,ah,List.map_replicate,DP,cu];rfl
 rw [e0];refine gC (λi s=>s=(ah ((t.nd 0).take i) 0 (Am t.size V.aX)).map vp) rfl (λi x s hx hs=>?_) (λs hs=>?_)
 ·subst hs;have hi:i < t.size:=by have:=(Ak.mp hx).1;rw [cP,cu] at this;exact this
  obtain⟨y,hy,rfl⟩:=gI hx;have e:=fJ t 0 i hi;rw [Ai,e] at hy;have hy:=Option.some.inj hy;subst hy;have et:(t.nd 0).take (i+1)=(t.nd 0).take i++[en t 0 i]:=by rw [C9,e];rfl
  have ea:ah ((t.nd 0).take (i+1)) 0 (Am t.size V.aX)=PF (ah ((t.nd 0).take i) 0 (Am t.size V.aX)) (0+i) (en t 0 i):=by
   rw [et,xR,B2,t.bz];congr 1;omega
  have hal:(ah ((t.nd 0).take i) 0 (Am t.size V.aX)).length=t.size:=by rw [HW,Bd]
  rw [ea];generalize hA:ah ((t.nd 0).take i) 0 (Am t.size V.aX)=A at hal ⊢;unfold dj;cases Ĵ:en t 0 i with
  | word w=>simp [Ent.pv,dD,PF]
  | pair a b=>
   obtain⟨ha,hb⟩:=dF t hi Ĵ;have s1:f7 (A.map vp) (.int (a:Int)) (.int ((0+i:Nat):Int))=.ret ((A.map vp).set a (.int ((0+i:Nat):Int))):=jG (by rw [Af];omega);have s2:f7 ((A.map vp).set a (.int ((0+i:Nat):Int))) (.int (b:Int)) (.int ((0+i:Nat):Int))=.ret (((A.map vp).set a (.int ((0+i:Nat):Int))).set b (.int ((0+i:Nat):Int))):=jG (by rw [BU,Af];omega);simp only [Ent.pv,mG,ga,dE,fC,a7,cr,Al,if_false,ay,dD,gt,s1,s2];show _=FT vp ((A.set a _).set b _);rw [EN,EN];rfl
 ·subst hs;simp only [cP,Af];rw [Dp];exact q
def Jb (e:Ent) (j:Nat):PV:=match e with | .word x=>.str x | .pair _ _=>.int (j:Int)
def stB (t:Tr) (ds:List Int) (b:Int) (j:Nat):Bool:=decide (ds.getD j 0<=b)&&(match jZ t 0 j .aX with | .int a=>decide (b < ds.getD a.toNat 0) | _=>true)
def yz (t:Tr) (ds:List Int) (b:Int) (n j:Nat):List (Nat×Nat):=((Av j).filter (stB t ds b)).map λk=>(k,n)
def aR (t:Tr) (ds bs:List Int):Nat->List (Nat×Nat)
 | 0=>[]
 | i+1=>aR t ds bs i++yz t ds (bs.getD i 0) i t.size
def LX (l:List (Nat×Nat)):List PV:=l.map λp=>.tup [.int (p.1:Int),.int (p.2:Int)]
def vO (t:Tr) (ds:List Int) (b:Int) (n j:Nat):(yz t ds b n j).length<=j:=by
 unfold yz;rw [Af];refine Bt (A5 _ _) ?_;rw [BR];exact An _
theorem jE (t:Tr) (ds bs:List Int):∀i,(aR t ds bs i).length<=i*t.size
 | 0=>A7 _
 | i+1=>by
  rw [aR,Ae];have h1:=jE t ds bs i;have h2:=vO t ds (bs.getD i 0) i t.size;rw [FA];omega
def Ms (t:Tr) (ds:List Int) (b:Int) (n j:Nat):yz t ds b n (j+1)=yz t ds b n j++(if stB t ds b j then [(j,n)] else []):=by
 unfold yz;rw [List.range_succ,List.filter_append,AM];congr 1;by_cases c:stB t ds b j <;> simp [c]
def rR (p:Nat×Nat):List Key:=[.inl (p.1:Int),.inl (p.2:Int)]
theorem za {p q:Nat×Nat} (h:rR p=rR q):p=q:=by
 obtain⟨a,b⟩:=p;obtain⟨c,d⟩:=q;simp [rR] at h;obtain⟨h1,h2⟩:=h;exact Prod.ext (by show a=c;omega) (by show b=d;omega)
def mB:Nat->List (Nat×Nat)->List (List Key×PV)
 | _,[]=>[]
 | k,p::l=>(rR p,.int (k:Int))::mB (k+1) l
theorem lG:∀(k:Nat) (l:List (Nat×Nat)),(mB k l).map (·.1)=l.map rR
 | _,[]=>rfl
 | k,p::l=>by rw [mB,Au,Au,lG (k+1) l]
def yU (k:Nat) (l:List (Nat×Nat)):(mB k l).length=l.length:=by have:=congrArg BV (lG k l);simpa using this
theorem rD:∀(k:Nat) (l:List (Nat×Nat)) (p:Nat×Nat),p∈l->lY (mB k l) (rR p)=ap (.int ((k+l.idxOf p:Nat):Int))
 | k,q::l,p,h=>by
  rw [List.idxOf_cons];by_cases c:q=p
  ·subst c;simp [mB,lY]
  ·have hp:p∈l:=(AA.mp h).elim (λz=>absurd z.symm c) id;have ih:=rD (k+1) l p hp;have c2:rR q≠rR p:=λz=>c (za z);have c3:(q==p)=false:=by simpa using c
   have e:lY (mB k (q::l)) (rR p)=lY (mB (k+1) l) (rR p):=by simp [mB,lY,c2]
   rw [e,ih,c3];congr 2;show ((k+1+l.idxOf p:Nat):Int)=((k+(l.idxOf p+1):Nat):Int);omega
def F3 (e:Ent) (j:Nat) (d b:Int):List Nat:=if d < b then [j] else match e with | .word _=>[] | .pair x y=>[x,y]
def Xe (l:List (Nat×Nat)) (j n:Nat):List Nat:=(l.filter λp=>decide (p.2=n)&&!decide (p.1=j)).map λp=>l.idxOf p
def JL (e:Ent) (l:List (Nat×Nat)) (j n:Nat) (d b:Int):PV:=.tup [Jb e j,.int (n:Int),.tup (az ((F3 e j d b).map λx=>l.idxOf (x,n-1))),.tup (az (Xe l j n))]
def Jd {f:α->β} (hf:∀x y,f x=f y->x=y) {l:List α} (h:l.Nodup):(l.map f).Nodup:=List.Pairwise.map f (λa b n z=>n (hf a b z)) h
def J6 (t:Tr) (ds:List Int) (b:Int) (n j:Nat):(yz t ds b n j).Nodup:=by
 exact Jd (λx y h=>(Prod.mk.inj h).1) (List.Pairwise.filter _ List.nodup_range)
theorem gQ:∀{i:Nat}{p:Nat×Nat},p∈aR t ds bs i->p.2 < i/\p.1 < t.size
 | 0,_,h=>by simp [aR] at h
 | i+1,p,h=>by
  rw [aR] at h;rcases AX.mp h with h | h
  ·have:=gQ h;omega
  ·obtain⟨k,hk,rfl⟩:=Aw.mp h;have:=AN.mp (AQ.mp hk).1;exact⟨Dn _,this⟩
theorem jD (t:Tr) (ds bs:List Int):∀i,(aR t ds bs i).Nodup
 | 0=>Fh
 | i+1=>by
  rw [aR];refine Cq.mpr ⟨jD t ds bs i,J6 _ _ _ _ _,λa ha b hb z=>?_⟩;subst z;have h1:=(gQ ha).1;obtain⟨k,_,rfl⟩:=Aw.mp hb;exact A9 _ h1
def g9 (h:l[k]?=ap v):LZ l (.int (k:Int))=.ret v:=by
 rw [bb,bV h];rfl
def zD (ds:List Int) {x:PV} (h:(dY 0 (dB ds))[i]?=ap x):i < ds.length/\x=.tup [.int (i:Int),.int (ds.getD i 0)]:=by
 have hi:i < ds.length:=by have:=(Ak.mp h).1;rw [cP,hE] at this;exact this
 obtain⟨y,hy,rfl⟩:=gI h;unfold dB at hy;rw [Ai,Ad hi] at hy;have hy:=Option.some.inj hy;subst hy;refine⟨hi,?_⟩;rw [AI,Ap,Ad hi];rfl
theorem yw (t:Tr) (ds bs:List Int) (hd:ds.length=t.size) (hz:t.size<=100) (hb:bs.length*t.size<=900) (hb2:bs.length<=900):(gT t.pv (.tup (dB ds)) (.cl (dB bs))).le (.ret (LX (aR t ds bs bs.length))):=λQ q=>by
 unfold gT;have c1:(dB bs).length<=sizeLine:=a9 (by rw [hE];omega);have c2:(dB ds).length<=sizeLine:=a9 (by rw [hE];omega);simp only [gt,cr];refine W.le.use (zU t ∅) ?_;simp only [bJ,ga,re c1];refine gC (λi s=>s=LX (aR t ds bs i)) rfl (λi x s hx hs=>?_) (λs hs=>?_)
 ·subst hs;obtain⟨hi,rfl⟩:=zD bs hx;simp only [mG,ga,cr,ay,re c2];have hl:=jE t ds bs i;have hm:i*t.size+t.size<=900:=by
   have:(i+1)*t.size<=bs.length*t.size:=Nat.mul_le_mul_right _ hi;rw [FA] at this;omega
  refine gC (λj s=>s=LX (aR t ds bs i++yz t ds (bs.getD i 0) i j)) (by simp [yz]) (λj x s hx hs=>?_) (λs hs=>?_)
  ·subst hs;obtain⟨hj,rfl⟩:=zD ds hx;have KN:=vO t ds (bs.getD i 0) i j;simp only [mG,ga,cr];rw [Ms];have Jw:j < t.size:=by omega
   have ĉ:stB t ds (bs.getD i 0) j=true->(jX (LX (aR t ds bs i++yz t ds (bs.getD i 0) i j)) (PV.tup [.int (j:Int),.int (i:Int)])).run λs=>s=LX (aR t ds bs i++(yz t ds (bs.getD i 0) i j++if stB t ds (bs.getD i 0) j=true then [(j,i)] else [])):=λc=>by
    rw [hX (by unfold LX;rw [Af,Ae];omega),if_pos c];unfold LX;rw [<- AR,AM (l₂:=[(j,i)])];rfl
   have no:stB t ds (bs.getD i 0) j=false->LX (aR t ds bs i++yz t ds (bs.getD i 0) i j)=LX (aR t ds bs i++(yz t ds (bs.getD i 0) i j++if stB t ds (bs.getD i 0) j=true then [(j,i)] else [])):=λc=>by rw [c];simp
   generalize eb:bs.getD i 0=b at ĉ no ⊢;generalize ed:ds.getD j 0=d at *;simp only [gt,cr,OK,ga,br,ay,g9 (JS t Jw)];by_cases c:d<=b
   ·simp only [c,decide_true,if_true,cr,ga];rcases qO t 0 j .aX [] Jw with⟨_,e,_⟩ | ⟨a,_,ha,e,_⟩
    ·have sb:stB t ds b j=true:=by unfold stB;rw [e,ed];simp [c]
     rw [e];simp only [vp,oX,ga,br,PV.me,if_true];exact ĉ sb
    ·rw [AI] at e;have sb:stB t ds b j=decide (b < ds.getD a 0):=by unfold stB;rw [e,ed];simp [c]
     rw [e];have i2:bW (dB ds) (a:Int)=ap (.int (ds.getD a 0)):=int_at ∅;simp only [vp,oX,ga,br,PV.me,Al,if_false,bb,i2,sK,zA,gt];by_cases c2:b < ds.getD a 0
     ·rw [decide_eq_true c2] at sb ⊢;exact ĉ sb
     ·rw [decide_eq_false c2] at sb ⊢;exact no sb
   ·have sb:stB t ds b j=false:=by unfold stB;rw [ed];simp [c]
    simp only [c,decide_false,Al,if_false,ga];exact no sb
  ·subst hs;rw [cP,hE,hd];rfl
 ·subst hs;rw [cP,hE];exact q
def Rt {l:List (Nat×Nat)} (h:l≠[]) (k:Nat):mB k l≠[]:=by cases l with | nil=>exact absurd rfl h | cons a l=>simp [mB]
def Gz (k:Nat) (l:List (Nat×Nat)):((mB k l).map λkv=>PV.tup (kv.1.map kP))=l.map λp=>PV.tup [.int (p.1:Int),.int (p.2:Int)]:=by
 have:=congrArg (FT λx:List Key=>PV.tup (x.map kP)) (lG k l);rw [AY,AY] at this;exact this
theorem Qx {l:List (Nat×Nat)} (h1:es[j]?=ap e) (h2:j < ds.length) (h3:n < bs.length) (hl:l.length<=1000) (h0:l≠[])
  (hb:∀x∈F3 e j (ds.getD j 0) (bs.getD n 0),1<=n/\(x,n-1)∈l) :
  (jc (.tup (es.map Ent.pv)) (.tup (dB ds)) (.cl (dB bs)) (P7 (mB 0 l)) (.tup [.int (j:Int),.int (n:Int)])).le (.ret (JL e l j n (ds.getD j 0) (bs.getD n 0))):=λQ q=>by
 unfold jc;have i0:bW [PV.int (j:Int),PV.int (n:Int)] 0=ap (.int j):=rfl;have i1:bW [PV.int (j:Int),PV.int (n:Int)] 1=ap (.int n):=rfl;have i2:bW (dB ds) (j:Int)=ap (.int (ds.getD j 0)):=int_at h2;have i3:bW (dB bs) (n:Int)=ap (.int (bs.getD n 0)):=int_at h3;have i4:bW (es.map Ent.pv) (j:Int)=ap e.pv:=bV (by rw [Ai,h1];rfl);simp only [gt,cr,ay,bJ,bb,i0,i1,i2,i3,i4,sK,ga,zA,a7];generalize hdj:ds.getD j 0=d at *;generalize hbn:bs.getD n 0=b at *;have below:∀{R:PV->Prop},R (.tup (az (F3 e j d b)))->(if decide (d < b)=true then bm (PV.tup [PV.int (j:Int)]) else dj e.pv).run R:=λ{R} r=>by
  unfold F3 at r;unfold dj;by_cases c:d < b
  ·rw [if_pos c] at r;simpa [c] using r
  ·cases e with
   | word w=>simpa [c,Ent.pv] using r
   | pair a b=>simpa [c,Ent.pv] using r
 refine below ?_;refine iw (λx=>.int ((l.idxOf (x,n-1):Nat):Int)) (λk hk=>?_) ?_
 ·obtain⟨g1,g2⟩:=hb k hk;intro R r;have en1:(n:Int)-1=((n-1:Nat):Int):=by omega
  simp only [dgB,gt,cr,mH,ga,en1];rw [show PV.tup [.int (k:Int),.int ((n-1:Nat):Int)]=.tup ((rR (k,n-1)).map kP) from rfl];refine JN (rD 0 l (k,n-1) g2) ?_;rw [AI];exact r
 simp only [cr,sG,ga];refine Kx (Rt h0 0) (by rw [yU];exact hl) ?_;rw [Gz];refine wK (λp=>if (decide (p.2=n)&&!decide (p.1=j))=true then ap (.int ((l.idxOf p:Nat):Int)) else bv) (λp hp=>?_) ?_
 ·intro R r;obtain⟨u,v⟩:=p;have j0:bW [PV.int (u:Int),PV.int (v:Int)] 0=ap (.int u):=rfl;have j1:bW [PV.int (u:Int),PV.int (v:Int)] 1=ap (.int v):=rfl;simp only [dgB,gt,cr,ay,bb,j0,j1,sK,ga,cI,xj,br];have get:∀{R:PV->Prop},R (.int ((l.idxOf (u,v):Nat):Int))->(dgW (P7 (mB 0 l)) (PV.tup [.int (u:Int),.int (v:Int)])).run R:=λ{R} r=>by
   refine JN (rD 0 l (u,v) hp) ?_;rw [AI];exact r
  by_cases c1:v=n
  ·subst c1;by_cases c2:u=j
   ·subst c2;simp only [beq_self_eq_true,Bq,if_true,ga,Al,if_false];simpa using r
   ·have c3:((u:Int)==(j:Int))=false:=by simp;omega
    simp only [beq_self_eq_true,c3,Ed,if_true,ga,cr];refine get ?_;simpa [c2] using r
  ·have c3:((v:Int)==(n:Int))=false:=by simp;omega
   simp only [c3,Al,if_false,ga];simpa [c1] using r
 rw [JB];have nm:∀{R:PV->Prop},R (Jb e j)->(eF (.tup (es.map Ent.pv)) (.int (j:Int))).run R:=λ{R} r=>by
  unfold eF;simp only [gt,cr,ay,bb,i4,sK,ga];cases e with
  | word w=>simpa [Ent.pv,Jb] using r
  | pair a b=>simpa [Ent.pv,Jb] using r
 refine nm ?_;have e1:(l.filter λp=>decide (p.2=n)&&!decide (p.1=j)).map (λp=>PV.int ((l.idxOf p:Nat):Int))=az (Xe l j n):=by
  unfold az Xe;rw [AY];rfl
 have e2:(F3 e j d b).map (λx=>PV.int ((l.idxOf (x,n-1):Nat):Int))=az ((F3 e j d b).map λx=>l.idxOf (x,n-1)):=by
  unfold az;rw [AY];rfl
 rw [e1,e2];exact q
def X1 (t:Tr) (ds bs:List Int):List PV:=(aR t ds bs bs.length).map λp=>JL (en t 0 p.1) (aR t ds bs bs.length) p.1 p.2 (ds.getD p.1 0) (bs.getD p.2 0)
def okD (t:Tr) (ds bs:List Int):Prop:=∀p∈aR t ds bs bs.length,∀x∈F3 (en t 0 p.1) p.1 (ds.getD p.1 0) (bs.getD p.2 0),1<=p.2/\(x,p.2-1)∈aR t ds bs bs.length
theorem rE:∀(k:Nat) (l:List (Nat×Nat)),(l.zipIdx k).map (λp=>PV.tup [PV.tup [.int (p.1.1:Int),.int (p.1.2:Int)],.int ((p.2:Nat):Int)])=(mB k l).map IW
 | _,[]=>rfl
 | k,p::l=>by rw [List.zipIdx_cons,Au,rE (k+1) l];rfl
def bf (t:Tr) (ds:List Int):List Int:=0::sortI (J9 t ds)
def IG (t:Tr) (ds:List Int):(J9 t ds).length<=t.size:=by
 unfold J9 splits;rw [Af];have:=A5 (λj=>uc (en t 0 j)) (Av t.size);rw [BR] at this;exact this
def uL {x:Int}{l:List Int}:x∈sortI l↔x∈l:=(CP l _).mem_iff
def oo (l:List Int):(sortI l).length=l.length:=(CP l _).length_eq
theorem Pd (t:Tr) (ds:List Int) (hd:ds.length=t.size) (hz:t.size<=25) (h0:aR t ds (bf t ds) (bf t ds).length≠[]) (ok:okD t ds (bf t ds)):(lJ t.pv (.tup (dB ds))).le (.ret (.tup (X1 t ds (bf t ds)))):=λQ q=>by
 unfold lJ;simp only [gt,cr];refine W.le.use (nj t ∅) ?_;have hs:=IG t ds;have hl:(bf t ds).length<=t.size+1:=by unfold bf;rw [Ao,oo];omega
 have e2:vR (dB (J9 t ds))=.ret (dB (sortI (J9 t ds))):=by
  unfold vR dB;rw [jn];show W.fq _ _=_;rw [re ∅]
 have e3:mK [PV.int 0] (dB (sortI (J9 t ds)))=.ret (dB (bf t ds)):=by
  rw [gh (by rw [hE,oo];simp;omega)];rfl
 simp only [split_le t ds hd ∅,ga,e2,e3];have hb:(bf t ds).length*t.size<=900:=by
  have:(bf t ds).length*t.size<=26*25:=Nat.mul_le_mul ∅ hz;omega
 refine W.le.use (yw t ds (bf t ds) hd ∅ hb ∅) ?_;generalize hL:aR t ds (bf t ds) (bf t ds).length=L at *;have hLl:L.length<=900:=by rw [<- hL];exact Bt (jE _ _ _ _) hb
 have hLm:∀p∈L,p.2 < (bf t ds).length/\p.1 < t.size:=λp hp=>gQ (hL▸hp);have c:(LX L).length<=sizeLine:=a9 (by unfold LX;rw [Af];omega);simp only [bJ,ga,re c,gt];unfold LX;rw [OP];refine iw (λp:(Nat×Nat)×Nat=>PV.tup [PV.tup [.int (p.1.1:Int),.int (p.1.2:Int)],.int ((p.2:Nat):Int)]) (λp _ R r=>by simpa using r) ?_;rw [rE];refine Lk ?_ (by rw [yU];omega) ?_
 ·rw [lG];exact Jd (λ_ _ h=>za h) (hL▸jD t ds _ _)
 refine iw (λp:Nat×Nat=>JL (en t 0 p.1) L p.1 p.2 (ds.getD p.1 0) ((bf t ds).getD p.2 0)) (λp hp=>?_) ?_
 ·obtain⟨g1,g2⟩:=hLm p hp;refine Qx (fJ t 0 p.1 g2) ∅ g1 ∅ h0 λx hx=>?_;have:=ok p (by rw [hL];exact hp) x hx;rw [hL] at this;exact this
 ·have:X1 t ds (bf t ds)=L.map λp:Nat×Nat=>JL (en t 0 p.1) L p.1 p.2 (ds.getD p.1 0) ((bf t ds).getD p.2 0):=by unfold X1;rw [hL]
  rw [<- this];exact q
end My
variable {x:Int}{l:List Int}
namespace My
open PySem PySem.Spec PyProof.Rows L2 PL FL
theorem iP:∀(t:Tr) (o x:Nat) (p:V),x < t.size->(x=t.size-1/\jZ t o x p=p)\/∃a u v,x < a/\a < t.size/\jZ t o x p=.int ((o+a:Nat):Int)/\en t o a=.pair u v/\(u=o+x\/v=o+x)
 | .leaf _,o,x,p,h=>.inl ⟨by have:x < 1:=h;show x=0;omega,rfl⟩
 | .node l r,o,x,p,h=>by
  have es:(Tr.node l r).size=l.size+r.size+1:=rfl;have top:en (.node l r) o (l.size+r.size)=.pair (o+l.size-1) (o+l.size+r.size-1):=by rw [en,if_neg ∅,if_neg ∅]
  by_cases c1:x < l.size
  ·rw [show jZ (.node l r) o x p=jZ l o x (.int (o+l.size+r.size:Nat)) by rw [jZ,if_pos c1]];rcases iP l o x (.int (o+l.size+r.size:Nat)) c1 with⟨h1,h2⟩ | ⟨a,u,v,h1,h2,h3,h4,h5⟩
   ·exact .inr ⟨l.size+r.size,_,_,by omega,by omega,by rw [h2,A3],top,.inl ∅⟩
   ·exact .inr ⟨a,u,v,h1,by omega,h3,by rw [en,if_pos h2];exact h4,h5⟩
  ·by_cases c2:x < l.size+r.size
   ·rw [show jZ (.node l r) o x p=jZ r (o+l.size) (x-l.size) (.int (o+l.size+r.size:Nat)) by rw [jZ,if_neg c1,if_pos c2]];rcases iP r (o+l.size) (x-l.size) (.int (o+l.size+r.size:Nat)) ∅ with⟨h1,h2⟩ | ⟨a,u,v,h1,h2,h3,h4,h5⟩
    ·exact .inr ⟨l.size+r.size,_,_,by omega,by omega,by rw [h2,A3],top,.inr ∅⟩
    ·refine .inr ⟨l.size+a,u,v,by omega,by omega,by rw [h3,A3],?_,by omega⟩;rw [en,if_neg ∅,if_pos ∅,BN];exact h4
   ·exact .inl ⟨by omega,by rw [jZ,if_neg c1,if_neg c2]⟩
theorem lg:∀(t:Tr) (o j:Nat) (p:V) (a b:Nat),j < t.size->en t o j=.pair a b->o<=a/\o<=b/\a < o+j/\b < o+j/\a < b/\jZ t o (a-o) p=.int ((o+j:Nat):Int)/\jZ t o (b-o) p=.int ((o+j:Nat):Int)
 | .leaf _,o,j,p,a,b,h,e=>by rw [en] at e;cases e
 | .node l r,o,j,p,a,b,h,e=>by
  have es:(Tr.node l r).size=l.size+r.size+1:=rfl;have lp:=l.size_pos;have rp:=r.size_pos;by_cases c1:j < l.size
  ·rw [en,if_pos c1] at e;obtain⟨h1,h2,h3,h4,h5,h6,h7⟩:=lg l o j (.int (o+l.size+r.size:Nat)) a b c1 e;refine⟨h1,h2,h3,h4,h5,?_,?_⟩
   ·rw [jZ,if_pos ∅];exact h6
   ·rw [jZ,if_pos ∅];exact h7
  ·by_cases c2:j < l.size+r.size
   ·rw [en,if_neg c1,if_pos c2] at e;obtain⟨h1,h2,h3,h4,h5,h6,h7⟩:=lg r (o+l.size) (j-l.size) (.int (o+l.size+r.size:Nat)) a b ∅ e;refine⟨by omega,by omega,by omega,by omega,h5,?_,?_⟩
    ·rw [jZ,if_neg ∅,if_pos ∅,Ff,h6,show o+l.size+(j-l.size)=o+j by omega]
    ·rw [jZ,if_neg ∅,if_pos ∅,Ff,h7,show o+l.size+(j-l.size)=o+j by omega]
   ·rw [en,if_neg c1,if_neg c2] at e;injection e with e1 e2;subst e1;subst e2;have hj:j=l.size+r.size:=by omega
    subst hj;have â:∀(t:Tr) (o:Nat) (p:V),jZ t o (t.size-1) p=p:=λt o p=>by
     have tp:=t.size_pos;rcases iP t o (t.size-1) p ∅ with⟨_,h⟩ | ⟨a,_,_,h1,h2,_⟩
     ·exact h
     ·omega
    refine⟨by omega,by omega,by omega,by omega,by omega,?_,?_⟩
    ·rw [jZ,if_pos ∅,show o+l.size-1-o=l.size-1 by omega,â,A3]
    ·rw [jZ,if_neg ∅,if_pos ∅,show o+l.size+r.size-1-o-l.size=r.size-1 by omega,â,A3]
structure DD (t:Tr) (ds:List Int):Prop where
 len:ds.length=t.size
 leaf:∀j w,j < t.size->en t 0 j=.word w->ds.getD j 0=0
 pair:∀j a b,j < t.size->en t 0 j=.pair a b->ds.getD a 0 < ds.getD j 0/\ds.getD b 0 < ds.getD j 0/\1<=ds.getD j 0
 nd:(J9 t ds).Nodup
def DD.of (h:RV t ds=true):DD t ds:=by
 unfold RV at h;rw [AO,AO,decide_eq_true_iff,decide_eq_true_iff] at h;obtain⟨h1,h2,h3⟩:=h;have h4:∀j,j < t.size->Zp t ds j=true:=λj hj=>Cz.mp h3 j (AN.mpr hj);refine⟨h1,λj w hj e=>?_,λj a b hj e=>?_,h2⟩
 ·have:=h4 j hj;unfold Zp at this;rw [e] at this;exact eq_of_beq this
 ·have:=h4 j hj;unfold Zp at this;rw [e] at this;rw [AO,AO,AO,decide_eq_true_iff,decide_eq_true_iff,decide_eq_true_iff,decide_eq_true_iff] at this;exact⟨this.1.1.1,this.1.1.2,this.1.2⟩
def DD.mem (D:DD t ds) (hj:j < t.size):ds.getD j 0∈bf t ds:=by
 cases e:en t 0 j with
 | word w=>rw [D.leaf j w hj e];exact .head _
 | pair a b=>
  refine AV _ (uL.mpr ?_);exact Aw.mpr ⟨j,AQ.mpr ⟨AN.mpr hj,by rw [e];rfl⟩,rfl⟩
theorem Mu (l:List Int):(sortI l).Pairwise (·<=·):=(Ez (le:=λa b=>decide (a<=b)) (λa b c=>by simp;omega) (λa b=>by simp;omega) l).imp (by simp)
theorem DD.inc (D:DD t ds):(bf t ds).Pairwise (· < ·):=by
 unfold bf;refine Eb.mpr ⟨λx hx=>?_,?_⟩
 ·have hx:=uL.mp hx;unfold J9 splits at hx;obtain⟨j,hj,rfl⟩:=Aw.mp hx;obtain⟨h1,h2⟩:=AQ.mp hj;cases e:en t 0 j with
  | word w=>rw [e] at h2;cases h2
  | pair a b=>have:=(D.pair j a b (AN.mp h1) e).2.2;omega
 ·have nd:(sortI (J9 t ds)).Nodup:=(CP _ _).nodup_iff.mpr D.nd;exact (List.Pairwise.and (Mu _) nd).imp λ⟨h1,h2⟩=>Int.lt_iff_le_and_ne.mpr ⟨h1,h2⟩
theorem rT (h:l.Pairwise (· < ·)) (hn:n < l.length) (hx:x∈l) (lt:x < l.getD n 0):1<=n/\x<=l.getD (n-1) 0:=by
 obtain⟨i,hi,rfl⟩:=DS hx;have gd:∀{k} (hk:k < l.length),l.getD k 0=l[k]:=λ{k} hk=>by rw [Ap,Ad hk];rfl
 rw [gd hn] at lt;have c:i < n:=by
  rcases C8 i n with c | c
  ·exact c
  ·rcases Ea c with c | c
   ·subst c;omega
   ·have:=BW.mp h _ _ hn hi c;omega
 refine⟨by omega,?_⟩;rw [gd ∅];rcases Ea (show i<=n-1 by omega) with c2 | c2
 ·subst c2;exact DC _
 ·have:=BW.mp h _ _ hi ∅ c2;omega
theorem wV (h:l.Pairwise (· < ·)) (hn:n < l.length) (hi:i < n):l.getD i 0 < l.getD n 0:=by
 have gd:∀{k} (hk:k < l.length),l.getD k 0=l[k]:=λ{k} hk=>by rw [Ap,Ad hk];rfl
 rw [gd hn,gd ∅];exact BW.mp h _ _ ∅ hn hi
theorem cF {t:Tr}{ds bs:List Int}:∀{m:Nat}{j n:Nat},(j,n)∈aR t ds bs m↔n < m/\j < t.size/\stB t ds (bs.getD n 0) j=true
 | 0,j,n=>by simp [aR]
 | m+1,j,n=>by
  rw [aR,AX,cF];unfold yz;rw [Aw]
  constructor
  ·rintro (⟨h1,h2,h3⟩ | ⟨k,hk,e⟩)
   ·exact⟨by omega,h2,h3⟩
   ·obtain⟨h1,h2⟩:=AQ.mp hk;injection e with e1 e2;subst e1;subst e2;exact⟨by omega,AN.mp h1,h2⟩
  ·rintro⟨h1,h2,h3⟩;by_cases c:n=m
   ·subst c;exact .inr ⟨j,AQ.mpr ⟨AN.mpr h2,h3⟩,rfl⟩
   ·exact .inl ⟨by omega,h2,h3⟩
theorem gm {b:Int} (hj:j < t.size):stB t ds b j=true↔ds.getD j 0<=b/\∀a,jZ t 0 j .aX=.int ((a:Nat):Int)->b < ds.getD a 0:=by
 unfold stB;rw [AO,decide_eq_true_iff];rcases iP t 0 j .aX hj with⟨_,e⟩ | ⟨a,u,v,_,ha,e,_,_⟩
 ·rw [e];exact⟨λh=>⟨h.1,λa z=>by cases z⟩,λh=>⟨h.1,rfl⟩⟩
 ·rw [AI] at e;rw [e];refine⟨λh=>⟨h.1,λa' z=>?_⟩,λh=>⟨h.1,?_⟩⟩
  ·injection z with z;have:a=a':=by omega
   subst this;simpa using h.2
  ·simpa using h.2 a rfl
theorem DD.ok (D:DD t ds):okD t ds (bf t ds):=by
 rintro⟨j,n⟩ hp x hx;obtain⟨hn,hj,hs⟩:=cF.mp hp;obtain⟨F1,qx⟩:=(gm hj).mp hs;have inc:=D.inc;show 1<=n/\(x,n-1)∈_;unfold F3 at hx;by_cases c:ds.getD j 0 < (bf t ds).getD n 0
 ·rw [if_pos c] at hx;have:x=j:=by simpa using hx
  subst this;obtain⟨g1,g2⟩:=rT inc hn (D.mem hj) c;have lt:=wV inc hn (show n-1 < n by omega);exact⟨g1,cF.mpr ⟨by omega,hj,(gm hj).mpr ⟨g2,λa e=>by have:=qx a e;omega⟩⟩⟩
 ·rw [if_neg c] at hx;cases e:en t 0 j with
  | word w=>rw [e] at hx;cases hx
  | pair a b=>
   rw [e] at hx;obtain⟨p1,p2,p3⟩:=D.pair j a b hj e;obtain⟨_,_,a1,a2,_,a3,a4⟩:=lg t 0 j .aX a b hj e;rw [AI,DY] at *;have hx:x=a\/x=b:=by simpa using hx
   have key:x < t.size/\ds.getD x 0 < ds.getD j 0/\jZ t 0 x .aX=.int ((j:Nat):Int):=by
    rcases hx with rfl | rfl
    ·exact⟨by omega,p1,a3⟩
    ·exact⟨by omega,p2,a4⟩
   obtain⟨k1,k2,k3⟩:=key;obtain⟨g1,g2⟩:=rT inc hn (D.mem k1) ∅;have lt:=wV inc hn (show n-1 < n by omega);refine⟨g1,cF.mpr ⟨by omega,k1,(gm k1).mpr ⟨g2,λa' e'=>?_⟩⟩⟩;rw [k3] at e';injection e' with e';have:j=a':=by omega
   subst this;omega
theorem xq:∀(t:Tr) (o:Nat),∃w,en t o 0=.word w
 | .leaf w,o=>⟨w,rfl⟩
 | .node l r,o=>by rw [en,if_pos (show 0 < l.size from l.size_pos)];exact xq l o
theorem DD.ne (D:DD t ds):aR t ds (bf t ds) (bf t ds).length≠[]:=by
 intro z;have:(0,0)∈aR t ds (bf t ds) (bf t ds).length:=by
  obtain⟨w,e⟩:=xq t 0;refine cF.mpr ⟨by simp [bf],t.size_pos,(gm t.size_pos).mpr ⟨?_,λa ea=>?_⟩⟩
  ·rw [D.leaf 0 w t.size_pos e];exact DC _
  ·rcases iP t 0 0 .aX t.size_pos with⟨_,e⟩ | ⟨a',u,v,_,ha,e,ep,_⟩
   ·rw [e] at ea;cases ea
   ·rw [e,AI] at ea;injection ea with ea;have:a'=a:=by omega
    subst this;have:=(D.pair a' u v ha ep).2.2;show (0:Int) < _;omega
 rw [z] at this;cases this
def Pc (D:DD t ds) (hz:t.size<=25):(lJ t.pv (.tup (dB ds))).le (.ret (.tup (X1 t ds (bf t ds)))):=Pd t ds D.len hz D.ne D.ok
def UK (t:Tr):List PV:=(Av t.size).map λj=>.tup (az (up t 0 j []))
@[simp] theorem Ql (t:Tr):(UK t).length=t.size:=by unfold UK;simp
def Im (t:Tr) (h:j < t.size):(UK t)[j]?=ap (.tup (az (up t 0 j []))):=by unfold UK;simp [h]
theorem UJ (t:Tr):∀(k j:Nat),j+k+1=t.size->(up t 0 j []).length<=k+1:=λk=>by
 induction k using DM with
 | ind k ih=>
  intro j hj;rcases qO t 0 j .aX [] ∅ with⟨q1,q2,q3⟩ | ⟨a,q1,q2,q3,q4⟩
  ·rw [q3];show 1<=k+1;omega
  ·rw [q4,Ao];have:=ih (t.size-a-1) ∅ a ∅;omega
theorem Yl (t:Tr) (h:j < t.size):(up t 0 j []).length<=t.size:=by
 have:=UJ t (t.size-j-1) j ∅;omega
def F7 (t:Tr) (i:Nat):List PV:=(Av t.size).map λj=>if j+i < t.size then .tup [] else .tup (az (up t 0 j []))
def qa (t:Tr) (i:Nat):(F7 t i).length=t.size:=by unfold F7;simp
def Il (t:Tr) (i:Nat) (h:j < t.size) (c:¬j+i < t.size):(F7 t i)[j]?=ap (.tup (az (up t 0 j []))):=by unfold F7;simp [h,c]
theorem Qj (t:Tr) (i j:Nat) (h:j+i+1=t.size):(F7 t i).set j (.tup (az (up t 0 j [])))=F7 t (i+1):=by
 apply Bi;intro k;by_cases hk:k < t.size
 ·by_cases e:j=k
  ·subst e;rw [Bu (by rw [qa];exact hk),Il t (i+1) hk ∅]
  ·rw [Bb e];unfold F7;simp only [Ai,Bw hk,CC];by_cases c:k+i < t.size
   ·rw [if_pos c,if_pos ∅]
   ·rw [if_neg c,if_neg ∅]
 ·rw [Ax (by rw [BU,qa];omega),Ax (by rw [qa];omega)]
def Ym (t:Tr):F7 t 0=Am t.size (.tup []):=by
 apply Bi;intro k;unfold F7;by_cases hk:k < t.size
 ·simp [hk]
 ·simp [hk]
theorem Qk (t:Tr):F7 t t.size=UK t:=by
 apply Ct;intro j _;rw [if_neg ∅]
theorem NL (t:Tr) (hz:t.size<=900):(gV t.pv).le (.ret (UK t)):=λQ q=>by
 unfold gV;simp only [gt,cr];refine W.le.use (zU t hz) ?_;simp only [ay,ga];refine GK (λ_=>.tup []) (λx hx=>rfl) ?_;have e0:(X5 t).map (λ_=>PV.tup [])=F7 t 0:=by rw [DP,JR,Ym]
 have en:(((t.size:Nat):Int)-1 - -1).toNat=t.size:=by omega
 rw [e0];simp only [bU,JR,gt,mH,ga,gc,JE,en];refine⟨⟨trivial,cq ∅ ∅⟩,?_⟩;show (dD _ _ _).run _;refine gC (λi s=>s=F7 t i) rfl (λi x s hx hs=>?_) (λs hs=>?_)
 ·subst hs;obtain⟨hi,rfl⟩:=o5 hx;obtain⟨j,hj⟩:∃j:Nat,j=t.size-1-i:=⟨_,rfl⟩;have ej:(((t.size:Nat):Int)-1-(i:Int))=(j:Int):=by omega
  rw [ej];have Jw:j < t.size:=by omega
  have fin:∀l:List PV,l.length<=900->.int (j:Int)::l=az (up t 0 j [])->(am (addW (.tup [.int (j:Int)]) (.tup l)) λx=>f7 (F7 t i) (.int (j:Int)) x).run λs=>s=F7 t (i+1):=λl hl he=>by
   rw [xn,re (a9 (by simp;omega))];show (f7 _ _ (.tup (.int (j:Int)::l))).run _;rw [he,jG (by rw [qa];exact Jw),Qj t i j ∅];rfl
  simp only [gt,cr,g9 (JS t Jw),ga];rcases qO t 0 j .aX [] Jw with⟨_,e,e2⟩ | ⟨a,ha1,ha,e,e2⟩
  ·rw [e];simp only [vp,oX,PV.me,br,ga,if_true];have:=fin [] (by simp) (by rw [e2,AI];rfl);simpa using this
  ·rw [AI] at e;rw [e];have i2:LZ (F7 t i) (.int (a:Int))=.ret (.tup (az (up t 0 a []))):=g9 (Il t i ha ∅);simp only [vp,oX,PV.me,br,ga,Al,if_false,i2,gt];have ua:=Yl t ha;have:=fin (az (up t 0 a [])) (by rw [aZ];omega) (by rw [e2];simp);simpa using this
 ·subst hs;have el:(ml (((t.size:Nat):Int)-1) t.size).length=t.size:=by unfold ml;simp
  rw [el,Qk];exact q
def X4 (t:Tr) (j:Nat):List Nat:=(Av t.size).filter λk=>!decide (k∈up t 0 j [])&&!decide (j∈up t 0 k [])
theorem Px (t:Tr) (hz:t.size<=900) (hj:j < t.size):(eP (.cl (UK t)) (.int (j:Int))).le (.ret (.tup (az (X4 t j)))):=λQ q=>by
 unfold eP;simp only [gt,cr,gE,Ql,fB,re (cq (i:=0) (j:=(t.size:Int)) ∅ ∅),ga,A1,oO];refine rN (λk=>!decide (k∈up t 0 j [])&&!decide (j∈up t 0 k [])) (λk hk=>?_) q;have hk:=AN.mp hk;simp only [gt,bJ,g9 (Im t hj),g9 (Im t hk),ay,G3,if_true];by_cases c1:k∈up t 0 j []
 ·simp [c1]
 ·by_cases c2:j∈up t 0 k []
  ·simp [c1,c2]
  ·simp [c1,c2]
def L0:Ent->List Nat
 | .word _=>[]
 | .pair a b=>[a,b]
def uV (e:Ent):dj e.pv=.ret (.tup (az (L0 e))):=by
 unfold dj;cases e with
 | word w=>simp [Ent.pv,L0]
 | pair a b=>simp [Ent.pv,L0]
def Ru (h:es[j]?=ap e):eF (.tup (es.map Ent.pv)) (.int (j:Int))=.ret (Jb e j):=by
 have i1:LZ (es.map Ent.pv) (.int (j:Int))=.ret e.pv:=g9 (by rw [Ai,h];rfl);unfold eF;cases e with
 | word w=>simp only [gt,ay,i1];rfl
 | pair a b=>simp only [gt,ay,i1];rfl
def grS (t:Tr) (j:Nat):PV:=.tup [Jb (en t 0 j) j,.int 0,.tup (az (L0 (en t 0 j))),.tup (az (X4 t j))]
def grL (t:Tr):List PV:=(Av t.size).map (grS t)
theorem KQ (t:Tr) (hz:t.size<=900):(kQ t.pv).le (.ret (.tup (grL t))):=λQ q=>by
 unfold kQ;simp only [gt,cr];refine W.le.use (nj t hz) ?_;refine W.le.use (NL t hz) ?_;simp only [bU,cu,ga,fB,re (cq (i:=0) (j:=(t.size:Int)) ∅ ∅),A1,oO];unfold az;refine iw (grS t) (λj hj R r=>?_) q;have hj:=AN.mp hj;have i1:LZ ((t.nd 0).map Ent.pv) (.int (j:Int))=.ret (en t 0 j).pv:=g9 (by rw [Ai,fJ t 0 j hj];rfl);simp only [Ru (fJ t 0 j hj),gt,ay,i1,uV,cr,ga];exact W.le.use (Px t hz hj) r
end My
variable {F:List (List Bool)}
namespace My
open PySem PySem.Spec PyProof.Rows L2 PL FL
structure Sy where
 nm:PV
 lv:Nat
 un:List Nat
 be:List Nat
def Sy.pv (s:Sy):PV:=.tup [s.nm,.int (s.lv:Int),.tup (az s.un),.tup (az s.be)]
def iI (g:List Sy):PV:=.tup (g.map Sy.pv)
def sy (g:List Sy) (i:Nat):Sy:=g.getD i ⟨.aX,0,[],[]⟩
def Mp {g:List Sy} (h:i < g.length):g[i]?=ap (sy g i):=by
 unfold sy;rw [Ap,Ad h];rfl
def KY {g:List Sy} (h:i < g.length):LZ (g.map Sy.pv) (.int (i:Int))=.ret (sy g i).pv:=g9 (by rw [Ai,Mp h];rfl)
def NZ (w:Str):PV->Bool
 | .str s=>s==w
 | _=>false
def hm (g:List Sy) (i:Nat) (w:Str):Bool:=(sy g i).un.isEmpty&&NZ w (sy g i).nm
inductive PU (g:List Sy):Nat->Nat->Prop
 | refl (i:Nat):PU g i i
 | step {i u j:Nat}:u∈(sy g i).un->PU g u j->PU g i j
structure WG (g:List Sy) (ws:List Str):Prop where
 pos:0 < g.length
 len:g.length<=300
 dn:∀i,i < g.length->∀u∈(sy g i).un,u < i
 oj:∀i,i < g.length->(sy g i).un.length<=2
 be:∀i,i < g.length->∀u∈(sy g i).be,u < g.length
 SU:∀i,i < g.length->(sy g i).be.length<=30
 nm:∀i,i < g.length->(∃s,(sy g i).nm=.str s)\/∃n,(sy g i).nm=.int n
 adC:∀w∈ws,∃i,i < g.length/\PU g (g.length-1) i/\hm g i w=true
def mT {g:List Sy} (h:i < g.length):cW (iI g) (.int (i:Int))=.ret (.tup (az (sy g i).un)):=by
 unfold cW iI;simp only [gt,ay,KY h];rfl
def LG {g:List Sy} (h:i < g.length):fP (iI g) (.int (i:Int))=.ret (.tup (az (sy g i).be)):=by
 unfold fP iI;simp only [gt,ay,KY h];rfl
theorem eq_nil (l:List Nat) (h:l.length<=1000):of2 di (.tup (az l)) (.tup [])=.ret (.bl l.isEmpty):=by
 have fk:fV (az l)=true:=jr.mpr λx hx=>by
  obtain⟨n,_,rfl⟩:=Aw.mp hx;simp
 have fd:eJ (az l)<=1:=jt λx hx=>by
  obtain⟨n,_,rfl⟩:=Aw.mp hx;simp
 rw [sH,re ⟨by simp [fk],by simp,by simp;omega⟩];cases l with
 | nil=>simp
 | cons a l=>simp [gD]
def Up {x:PV} (h:(∃s,x=.str s)\/∃n,x=.int n) (w:Str):of2 di x (.str w)=.ret (.bl (NZ w x)):=by
 rcases h with⟨s,rfl⟩ | ⟨n,rfl⟩
 ·rw [sH,re ⟨by simp,by simp,by simp⟩,OA];rfl
 ·rw [sH,re ⟨by simp,by simp,by simp⟩];simp [kj,NZ]
theorem R6 {g:List Sy} (G:WG g ws) (h:i < g.length) (w:Str):jk (iI g) (.int (i:Int)) (.str w)=.ret (.bl (hm g i w)):=by
 unfold jk;have l2:=G.oj i h;have i0:bW [(sy g i).nm,PV.int ((sy g i).lv:Int),.tup (az (sy g i).un),.tup (az (sy g i).be)] 0=ap (sy g i).nm:=rfl;simp only [gt,mT h,eq_nil _ (show (sy g i).un.length<=1000 by omega)];unfold iI hm;cases e:(sy g i).un.isEmpty with
 | false=>simp
 | true=>simp only [gF,ay,gt,KY h,Sy.pv,bb,i0,sK,Up (G.nm i h) w,Fs]
abbrev Dd:=Str×Nat×Nat
def d3 (d:Dd):PV:=.tup [.str d.1,.int (d.2.1:Int),.int (d.2.2:Int)]
def d2 (d:Dd):PV:=.tup [.str d.1,.tup [.int (d.2.1:Int),.int (d.2.2:Int)]]
abbrev dbl (i:Nat):Dd:=("doubled",i,i)
abbrev ovr (i o:Nat):List Dd:=[("over",i,o),("over",o,i)]
def spl:List Nat->List Dd
 | [a,b]=>[("split",a,b),("split",b,a)]
 | _=>[]
def Lq (g:List Sy) (i:Nat):List Dd:=dbl i::(spl (sy g i).un++(sy g i).be.flatMap (ovr i))
theorem sD (i:Nat):∀l:List Nat,(l.flatMap (ovr i)).length=2*l.length
 | []=>rfl
 | a::l=>by rw [List.flatMap_cons,Ae,sD i l];simp;omega
def vP (l:List Nat):(spl l).length<=2:=by unfold spl;split <;> simp
theorem SN {g:List Sy} (G:WG g ws) (h:i < g.length):(Lq g i).length<=63:=by
 unfold Lq;rw [Ao,Ae,sD];have:=vP (sy g i).un;have:=G.SU i h;omega
theorem Pb {g:List Sy} (G:WG g ws) (h:i < g.length) {d:Dd} (hd:d∈Lq g i):d.2.1 < g.length/\d.2.2 < g.length:=by
 rcases AA.mp hd with rfl | hd
 ·exact⟨h,h⟩
 rcases AX.mp hd with hd | hd
 ·have hu:=G.dn i h;revert hu hd;generalize (sy g i).un=l;intro hd hu
  match l with
  | [a,b]=>
   have h1:=hu a (by simp);have h2:=hu b (by simp);simp [spl] at hd;rcases hd with rfl | rfl
   ·exact⟨by show a < _;omega,by show b < _;omega⟩
   ·exact⟨by show b < _;omega,by show a < _;omega⟩
  | []=>simp [spl] at hd
  | [_]=>simp [spl] at hd
  | _::_::_::_=>simp [spl] at hd
 ·obtain⟨o,ho,hd⟩:=Cw.mp hd;have:=G.be i h o ho;simp at hd;rcases hd with rfl | rfl
  ·exact⟨h,this⟩
  ·exact⟨this,h⟩
theorem Kv {g:List Sy} (G:WG g ws) (h:i < g.length):(eS (iI g) (.int (i:Int))).le (.ret ((Lq g i).map d3)):=λQ q=>by
 unfold eS iI;have l1:=vP (sy g i).un;have l3:=G.SU i h;have i1:∀a b:Nat,bW [PV.int (a:Int),PV.int (b:Int)] 1=ap (.int (b:Int)):=λ_ _=>rfl;simp only [gt,cr,ay,KY h,ga,Sy.pv,WO,bU,aZ,cI,br];have fin:∀s:List PV,s=(dbl i::spl (sy g i).un).map d3->(dD (az (sy g i).be) s λiY QJ=>am (sF QJ [.tup [.str "over",.int (i:Int),iY],.tup [.str "over",iY,.int (i:Int)]]) λnI=>bm nI).run Q:=λs hs=>by
  refine gC (λk s=>s=(dbl i::(spl (sy g i).un++((sy g i).be.take k).flatMap (ovr i))).map d3) (by rw [hs];simp) (λk x s hx hs=>?_) (λs hs=>?_)
  ·subst hs;unfold az at hx;rw [Ai] at hx;cases eo:(sy g i).be[k]? with
   | none=>rw [eo] at hx;cases hx
   | some o=>
   rw [eo] at hx;have ex:=Option.some.inj hx;subst ex;have et:(sy g i).be.take (k+1)=(sy g i).be.take k++[o]:=by rw [C9,eo];rfl
   unfold sF;rw [re (a9 (by simp only [Af,Ao,Ae,sD];simp;omega))];rw [et,Ca];simp [d3]
  ·subst hs;rw [aZ,Dp];exact q
 have hu:=G.oj i h;revert fin hu;generalize (sy g i).un=l;intro fin hu
 match l,hu with
 | [],_=>
  exact fin _ rfl
 | [a],_=>
  exact fin _ rfl
 | [a,b],_=>
  refine⟨a9 (by simp),?_⟩;exact fin _ rfl
def tT (F:List (List Bool)):List PV:=F.map λr=>.cl (r.map PV.bl)
def fa (F:List (List Bool)) (j i:Nat):Bool:=(F.getD j []).getD i false
structure FW (g:List Sy) (F:List (List Bool)) (n:Nat):Prop where
 len:n<=F.length
 row:∀j,j < n->(F.getD j []).length=g.length
theorem vI {g:List Sy} (fw:FW g F n) (hj:j < n) (hi:i < g.length):(bh (am (bh (bm (tT F)) (bm (.int (j:Int)))) av) (bm (.int (i:Int))))=.ret (.bl (fa F j i)):=by
 have P4:=Az hj fw.len;have e1:F[j]?=ap (F.getD j []):=by rw [Ap,Ad P4];rfl
 have i1:LZ (tT F) (.int (j:Int))=.ret (.cl ((F.getD j []).map PV.bl)):=g9 (by unfold tT;rw [Ai,e1];rfl);have hl:=fw.row j hj;have e2:(F.getD j [])[i]?=ap (fa F j i):=by unfold fa;generalize F.getD j []=r at hl;rw [Ap,Ad ∅];rfl
 have i2:LZ ((F.getD j []).map PV.bl) (.int (i:Int))=.ret (.bl (fa F j i)):=g9 (by rw [Ai,e2];rfl);simp only [gt,i1,bJ,i2]
def lD (g:List Sy) (F:List (List Bool)) (e:Ent) (i:Nat):List Dd:=match e with
 | .word w=>if hm g i w=true then [("found",i,i)] else []
 | .pair a b=>(Lq g i).filter λd=>fa F a d.2.1&&fa F b d.2.2
def pG (n:Nat):Ent->Prop
 | .word _=>True
 | .pair a b=>a < n/\b < n
theorem kU {g:List Sy} (G:WG g ws) (he:es[j]?=ap e) (hi:i < g.length) (fw:FW g F n) (hn:pG n e) :
  (cx (iI g) (.cl (es.map Ent.pv)) (.cl (tT F)) (.int (j:Int)) (.int (i:Int))).le (.ret ((lD g F e i).map d3)):=λQ q=>by
 unfold cx;have ie:LZ (es.map Ent.pv) (.int (j:Int))=.ret e.pv:=g9 (by rw [Ai,he];rfl);simp only [gt,cr,bJ,ie,ga];cases e with
 | word w=>
  have l2:=G.oj i hi;have i0:bW [(sy g i).nm,PV.int ((sy g i).lv:Int),.tup (az (sy g i).un),.tup (az (sy g i).be)] 0=ap (sy g i).nm:=rfl;have i2:bW [(sy g i).nm,PV.int ((sy g i).lv:Int),.tup (az (sy g i).un),.tup (az (sy g i).be)] 2=ap (.tup (az (sy g i).un)):=rfl;have fin:∀b:Bool,hm g i w=b->(yD [PV.tup [.str "found",.int (i:Int),.int (i:Int)]] (.int (if b then 1 else 0))).run Q:=λb hb=>by
   have q:Q ((if hm g i w=true then [(("found",i,i):Dd)] else []).map d3):=q;rw [hb] at q;cases b with
   | true=>
    exact⟨⟨by decide,by decide,a9 (by simp)⟩,q⟩
   | false=>
    exact⟨⟨by decide,by decide,a9 (by simp)⟩,q⟩
  simp only [Ent.pv,eX,fD,a7,ga,if_true,iI,ay,gt,KY hi,Sy.pv,bb,i0,i2,sK,cr,eq_nil _ (show (sy g i).un.length<=1000 by omega),Up (G.nm i hi) w];cases c:(sy g i).un.isEmpty with
  | false=>
   simp only [xl,ga,lT];exact fin false (by unfold hm;rw [c];rfl)
  | true=>
   simp only [gF,ga,lT];exact fin _ (by unfold hm;rw [c];rfl)
 | pair a b=>
  obtain⟨ha,hb⟩:=hn;have j0:bW [PV.int (a:Int),PV.int (b:Int)] 0=ap (.int a):=rfl;have j1:bW [PV.int (a:Int),PV.int (b:Int)] 1=ap (.int b):=rfl;simp only [Ent.pv,dE,fC,a7,ga,Al,if_false,ay,bb,j0,j1,sK,gt,cr];refine W.le.use (Kv G hi) ?_;refine wK (λd:Dd=>if (fa F a d.2.1&&fa F b d.2.2)=true then ap (d3 d) else bv) (λd hd R r=>?_) ?_
  ·obtain⟨h1,h2⟩:=Pb G hi hd;have k1:bW [PV.str d.1,PV.int (d.2.1:Int),PV.int (d.2.2:Int)] 1=ap (.int (d.2.1:Int)):=rfl;have k2:bW [PV.str d.1,PV.int (d.2.1:Int),PV.int (d.2.2:Int)] 2=ap (.int (d.2.2:Int)):=rfl;have t1:=vI fw ha h1;have t2:=vI fw hb h2;simp only [gt,bb] at t1 t2;simp only [d3,ay,gt,bb,k1,k2,sK,t1,t2,a7];cases c1:fa F a d.2.1 with
   | false=>simpa [c1] using r
   | true=>
    cases c2:fa F b d.2.2 with
    | false=>simpa [c1,c2] using r
    | true=>simpa [c1,c2,d3] using r
  ·rw [JB];exact q
def ib (g:List Sy) (f:Nat->Bool):Nat->List Bool
 | 0=>[]
 | k+1=>ib g f k++[(sy g k).un.any (λl=>(ib g f k).getD l false)||f k]
@[simp] theorem iH (g:List Sy) (f:Nat->Bool):∀k,(ib g f k).length=k
 | 0=>rfl
 | k+1=>by rw [ib,Ae,iH g f k];rfl
def jq {l m:List α}{d:α} (h:i < l.length):(l++m).getD i d=l.getD i d:=by
 rw [Ap,Ay h,<- Ap]
def lQ {l m:List α}{d:α} (h:l.length<=i):(l++m).getD i d=m.getD (i-l.length) d:=by
 rw [Ap,AB h,<- Ap]
theorem vW (g:List Sy) (f:Nat->Bool):∀{k:Nat},i < k->(ib g f k).getD i false=(ib g f (i+1)).getD i false
 | 0,h=>by omega
 | k+1,h=>by
  by_cases c:i=k
  ·subst c;rfl
  ·rw [ib,jq (by rw [iH];omega)];exact vW g f ∅
theorem YT (g:List Sy) (f:Nat->Bool) (dn:∀i,i < g.length->∀u∈(sy g i).un,u < i) (h:i < g.length):(ib g f g.length).getD i false=((sy g i).un.any (λl=>(ib g f g.length).getD l false)||f i):=by
 rw [vW g f h,ib,lQ (by rw [iH];exact An _),iH,Cp];show (_||_)=_;congr 1;rw [Cm,BO,BO];have key:∀l∈(sy g i).un,(ib g f i).getD l false=(ib g f g.length).getD l false:=λl hl=>by
  have:=dn i h l hl;rw [vW g f this,vW g f (show l < g.length by omega)]
 exact⟨λ⟨l,h1,h2⟩=>⟨l,h1,by rw [<- key l h1];exact h2⟩,λ⟨l,h1,h2⟩=>⟨l,h1,by rw [key l h1];exact h2⟩⟩
def F2 (es:List Ent) (j:Nat):Ent:=es.getD j (.word "")
def tab (g:List Sy) (es:List Ent):Nat->List (List Bool)
 | 0=>[]
 | j+1=>tab g es j++[ib g (λi=>!(lD g (tab g es j) (F2 es j) i).isEmpty) g.length]
@[simp] theorem cn (g:List Sy) (es:List Ent):∀j,(tab g es j).length=j
 | 0=>rfl
 | j+1=>by rw [tab,Ae,cn g es j];rfl
theorem mW (g:List Sy) (es:List Ent):∀{k:Nat},i < k->(tab g es k).getD i []=ib g (λx=>!(lD g (tab g es i) (F2 es i) x).isEmpty) g.length
 | 0,h=>by omega
 | k+1,h=>by
  by_cases c:i=k
  ·subst c;rw [tab,lQ (by rw [cn];exact An _),cn,Cp];rfl
  ·rw [tab,jq (by rw [cn];omega)];exact mW g es ∅
def Gg (g:List Sy) (es:List Ent) (n:Nat):FW g (tab g es n) n:=⟨by rw [cn];exact An _,λj hj=>by rw [mW g es hj,iH]⟩
def y9 {g:List Sy}{F':List (List Bool)} (h:pG n e) (hf:∀j,j < n->F.getD j []=F'.getD j []):lD g F e i=lD g F' e i:=by
 cases e with
 | word w=>rfl
 | pair a b=>
  dsimp only [lD,fa];rw [hf a h.1,hf b h.2]
theorem Qr (g:List Sy) (es:List Ent) (h:j<=k):∀x,x < j->(tab g es j).getD x []=(tab g es k).getD x []:=λx hx=>by rw [mW g es hx,mW g es (show x < k by omega)]
theorem aaw {g:List Sy} (G:WG g ws) (hj:j < n) (hi:i < g.length) (he:pG j (F2 es j)):fa (tab g es n) j i=((sy g i).un.any (λl=>fa (tab g es n) j l)||!(lD g (tab g es n) (F2 es j) i).isEmpty):=by
 have e1:∀x,fa (tab g es n) j x=(ib g (λx=>!(lD g (tab g es j) (F2 es j) x).isEmpty) g.length).getD x false:=λx=>by unfold fa;rw [mW g es hj]
 have e2:(λl=>fa (tab g es n) j l)=λl=>(ib g (λx=>!(lD g (tab g es j) (F2 es j) x).isEmpty) g.length).getD l false:=funext e1;rw [e2,e1,YT g _ G.dn hi,y9 (F':=tab g es n) he (Qr g es ∅)]
def vG (b:Bool):qS (.bl b)=.ret (.bl b):=re (by rw [PV.dat] <;> simp)
def any_map' (f:Nat->Bool) (l:List Nat):Py (l.map λx=>.bl (f x))=.ret (.bl (l.any f)):=by
 have:(l.map λx=>PV.bl (f x))=(l.map f).map PV.bl:=by rw [AY];rfl
 rw [this,S2,List.any_map];rfl
def iV (F:List (List Bool)):List (List PV):=F.map λr=>r.map PV.bl
def Mk (F:List (List Bool)):(iV F).map PV.cl=tT F:=by unfold iV tT;rw [AY];rfl
theorem RD {g:List Sy} (G:WG g ws) (hz:es.length<=900) (hes:∀j,j < es.length->pG j (F2 es j)):(gZ (iI g) (.cl (es.map Ent.pv))).le (.ret (tT (tab g es es.length))):=λQ q=>by
 have gl:=G.len;unfold gZ;simp only [gt,cr,gE,Af,fB,re (cq (i:=0) (j:=(es.length:Int)) ∅ ∅),ga,A1];refine nJ (λj s=>s.2=iV (tab g es j)) rfl (λj s hj hs=>?_) (λs hs=>?_)
 ·obtain⟨s1,s2⟩:=s;replace hs:s2=iV (tab g es j):=hs;subst hs;have e1:qo dg [iI g]=.ret (.int (g.length:Int)):=by unfold iI;rw [bU,Af]
  have e2:yD [PV.bl false] (.int (g.length:Int))=.ret ((Am g.length false).map PV.bl):=by
   rw [OE,re ⟨by omega,by omega,a9 (by simp;omega)⟩,A1];congr 1;simp
  have adR:es[j]?=ap (F2 es j):=by unfold F2;rw [Ap,Ad hj];rfl
  simp only [gt,e1,e2,cr,ga];refine⟨by show (iV (tab g es j)).length < sizeLine;unfold iV;rw [Af,cn];have:=a9 (n:=901) ∅;omega,?_⟩;intro b9 _;simp only [fB,re (cq (i:=0) (j:=(g.length:Int)) ∅ ∅),ga,A1,cr]
  let f:Nat->Bool:=λx=>!(lD g (tab g es j) (F2 es j) x).isEmpty
  refine nJ (λi s=>s.2=iV (tab g es j++[ib g f i++Am (g.length-i) false])) (by show _++_=_;simp [iV,ib]) (λi s hi hs=>?_) (λs hs=>?_)
  ·obtain⟨s1,s2⟩:=s;replace hs:s2=_:=hs;subst hs;generalize hF:tab g es j++[ib g f i++Am (g.length-i) false]=F;have fw:FW g F (j+1):=by
    subst hF;refine⟨by simp,λx hx=>?_⟩;by_cases c:x=j
    ·subst c;rw [lQ (by rw [cn];exact An _),cn,Cp];show (ib g f i++_).length=_;rw [Ae,iH,Bd];omega
    ·rw [jq (by rw [cn];omega)];exact (Gg g es j).row x ∅
   have ff:∀l,l < i->fa F j l=(ib g f i).getD l false:=λl hl=>by
    subst hF;unfold fa;rw [lQ (by rw [cn];exact An _),cn,Cp];show (ib g f i++_).getD l false=_;rw [jq (by rw [iH];exact hl)]
   have fd:lD g F (F2 es j) i=lD g (tab g es j) (F2 es j) i:=y9 (hes j hj) λx hx=>by
    subst hF;rw [jq (by rw [cn];exact hx)]
   have un:LZ (g.map Sy.pv) (.int (i:Int))=.ret (sy g i).pv:=KY hi;have i2:bW [(sy g i).nm,PV.int ((sy g i).lv:Int),.tup (az (sy g i).un),.tup (az (sy g i).be)] 2=ap (.tup (az (sy g i).un)):=rfl;simp only [Mk,iI,ay,gt,un,Sy.pv,bb,i2,sK,cr,ga,bJ];refine uM (λl=>.bl (fa F j l)) (λl hl=>?_) ?_
   ·have:=G.dn i hi l hl;have:=vI fw (show j < j+1 by omega) (show l < g.length by omega);simpa using this
   ·rw [any_map'];have eA:(sy g i).un.any (fa F j)=(sy g i).un.any λl=>(ib g f i).getD l false:=by
     rw [Cm,BO,BO];exact⟨λ⟨l,h1,h2⟩=>⟨l,h1,by rw [<- ff l (G.dn i hi l h1)];exact h2⟩,λ⟨l,h1,h2⟩=>⟨l,h1,by rw [ff l (G.dn i hi l h1)];exact h2⟩⟩
    have fin:(am (RT (iV F) (.int (j:Int))) λZM=>am (f7 ZM.2 (.int (i:Int)) (.bl ((sy g i).un.any (fa F j)||f i))) λRJ=>bm ((s1,(iV F).set ZM.1 RJ):List db×List (List PV))).run λs=>s.2=iV (tab g es j++[ib g f (i+1)++Am (g.length-(i+1)) false]):=by
     have P4:j < (iV F).length:=by unfold iV;rw [Af];have:=fw.len;omega
     have e3:(iV F)[j]?=ap ((ib g f i++Am (g.length-i) false).map PV.bl):=by
      subst hF;unfold iV;rw [Ai,AB (by rw [cn];exact An _),cn,Cp];rfl
     have e4:RT (iV F) (.int (j:Int))=.ret (j,(ib g f i++Am (g.length-i) false).map PV.bl):=by
      show W.wu ((nA (iV F).length (j:Int)).bind λj=>(iV F)[j]?.map λl=>(j,l))=_;rw [Jp P4];show W.wu ((iV F)[j]?.map _)=_;rw [e3];rfl
     rw [e4];simp only [gt];rw [jG (by rw [Af,Ae,iH,Bd];omega)];subst hF;unfold iV;rw [eA];apply Bi;intro x;have er:g.length-i=(g.length-(i+1))+1:=by omega
     by_cases c:x=j
     ·subst c;congr 1;rw [ib,er,Bv,<- EN,E7 _ _ (by rw [iH];exact An _),iH,Cp];simp
     ·rw [Bb (BF c),Ai,Ai];by_cases c2:x < j
      ·rw [Ay (by rw [cn];exact c2),Ay (by rw [cn];exact c2)]
      ·rw [Ax (by rw [Ae,cn];simp;omega),Ax (by rw [Ae,cn];simp;omega)]
    simp only [ga,vG];cases cA:(sy g i).un.any (fa F j) with
    | true=>
     rw [cA] at fin;simp only [OG,ga,vG];simpa using fin
    | false=>
     rw [cA] at fin;simp only [OH,cr];refine W.le.use (kU G (F:=F) adR hi fw (by have:=hes j hj;revert this;cases F2 es j with | word w=>exact id | pair a b=>exact λz=>⟨C7 z.1,C7 z.2⟩)) ?_;have e5:(!((lD g F (F2 es j) i).map d3).isEmpty)=f i:=by rw [fd,EB]
     simp only [ga,e5,vG];simpa using fin
  ·rw [hs,tab,Cp];simp [f]
 ·show Q (s.2.map PV.cl);rw [hs,Mk];exact q
end My
variable {u i0:Nat}{g:List My.Sy}{d:My.Dd}
namespace My
open PySem PySem.Spec PyProof.Rows L2 PL FL
def Ch (g:List Sy):List Nat->Prop
 | []=>False
 | [i]=>i < g.length
 | i::k::r=>i < g.length/\k∈(sy g i).un/\Ch g (k::r)
theorem Ch.snoc (hu:u∈(sy g i).un) (hg:u < g.length):∀{p:List Nat},Ch g (p++[i])->Ch g (p++[i]++[u])
 | [],h=>⟨h,hu,hg⟩
 | [a],h=>⟨h.1,h.2.1,h.2.2,hu,hg⟩
 | a::b::p,h=>⟨h.1,h.2.1,Ch.snoc hu hg (p:=b::p) h.2.2⟩
theorem Ch.last:∀{p:List Nat},Ch g (p++[i])->i < g.length
 | [],h=>h
 | [a],h=>h.2.2
 | a::b::p,h=>Ch.last (p:=b::p) h.2.2
theorem Ch.lt:∀{p:List Nat},Ch g p->∀x∈p,x < g.length
 | [i],h,x,hx=>by rw [Bc.mp hx];exact h
 | i::k::r,h,x,hx=>by
  rcases AA.mp hx with rfl | hx
  ·exact h.1
  ·exact Ch.lt (p:=k::r) h.2.2 x hx
theorem Ch.len (G:WG g ws):∀{p:List Nat}{i:Nat},Ch g (i::p)->p.length<=i
 | [],i,_=>A7 _
 | k::r,i,h=>by
  have h1:=G.dn i h.1 k h.2.1;have h2:=Ch.len G (p:=r) (i:=k) h.2.2;rw [Ao];omega
def WE (h:i < g.length):bW (g.map Sy.pv) (i:Int)=ap (sy g i).pv:=bV (by rw [Ai,Mp h];rfl)
def Gi (s:Sy):bW [s.nm,PV.int (s.lv:Int),.tup (az s.un),.tup (az s.be)] 2=ap (.tup (az s.un)):=(rfl)
def lL (q:List Nat) (l:Nat):bW (az (q++[l])) (-1)=ap (.int (l:Int)):=by rw [i8];exact sY _ _
structure PI (g:List Sy) (F:List (List Bool)) (j i0:Nat) (q:List Nat) (l:Nat):Prop where
 ch:Ch g (q++[l])
 hd:(q++[l]).head?=ap i0
 f:fa F j l=true
 m:q.length+l<=i0
theorem PI.next (G:WG g ws) {l:Nat}{q:List Nat} (P:PI g F j i0 q l) (hu:u∈(sy g l).un) (hf:fa F j u=true):PI g F j i0 (q++[l]) u:=by
 have hl:=P.ch.last;have:=G.dn l hl u hu;have:=P.m;refine⟨P.ch.snoc hu ∅,?_,hf,by rw [Ae];simp;omega⟩;rw [List.head?_append,P.hd];rfl
section
variable {g:List Sy}{ws:List Str}{F:List (List Bool)}{es:List Ent}{j n:Nat}{e:Ent}
theorem Nu (G:WG g ws) (fw:FW g F n) (hj:j < n) {l:Nat} (hl:l < g.length) {Q:List PV->Prop} (q:Q (az ((sy g l).un.filter λu=>fa F j u))) :
  (kh (az (sy g l).un) λp8=>F0 (am (bh (am (bh (bm (tT F)) (bm (.int (j:Int)))) av) (bm p8)) cv) (bm p8)).run Q:=by
 refine rN (λu=>fa F j u) (λu hu=>?_) q;have:=G.dn l hl u hu;rw [vI fw hj (show u < g.length by omega)];cases fa F j u <;> simp
theorem uN (G:WG g ws) (he:es[j]?=ap e) (fw:FW g F n) (hj:j < n) (hn:pG n e) (hc:∀i,i < g.length->fa F j i=((sy g i).un.any (λl=>fa F j l)||!(lD g F e i).isEmpty)) (h0:i0 < g.length) (f0:fa F j i0=true)
  (q:∀p l,Ch g (p++[l])->(p++[l]).head?=ap i0->lD g F e l≠[]->Q (.tup (az (p++[l])))) :
  (eG (iI g) (.cl (es.map Ent.pv)) (.cl (tT F)) (.int (j:Int)) (.int (i0:Int))).run Q:=by
 have gl:=G.len;have e1:qo dg [iI g]=.ret (.int (g.length:Int)):=by unfold iI;rw [bU,Af]
 unfold eG;simp only [gt,cr,e1,ga,fB,re (cq (i:=0) (j:=(g.length:Int)) ∅ ∅),A1];refine nJ (λ_ s=>∃p l,s=az (p++[l])/\PI g F j i0 p l) ⟨[],i0,rfl,h0,rfl,f0,by simp⟩ (λk s hk hs=>?_) (λs hs=>?_)
 ·obtain⟨p,l,rfl,P⟩:=hs;have hl:=P.ch.last;have oj:=G.oj l hl;have pm:=P.m;have step:∀x∈az ((sy g l).un.filter λu=>fa F j u),(jX (az (p++[l])) x).run λs=>∃p l,s=az (p++[l])/\PI g F j i0 p l:=λx hx=>by
   obtain⟨u,hu,rfl⟩:=Aw.mp hx;obtain⟨ě,Ě⟩:=AQ.mp hu;rw [hX (by rw [aZ,Ae];simp;omega)];exact⟨p++[l],u,by simp,P.next G ě Ě⟩
  simp only [gc,bb,lL,sK,gt,cr,ga];simp only [iI,ay,bJ,WE hl,sK,gt,ga,Sy.pv,Gi];have on:=@Nu g ws F j n G fw hj l hl;refine on ?_;refine W.le.use (kU G he hl fw hn) ?_;have stop:∃p' l',az (p++[l])=az (p'++[l'])/\PI g F j i0 p' l':=⟨p,l,rfl,P⟩;have go:∀b:Bool,(de (tS (am (am (bm (.cl (az ((sy g l).un.filter λu=>fa F j u)))) kS) λKw=>bm (!Kw.isEmpty)) (am (bm (.bl b)) cv)) (am (am (bm (.cl (az ((sy g l).un.filter λu=>fa F j u)))) λtL=>bL tL) λqL=>am (jX (az (p++[l])) qL) λgq=>bm gq) (bm (az (p++[l])))).run λs=>∃p l,s=az (p++[l])/\PI g F j i0 p l:=λb=>by
   generalize hon:az ((sy g l).un.filter λu=>fa F j u)=on at step;have onl:on.length<=1000:=by
    rw [<- hon,aZ];have:=A5 (λu=>fa F j u) (sy g l).un;omega
   cases on with
   | nil=>simpa using stop
   | cons x r=>
    cases b with
    | false=>simpa using stop
    | true=>
     refine pick_run (by simp) onl λy hy=>?_;simpa using step y hy
  cases cd:((lD g F e l).map d3).isEmpty with
  | true=>
   simp only [ga,OG];simpa using go true
  | false=>
   simp only [ga,OH,cr,cD 3 ⋯ ⋯];refine bt λd _ _=>?_;simp only [cI,ga];simpa using go (d==0)
 ·obtain⟨p,l,rfl,P⟩:=hs;refine gL (λm s=>∃p,s=az (p++[m])/\PI g F j i0 p m) ⟨p,rfl,P⟩ ?_;rintro l s ⟨p,rfl,P⟩;have hl:=P.ch.last;have oj:=G.oj l hl;have pm:=P.m;simp only [gc,bb,lL,sK,gt,cr,ga];refine W.le.use (kU G he hl fw hn) ?_;cases cd:((lD g F e l).map d3).isEmpty with
  | false=>
   refine q p l P.ch P.hd λz=>?_;rw [z] at cd;cases cd
  | true=>
   have on:=@Nu g ws F j n G fw hj l hl;simp only [gt,bb] at on;simp only [iI,ay,bJ,WE hl,sK,gt,ga,Sy.pv,Gi];refine on ?_;have ī:=hc l hl;rw [P.f] at ī;have lz:(lD g F e l).isEmpty=true:=by rw [EB] at cd;exact cd
   rw [lz] at ī;have ha:(sy g l).un.any (λu=>fa F j u)=true:=by simpa using ī.symm
   obtain⟨u,hu,hfu⟩:=BO.mp ha;have mem:=AQ.mpr ⟨hu,hfu⟩;refine pick_run (λz=>?_) (by rw [aZ];have:=A5 (λu=>fa F j u) (sy g l).un;omega) λx hx=>?_
   ·have:=congrArg BV z;rw [aZ] at this;rw [EA.mp this] at mem;cases mem
   ·obtain⟨v,hv,rfl⟩:=Aw.mp hx;obtain⟨hv1,ę⟩:=AQ.mp hv;rw [hX (by rw [aZ,Ae];simp;omega)];exact⟨v,G.dn l hl v hv1,p++[l],by simp,P.next G hv1 ę⟩
end
def ht:Tr->Nat->Nat
 | .leaf _,_=>0
 | .node l r,j=>if j < l.size then ht l j else if j < l.size+r.size then ht r (j-l.size) else (Tr.node l r).depth
theorem N6:∀(t:Tr) (j:Nat),ht t j<=t.depth
 | .leaf _,_=>An _
 | .node l r,j=>by
  have e:(Tr.node l r).depth=max l.depth r.depth+1:=rfl;have h1:=N6 l j;have h2:=N6 r (j-l.size);rw [ht]
  split
  ·omega
  ·split <;> omega
theorem Jv (t:Tr):ht t (t.size-1)=t.depth:=by
 cases t with
 | leaf _=>rfl
 | node l r=>
  have es:(Tr.node l r).size=l.size+r.size+1:=rfl;rw [ht,if_neg ∅,if_neg ∅]
theorem N7:∀(t:Tr) (o j a b:Nat),j < t.size->en t o j=.pair a b->ht t (a-o) < ht t j/\ht t (b-o) < ht t j
 | .leaf _,o,j,a,b,h,e=>by rw [en] at e;cases e
 | .node l r,o,j,a,b,h,e=>by
  have es:(Tr.node l r).size=l.size+r.size+1:=rfl;have lp:=l.size_pos;have rp:=r.size_pos;by_cases c1:j < l.size
  ·rw [en,if_pos c1] at e;obtain⟨h1,h2,h3,h4,_⟩:=lg l o j .aX a b c1 e;have:=N7 l o j a b c1 e;have q1:∀x,x < l.size->ht (.node l r) x=ht l x:=λx hx=>by rw [ht,if_pos hx]
   rw [q1 (a-o) ∅,q1 (b-o) ∅,q1 j c1];exact this
  ·by_cases c2:j < l.size+r.size
   ·rw [en,if_neg c1,if_pos c2] at e;obtain⟨h1,h2,h3,h4,_⟩:=lg r (o+l.size) (j-l.size) .aX a b ∅ e;have:=N7 r (o+l.size) (j-l.size) a b ∅ e;have q1:∀x,¬x < l.size->x < l.size+r.size->ht (.node l r) x=ht r (x-l.size):=λx h1 h2=>by rw [ht,if_neg h1,if_pos h2]
    rw [q1 (a-o) ∅ ∅,q1 (b-o) ∅ ∅,q1 j c1 c2,Ff,Ff];exact this
   ·rw [en,if_neg c1,if_neg c2] at e;injection e with e1 e2;subst e1;subst e2;have er:(Tr.node l r).depth=max l.depth r.depth+1:=rfl;have ej:ht (.node l r) j=(Tr.node l r).depth:=by rw [ht,if_neg c1,if_neg c2]
    have e3:ht (.node l r) (o+l.size-1-o)=l.depth:=by rw [ht,if_pos ∅,show o+l.size-1-o=l.size-1 by omega,Jv]
    have e4:ht (.node l r) (o+l.size+r.size-1-o)=r.depth:=by rw [ht,if_neg ∅,if_pos ∅,show o+l.size+r.size-1-o-l.size=r.size-1 by omega,Jv]
    omega
theorem qC:∀(t:Tr) (o j:Nat) (w:Str),j < t.size->en t o j=.word w->w∈t.aJ
 | .leaf x,o,j,w,h,e=>by
  rw [en] at e;injection e with e;subst e;simp [Tr.aJ]
 | .node l r,o,j,w,h,e=>by
  have es:(Tr.node l r).size=l.size+r.size+1:=rfl;by_cases c1:j < l.size
  ·rw [en,if_pos c1] at e;exact Br _ (qC l o j w c1 e)
  ·by_cases c2:j < l.size+r.size
   ·rw [en,if_neg c1,if_pos c2] at e;exact AH _ (qC r _ (j-l.size) w ∅ e)
   ·rw [en,if_neg c1,if_neg c2] at e;cases e
inductive L6 (g:List Sy) (t:Tr):Nat->List Nat->PV->Prop
 | leaf {j:Nat}{p:List Nat}{i:Nat}{w:Str}:en t 0 j=.word w->Ch g (p++[i])->hm g i w=true->L6 g t j (p++[i]) (.tup [.tup (az (p++[i])),.str "found"])
 | node {j:Nat}{p:List Nat}{i a b:Nat}{nm:Str}{x y:Nat}{p1 p2:List Nat}{wa wb:PV}:en t 0 j=.pair a b->Ch g (p++[i])->(nm,x,y)∈Lq g i->L6 g t a (x::p1) wa->L6 g t b (y::p2) wb->L6 g t j (p++[i]) (.tup [.tup (az (p++[i])),.str nm,wa,wb])
def W5 (h:d∈Lq g i):(d.1==("found":Str))=false:=by
 have k1:(("doubled":Str)==("found":Str))=false:=by decide +kernel
 have k2:(("split":Str)==("found":Str))=false:=by decide +kernel
 have k3:(("over":Str)==("found":Str))=false:=by decide +kernel
 rcases AA.mp h with rfl | h
 ·exact k1
 rcases AX.mp h with h | h
 ·revert h;generalize (sy g i).un=l;intro h;unfold spl at h
  split at h
  ·simp at h;rcases h with rfl | rfl <;> exact k2
  ·cases h
 ·obtain⟨o,_,h⟩:=Cw.mp h;simp at h;rcases h with rfl | rfl <;> exact k3
def GB (t:Tr) (h:j < t.size):F2 (t.nd 0) j=en t 0 j:=by unfold F2;rw [Ap,fJ t 0 j h];rfl
def va (t:Tr) (h:j < t.size):pG j (en t 0 j):=by
 cases e:en t 0 j with
 | word w=>trivial
 | pair a b=>exact dF t h e
section
abbrev gP (g:List Sy) (t:Tr):List (List Bool):=tab g (t.nd 0) t.size
def Sl (G:WG g ws) (hj:j < t.size) (hi:i < g.length):fa (gP g t) j i=((sy g i).un.any (λl=>fa (gP g t) j l)||!(lD g (gP g t) (en t 0 j) i).isEmpty):=by
 have:=aaw G (es:=t.nd 0) (n:=t.size) hj hi (by rw [GB t hj];exact va t hj);rw [GB t hj] at this;exact this
def qr {m:Nat} (h:pG m e) (hm:m<=n):pG n e:=by
 cases e with
 | word w=>trivial
 | pair a b=>exact⟨Az h.1 hm,Az h.2 hm⟩
theorem rM (G:WG g ws):∀(n j:Nat),ht t j < n->j < t.size->∀(p:List Nat) (i:Nat),Ch g (p++[i])->lD g (gP g t) (en t 0 j) i≠[]->∀{Q:PV->Prop},(∀w,L6 g t j (p++[i]) w->Q w)->
  (cX n (iI g) (.cl ((t.nd 0).map Ent.pv)) (.cl (tT (gP g t))) (.int (j:Int)) (.tup (az (p++[i])))).run Q
 | 0,j,h,_,_,_,_,_,_,_=>by omega
 | n+1,j,h,hj,p,i,hc,hd,Q,q=>by
  have hi:=hc.last;have fw:=Gg g (t.nd 0) t.size;have ej:=fJ t 0 j hj;unfold cX;simp only [gt,cr,gc,ay,bb,lL,sK,ga];refine W.le.use (kU G ej hi fw (qr (va t hj) ∅)) ?_;have ll:(lD g (gP g t) (en t 0 j) i).length<=63:=by
   cases e:en t 0 j with
   | word w=>unfold lD;simp only;split <;> simp
   | pair a b=>unfold lD;exact Bt (A5 _ _) (SN G hi)
  refine pick_run (λz=>hd (Fo.mp z)) (by rw [Af];omega) λx hx=>?_;obtain⟨d,Sa,rfl⟩:=Aw.mp hx;have e1:∀s:Str,of2 di (.str s) (.str "found")=.ret (.bl (s==("found":Str))):=λs=>by rw [sH,re ⟨by simp,by simp,by simp⟩,OA]
  simp only [d3,WQ,ga,e1,gt,br];cases e:en t 0 j with
  | word w=>
   rw [e] at Sa hd;have Sa:d∈(if hm g i w=true then [(("found",i,i):Dd)] else []):=Sa;have hh:hm g i w=true:=by
    cases c:hm g i w with
    | true=>rfl
    | false=>rw [c] at Sa;cases Sa
   rw [if_pos hh] at Sa;have:=Bc.mp Sa;subst this;simp only [beq_self_eq_true,if_true,ga];exact q _ (.leaf e hc hh)
  | pair a b=>
   rw [e] at Sa hd;obtain⟨ê,Ñ⟩:=AQ.mp Sa;rw [AO] at Ñ;obtain⟨l1,l2⟩:=Pb G hi ê;obtain⟨a1,b1⟩:=dF t hj e;obtain⟨t1,t2⟩:=N7 t 0 j a b hj e;rw [DY] at t1 t2;have ha:a < t.size:=by omega
   have hb:b < t.size:=by omega
   have j0:bW [PV.int (a:Int),PV.int (b:Int)] 0=ap (.int a):=rfl;have j1:bW [PV.int (a:Int),PV.int (b:Int)] 1=ap (.int b):=rfl;simp only [W5 ê,Al,if_false,bJ,gt,cr,bb,GC t hj,e,Ent.pv,sK,ga,ay,j0,j1];have Ui:∀(k:Nat),k < t.size->∀i,i < g.length->fa (gP g t) k i=((sy g i).un.any (λl=>fa (gP g t) k l)||!(lD g (gP g t) (en t 0 k) i).isEmpty):=λk hk i hi=>Sl G hk hi;refine uN G (fJ t 0 a ha) fw ha (qr (va t ha) ∅) (Ui a ha) l1 Ñ.1 λp1 m1 c1 h1 k1=>?_;refine rM G n a ∅ ha p1 m1 c1 k1 λwa Wa=>?_;refine uN G (fJ t 0 b hb) fw hb (qr (va t hb) ∅) (Ui b hb) l2 Ñ.2 λp2 m2 c2 h2 k2=>?_;refine rM G n b ∅ hb p2 m2 c2 k2 λwb Wb=>?_;obtain⟨r1,e1⟩:∃r,p1++[m1]=d.2.1::r:=by
    cases hx:p1++[m1] with
    | nil=>rw [hx] at h1;cases h1
    | cons y r=>rw [hx] at h1;cases h1;exact⟨r,rfl⟩
   obtain⟨r2,e2⟩:∃r,p2++[m2]=d.2.2::r:=by
    cases hx:p2++[m2] with
    | nil=>rw [hx] at h2;cases h2
    | cons y r=>rw [hx] at h2;cases h2;exact⟨r,rfl⟩
   rw [e1] at Wa;rw [e2] at Wb;exact q _ (.node e hc ê Wa Wb)
theorem PU.fa (G:WG g ws) (hj:j < t.size) (r:PU g i k):i < g.length->My.fa (gP g t) j k=true->My.fa (gP g t) j i=true:=by
 induction r with
 | refl i=>intro _ h;exact h
 | @step i u k hu _ ih=>
  intro hi h;have:=G.dn i hi u hu;have h1:=ih ∅ h;rw [Sl G hj hi,E5];exact .inl (BO.mpr ⟨u,hu,h1⟩)
theorem UO (G:WG g ws) (hw:∀w∈t.aJ,w∈ws):∀j,j < t.size->fa (gP g t) j (g.length-1)=true/\∃i,i < g.length/\lD g (gP g t) (en t 0 j) i≠[]:=λj=>by
 have gp:=G.pos
 induction j using DM with
 | ind j ih=>
  intro hj;cases e:en t 0 j with
  | word w=>
   obtain⟨i,hi,r,hh⟩:=G.adC w (hw w (qC t 0 j w hj e));have ne:lD g (gP g t) (.word w) i≠[]:=by
    show (if hm g i w=true then _ else _)≠[];rw [if_pos hh];simp
   refine⟨r.fa G hj ∅ ?_,i,hi,ne⟩;rw [Sl G hj hi,e,E5];refine .inr ?_;cases c:lD g (gP g t) (.word w) i with
   | nil=>exact absurd c ne
   | cons _ _=>rfl
  | pair a b=>
   obtain⟨ha,hb⟩:=dF t hj e;have h1:=(ih a ha ∅).1;have h2:=(ih b hb ∅).1;have mem:dbl (g.length-1)∈lD g (gP g t) (.pair a b) (g.length-1):=AQ.mpr ⟨.head _,by show (My.fa _ _ _&&My.fa _ _ _)=true;rw [h1,h2];rfl⟩;have ne:lD g (gP g t) (.pair a b) (g.length-1)≠[]:=λz=>by rw [z] at mem;cases mem
   refine⟨?_,g.length-1,by omega,ne⟩;rw [Sl G hj ∅,e,E5];refine .inr ?_;cases c:lD g (gP g t) (.pair a b) (g.length-1) with
   | nil=>exact absurd c ne
   | cons _ _=>rfl
theorem whole_run (G:WG g ws) (hw:∀w∈t.aJ,w∈ws) (hd:t.depth < 12) (hz:t.size<=900) (q:∀i w,L6 g t (t.size-1) [i] w->Q w):(cM (iI g) t.pv).run Q:=by
 have tp:=t.size_pos;have gl:=G.len;have nl:=t.bz 0;have fw:=Gg g (t.nd 0) t.size;have e1:qo dg [iI g]=.ret (.int (g.length:Int)):=by unfold iI;rw [bU,Af]
 have hr:t.size-1 < t.size:=by omega
 unfold cM;simp only [gt,cr];refine W.le.use (eI 12 t hd hz) ?_;refine W.le.use (RD G (es:=t.nd 0) ∅ λj hj=>by rw [nl] at hj;rw [GB t hj];exact va t hj) ?_;rw [nl];have el:((t.size:Int)-1)=((t.size-1:Nat):Int):=by omega
 simp only [gE,cu,ga,mH,el,e1,fB,re (cq (i:=0) (j:=(g.length:Int)) ∅ ∅),A1,oO];have ej:=fJ t 0 (t.size-1) hr;unfold az;refine wK (λi:Nat=>if (!(lD g (gP g t) (en t 0 (t.size-1)) i).isEmpty)=true then ap (PV.int (i:Int)) else bv) (λi hi R r=>?_) ?_
 ·have hi:=AN.mp hi;simp only [cr];refine W.le.use (kU G ej hi fw (qr (va t hr) ∅)) ?_;rw [EB];cases c:(lD g (gP g t) (en t 0 (t.size-1)) i).isEmpty with
  | false=>simpa [c] using r
  | true=>simpa [c] using r
 ·rw [JB];obtain⟨_,i,hi,ne⟩:=UO G hw (t.size-1) hr;refine pick_run (λz=>?_) ?_ λx hx=>?_
  ·have mem:i∈(Av g.length).filter λi=>!(lD g (gP g t) (en t 0 (t.size-1)) i).isEmpty:=AQ.mpr ⟨AN.mpr hi,by cases c:lD g (gP g t) (en t 0 (t.size-1)) i with | nil=>exact absurd c ne | cons _ _=>rfl⟩;rw [Fo.mp z] at mem;cases mem
  ·rw [Af];have:=A5 (λi=>!(lD g (gP g t) (en t 0 (t.size-1)) i).isEmpty) (Av g.length);rw [BR] at this;omega
  ·obtain⟨k,hk,rfl⟩:=Aw.mp hx;obtain⟨Ħ,ā⟩:=AQ.mp hk;have Ħ:=AN.mp Ħ;refine rM G 12 (t.size-1) (by have:=N6 t (t.size-1);omega) hr [] k Ħ (λz=>?_) λw h=>q k w h;rw [z] at ā;cases ā
end
end My
variable {P:Nat->List Nat}{p:List Nat}
namespace My
open PySem PySem.Spec PyProof.Rows L2 PL FL
def Ux (g:List Sy) (t:Tr) (V:Nat->PV) (P:Nat->List Nat) (j:Nat):Prop:=
 ∃q i,P j=q++[i]/\Ch g (q++[i])/\((∃w,en t 0 j=.word w/\hm g i w=true/\V j=.tup [.tup (az (P j)),.str "found"])\/
  ∃a b nm x y r1 r2,en t 0 j=.pair a b/\(nm,x,y)∈Lq g i/\P a=x::r1/\P b=y::r2/\V j=.tup [.tup (az (P j)),.str nm,V a,V b])
def Ux.congr {V V':Nat->PV}{P':Nat->List Nat} (h:Ux g t V P j) (h0:V' j=V j/\P' j=P j) (h1:∀a b,en t 0 j=.pair a b->(V' a=V a/\P' a=P a)/\V' b=V b/\P' b=P b):Ux g t V' P' j:=by
 obtain⟨q,i,e,c,h⟩:=h;refine⟨q,i,by rw [h0.2];exact e,c,?_⟩;rcases h with⟨w,e1,e2,e3⟩ | ⟨a,b,nm,x,y,r1,r2,e1,e2,e3,e4,e5⟩
 ·exact .inl ⟨w,e1,e2,by rw [h0.1,h0.2];exact e3⟩
 ·obtain⟨⟨k1,k2⟩,k3,k4⟩:=h1 a b e1;exact .inr ⟨a,b,nm,x,y,r1,r2,e1,e2,by rw [k2];exact e3,by rw [k4];exact e4,by rw [h0.1,h0.2,k1,k3];exact e5⟩
theorem vB:∀(s:Tr) (o:Nat),(∀k,k < s.size->en t 0 (o+k)=en s o k)->∀p w,L6 g t (o+s.size-1) p w->∃(V:Nat->PV) (P:Nat->List Nat),V (o+s.size-1)=w/\P (o+s.size-1)=p/\∀k,o<=k->k < o+s.size->Ux g t V P k
 | .leaf x,o,hs,p,w,h=>by
  have e0:en t 0 o=.word x:=hs 0 (by show 0 < 1;decide);have ei:o+(Tr.leaf x).size-1=o:=by show o+1-1=o;omega
  rw [ei] at h ⊢;cases h with
  | leaf e c hh=>exact⟨λ_=>_,λ_=>_,rfl,rfl,λk k1 k2=>by
    have:k=o:=by have:k < o+1:=k2;omega
    subst this;exact⟨_,_,rfl,c,.inl ⟨_,e,hh,rfl⟩⟩⟩
  | node e _ _ _ _=>rw [e0] at e;cases e
 | .node l r,o,hs,p,w,h=>by
  have es:(Tr.node l r).size=l.size+r.size+1:=rfl;have lp:=l.size_pos;have rp:=r.size_pos;have er:en t 0 (o+(l.size+r.size))=.pair (o+l.size-1) (o+l.size+r.size-1):=by rw [hs _ ∅,en,if_neg ∅,if_neg ∅]
  have ei:o+(Tr.node l r).size-1=o+(l.size+r.size):=by omega
  rw [ei] at h ⊢;have hl:∀k,k < l.size->en t 0 (o+k)=en l o k:=λk hk=>by rw [hs k ∅,en,if_pos hk]
  have hr:∀k,k < r.size->en t 0 (o+l.size+k)=en r (o+l.size) k:=λk hk=>by rw [A3,hs _ ∅,en,if_neg ∅,if_pos ∅,BN]
  cases h with
  | leaf e _ _=>rw [er] at e;cases e
  | @node _ q i a b nm x y p1 p2 wa wb e c hd h1 h2=>
  rw [er] at e;injection e with ea eb;subst ea;subst eb;obtain⟨V1,P1,a1,a2,a3⟩:=vB l o hl _ _ h1;obtain⟨V2,P2,b1,b2,b3⟩:=vB r (o+l.size) hr _ _ h2
  let V:Nat->PV:=λk=>if k < o+l.size then V1 k else if k < o+l.size+r.size then V2 k else .tup [.tup (az (q++[i])),.str nm,wa,wb]
  let P:Nat->List Nat:=λk=>if k < o+l.size then P1 k else if k < o+l.size+r.size then P2 k else q++[i]
  have v1:∀k,k < o+l.size->V k=V1 k/\P k=P1 k:=λk hk=>⟨if_pos hk,if_pos hk⟩;have v2:∀k,o+l.size<=k->k < o+l.size+r.size->V k=V2 k/\P k=P2 k:=λk h1 h2=>⟨(if_neg ∅).trans (if_pos h2),(if_neg ∅).trans (if_pos h2)⟩;have v3:V (o+(l.size+r.size))=.tup [.tup (az (q++[i])),.str nm,wa,wb]/\P (o+(l.size+r.size))=q++[i]:=⟨(if_neg ∅).trans (if_neg ∅),(if_neg ∅).trans (if_neg ∅)⟩;refine⟨V,P,v3.1,v3.2,λk k1 k2=>?_⟩;by_cases c1:k < o+l.size
  ·refine (a3 k k1 c1).congr (v1 k c1) λa b ek=>?_;have:=hl (k-o) ∅;rw [show o+(k-o)=k by omega,ek] at this;obtain⟨m1,m2,m3,m4,_⟩:=lg l o (k-o) .aX a b ∅ this.symm;exact⟨v1 a ∅,v1 b ∅⟩
  ·by_cases c2:k < o+l.size+r.size
   ·refine (b3 k ∅ c2).congr (v2 k ∅ c2) λa b ek=>?_;have:=hr (k-(o+l.size)) ∅;rw [show o+l.size+(k-(o+l.size))=k by omega,ek] at this;obtain⟨m1,m2,m3,m4,_⟩:=lg r (o+l.size) (k-(o+l.size)) .aX a b ∅ this.symm;exact⟨v2 a ∅ ∅,v2 b ∅ ∅⟩
   ·have:k=o+(l.size+r.size):=by omega
    subst this;refine⟨q,i,v3.2,c,.inr ⟨_,_,nm,x,y,p1,p2,er,hd,?_,?_,?_⟩⟩
    ·rw [(v1 (o+l.size-1) ∅).2];exact a2
    ·rw [(v2 (o+l.size+r.size-1) ∅ ∅).2];exact b2
    ·rw [v3.1,v3.2,(v1 (o+l.size-1) ∅).1,(v2 (o+l.size+r.size-1) ∅ ∅).1,a1,b1]
def Pf (l:List PV) (h:a<=l.length):dZ l (ap (a:Int)) bv=l.drop a:=by
 unfold dZ;rw [HT.qY,HT.vV,E2 h,Cd (by simp)]
theorem Qy (h:i < g.length):jg (iI g) (.int (i:Int))=.ret (.bl true):=by
 unfold jg iI;have c1:(0:Int)<=(i:Int):=by omega
 have c2:(i:Int) < (g.length:Int):=by omega
 simp only [gt,Mc,gF,OK,bU,Af,zA,c1,c2,decide_true,u7]
theorem yN:∀{p:List Nat},Ch g p->(mapW (f6 (az p) (az (p.drop 1))) λIX=>am (oj IX) λom=>am (am (cW (iI g) om.1) av) λl=>am (rX false om.2 l) blW).le (.ret ((Am (p.length-1) true).map PV.bl))
 | [i],h=>λQ q=>by
  have e:f6 (az [i]) (az ([i].drop 1))=[]:=by show f6 [PV.int (i:Int)] []=[];rw [f6];simp
  rw [e];exact q
 | i::k::r,h=>λQ q=>by
  show (am (am (oj _) _) λy=>am (mapW _ _) λm=>bm (y::m)).run Q;simp only [mG,gt,mT h.1,ay,G3,h.2.1,decide_true,Al,if_false,aay,cr];exact W.le.use (yN (p:=k::r) h.2.2) q
def Ch.ne (h:Ch g p):1<=p.length:=by
 cases p with
 | nil=>exact h.elim
 | cons a p=>simp
theorem IV (G:WG g ws) (h:Ch g p):(jh (iI g) (.tup (az p))).le (.ret (.bl true)):=λQ q=>by
 have hn:=h.ne;have hl:p.length<=301:=by
  cases p with
  | nil=>simp
  | cons a p=>have:=h.len G;have:=h.lt a (.head _);have:=G.len;rw [Ao];omega
 unfold jh;have c0:((p.length:Int)==0)=false:=beq_eq_false_iff_ne.mpr ∅;simp only [gt,cr,dE,xk,a7,ga,Bq,Al,if_false,bU,aZ,cI,br,c0,ay];refine uM (λ_=>.bl true) (λk hk=>Qy (h.lt k hk)) ?_;have e1:p.map (λ_=>PV.bl true)=(p.map λ_=>true).map PV.bl:=by rw [AY];rfl
 have e2:(p.map λ_=>true).all id=true:=by simp
 rw [e1,n6,e2];have e3:dZ (az p) (ap 1) bv=az (p.drop 1):=by
  have:=Pf (az p) (a:=1) (by rw [aZ];exact hn);rw [show ((1:Nat):Int)=1 from rfl] at this;rw [this];unfold az;rw [List.map_drop]
 simp only [ga,a7,Bq,Al,if_false,eW,iO,e3,ay,cr];refine⟨a9 (by rw [aZ];omega),?_⟩;show (mapW _ _).run _;refine W.le.use (yN h) ?_;rw [n6];have e4:(Am (p.length-1) true).all id=true:=by simp
 rw [e4];exact q
def K4 (G:WG g ws) {V:Nat->PV} (h:Ux g t V P j):(fN (iI g) (en t 0 j).pv (V j)).le (.ret (.bl true)):=λQ q=>by
 obtain⟨p,i,e,c,h⟩:=h;unfold fN;rcases h with⟨w,e1,e2,e3⟩ | ⟨a,b,nm,x,y,r1,r2,e1,e2,e3,e4,e5⟩
 ·have j0:bW [PV.tup (az (P j)),.str "found"] 0=ap (.tup (az (P j))):=rfl;have j1:bW [PV.tup (az (P j)),.str "found"] 1=ap (.str "found"):=rfl;rw [e1,e3];simp only [Ent.pv,gt,eX,fD,a7,if_true,Gr,Ao,A2];show (LH (.bl true) _).run Q;simp only [gF,ay,gt,bb,j0,j1,sK,cr];rw [e];refine W.le.use (IV G c) ?_;simp only [gF,eX,fD];exact q
 ·have j0:bW [PV.tup (az (P j)),.str nm,V a,V b] 0=ap (.tup (az (P j))):=rfl;have j1:bW [PV.tup (az (P j)),.str nm,V a,V b] 1=ap (.str nm):=rfl;rw [e1,e5];simp only [Ent.pv,gt,dE,fC,a7,Al,if_false,Gr,Ao,A2];show (LH (.bl true) _).run Q;simp only [gF,ay,gt,bb,j0,j1,sK,cr];rw [e];refine W.le.use (IV G c) ?_;exact q
def pb (t:Tr) (k m:Nat):Bool:=match jZ t 0 k .aX with
 | .int a=>decide ((m:Int)<=a)
 | _=>true
def yx (t:Tr) (V:Nat->PV) (m:Nat):List PV:=(Av t.size).map λk=>if pb t k m=true then V k else .aX
@[simp] theorem IA (t:Tr) (V:Nat->PV) (m:Nat):(yx t V m).length=t.size:=by unfold yx;simp
def qc (t:Tr) (V:Nat->PV) (m:Nat) (h:k < t.size):(yx t V m)[k]?=ap (if pb t k m=true then V k else .aX):=by unfold yx;simp [h]
def yM (h:k < t.size):(k=t.size-1/\∀m,pb t k m=true)\/∃a u v,k < a/\a < t.size/\en t 0 a=.pair u v/\(u=k\/v=k)/\∀m,pb t k m=decide (m<=a):=by
 rcases iP t 0 k .aX h with⟨h1,h2⟩ | ⟨a,u,v,h1,h2,h3,h4,h5⟩
 ·exact .inl ⟨h1,λm=>by unfold pb;rw [h2]⟩
 ·rw [AI] at h3 h5;refine .inr ⟨a,u,v,h1,h2,h4,h5,λm=>?_⟩;unfold pb;rw [h3];rw [Cm];simp
theorem J5 (t:Tr) (V:Nat->PV):((Av t.size).map λ_=>PV.aX).set (t.size-1) (V (t.size-1))=yx t V t.size:=by
 apply Bi;intro k;by_cases hk:k < t.size
 ·rw [qc t V _ hk];rcases yM hk with⟨h1,h2⟩ | ⟨a,u,v,h1,h2,h3,h4,h5⟩
  ·rw [h2,if_pos rfl,<- h1,Bu (by simp;exact hk)]
  ·rw [h5,decide_eq_false ∅,Bb ∅];simp [hk]
 ·rw [Ax (by simp;omega),Ax (by simp;omega)]
theorem Mq {V:Nat->PV}{w:Str} (e:en t 0 j=.word w):yx t V (j+1)=yx t V j:=by
 unfold yx;refine Ct λk hk=>?_;have hk:=AN.mp hk;rcases yM hk with⟨h1,h2⟩ | ⟨a,u,v,h1,h2,h3,h4,h5⟩
 ·rw [h2,h2]
 ·have:a≠j:=λz=>by subst z;rw [h3] at e;cases e
  rw [h5,h5];have:decide (j+1<=a)=decide (j<=a):=by rw [Cm];simp;omega
  rw [this]
theorem Mr {V:Nat->PV} (hj:j < t.size) (e:en t 0 j=.pair a b):((yx t V (j+1)).set a (V a)).set b (V b)=yx t V j:=by
 obtain⟨h1,h2,h3,h4,h5,h6,h7⟩:=lg t 0 j .aX a b hj e;rw [AI,DY] at *;have pk:∀k,jZ t 0 k .aX=.int ((j:Nat):Int)->pb t k j=true:=λk hk=>by unfold pb;rw [hk];simp
 apply Bi;intro k;by_cases hk:k < t.size
 ·rw [qc t V j hk];by_cases cb:b=k
  ·subst cb;rw [Bu (by simp;exact hk),pk b h7,if_pos rfl]
  ·rw [Bb cb];by_cases ca:a=k
   ·subst ca;rw [Bu (by simp;exact hk),pk a h6,if_pos rfl]
   ·rw [Bb ca,qc t V _ hk];rcases yM hk with⟨k1,k2⟩ | ⟨a',u,v,k1,k2,k3,k4,k5⟩
    ·rw [k2,k2]
    ·have:a'≠j:=λz=>by
      subst z;rw [k3] at e;injection e with e1 e2;rcases k4 with rfl | rfl
      ·exact ca e1.symm
      ·exact cb e2.symm
     rw [k5,k5];have:decide (j+1<=a')=decide (j<=a'):=by rw [Cm];simp;omega
     rw [this]
 ·rw [Ax (by simp;omega),Ax (by simp;omega)]
def Qz (t:Tr) (V:Nat->PV):yx t V 0=(Av t.size).map V:=by
 refine Ct λk hk=>?_;rcases yM (AN.mp hk) with⟨h1,h2⟩ | ⟨a,u,v,h1,h2,h3,h4,h5⟩
 ·rw [h2,if_pos rfl]
 ·rw [h5,decide_eq_true (A7 _),if_pos rfl]
theorem Qh (G:WG g ws) (hz:t.size<=900) {V:Nat->PV} (h:∀k,k < t.size->Ux g t V P k):(cZ (iI g) (.tup ((t.nd 0).map Ent.pv)) (V (t.size-1))).le (.ret (.cl ((Av t.size).map V))):=λQ q=>by
 have tp:=t.size_pos;unfold cZ;simp only [gt,cr,ay];refine GK (λ_=>.aX) (λx hx=>rfl) ?_;have e0:((t.nd 0).map Ent.pv).map (λ_=>PV.aX)=(Av t.size).map λ_=>PV.aX:=by rw [DP,DP,cu,BR]
 have ei:nA t.size (-1)=ap (t.size-1):=by
  unfold nA;rw [if_neg ∅,if_pos ∅];congr 1;omega
 have es:∀v,f7 ((Av t.size).map λ_=>PV.aX) (.int (-1)) v=.ret (((Av t.size).map λ_=>PV.aX).set (t.size-1) v):=λv=>by
  show (match nA ((Av t.size).map λ_=>PV.aX).length (-1) with | some j=>_ | none=>_)=_;rw [Af,BR,ei]
 have Ĵ:(((t.size:Nat):Int)-1 - -1).toNat=t.size:=by omega
 rw [e0];simp only [gc,ga,es,J5,bU,cu,mH,JE,Ĵ];refine⟨⟨trivial,cq ∅ ∅⟩,?_⟩;refine JA (λi s=>i<=t.size/\s=yx t V (t.size-i)) ⟨A7 _,rfl⟩ (λi x s hx hs=>?_) (λs hs=>?_)
 ·obtain⟨_,rfl⟩:=hs;obtain⟨hi,rfl⟩:=o5 hx;obtain⟨j,hj⟩:∃j:Nat,j=t.size-1-i:=⟨_,rfl⟩;have ej:(((t.size:Nat):Int)-1-(i:Int))=(j:Int):=by omega
  have Jw:j < t.size:=by omega
  rw [ej,show t.size-i=j+1 by omega,show t.size-(i+1)=j by omega];have at1:bW (yx t V (j+1)) (j:Int)=ap (V j):=bV (by
   rw [qc t V _ Jw];rcases yM Jw with⟨_,h2⟩ | ⟨a,u,v,h1,h2,h3,h4,h5⟩
   ·rw [h2,if_pos rfl]
   ·rw [h5,decide_eq_true ∅,if_pos rfl])
  simp only [bb,GC t Jw,sK,ga,at1,cr];refine W.le.use (K4 G (h j Jw)) ?_;simp only [a7,ga,Bq,Al,if_false,cr,uV,ay,eW];obtain⟨p,ii,e,c,hh⟩:=h j Jw;rcases hh with⟨w,e1,e2,e3⟩ | ⟨a,b,nm,x,y,r1,r2,e1,e2,e3,e4,e5⟩
  ·have ec:dZ [PV.tup (az (P j)),.str "found"] (ap 2) bv=[]:=rfl;rw [e1,e3];simp only [iO,ec,ga,ay,L0,kN];have ez:mP [] []=.ret []:=by unfold mP;rw [re (a9 (by simp))];congr 1
   rw [ez];exact⟨by omega,Mq e1⟩
  ·have ec:dZ [PV.tup (az (P j)),.str nm,V a,V b] (ap 2) bv=[V a,V b]:=rfl;rw [e1,e5];obtain⟨ha,hb⟩:=dF t Jw e1;simp only [iO,ec,ga,ay,L0,lH,kN];have ez:mP [PV.int (a:Int),PV.int (b:Int)] [V a,V b]=.ret [.tup [.int (a:Int),V a],.tup [.int (b:Int),V b]]:=by
    unfold mP;rw [re (a9 (by simp))];congr 1
   have s1:f7 (yx t V (j+1)) (.int (a:Int)) (V a)=.ret ((yx t V (j+1)).set a (V a)):=jG (by rw [IA];omega);have s2:f7 ((yx t V (j+1)).set a (V a)) (.int (b:Int)) (V b)=.ret (((yx t V (j+1)).set a (V a)).set b (V b)):=jG (by rw [BU,IA];omega);rw [ez];simp only [ga,dD,mG,gt,s1,s2,cr];exact⟨by omega,Mr Jw e1⟩
 ·obtain⟨_,rfl⟩:=hs;have el:(ml (((t.size:Nat):Int)-1) t.size).length=t.size:=by unfold ml;simp
  rw [el,Cp,Qz];exact q
end My
variable {w:PL.PV}
namespace My
open PySem PySem.Spec PyProof.Rows L2 PL FL
def dl (g:List Sy) (i:Nat):List Dd:=dbl i::(spl (sy g i).un++((sy g i).be.map (λo=>(("over",i,o):Dd))++(sy g i).be.map (λo=>(("over",o,i):Dd))))
def W6 (h:d∈Lq g i):d∈dl g i:=by
 rcases AA.mp h with rfl | h
 ·exact .head _
 refine AV _ ?_;rcases AX.mp h with h | h
 ·exact Br _ h
 ·obtain⟨o,ho,h⟩:=Cw.mp h;refine AH _ ?_;simp at h;rcases h with rfl | rfl
  ·exact Br _ (Aw.mpr ⟨o,ho,rfl⟩)
  ·exact AH _ (Aw.mpr ⟨o,ho,rfl⟩)
theorem W4 (G:WG g ws) (h:i < g.length):(dl g i).length<=63:=by
 unfold dl;simp only [Ao,Ae,Af];have:=vP (sy g i).un;have:=G.SU i h;omega
theorem SK (d:Dd):oM (d2 d)=true:=rfl
def Hq (d:Dd):PV.kf (d2 d)=true:=by simp [d2]
def Sk (d:Dd):PV.iM (d2 d)<=2:=by simp [d2]
def KI (p:Nat×Nat):PV:=.tup [.int (p.1:Int),.int (p.2:Int)]
def Mt (G:WG g ws) (h:i < g.length):fK (iI g) (.int (i:Int))=.ret ((spl (sy g i).un).map λd=>KI (d.2.1,d.2.2)):=by
 unfold fK;simp only [gt,mT h];have hu:=G.oj i h;revert hu;generalize (sy g i).un=l;intro hu
 match l,hu with
 | [],_=>simp only [bU,lH,kN,Ao,A2,cI,gt,br];rfl
 | [a],_=>simp only [bU,lH,kN,Ao,A2,cI,gt,br];rfl
 | [a,b],_=>
  have i0:bW [PV.int (a:Int),PV.int (b:Int)] 0=ap (.int (a:Int)):=rfl;have i1:bW [PV.int (a:Int),PV.int (b:Int)] 1=ap (.int (b:Int)):=rfl;simp only [bU,lH,kN,Ao,A2,cI,gt,br,ay,bb,i0,i1,sK];rfl
theorem Rb (G:WG g ws) (h:i < g.length):gU (iI g) (.int (i:Int))=.ret ((sy g i).be.map (λo=>KI (i,o))++(sy g i).be.map (λo=>KI (o,i))):=by
 unfold gU;have l3:=G.SU i h;simp only [gt,LG h,ay];rw [nr (g:=λo=>KI (i,o)) λk hk=>rfl];rw [nr (g:=λo=>KI (o,i)) λk hk=>rfl];simp only [gt];rw [gh (by simp;omega)]
theorem Lo (G:WG g ws) (h:i < g.length) {Q:List PV->Prop} (q:∀m:List PV,m.Perm ((dl g i).map d2)->Q m):(fj (iI g) (Ent.pair a b).pv (.int (i:Int))).run Q:=by
 have l63:=W4 G h;unfold fj;simp only [Ent.pv,gt,cr,dE,fC,a7,ga,Al,if_false,Mt G h,Rb G h];refine iw (λd:Dd=>.tup [.str "split",KI (d.2.1,d.2.2)]) (λd _ R r=>r) ?_;have em:(sy g i).be.map (λo=>KI (i,o))++(sy g i).be.map (λo=>KI (o,i))=((sy g i).be.map (λo=>((i,o):Nat×Nat))++(sy g i).be.map (λo=>(o,i))).map KI:=by
  rw [AM,AY,AY];rfl
 rw [em];refine iw (λp:Nat×Nat=>.tup [.str "over",KI p]) (λp _ R r=>r) ?_;simp only [ga,lS,gt];have es:(spl (sy g i).un).map (λd=>PV.tup [.str "split",KI (d.2.1,d.2.2)])=(spl (sy g i).un).map d2:=by
  refine Ct λd hd=>?_;have:d.1=("split":Str):=by
   revert hd;generalize (sy g i).un=l;intro hd;unfold spl at hd
   split at hd
   ·simp at hd;rcases hd with rfl | rfl <;> rfl
   ·cases hd
  unfold d2 KI;rw [this]
 have eo:((sy g i).be.map (λo=>((i,o):Nat×Nat))++(sy g i).be.map (λo=>(o,i))).map (λp=>PV.tup [.str "over",KI p])=((sy g i).be.map (λo=>(("over",i,o):Dd))++(sy g i).be.map (λo=>(("over",o,i):Dd))).map d2:=by
  simp only [AM,AY];rfl
 rw [es,eo];have ll:(dl g i).length=1+(spl (sy g i).un).length+((sy g i).be.map (λo=>(("over",i,o):Dd))++(sy g i).be.map (λo=>(("over",o,i):Dd))).length:=by
  unfold dl;simp only [Ao,Ae];omega
 rw [gh (by simp only [Af,Ao,A2];omega)];simp only [ga];rw [gh (by simp only [Af,Ae,Ao,A2] at *;omega)];have e:([PV.tup [.str "doubled",.tup [.int (i:Int),.int (i:Int)]]]++(spl (sy g i).un).map d2)++((sy g i).be.map (λo=>(("over",i,o):Dd))++(sy g i).be.map (λo=>(("over",o,i):Dd))).map d2=(dl g i).map d2:=by
  unfold dl;simp only [Au,AM,AR];rfl
 simp only [ga];rw [e];refine⟨⟨by rw [Af];omega,Cz.mpr λx hx=>?_⟩,λm hm=>q m hm⟩;obtain⟨d,_,rfl⟩:=Aw.mp hx;exact SK d
def N4 {l:List Dd} (hp:m.Perm (l.map d2)) (hd:d∈l):rX false (d2 d) m=.ret true:=by
 have h1:G5 (d2 d) m:=⟨Hq d,jr.mpr λx hx=>by
  obtain⟨k,_,rfl⟩:=Aw.mp (hp.mem_iff.mp hx);exact Hq k,Bt (jt (n:=2) λx hx=>by
  obtain⟨k,_,rfl⟩:=Aw.mp (hp.mem_iff.mp hx);exact Sk k) ⋯⟩
 have h2:w4 (d2 d) m=true:=BO.mpr ⟨d2 d,hp.mem_iff.mpr (Aw.mpr ⟨d,hd,rfl⟩),zx _ (Hq d)⟩;unfold rX;rw [re h1,h2];rfl
theorem SI (G:WG g ws) {V:Nat->PV} (hj:j < t.size) (H:∀k,k < t.size->Ux g t V P k):(jm (iI g) (en t 0 j).pv (V j)).le (.ret (.bl true)):=λQ q=>by
 obtain⟨p,i,e,c,h⟩:=H j hj;have hi:=c.last;unfold jm nu fi;rcases h with⟨w,e1,e2,e3⟩ | ⟨a,b,nm,x,y,r1,r2,e1,e2,e3,e4,e5⟩
 ·have j0:bW [PV.tup (az (P j)),.str "found"] 0=ap (.tup (az (P j))):=rfl;have j1:bW [PV.tup (az (P j)),.str "found"] 1=ap (.str "found"):=rfl;have ec:dZ [PV.tup (az (P j)),.str "found"] (ap 2) bv=[]:=rfl;have em:∀f,mapW [] f=.ret []:=λ_=>rfl;rw [e1,e3];simp only [gt,cr,ay,bb,j0,j1,sK,ga,eW,iO,ec,em,sG,gc];rw [e];simp only [lL,sK,ga];unfold fj;simp only [Ent.pv,gt,cr,eX,fD,a7,ga,if_true,R6 G hi,e2];have h1:G5 (.tup [.str "found",.tup []]) [PV.tup [.str "found",.tup []]]:=⟨by simp,by simp,by simp⟩;refine⟨h1,?_⟩;exact q
 ·have j0:bW [PV.tup (az (P j)),.str nm,V a,V b] 0=ap (.tup (az (P j))):=rfl;have j1:bW [PV.tup (az (P j)),.str nm,V a,V b] 1=ap (.str nm):=rfl;have ec:dZ [PV.tup (az (P j)),.str nm,V a,V b] (ap 2) bv=[V a,V b]:=rfl;obtain⟨ha,hb⟩:=dF t hj e1;have Ý:∀k z r,k < t.size->P k=z::r->dm (V k)=.ret (.int (z:Int)):=λk z r hk hz=>by
   obtain⟨_,_,_,_,hh⟩:=H k hk;have:∃l,V k=.tup (.tup (az (z::r))::l):=by
    rcases hh with⟨w,_,_,e3⟩ | ⟨a,b,nm,x,y,r1,r2,_,_,_,_,e5⟩
    ·exact⟨_,by rw [e3,hz]⟩
    ·exact⟨_,by rw [e5,hz]⟩
   obtain⟨l,el⟩:=this;have k0:bW (PV.tup (az (z::r))::l) 0=ap (.tup (az (z::r))):=bV (j:=0) rfl;have k1:bW (az (z::r)) 0=ap (.int (z:Int)):=bV (j:=0) rfl;unfold dm;rw [el];simp only [gt,ay,bb,k0,k1,sK]
  have c1:=Ý a x r1 ∅ e3;have c2:=Ý b y r2 ∅ e4;have em:mapW [V a,V b] (λp5=>dm p5)=.ret [.int (x:Int),.int (y:Int)]:=by
   show am (dm (V a)) (λu=>am (am (dm (V b)) λv=>[]\λm=>bm (v::m)) λm=>bm (u::m))=_;rw [c1,c2];rfl
  rw [e1,e5];simp only [gt,cr,ay,bb,j0,j1,sK,ga,eW,iO,ec,em,sG,gc];rw [e];simp only [lL,sK,ga];refine Lo G hi λm hm=>?_;have:=N4 (d:=(nm,x,y)) hm (W6 e2);have e6:d2 (nm,x,y)=.tup [.str nm,.tup [.int (x:Int),.int (y:Int)]]:=rfl;rw [e6] at this;rw [this];exact q
theorem Qb (t:Tr) (f:Nat->PV):f6 ((t.nd 0).map Ent.pv) ((Av t.size).map f)=(Av t.size).map λj=>PV.tup [(en t 0 j).pv,f j]:=by
 refine Bi λj=>?_;have hz:(f6 ((t.nd 0).map Ent.pv) ((Av t.size).map f)).length=t.size:=by rw [lx];simp [t.bz]
 by_cases hj:j < t.size
 ·have hl:j < (f6 ((t.nd 0).map Ent.pv) ((Av t.size).map f)).length:=by omega
  obtain⟨x,y,hx,hy,e⟩:=mQ (Ad hl);rw [Ai,fJ t 0 j hj] at hx;have tE:=Option.some.inj hx;rw [Ai,Bw hj] at hy;have R1:=Option.some.inj hy;rw [Ad hl,e,<- tE,<- R1,Ai,Bw hj];rfl
 ·rw [Ax ∅,Ax (by simp;omega)]
def Qo (hw:t.Ws) (hz:t.size<=900):(lI t.pv).le (.ret (.bl true)):=λQ q=>by
 exact Ol t hw true (.inl rfl) hz Q q
theorem zc (G:WG g ws) (hw:t.Ws) (hz:t.size<=900) (h:L6 g t (t.size-1) p w):(je (iI g) t.pv w).le (.ret (.bl ((p.length:Int)==1))):=λQ q=>by
 have tp:=t.size_pos;obtain⟨V,P,v1,v2,H⟩:=vB t 0 (λk hk=>by rw [AI]) p w (by rw [AI];exact h);rw [AI] at v1 v2;have H:∀k,k < t.size->Ux g t V P k:=λk hk=>H k (A7 _) ∅;subst v1;subst v2;unfold je;simp only [gt,cr];refine W.le.use (Qo hw hz) ?_;simp only [a7,ga,Bq,Al,if_false,cr];refine W.le.use (nj t hz) ?_;refine W.le.use (Qh G hz H) ?_;obtain⟨l,el⟩:∃l,V (t.size-1)=.tup (.tup (az (P (t.size-1)))::l):=by
  obtain⟨_,_,_,_,hh⟩:=H (t.size-1) ∅;rcases hh with⟨w,_,_,e3⟩ | ⟨a,b,nm,x,y,r1,r2,_,_,_,_,e5⟩
  ·exact⟨_,e3⟩
  ·exact⟨_,e5⟩
 have k0:bW (PV.tup (az (P (t.size-1)))::l) 0=ap (.tup (az (P (t.size-1)))):=bV (j:=0) rfl;rw [el];simp only [oX,PV.me,br,ga,Al,if_false,ay,bb,k0,sK,bU,aZ,xj,gt];cases c:((P (t.size-1)).length:Int)==1 with
 | false=>
  rw [c] at q;simpa using q
 | true=>
  rw [c] at q;simp only [Bq,Al,if_false,bJ,cr,ga];refine⟨a9 (by rw [cu];omega),?_⟩;show (mapW _ _).run _;rw [Qb];refine iw (λ_=>.bl true) (λj hj R r=>?_) ?_
  ·have hj:=AN.mp hj;simp only [mG,gt];exact SI G hj H R r
  ·have e1:(Av t.size).map (λ_=>PV.bl true)=((Av t.size).map λ_=>true).map PV.bl:=by rw [AY];rfl
   have e2:((Av t.size).map λ_=>true).all id=true:=by simp
   rw [e1,n6,e2];exact q
theorem Dt.isD {d:Int} (D:Dt t ds [] d) (h:d<=99):RV t ds=true:=by
 unfold RV;rw [AO,AO,decide_eq_true_iff,decide_eq_true_iff];refine⟨D.len,?_,Cz.mpr λj hj=>?_⟩
 ·unfold J9;have hp:(splits t).Pairwise (· < ·):=by unfold splits;exact List.Pairwise.filter _ De
  rw [List.nodup_iff_pairwise_ne,Em];refine List.Pairwise.imp_of_mem (λ{x y} hx hy lt e=>?_) hp;obtain⟨x1,x2⟩:=AQ.mp hx;obtain⟨y1,y2⟩:=AQ.mp hy;have:=D.inj x y (AN.mp x1) (AN.mp y1) (by simp) (by simp) x2 y2 e;omega
 ·have hj':=AN.mp hj;unfold Zp;cases e:en t 0 j with
  | word w=>
   rw [D.zero j hj' (.inl (by rw [e];rfl))];rfl
  | pair a b=>
   obtain⟨_,_,h1,h2,h3,h4⟩:=D.up j hj' (by simp) a b e;show (decide (ds.getD a 0 < ds.getD j 0)&&decide (ds.getD b 0 < ds.getD j 0)&&decide (1<=ds.getD j 0)&&decide (ds.getD j 0<=99))=true;rw [decide_eq_true h1,decide_eq_true h2,decide_eq_true h3,decide_eq_true ∅];rfl
theorem sR:∀(t:Tr) (o:Nat),(t.nd o).countP uc+1=t.aJ.length
 | .leaf _,_=>rfl
 | .node l r,o=>by
  have h1:=sR l o;have h2:=sR r (o+l.size);rw [Tr.nd,Ec,Ec];show _+(List.countP uc [Ent.pair _ _])+1=(l.aJ++r.aJ).length;simp [uc];omega
theorem VP (t:Tr):t.nd 0=(Av t.size).map (en t 0):=by
 refine Bi λj=>?_;by_cases h:j < t.size
 ·rw [fJ t 0 j h,Ai,Bw h];rfl
 ·rw [Ax (by rw [t.bz];omega),Ax (by simp;omega)]
def Gk (t:Tr):(splits t).length+1=t.aJ.length:=by
 rw [<- sR t 0,VP t,List.countP_map];unfold splits;rw [<- List.countP_eq_length_filter];rfl
def PU.snoc (r:PU g i j) (hu:u∈(sy g j).un):PU g i u:=by
 induction r with
 | refl i=>exact .step hu (.refl _)
 | step h _ ih=>exact .step h (ih hu)
def gS (t:Tr):List Sy:=(Av t.size).map λj=>⟨Jb (en t 0 j) j,0,L0 (en t 0 j),X4 t j⟩
def sg (t:Tr) (h:j < t.size):sy (gS t) j=⟨Jb (en t 0 j) j,0,L0 (en t 0 j),X4 t j⟩:=by
 unfold sy gS;rw [Ap,Ai,Bw h];rfl
@[simp] theorem jS (t:Tr):(gS t).length=t.size:=by unfold gS;simp
def aam (t:Tr):iI (gS t)=.tup (grL t):=by
 unfold iI gS grL;rw [AY];congr 1
def TU (e:Ent) (j:Nat):(∃s,Jb e j=.str s)\/∃n,Jb e j=.int n:=by
 cases e with
 | word w=>exact .inl ⟨w,rfl⟩
 | pair a b=>exact .inr ⟨_,rfl⟩
def Wv (e:Ent):(L0 e).length<=2:=by cases e <;> simp [L0]
theorem qt:∀(s:Tr) (t:Tr) (o:Nat) (w:Str),(∀k,k < s.size->en t 0 (o+k)=en s o k)->o+s.size<=t.size->w∈s.aJ->∃i,i < t.size/\PU (gS t) (o+s.size-1) i/\en t 0 i=.word w
 | .leaf x,t,o,w,hs,hz,hw=>by
  have e0:en t 0 o=.word x:=hs 0 (by show 0 < 1;decide);have hz:o+1<=t.size:=hz;have:w=x:=by simpa [Tr.aJ] using hw
  subst this;exact⟨o,by omega,.refl _,e0⟩
 | .node l r,t,o,w,hs,hz,hw=>by
  have es:(Tr.node l r).size=l.size+r.size+1:=rfl;have er:en t 0 (o+(l.size+r.size))=.pair (o+l.size-1) (o+l.size+r.size-1):=by rw [hs _ ∅,en,if_neg ∅,if_neg ∅]
  have ei:o+(Tr.node l r).size-1=o+(l.size+r.size):=by omega
  have hl:∀k,k < l.size->en t 0 (o+k)=en l o k:=λk hk=>by rw [hs k ∅,en,if_pos hk]
  have hr:∀k,k < r.size->en t 0 (o+l.size+k)=en r (o+l.size) k:=λk hk=>by rw [A3,hs _ ∅,en,if_neg ∅,if_pos ∅,BN]
  have un:(sy (gS t) (o+(l.size+r.size))).un=[o+l.size-1,o+l.size+r.size-1]:=by rw [sg t ∅,er];rfl
  rw [ei];rcases AX.mp (show w∈l.aJ++r.aJ from hw) with hw | hw
  ·obtain⟨i,h1,h2,h3⟩:=qt l t o w hl ∅ hw;exact⟨i,h1,.step (by rw [un];simp) h2,h3⟩
  ·obtain⟨i,h1,h2,h3⟩:=qt r t (o+l.size) w hr ∅ hw;exact⟨i,h1,.step (by rw [un];simp) h2,h3⟩
theorem JW (hz:t.size<=30):WG (gS t) t.aJ:=by
 have tp:=t.size_pos;refine⟨by rw [jS];omega,by rw [jS];omega,λi hi u hu=>?_,λi hi=>?_,λi hi u hu=>?_,λi hi=>?_,λi hi=>?_,λw hw=>?_⟩
 ·rw [jS] at hi;rw [sg t hi] at hu;cases e:en t 0 i with
  | word w=>rw [e] at hu;cases hu
  | pair a b=>
   rw [e] at hu;have:=dF t hi e;have hu:u=a\/u=b:=by simpa [L0] using hu
   omega
 ·rw [jS] at hi;rw [sg t hi];exact Wv _
 ·rw [jS] at hi ⊢;rw [sg t hi] at hu;exact AN.mp (AQ.mp hu).1
 ·rw [jS] at hi;rw [sg t hi];have:=A5 (λk=>!decide (k∈up t 0 i [])&&!decide (i∈up t 0 k [])) (Av t.size);rw [BR] at this;show (X4 t i).length<=30;unfold X4;omega
 ·rw [jS] at hi;rw [sg t hi];exact TU _ _
 ·obtain⟨i,h1,h2,h3⟩:=qt t t 0 w (λk hk=>by rw [AI]) ∅ hw;rw [AI] at h2;refine⟨i,by rw [jS];exact h1,by rw [jS];exact h2,?_⟩;unfold hm;rw [sg t h1,h3];simp [L0,Jb,NZ]
def dS (t:Tr) (ds bs:List Int):List Sy:=(aR t ds bs bs.length).map λp=>⟨Jb (en t 0 p.1) p.1,p.2,(F3 (en t 0 p.1) p.1 (ds.getD p.1 0) (bs.getD p.2 0)).map λx=>(aR t ds bs bs.length).idxOf (x,p.2-1),Xe (aR t ds bs bs.length) p.1 p.2⟩
def aaM (t:Tr) (ds bs:List Int):iI (dS t ds bs)=.tup (X1 t ds bs):=by
 unfold iI dS X1;rw [AY];congr 1
@[simp] theorem W8 (t:Tr) (ds bs:List Int):(dS t ds bs).length=(aR t ds bs bs.length).length:=by unfold dS;rw [Af]
theorem ph (t:Tr) (ds bs:List Int):∀m,(aR t ds bs m).Pairwise λp q=>p.2<=q.2
 | 0=>.nil
 | m+1=>by
  rw [aR];have J7:∀p∈yz t ds (bs.getD m 0) m t.size,p.2=m:=λp hp=>by
   obtain⟨k,_,rfl⟩:=Aw.mp hp;rfl
  refine List.pairwise_append.mpr ⟨ph t ds bs m,?_,λa ha b hb=>?_⟩
  ·exact BW.mpr λi j hi hj _=>by rw [J7 _ (EC hi),J7 _ (EC hj)];exact An _
  ·have h1:=(gQ ha).1;rw [J7 b hb];omega
theorem uP (t:Tr) (ds bs:List Int) (n:Nat):∀m,((aR t ds bs m).filter λp=>decide (p.2=n)).length<=t.size
 | 0=>A7 _
 | m+1=>by
  rw [aR,List.filter_append,Ae];have ih:=uP t ds bs n m;by_cases c:n=m
  ·subst c;have z:(aR t ds bs n).filter (λp=>decide (p.2=n))=[]:=by
    rw [ER];intro p hp;have:=(gQ hp).1;simp;omega
   rw [z];have h1:=A5 (λp:Nat×Nat=>decide (p.2=n)) (yz t ds (bs.getD n 0) n t.size);have h2:=vO t ds (bs.getD n 0) n t.size;simp only [A2];omega
  ·have z:(yz t ds (bs.getD m 0) m t.size).filter (λp=>decide (p.2=n))=[]:=by
    rw [ER];intro p hp;obtain⟨k,_,rfl⟩:=Aw.mp hp;simp;omega
   rw [z];simpa using ih
section
theorem DD.above (D:DD t ds) (h:(j,n)∈aR t ds (bf t ds) (bf t ds).length) (hn:n+1 < (bf t ds).length):∃a,(a,n+1)∈aR t ds (bf t ds) (bf t ds).length/\j∈F3 (en t 0 a) a (ds.getD a 0) ((bf t ds).getD (n+1) 0):=by
 obtain⟨hnl,hj,hs⟩:=cF.mp h;obtain⟨s1,s2⟩:=(gm hj).mp hs;have inc:=D.inc;have lt:=wV inc hn (show n < n+1 by omega);have Û:(∀a,jZ t 0 j .aX=.int ((a:Nat):Int)->(bf t ds).getD (n+1) 0 < ds.getD a 0)->∃a,(a,n+1)∈aR t ds (bf t ds) (bf t ds).length/\j∈F3 (en t 0 a) a (ds.getD a 0) ((bf t ds).getD (n+1) 0):=λhx=>
  ⟨j,cF.mpr ⟨hn,hj,(gm hj).mpr ⟨by omega,hx⟩⟩,by unfold F3;rw [if_pos ∅];exact .head _⟩
 rcases iP t 0 j .aX hj with⟨_,e⟩ | ⟨a,u,v,ja,ha,e,ep,Ua⟩
 ·exact Û λa z=>by rw [e] at z;cases z
 ·rw [AI] at e Ua;by_cases c:(bf t ds).getD (n+1) 0 < ds.getD a 0
  ·refine Û λa' z=>?_;rw [e] at z;injection z with z;have:a=a':=by omega
   subst this;exact c
  ·have sa:=s2 a e;have eq:ds.getD a 0=(bf t ds).getD (n+1) 0:=by
    rcases Int.lt_or_eq_of_le (show ds.getD a 0<=(bf t ds).getD (n+1) 0 by omega) with c2 | c2
    ·have:=(rT inc hn (D.mem ha) c2).2;rw [Nat.add_sub_cancel] at this;omega
    ·exact c2
   refine⟨a,cF.mpr ⟨hn,ha,(gm ha).mpr ⟨by omega,λa2 e2=>?_⟩⟩,?_⟩
   ·rcases iP t 0 a .aX ha with⟨_,e3⟩ | ⟨a3,u3,v3,_,h3,e3,ep3,ZW⟩
    ·rw [e3] at e2;cases e2
    ·rw [e3] at e2;injection e2 with e2;rw [AI] at e2 ZW;have:a3=a2:=by omega
     subst this;have:=D.pair a3 u3 v3 h3 ep3;rcases ZW with rfl | rfl <;> omega
   ·unfold F3;rw [if_neg ∅,ep];rcases Ua with rfl | rfl <;> simp
theorem DD.last (D:DD t ds) (h:(j,n)∈aR t ds (bf t ds) (bf t ds).length) (hn:n+1=(bf t ds).length):j=t.size-1:=by
 obtain⟨hnl,hj,hs⟩:=cF.mp h;obtain⟨s1,s2⟩:=(gm hj).mp hs;rcases iP t 0 j .aX hj with⟨e,_⟩ | ⟨a,u,v,ja,ha,e,ep,Ua⟩
 ·exact e
 ·exfalso;rw [AI] at e;have sa:=s2 a e;have inc:=D.inc;obtain⟨i,hi,ei⟩:=DS (D.mem ha);have gd:(bf t ds).getD i 0=ds.getD a 0:=by rw [Ap,Ad hi];exact ei
  rcases C8 i n with c | c
  ·have:=wV inc hnl c;omega
  ·have:i=n:=by omega
   subst this;omega
def G6 [BEq α] [LawfulBEq α] {l:List α} (nd:l.Nodup) {x:α} (h:l[i]?=ap x):l.idxOf x=i:=by
 obtain⟨hi,e⟩:=Ak.mp h;rw [<- e];exact nd.idxOf_getElem i hi
def HV [BEq α] [LawfulBEq α] {l:List α}{x:α} (h:x∈l):l[l.idxOf x]?=ap x:=by
 have:=BP h;rw [Ad this,List.getElem_idxOf this]
theorem Md (D:DD t ds) (hz:t.size<=15) (hb:(bf t ds).length<=16):WG (dS t ds (bf t ds)) t.aJ:=by
 have nd:=jD t ds (bf t ds) (bf t ds).length;have Ď:=ph t ds (bf t ds) (bf t ds).length;have lay:=λn=>uP t ds (bf t ds) n (bf t ds).length;have ok:=D.ok;have ne:=D.ne;have ll:=jE t ds (bf t ds) (bf t ds).length;have above:=λj n=>D.above (j:=j) (n:=n);have last:=λj n=>D.last (j:=j) (n:=n);have Ė:=@cF t ds (bf t ds) (bf t ds).length;unfold okD at ok;have hS:∀i p,(aR t ds (bf t ds) (bf t ds).length)[i]?=ap p->sy (dS t ds (bf t ds)) i=⟨Jb (en t 0 p.1) p.1,p.2,(F3 (en t 0 p.1) p.1 (ds.getD p.1 0) ((bf t ds).getD p.2 0)).map λx=>(aR t ds (bf t ds) (bf t ds).length).idxOf (x,p.2-1),Xe (aR t ds (bf t ds) (bf t ds).length) p.1 p.2⟩:=λi p hp=>by
  unfold sy dS;rw [Ap,Ai,hp];rfl
 have hL:(dS t ds (bf t ds)).length=(aR t ds (bf t ds) (bf t ds).length).length:=W8 t ds _;have hmul:=Nat.mul_le_mul hb hz;generalize aR t ds (bf t ds) (bf t ds).length=L at *;have get:∀i,i < (dS t ds (bf t ds)).length->∃p,L[i]?=ap p/\p∈L:=λi hi=>by
  rw [hL] at hi;exact⟨L[i],Ad hi,EC hi⟩
 have pos:=Fp.mpr ne;have Ö:∀(i a:Nat) (p r:Nat×Nat),L[i]?=ap p->L[a]?=ap r->r.2 < p.2->a < i:=λi a p r h1 h2 lt=>by
  rcases C8 a i with c | c
  ·exact c
  ·exfalso;obtain⟨g1,e1⟩:=Ak.mp h1;obtain⟨g2,e2⟩:=Ak.mp h2;rcases Ea c with c | c
   ·subst c;rw [h1] at h2;cases h2;omega
   ·have:=BW.mp Ď i a g1 g2 c;rw [e1,e2] at this;omega
 refine⟨by rw [hL];exact pos,by rw [hL];omega,λi hi u hu=>?_,λi hi=>?_,λi hi u hu=>?_,λi hi=>?_,λi hi=>?_,λw hw=>?_⟩
 ·obtain⟨p,hp,hm⟩:=get i hi;rw [hS i p hp] at hu;obtain⟨x,hx,rfl⟩:=Aw.mp hu;obtain⟨n1,xm⟩:=ok p hm x hx;exact Ö i _ p (x,p.2-1) hp (HV xm) (by show p.2-1 < p.2;omega)
 ·obtain⟨p,hp,hm⟩:=get i hi;rw [hS i p hp];unfold F3
  split
  ·simp
  ·cases en t 0 p.1 <;> simp
 ·obtain⟨p,hp,hm⟩:=get i hi;rw [hS i p hp] at hu;unfold Xe at hu;obtain⟨x,hx,rfl⟩:=Aw.mp hu;rw [hL];exact BP (AQ.mp hx).1
 ·obtain⟨p,hp,hm⟩:=get i hi;rw [hS i p hp];unfold Xe;rw [Af];have h1:=lay p.2;have h2:(L.filter λq=>decide (q.2=p.2)&&!decide (q.1=p.1)).length<=(L.filter λq=>decide (q.2=p.2)).length:=by
   have e:L.filter (λq=>decide (q.2=p.2)&&!decide (q.1=p.1))=(L.filter λq=>decide (q.2=p.2)).filter λq=>!decide (q.1=p.1):=by
    rw [List.filter_filter];refine congrArg (λf=>L.filter f) (funext λq=>Bool.and_comm _ _)
   rw [e];exact A5 _ _
  omega
 ·obtain⟨p,hp,hm⟩:=get i hi;rw [hS i p hp];exact TU _ _
 ·
  have ã:∀k i,i+k+1=L.length->PU (dS t ds (bf t ds)) (L.length-1) i:=λk=>by
   induction k using DM with
   | ind k ih=>
    intro i hk;obtain⟨⟨j,n⟩,hp,hm⟩:=get i (by rw [hL];omega);have nl:=(Ė.mp hm).1;by_cases c:n+1 < (bf t ds).length
    ·obtain⟨a,ha,hb⟩:=above j n hm c;have ia:=HV ha;have lt:=Ö _ i (a,n+1) (j,n) ia hp (by show n < n+1;omega);have il:=BP ha;have r:=ih (L.length-L.idxOf (a,n+1)-1) ∅ (L.idxOf (a,n+1)) ∅;refine r.snoc ?_;rw [hS _ _ ia];refine Aw.mpr ⟨j,hb,?_⟩;exact G6 nd hp
    ·have hj:=last j n hm ∅;have:i=L.length-1:=by
      obtain⟨⟨j2,n2⟩,wX,XM⟩:=get (L.length-1) (by rw [hL];omega);have n2l:=(Ė.mp XM).1;rcases C8 n2 n with c2 | c2
      ·have:=Ö i (L.length-1) _ _ hp wX c2;omega
      ·have en2:n2=n:=by omega
       have Ob:=last j2 n2 XM ∅;subst en2;rw [Ob,<- hj] at wX;exact (G6 nd hp).symm.trans (G6 nd wX)
     rw [this];exact .refl _
  obtain⟨j,hj,_,ej⟩:=qt t t 0 w (λk hk=>by rw [AI]) ∅ hw;have b0:(bf t ds).getD 0 0=0:=rfl;have mem:(j,0)∈L:=Ė.mpr ⟨by simp [bf],hj,(gm hj).mpr ⟨by rw [D.leaf j w hj ej,b0];exact DC _,λa ea=>by
   rcases iP t 0 j .aX hj with⟨_,e⟩ | ⟨a',u,v,_,ha,e,ep,_⟩
   ·rw [e] at ea;cases ea
   ·rw [e,AI] at ea;injection ea with ea;have:a'=a:=by omega
    subst this;have:=(D.pair a' u v ha ep).2.2;rw [b0];omega⟩⟩
  have il:=BP mem;refine⟨L.idxOf (j,0),by rw [hL];exact il,by rw [hL];exact ã (L.length-L.idxOf (j,0)-1) _ ∅,?_⟩;unfold hm;rw [hS _ _ (HV mem)];unfold F3;rw [b0,D.leaf j w hj ej,if_neg ∅,ej];simp [Jb,NZ]
end
end My
variable {f:PL.PV->FL.W PL.PV}
namespace My
open PySem PySem.Spec PyProof.Rows L2 PL FL
def Hc (q:∀t:Tr,pF t->Q t.pv):eR.run Q:=KR q
theorem S1 (g:pF t) (q:∀s,WG s t.aJ->Q (iI s)):(cy t.pv).run Q:=by
 have hz:=g.size;have hdp:=g.depth;unfold cy;simp only [gt,cr,cD 2 ⋯ ⋯];refine bt λd _ _=>?_;simp only [cI,br,ga];cases c:d==0 with
 | true=>
  simp only [if_true];refine KQ t ∅ Q ?_;rw [<- aam];exact q _ (JW ∅)
 | false=>
  simp only [Al,if_false,cr];refine W.le.use (eI 12 t ∅ ∅) ?_;refine Lr t ∅ λds d D ahN=>?_;have R4:(splits t).length<=7:=by have:=Gk t;have:=g.few;omega
  have DDt:=DD.of (D.isD ∅);have hb:(bf t ds).length<=16:=by unfold bf;rw [Ao,oo];have:=IG t ds;omega
  refine Pc DDt ∅ Q ?_;rw [<- aaM];exact q _ (Md DDt hz hb)
theorem nt {S:PV->Prop}:∀{l:List PV},(∀x∈l,∀R:PV->Prop,(∀v,S v->R v)->(f x).run R)->∀{Q:List PV->Prop},(∀m,m.length=l.length->(∀v∈m,S v)->Q m)->(mapW l f).run Q
 | [],_,Q,q=>q [] rfl (λ_ h=>nomatch h)
 | x::l,h,Q,q=>by
  show (am (f x) λy=>am (mapW l f) λm=>bm (y::m)).run Q;simp only [cr];refine h x (.head _) _ λv hv=>?_;refine nt (λy hy=>h y (.tail _ hy)) λm hm hs=>?_;exact q (v::m) (by simp [hm]) λu hu=>by
   rcases AA.mp hu with rfl | hu
   ·exact hv
   ·exact hs u hu
theorem Iw:∀{m:List PV}{ls:List Str},(∀v∈m,∃w∈ls,v=PV.str w)->∃ws:List Str,m=ws.map PV.str/\∀w∈ws,w∈ls
 | [],_,_=>⟨[],rfl,λ_ h=>nomatch h⟩
 | v::m,ls,h=>by
  obtain⟨w,hw,rfl⟩:=h v (.head _);obtain⟨ws,rfl,h2⟩:=Iw (m:=m) (ls:=ls) λu hu=>h u (.tail _ hu);exact⟨w::ws,rfl,λx hx=>by
   rcases AA.mp hx with rfl | hx
   ·exact hw
   ·exact h2 x hx⟩
theorem Ka (g:pF t) (q:∀s:Tr,(∀w∈s.aJ,w∈t.aJ)->s.aJ.length<=10->Q s.pv):(eQ t.pv).run Q:=by
 have hz:=g.size;have hdp:=g.depth;unfold eQ;simp only [gt,cr];refine W.le.use (eI 12 t ∅ ∅) ?_
 let f:PV->Option PV:=λx=>match x with | .str w=>ap (.str w) | _=>bv
 have el:(t.nd 0).map Ent.pv=(Av t.size).map λj=>(en t 0 j).pv:=by
  apply Bi;intro i;by_cases hi:i < t.size
  ·rw [Ai,fJ t 0 i hi,Ai,Bw hi];rfl
  ·rw [Ax (by rw [cu];omega),Ax (by simp;omega)]
 rw [el];refine wK (λj=>match en t 0 j with | .word w=>ap (PV.str w) | .pair _ _=>bv) (λj hj R r=>?_) ?_
 ·cases e:en t 0 j with
  | word w=>rw [e] at r;simpa [Ent.pv] using r
  | pair a b=>rw [e] at r;simpa [Ent.pv] using r
 generalize hL:(Av t.size).filterMap (λj=>match en t 0 j with | .word w=>ap (PV.str w) | .pair _ _=>bv)=L;have Lm:∀v∈L,∃w∈t.aJ,v=PV.str w:=λv hv=>by
  rw [<- hL] at hv;obtain⟨j,hj,e⟩:=CZ.mp hv;have hj:=AN.mp hj;cases e2:en t 0 j with
  | word w=>
   rw [e2] at e;exact⟨w,qC t 0 j w hj e2,(Option.some.inj e).symm⟩
  | pair a b=>rw [e2] at e;cases e
 have Ll:L.length<=1000:=by
  rw [<- hL];have:=List.length_filterMap_le (λj=>match en t 0 j with | .word w=>ap (PV.str w) | .pair _ _=>bv) (Av t.size);rw [BR] at this;omega
 have Ln:L≠[]:=λz=>by
  obtain⟨w,e⟩:=xq t 0;have:PV.str w∈L:=by
   rw [<- hL];exact CZ.mpr ⟨0,AN.mpr t.size_pos,by rw [e]⟩
  rw [z] at this;cases this
 simp only [cD 8 ⋯ ⋯];refine bt λd d0 d1=>?_;obtain⟨n,hn,n0,n1⟩:∃n:Int,bW [PV.int 6,PV.int 10] (if (d==0)=true then 1 else 0)=ap (.int n)/\0 < n/\n<=10:=by
  by_cases h:d=0
  ·subst h;exact⟨10,rfl,by decide,by decide⟩
  ·have e:(d==0)=false:=by simpa using h
   rw [e];exact⟨6,rfl,by decide,by decide⟩
 simp only [cI,ga,lT,bb,hn,sK,cD n n0 ∅];refine bt λk k0 k1=>?_;obtain⟨m,hm⟩:∃m:Nat,1+k=(m:Int):=⟨(1+k).toNat,by omega⟩;simp only [fF,ga,hm,fB,re (cq (i:=0) (j:=(m:Int)) ∅ ∅),A1];refine nt (S:=λv=>∃w∈t.aJ,v=PV.str w) (λx _ R r=>pick_run Ln Ll λv hv=>r v (Lm v hv)) λms hl hs=>?_;obtain⟨ws,rfl,hw⟩:=Iw hs;rw [jo,Af] at hl;refine yq (λz=>by rw [z] at hl;simp at hl;omega) ∅ λs hp=>q s (λw h=>hw w (hp.mem_iff.mp h)) (by rw [hp.length_eq];omega)
inductive WT where
 | lf (p:List Nat) (i:Nat)
 | nd (p:List Nat) (i:Nat) (nm:Str) (a b:WT)
namespace WT
def path:WT->List Nat
 | .lf p i=>p++[i]
 | .nd p i _ _ _=>p++[i]
def at':WT->Nat
 | .lf _ i=>i
 | .nd _ i _ _ _=>i
def deed:WT->Str
 | .lf _ _=>"found"
 | .nd _ _ nm _ _=>nm
def kids:WT->List WT
 | .lf _ _=>[]
 | .nd _ _ _ a b=>[a,b]
def pv:WT->PV
 | .lf p i=>.tup [.tup (az (p++[i])),.str "found"]
 | .nd p i nm a b=>.tup [.tup (az (p++[i])),.str nm,a.pv,b.pv]
def size:WT->Nat
 | .lf _ _=>1
 | .nd _ _ _ a b=>a.size+b.size+1
def depth:WT->Nat
 | .lf _ _=>0
 | .nd _ _ _ a b=>max a.depth b.depth+1
def post:WT->List WT
 | .lf p i=>[.lf p i]
 | .nd p i nm a b=>a.post++b.post++[.nd p i nm a b]
def plc (u:WT):PV:=.tup [.int (u.at':Int),.str u.deed]
def Ok (g:List Sy):WT->Tr->Prop
 | .lf p i,.leaf w=>Ch g (p++[i])/\hm g i w=true
 | .nd p i nm a b,.node l r=>Ch g (p++[i])/\(∃x y r1 r2,(nm,x,y)∈Lq g i/\a.path=x::r1/\b.path=y::r2)/\a.Ok g l/\b.Ok g r
 | _,_=>False
def pv_eq (u:WT):u.pv=.tup (.tup (az u.path)::.str u.deed::u.kids.map pv):=by cases u <;> rfl
def path_eq (u:WT):∃p,u.path=p++[u.at']:=by cases u <;> exact⟨_,rfl⟩
def size_pos (u:WT):0 < u.size:=by cases u <;> simp [size]
theorem post_len:∀u:WT,u.post.length=u.size
 | .lf _ _=>rfl
 | .nd _ _ _ a b=>by simp [post,size,post_len a,post_len b];omega
def posts (l:List WT):List WT:=l.flatMap post
def sizes (l:List WT):Nat:=(l.map size).sum
def posts_kids (u:WT):u.post=posts u.kids++[u]:=by cases u <;> simp [post,posts,kids]
def size_kids (u:WT):u.size=sizes u.kids+1:=by cases u <;> simp [size,sizes,kids]
def posts_len (l:List WT):(posts l).length=sizes l:=by
 induction l with
 | nil=>rfl
 | cons x l ih=>
  have e:posts (x::l)=x.post++posts l:=rfl;have e2:sizes (x::l)=x.size+sizes l:=rfl;rw [e,e2,Ae,ih,post_len]
theorem len_sizes (l:List WT):l.length<=sizes l:=by
 induction l with
 | nil=>exact An _
 | cons x l ih=>
  have e2:sizes (x::l)=x.size+sizes l:=rfl;have:=x.size_pos;rw [Ao,e2];omega
def posts_app (l m:List WT):posts (l++m)=posts l++posts m:=by simp [posts]
def sizes_app (l m:List WT):sizes (l++m)=sizes l+sizes m:=by simp [sizes]
def kids_len (u:WT):u.kids.length<=2:=by cases u <;> simp [kids]
def cut2 (u:WT):dZ (.tup (az u.path)::.str u.deed::u.kids.map pv) (ap 2) bv=u.kids.map pv:=by
 have:=Pf (.tup (az u.path)::.str u.deed::u.kids.map pv) (a:=2) (by simp);rw [show ((2:Nat):Int)=2 from rfl] at this;rw [this];rfl
end WT
theorem wok_wt:∀(s:Tr) (o:Nat),(∀k,k < s.size->en t 0 (o+k)=en s o k)->∀p w,L6 g t (o+s.size-1) p w->∃u:WT,u.pv=w/\u.path=p/\u.Ok g s
 | .leaf x,o,hs,p,w,h=>by
  have e0:en t 0 o=.word x:=hs 0 (by show 0 < 1;decide);have ei:o+(Tr.leaf x).size-1=o:=by show o+1-1=o;omega
  rw [ei] at h;cases h with
  | @leaf _ q i w e c hh=>
   rw [e0] at e;cases e;exact⟨.lf q i,rfl,rfl,c,hh⟩
  | node e _ _ _ _=>rw [e0] at e;cases e
 | .node l r,o,hs,p,w,h=>by
  have es:(Tr.node l r).size=l.size+r.size+1:=rfl;have er:en t 0 (o+(l.size+r.size))=.pair (o+l.size-1) (o+l.size+r.size-1):=by rw [hs _ ∅,en,if_neg ∅,if_neg ∅]
  have ei:o+(Tr.node l r).size-1=o+(l.size+r.size):=by omega
  rw [ei] at h;have hl:∀k,k < l.size->en t 0 (o+k)=en l o k:=λk hk=>by rw [hs k ∅,en,if_pos hk]
  have hr:∀k,k < r.size->en t 0 (o+l.size+k)=en r (o+l.size) k:=λk hk=>by rw [A3,hs _ ∅,en,if_neg ∅,if_pos ∅,BN]
  cases h with
  | leaf e _ _=>rw [er] at e;cases e
  | @node _ q i a b nm x y p1 p2 wa wb e c hd h1 h2=>
  rw [er] at e;injection e with ea eb;subst ea;subst eb;obtain⟨u1,a1,a2,a3⟩:=wok_wt l o hl _ _ h1;obtain⟨u2,b1,b2,b3⟩:=wok_wt r (o+l.size) hr _ _ h2;exact⟨.nd q i nm u1 u2,by rw [WT.pv,a1,b1],rfl,c,⟨x,y,p1,p2,hd,a2,b2⟩,a3,b3⟩
def wok_root (h:L6 g t (t.size-1) p w):∃u:WT,u.pv=w/\u.path=p/\u.Ok g t:=
 wok_wt t 0 (λk _=>by rw [AI]) p w (by rw [AI];exact h)
def WT.Ok.size:∀{u:WT}{s:Tr},u.Ok g s->u.size=s.size
 | .lf _ _,.leaf _,_=>rfl
 | .nd _ _ _ a b,.node l r,h=>by
  show a.size+b.size+1=l.size+r.size+1;rw [h.2.2.1.size,h.2.2.2.size]
def WT.Ok.depth:∀{u:WT}{s:Tr},u.Ok g s->u.depth=s.depth
 | .lf _ _,.leaf _,_=>rfl
 | .nd _ _ _ a b,.node l r,h=>by
  show max a.depth b.depth+1=max l.depth r.depth+1;rw [h.2.2.1.depth,h.2.2.2.depth]
def WT.done_ev (u:WT):fi u.pv=.ret (.int (u.at':Int)):=by
 obtain⟨p,e⟩:=u.path_eq;have k0:∀(x:PV) (l:List PV),bW (x::l) 0=ap x:=λ_ _=>bV (j:=0) rfl;rw [u.pv_eq,e];unfold fi;simp only [gt,ay,bb,k0,sK,gc,lL]
theorem within_le (t:WT) (hz:t.size<=900):(m_ways_within t.pv).le (.ret (t.post.map WT.pv)):=λQ q=>by
 refine gL (λn s=>∃ts bs:List WT,n=WT.sizes ts/\s=(bs.map WT.pv,ts.map WT.pv)/\WT.posts ts++bs.reverse=t.post) ⟨[t],[],rfl,rfl,by simp [WT.posts]⟩ ?_;rintro n s ⟨ts,bs,rfl,rfl,hp⟩;have hs:=congrArg BV hp;rw [Ae,WT.posts_len,Cu,t.post_len] at hs;by_cases he:ts=[]
 ·subst he;have ġ:bs.reverse=t.post:=hp;simp;rw [<- List.map_reverse,ġ];exact q
 ·obtain⟨us,u,rfl⟩:=vS he;have KN:=WT.len_sizes us;have hk:=u.kids_len;have hsu:=u.size_kids;have e0:WT.sizes [u]=u.size:=by simp [WT.sizes]
  rw [WT.sizes_app,e0] at hs;have ea:jX (bs.map WT.pv) u.pv=.ret (bs.map WT.pv++[u.pv]):=hX (by rw [Af];omega);have ex:sF (us.map WT.pv) (u.kids.map WT.pv)=.ret (us.map WT.pv++u.kids.map WT.pv):=re (a9 (by simp;omega));have ne:(us.map WT.pv++[u.pv]).isEmpty=false:=by simp
  simp only [gt,ga,AM,Au,Df,ne,Ed,if_true,cr,Hr,ea];rw [u.pv_eq];simp only [eW,gt,iO,u.cut2,ay,ga,ex];refine⟨_,?_,us++u.kids,bs++[u],rfl,?_,?_⟩
  ·rw [WT.sizes_app,WT.sizes_app,e0];omega
  ·rw [<- u.pv_eq];simp
  ·rw [<- hp,WT.posts_app,WT.posts_app,DR];have e1:WT.posts [u]=WT.posts u.kids++[u]:=by rw [<- WT.posts_kids];simp [WT.posts]
   rw [e1];simp
theorem mapW_map' {c:α->PV}{k:α->PV}:∀{l:List α},(∀x∈l,f (c x)=.ret (k x))->mapW (l.map c) f=.ret (l.map k)
 | [],_=>rfl
 | x::r,h=>by
  show am (f (c x)) (λy=>am (mapW (r.map c) f) λm=>bm (y::m))=_;rw [h x (.head _),mapW_map' λy hy=>h y (.tail _ hy)];rfl
def places_le (t:WT) (hz:t.size<=900):(m_places t.pv).le (.ret (.tup (t.post.map WT.plc))):=λQ q=>by
 have k1:∀(x y:PV) (l:List PV),bW (x::y::l) 1=ap y:=λ_ _ _=>bV (j:=1) rfl;unfold m_places;simp only [gt,cr];refine W.le.use (within_le t hz) ?_;rw [mapW_map' (c:=WT.pv) (k:=WT.plc) λx _=>by
  simp only [gt,WT.done_ev];rw [x.pv_eq];simp only [gt,ay,bb,k1,sK];rfl]
 exact q
inductive Sm:Nat->PV->Prop
 | str {n:Nat}{s:Str}:Sm (n+1) (.str s)
 | int {n:Nat}{i:Int}:Sm (n+1) (.int i)
 | tup {n:Nat}{l:List PV}:(∀x∈l,Sm n x)->l.length<=900->Sm (n+1) (.tup l)
theorem zip_self:∀l:List PV,f6 l l=l.map λx=>PV.tup [x,x]
 | []=>by rw [f6];rfl;simp
 | x::l=>by rw [f6,zip_self l];rfl
theorem same_self:∀{n:Nat}{x:PV},Sm n x->(m__law_same n x x).le (.ret (.bl true))
 | _,_,@Sm.str n s=>λQ q=>by
  unfold m__law_same;have e:of2 di (.str s) (.str s)=.ret (.bl true):=by rw [sH,re ⟨by simp,by simp,by simp⟩,OA];simp
  simp only [gt,cr,eX,JH,a7,ga,Al,if_false,fD,if_true,WX,beq_self_eq_true,gF,e];exact q
 | _,_,@Sm.int n i=>λQ q=>by
  unfold m__law_same;simp only [gt,cr,Sv,Sq,Sr,a7,ga,Al,if_false,oX,PV.me,br,Ss,Su,Hs,Ed,gF,cI,beq_self_eq_true];exact q
 | _,_,@Sm.tup n l h hl=>λQ q=>by
  unfold m__law_same;simp only [gt,cr,dE,xk,a7,ga,if_true,Bq,Al,if_false,bU,xj,beq_self_eq_true,br,ay];refine⟨a9 ∅,?_⟩;show (mapW (f6 l l) _).run _;rw [zip_self];refine iw (λ_=>.bl true) (λx hx R r=>?_) ?_
  ·exact same_self (h x hx) R r
  ·have e:l.map (λ_=>PV.bl true)=(l.map λ_=>true).map PV.bl:=by rw [AY];rfl
   rw [e,n6];have e2:(l.map λ_=>true).all id=true:=by simp
   rw [e2];exact q
theorem wparts_le:∀(n:Nat) (u:WT),u.depth < n->u.size<=300->(m__law_parts n u.pv).le (.ret (u.post.map WT.pv))
 | 0,u,h,_=>by omega
 | n+1,.lf p i,h,_=>λQ q=>by
  unfold m__law_parts;simp only [WT.pv,gt,cr,bU,Ao,A2,cI,br,ga];exact q
 | n+1,.nd p i nm a b,h,hz=>λQ q=>by
  have ed:(WT.nd p i nm a b).depth=max a.depth b.depth+1:=rfl;have es:(WT.nd p i nm a b).size=a.size+b.size+1:=rfl;have i2:∀a b c d:PV,bW [a,b,c,d] 2=ap c:=λ_ _ _ _=>rfl;have i3:∀a b c d:PV,bW [a,b,c,d] 3=ap d:=λ_ _ _ _=>rfl;have ec:(((0+1+1+1+1:Nat):Int)==2)=false:=rfl;unfold m__law_parts;simp only [WT.pv,gt,cr,bU,Ao,A2,cI,br,ga,ec,Al,if_false,ay,bb,i2,i3,sK];refine W.le.use (wparts_le n a ∅ ∅) ?_;refine W.le.use (wparts_le n b ∅ ∅) ?_;rw [gh (by rw [Af,Af,WT.post_len,WT.post_len];omega)];simp only [ga];rw [gh (by simp [WT.post_len];omega)];have e:WT.pv (.nd p i nm a b)=.tup [.tup (az (p++[i])),.str nm,a.pv,b.pv]:=rfl;have q:Q ((a.post++b.post++[WT.nd p i nm a b]).map WT.pv):=q;rw [AM,AM,Au,Df,e] at q;exact q
end My
variable {u:My.WT}
namespace My
open PySem PySem.Spec PyProof.Rows L2 PL FL
namespace WT
def pre:WT->List Nat
 | .lf p _=>p
 | .nd p _ _ _ _=>p
def path_pre (u:WT):u.path=u.pre++[u.at']:=by cases u <;> rfl
end WT
def twoN (g:List Sy) (i:Nat):Bool:=decide ((sy g i).un.length=2)
def losN (g:List Sy) (p:List Nat):Nat:=(p.filter (twoN g)).length
def lost (g:List Sy) (l:List WT):Nat:=(l.map λx=>losN g x.pre).sum
def cnt (nm:Str) (l:List WT):Nat:=l.countP λx=>x.deed==nm
def Kn (g:List Sy) (x:WT):Prop:=(x.deed="split"\/x.deed="doubled"\/x.deed="over"\/x.deed="found")/\(∀i∈x.pre,i < g.length)/\x.pre.length<=300
def dds_kn (h:d∈Lq g i):d.1="split"\/d.1="doubled"\/d.1="over":=by
 rcases AA.mp h with rfl | h
 ·exact .inr (.inl rfl)
 rcases AX.mp h with h | h
 ·revert h;generalize (sy g i).un=l;intro h;unfold spl at h
  split at h
  ·simp at h;rcases h with rfl | rfl <;> exact .inl rfl
  ·cases h
 ·obtain⟨o,_,h⟩:=Cw.mp h;simp at h;rcases h with rfl | rfl <;> exact .inr (.inr rfl)
theorem ch_pre (G:WG g ws) (c:Ch g (p++[i])):(∀i∈p,i < g.length)/\p.length<=300:=by
 refine⟨λj hj=>c.lt j (Br _ hj),?_⟩;have gl:=G.len;cases p with
 | nil=>simp
 | cons a p=>
  have h1:=Ch.len G (p:=p++[i]) (i:=a) c;have h2:=c.lt a (by simp);simp at h1 ⊢;omega
theorem ok_kn (G:WG g ws):∀{u:WT}{s:Tr},u.Ok g s->∀x∈u.post,Kn g x
 | .lf p i,.leaf w,h,x,hx=>by
  have:=Bc.mp hx;subst this;exact⟨.inr (.inr (.inr rfl)),ch_pre G h.1⟩
 | .nd p i nm a b,.node l r,h,x,hx=>by
  rcases AX.mp hx with hx | hx
  ·rcases AX.mp hx with hx | hx
   ·exact ok_kn G h.2.2.1 x hx
   ·exact ok_kn G h.2.2.2 x hx
  ·have:=Bc.mp hx;subst this;obtain⟨_,_,_,_,hd,_⟩:=h.2.1;refine⟨?_,ch_pre G h.1⟩;rcases dds_kn hd with e | e | e
   ·exact .inl e
   ·exact .inr (.inl e)
   ·exact .inr (.inr (.inl e))
theorem cut_last (l:List PV) (x:PV):dZ (l++[x]) bv (ap (-1))=l:=by
 have e:HT.dR (l++[x]).length (l++[x]).length (ap (-1))=l.length:=by
  simp [HT.dR];try omega
 unfold dZ;rw [HT.qY,e];simp
def path_cut (u:WT):dZ (az u.path) bv (ap (-1))=az u.pre:=by
 rw [u.path_pre,i8];exact cut_last _ _
theorem loston_le (h:∀i∈u.pre,i < g.length):m_lost_on (iI g) (.tup (az u.path))=.ret (.int (losN g u.pre)):=by
 unfold m_lost_on;simp only [gt,gc,eW,iO,path_cut,ay];rw [GV (p:=twoN g) λk hk=>by
  simp only [mT (h k hk),gt,bU,aZ,cI,br];have e:((((sy g k).un.length:Nat):Int)==2)=twoN g k:=by
   unfold twoN;rw [Cm];simp;omega
  rw [e];cases twoN g k <;> rfl]
 simp only [gt,mI,aZ];rfl
def cnt_ev (l:List WT) (nm:Str):SR (l.map λx=>PV.str x.deed) (.str nm)=.ret (.int (cnt nm l)):=by
 unfold SR;rw [re ⟨by simp,jr.mpr λx hx=>by obtain⟨y,_,rfl⟩:=Aw.mp hx;simp,jt λx hx=>by obtain⟨y,_,rfl⟩:=Aw.mp hx;simp⟩];congr 2;unfold W9 cnt;rw [List.countP_map];congr 1
def dueP (g:List Sy) (l:List WT):PV:=.tup [.int (cnt "split" l),.int (cnt "doubled" l),.int (cnt "over" l),.int (lost g l)]
theorem sum_cast (l:List Nat):(l.map λ(n:Nat)=>(n:Int)).sum=((l.sum:Nat):Int):=by
 induction l with
 | nil=>rfl
 | cons a l ih=>rw [Au,List.sum_cons,List.sum_cons,ih];omega
theorem counted_le (u:WT) (hz:u.size<=300) (hk:∀x∈u.post,Kn g x):(m_counted (iI g) u.pv).le (.ret (dueP g u.post)):=λQ q=>by
 have k0:∀(x:PV) (l:List PV),bW (x::l) 0=ap x:=λ_ _=>bV (j:=0) rfl;have k1:∀(x y:PV) (l:List PV),bW (x::y::l) 1=ap y:=λ_ _ _=>bV (j:=1) rfl;unfold m_counted;simp only [gt,cr];refine W.le.use (within_le u ∅) ?_;simp only [bJ,ga];rw [mapW_map' (c:=WT.pv) (k:=λx=>.str x.deed) λx _=>by
  rw [x.pv_eq];simp only [gt,ay,bb,k1,sK]]
 rw [mapW_map' (c:=WT.pv) (k:=λx=>.int (losN g x.pre:Nat)) λx hx=>by
  rw [x.pv_eq];simp only [gt,ay,bb,k0,sK,loston_le (hk x hx).2.1]]
 have e1:u.post.map (λx=>PV.int (losN g x.pre:Nat))=((u.post.map λx=>losN g x.pre).map λ(n:Nat)=>(n:Int)).map PV.int:=by simp
 rw [e1];unfold sumLW;simp only [ga,cr,jn,sum_cast];rw [mapW_map' (c:=PV.str) (k:=λnm=>.int (cnt nm u.post)) λnm _=>by
  simp only [gt,lS,cnt_ev]]
 simp only [ga];rw [gh (by simp)];exact q
def d4 (a b c d:PV):List (Key×PV):=[(.inr "split",a),(.inr "doubled",b),(.inr "over",c),(.inr "found",d)]
section
def ns1:(("split":Str)="doubled")=False:=by simp only [eq_iff_iff,iff_false];decide +kernel
def ns2:(("split":Str)="over")=False:=by simp only [eq_iff_iff,iff_false];decide +kernel
def ns3:(("split":Str)="found")=False:=by simp only [eq_iff_iff,iff_false];decide +kernel
def ns4:(("doubled":Str)="split")=False:=by simp only [eq_iff_iff,iff_false];decide +kernel
def ns5:(("doubled":Str)="over")=False:=by simp only [eq_iff_iff,iff_false];decide +kernel
def ns6:(("doubled":Str)="found")=False:=by simp only [eq_iff_iff,iff_false];decide +kernel
def ns7:(("over":Str)="split")=False:=by simp only [eq_iff_iff,iff_false];decide +kernel
def ns8:(("over":Str)="doubled")=False:=by simp only [eq_iff_iff,iff_false];decide +kernel
def ns9:(("over":Str)="found")=False:=by simp only [eq_iff_iff,iff_false];decide +kernel
def ns10:(("found":Str)="split")=False:=by simp only [eq_iff_iff,iff_false];decide +kernel
def ns11:(("found":Str)="doubled")=False:=by simp only [eq_iff_iff,iff_false];decide +kernel
def ns12:(("found":Str)="over")=False:=by simp only [eq_iff_iff,iff_false];decide +kernel
def d4_put {l:List WT}{x:WT} (h:x.deed="split"\/x.deed="doubled"\/x.deed="over"\/x.deed="found"):∃n:Nat,gz (d4 (.int (cnt "split" l)) (.int (cnt "doubled" l)) (.int (cnt "over" l)) (.int (cnt "found" l))) (.inr x.deed)=ap (.int n)/\putP (d4 (.int (cnt "split" l)) (.int (cnt "doubled" l)) (.int (cnt "over" l)) (.int (cnt "found" l))) (.inr x.deed) (.int ((n:Int)+1))=d4 (.int (cnt "split" (l++[x]))) (.int (cnt "doubled" (l++[x]))) (.int (cnt "over" (l++[x]))) (.int (cnt "found" (l++[x]))):=by
 have ec:∀nm,cnt nm (l++[x])=cnt nm l+if x.deed==nm then 1 else 0:=λnm=>by
  unfold cnt;simp [Dr]
 rcases h with h | h | h | h <;> rw [h] at ec ⊢ <;> refine⟨_,by simp [gz,d4,ns1,ns2,ns3,ns4,ns5,ns6,ns7,ns8,ns9,ns10,ns11,ns12];rfl,?_⟩ <;> simp [putP,oS,d4,ec,ns1,ns2,ns3,ns4,ns5,ns6,ns7,ns8,ns9,ns10,ns11,ns12]
end
def lost_app (g:List Sy) (l:List WT) (x:WT):lost g (l++[x])=lost g l+losN g x.pre:=by
 unfold lost;simp
def lo_app (g:List Sy) (p:List Nat) (i:Nat):losN g (p++[i])=losN g p+if twoN g i then 1 else 0:=by
 unfold losN;cases h:twoN g i <;> simp [h]
theorem lcounts_le (G:WG g ws) (u:WT) (hd:u.depth < 12) (hz:u.size<=300) (hk:∀x∈u.post,Kn g x):(m__law_counts (iI g) u.pv).le (.ret (dueP g u.post)):=λQ q=>by
 have k0:∀(x:PV) (l:List PV),bW (x::l) 0=ap x:=λ_ _=>bV (j:=0) rfl;have k1:∀(x y:PV) (l:List PV),bW (x::y::l) 1=ap y:=λ_ _ _=>bV (j:=1) rfl;unfold m__law_counts;simp only [gt,cr];refine W.le.use (wparts_le 12 u hd hz) ?_;refine gC (λi s=>s=(d4 (.int (cnt "split" (u.post.take i))) (.int (cnt "doubled" (u.post.take i))) (.int (cnt "over" (u.post.take i))) (.int (cnt "found" (u.post.take i))),.int (lost g (u.post.take i)))) rfl (λi x s hx hs=>?_) (λs hs=>?_)
 ·subst hs;rw [Ai] at hx;obtain⟨y,hy,rfl⟩:=C6.mp hx;have hm:y∈u.post:=Ba hy;obtain⟨h1,h2,h3⟩:=hk y hm;have et:u.post.take (i+1)=u.post.take i++[y]:=by rw [C9,hy];rfl
  rw [et];obtain⟨n,e1,e2⟩:=d4_put (l:=u.post.take i) h1;generalize u.post.take i=l at e1 e2;have dl:(d4 (.int (cnt "split" l)) (.int (cnt "doubled" l)) (.int (cnt "over" l)) (.int (cnt "found" l))).length < sizeLine:=Az (by decide:4 < 1000) (a9 (An _));rw [y.pv_eq];simp only [gt,cr,ay,bb,k0,k1,sK,ga,JG,e1,zB,re dl,e2,gc,eW,iO,path_cut];refine gC (λj s=>s=.int ((lost g l:Int)+(losN g (y.pre.take j):Nat))) (by simp [losN]) (λj x s hx hs=>?_) (λs hs=>?_)
  ·subst hs;unfold az at hx;rw [Ai] at hx;obtain⟨k,hky,rfl⟩:=C6.mp hx;have hkm:=Ba hky;have ep:y.pre.take (j+1)=y.pre.take j++[k]:=by rw [C9,hky];rfl
   have e3:((((sy g k).un.length:Nat):Int)==2)=twoN g k:=by
    unfold twoN;rw [Cm];simp;omega
   rw [ep,lo_app];simp only [gt,cr,iI,ay,bb,WE (h2 k hkm),sK,Sy.pv,Gi,bU,aZ,cI,lT,zB,ga,e3];congr 1;cases twoN g k <;> simp <;> omega
  ·subst hs;have e4:y.pre.take (az y.pre).length=y.pre:=by rw [aZ];exact Dp
   rw [e4,lost_app];rfl
 ·subst hs;have e5:u.post.take (u.post.map WT.pv).length=u.post:=by rw [Af];exact Dp
  rw [e5];exact q
theorem priced_ev (a b c d:Int) {y z w:Int} (hx:0<=x/\x<=1000000000) (hy:0<=y/\y<=1000000000) (hz:0<=z/\z<=1000000000) (hw:0<=w/\w<=1000000000):m_priced (.tup [.int a,.int b,.int c,.int d]) (.tup [.int x,.int y,.int z,.int w])=.ret (.int (a*x+b*y+c*z+d*w)):=by
 unfold m_priced;have e:mP [PV.int a,.int b,.int c,.int d] [PV.int x,.int y,.int z,.int w]=.ret [.tup [.int a,.int x],.tup [.int b,.int y],.tup [.int c,.int z],.tup [.int d,.int w]]:=by
  unfold mP;rw [re (a9 (by simp))];simp [f6]
 have m1:t0 a x:=mulR ∅;have m2:t0 b y:=mulR ∅;have m3:t0 c z:=mulR ∅;have m4:t0 d w:=mulR ∅;simp only [gt,ay,e];have em:mapW [PV.tup [.int a,.int x],.tup [.int b,.int y],.tup [.int c,.int z],.tup [.int d,.int w]] (λp4=>am (oj p4) λt5=>of2 mz t5.1 t5.2)=.ret ([a*x,b*y,c*z,d*w].map PV.int):=by
  simp [mapW,re m1,re m2,re m3,re m4]
 rw [em];unfold sumLW;simp only [gt,jn];congr 2;simp;omega
def inn:WT->Nat
 | .lf _ _=>0
 | .nd _ _ _ a b=>inn a+inn b+1
theorem size_inn:∀u:WT,u.size=2*inn u+1
 | .lf _ _=>rfl
 | .nd _ _ _ a b=>by
  have ha:=size_inn a;have hb:=size_inn b;show a.size+b.size+1=2*(inn a+inn b+1)+1;omega
def cnt_app (nm:Str) (l m:List WT):cnt nm (l++m)=cnt nm l+cnt nm m:=by unfold cnt;exact Ec
def cnt_one (nm:Str) (x:WT):cnt nm [x]=if x.deed==nm then 1 else 0:=by unfold cnt;simp [Dr]
theorem cnts_inn:∀{u:WT}{s:Tr},u.Ok g s->cnt "split" u.post+cnt "doubled" u.post+cnt "over" u.post=inn u
 | .lf p i,.leaf w,_=>by
  show cnt "split" [WT.lf p i]+cnt "doubled" [WT.lf p i]+cnt "over" [WT.lf p i]=0;simp [cnt_one,WT.deed,ns10,ns11,ns12]
 | .nd p i nm a b,.node l r,h=>by
  have ha:=cnts_inn h.2.2.1;have hb:=cnts_inn h.2.2.2;have e:(WT.nd p i nm a b).post=a.post++b.post++[WT.nd p i nm a b]:=rfl;have e2:(WT.nd p i nm a b).deed=nm:=rfl;have e3:inn (WT.nd p i nm a b)=inn a+inn b+1:=rfl;rw [e,e3];obtain⟨_,_,_,_,hd,_⟩:=h.2.1;simp only [cnt_app,cnt_one,e2];rcases dds_kn hd with q | q | q <;> (have q:nm=_:=q) <;> rw [q] <;> simp [ns1,ns2,ns4,ns5,ns7,ns8] <;> omega
def lo_le (g:List Sy) (p:List Nat):losN g p<=p.length:=A5 _ _
theorem lost_le:∀(l:List WT),(∀x∈l,Kn g x)->lost g l<=300*l.length
 | [],_=>A7 _
 | x::l,h=>by
  have h1:=lost_le l λy hy=>h y (.tail _ hy);have h2:=(h x (.head _)).2.2;have h3:=lo_le g x.pre;have e:lost g (x::l)=losN g x.pre+lost g l:=by unfold lost;simp
  rw [e,Ao];omega
inductive TB where
 | lf (c:Bool)
 | nd (a b:TB) (c:Bool)
namespace TB
def flat:TB->List Bool
 | .lf c=>[c]
 | .nd a b c=>a.flat++b.flat++[c]
def Sh:TB->Tr->Prop
 | .lf _,.leaf _=>True
 | .nd a b _,.node l r=>a.Sh l/\b.Sh r
 | _,_=>False
def exT:TB->Tr->Tr
 | .nd a b c,.node l r=>if c then .node (b.exT r) (a.exT l) else .node (a.exT l) (b.exT r)
 | _,t=>t
def exW:TB->WT->WT
 | .nd a b c,.nd p i nm x y=>if c then .nd p i nm (b.exW y) (a.exW x) else .nd p i nm (a.exW x) (b.exW y)
 | _,u=>u
def ord:TB->Nat->List Nat
 | .lf _,o=>[o]
 | .nd a b c,o=>if c then b.ord (o+a.flat.length)++a.ord o++[o+a.flat.length+b.flat.length] else a.ord o++b.ord (o+a.flat.length)++[o+a.flat.length+b.flat.length]
theorem of_list:∀(s:Tr) (T:List Bool),T.length=s.size->∃β:TB,β.Sh s/\β.flat=T
 | .leaf w,T,h=>by
  match T,h with
  | [c],_=>exact⟨.lf c,trivial,rfl⟩
 | .node l r,T,h=>by
  have h:T.length=l.size+r.size+1:=h;obtain⟨β1,s1,e1⟩:=of_list l (T.take l.size) (by rw [B2];omega);obtain⟨β2,s2,e2⟩:=of_list r ((T.drop l.size).take r.size) (by rw [B2,Cy];omega);obtain⟨c,e3⟩:∃c,T.drop (l.size+r.size)=[c]:=by
   have:(T.drop (l.size+r.size)).length=1:=by rw [Cy];omega
   match T.drop (l.size+r.size),this with
   | [c],_=>exact⟨c,rfl⟩
  refine⟨.nd β1 β2 c,⟨s1,s2⟩,?_⟩;show β1.flat++β2.flat++[c]=T;rw [e1,e2,<- e3,AR,<- List.drop_drop,Di,Di]
theorem len:∀{β:TB}{s:Tr},β.Sh s->β.flat.length=s.size
 | .lf _,.leaf _,_=>rfl
 | .nd a b c,.node l r,h=>by
  show (a.flat++b.flat++[c]).length=l.size+r.size+1;rw [Ae,Ae,len h.1,len h.2];rfl
theorem ex_size:∀{β:TB}{s:Tr},β.Sh s->(β.exT s).size=s.size
 | .lf _,.leaf _,_=>rfl
 | .nd a b c,.node l r,h=>by
  have h1:=ex_size h.1;have h2:=ex_size h.2;have es:(Tr.node l r).size=l.size+r.size+1:=rfl;cases c
  ·show (a.exT l).size+(b.exT r).size+1=_;omega
  ·show (b.exT r).size+(a.exT l).size+1=_;omega
theorem ex_leaves:∀{β:TB}{s:Tr},β.Sh s->∀w,w∈(β.exT s).aJ->w∈s.aJ
 | .lf _,.leaf _,_,w,h=>h
 | .nd a b c,.node l r,h,w,hw=>by
  have h1:=ex_leaves h.1 w;have h2:=ex_leaves h.2 w;cases c
  ·rcases AX.mp hw with q | q
   ·exact Br _ (h1 q)
   ·exact AH _ (h2 q)
  ·rcases AX.mp hw with q | q
   ·exact AH _ (h2 q)
   ·exact Br _ (h1 q)
end TB
def dds_swap {x:Nat}{nm:Str} (h:(nm,x,y)∈Lq g i):(nm,y,x)∈Lq g i:=by
 rcases AA.mp h with e | h
 ·cases e;exact .head _
 refine AV _ ?_;rcases AX.mp h with h | h
 ·refine Br _ ?_;revert h;generalize (sy g i).un=l;intro h;unfold spl at h ⊢
  split at h
  ·simp at h ⊢;rcases h with⟨rfl,rfl,rfl⟩ | ⟨rfl,rfl,rfl⟩
   ·exact .inr ⟨rfl,rfl,rfl⟩
   ·exact .inl ⟨rfl,rfl,rfl⟩
  ·cases h
 ·refine AH _ ?_;obtain⟨o,ho,h⟩:=Cw.mp h;refine Cw.mpr ⟨o,ho,?_⟩;simp at h ⊢;rcases h with⟨rfl,rfl,rfl⟩ | ⟨rfl,rfl,rfl⟩
  ·exact .inr ⟨rfl,rfl,rfl⟩
  ·exact .inl ⟨rfl,rfl,rfl⟩
theorem ok_ex:∀{β:TB}{s:Tr}{u:WT},β.Sh s->u.Ok g s->(β.exW u).Ok g (β.exT s)/\(β.exW u).path=u.path
 | .lf _,.leaf _,.lf _ _,_,h=>⟨h,rfl⟩
 | .nd a b c,.node l r,.nd p i nm x y,hs,h=>by
  obtain⟨h1,p1⟩:=ok_ex hs.1 h.2.2.1;obtain⟨h2,p2⟩:=ok_ex hs.2 h.2.2.2;obtain⟨u,v,r1,r2,hd,q1,q2⟩:=h.2.1;cases c
  ·exact⟨⟨h.1,⟨u,v,r1,r2,hd,by rw [p1];exact q1,by rw [p2];exact q2⟩,h1,h2⟩,rfl⟩
  ·exact⟨⟨h.1,⟨v,u,r2,r1,dds_swap hd,by rw [p2];exact q2,by rw [p1];exact q1⟩,h2,h1⟩,rfl⟩
theorem wt_wok:∀(s:Tr) (o:Nat),(∀k,k < s.size->en t 0 (o+k)=en s o k)->∀u:WT,u.Ok g s->L6 g t (o+s.size-1) u.path u.pv
 | .leaf x,o,hs,.lf p i,h=>by
  have e0:en t 0 o=.word x:=hs 0 (by show 0 < 1;decide);exact .leaf e0 h.1 h.2
 | .node l r,o,hs,.nd p i nm a b,h=>by
  have es:(Tr.node l r).size=l.size+r.size+1:=rfl;have er:en t 0 (o+(l.size+r.size))=.pair (o+l.size-1) (o+l.size+r.size-1):=by rw [hs _ ∅,en,if_neg ∅,if_neg ∅]
  have hl:∀k,k < l.size->en t 0 (o+k)=en l o k:=λk hk=>by rw [hs k ∅,en,if_pos hk]
  have hr:∀k,k < r.size->en t 0 (o+l.size+k)=en r (o+l.size) k:=λk hk=>by rw [A3,hs _ ∅,en,if_neg ∅,if_pos ∅,BN]
  obtain⟨x,y,r1,r2,hd,q1,q2⟩:=h.2.1;have w1:=wt_wok l o hl a h.2.2.1;have w2:=wt_wok r (o+l.size) hr b h.2.2.2;rw [q1] at w1;rw [q2] at w2;exact .node er h.1 hd w1 w2
def ok_root (h:u.Ok g t):L6 g t (t.size-1) u.path u.pv:=by
 have:=wt_wok (g:=g) (t:=t) t 0 (λk _=>by rw [AI]) u h
 rwa [AI] at this
def blP (l:List Bool):List PV:=l.map PV.bl
def blP_len (l:List Bool):(blP l).length=l.length:=Af _
def cut_pre (a b:List PV):dZ (a++b) bv (ap (a.length:Int))=a:=by
 unfold dZ;rw [HT.qY,HT.vV,E2 (by simp)];simp
theorem cut_mid (a b:List PV) (c:PV):dZ (a++b++[c]) (ap (a.length:Int)) (ap (-1))=b:=by
 have e:HT.dR (a++b++[c]).length (a++b++[c]).length (ap (-1))=a.length+b.length:=by
  simp [HT.dR];try omega
 unfold dZ;rw [HT.vV,e,E2 (by simp)];simp
theorem exchanged_le:∀(n:Nat) (s:Tr) (β:TB) (u:WT),s.depth < n->s.depth < 12->s.size<=300->β.Sh s->u.Ok g s->(m__law_exchanged n s.pv u.pv (.cl (blP β.flat))).le (.ret (.tup [(β.exT s).pv,(β.exW u).pv]))
 | 0,s,_,_,h,_,_,_,_=>by omega
 | n+1,.leaf w,.lf c,.lf p i,_,_,_,_,_=>λQ q=>by
  unfold m__law_exchanged;simp only [Tr.pv,gt,cr,eX,fD,a7,ga,if_true];exact q
 | n+1,.node l r,.nd a b c,.nd p i nm x y,hd,h12,hz,hs,h=>λQ q=>by
  have ed:(Tr.node l r).depth=max l.depth r.depth+1:=rfl;have es:(Tr.node l r).size=l.size+r.size+1:=rfl;have la:=TB.len hs.1;have lb:=TB.len hs.2;have i0:∀a b:PV,bW [a,b] 0=ap a:=λ_ _=>rfl;have i1:∀a b:PV,bW [a,b] 1=ap b:=λ_ _=>rfl;have j2:∀a b c d:PV,bW [a,b,c,d] 2=ap c:=λ_ _ _ _=>rfl;have j3:∀a b c d:PV,bW [a,b,c,d] 3=ap d:=λ_ _ _ _=>rfl;have ef:blP (TB.nd a b c).flat=blP a.flat++blP b.flat++[.bl c]:=by simp [blP,TB.flat]
  have c1:dZ (blP a.flat++blP b.flat++[.bl c]) bv (ap (l.size:Int))=blP a.flat:=by
   have:=cut_pre (blP a.flat) (blP b.flat++[.bl c])
   rwa [blP_len,la,<- AR] at this
  have c2:dZ (blP a.flat++blP b.flat++[.bl c]) (ap (l.size:Int)) (ap (-1))=blP b.flat:=by
   have:=cut_mid (blP a.flat) (blP b.flat) (.bl c)
   rwa [blP_len,la] at this
  have c3:bW (blP a.flat++blP b.flat++[.bl c]) (-1)=ap (.bl c):=sY _ _;have e4:∀x y z w:PV,dZ [x,y,z,w] bv (ap 2)=[x,y]:=λ_ _ _ _=>rfl;rw [ef];unfold m__law_exchanged;simp only [Tr.pv,WT.pv,gt,cr,dE,fC,a7,ga,Al,if_false,ay,bb,i0,i1,j2,j3,sK];refine W.le.use (eI 12 l ∅ ∅) ?_;simp only [mI,cu,ga,lS,eW,c1];refine W.le.use (exchanged_le n l a x ∅ ∅ ∅ hs.1 h.2.2.1) ?_;simp only [gc,gt,cr,eW,ga,c2];refine W.le.use (exchanged_le n r b y ∅ ∅ ∅ hs.2 h.2.2.2) ?_;have cc:[PV.tup (az (p++[i])),.str nm].length+2<=sizeLine:=a9 (by simp);simp only [bJ,ga,bb,c3,sK,a7];rw [TB.exT,TB.exW] at q;cases c
  ·simp only [Al,if_false,ga,cr,gt,ay,bb,i0,i1,sK,iO,e4,xn,Ao,A2,re (show 0+1+1+(0+1+1)<=sizeLine from a9 ⋯)];exact q
  ·simp only [if_true,ga,cr,gt,ay,bb,i0,i1,sK,iO,e4,xn,Ao,A2,re (show 0+1+1+(0+1+1)<=sizeLine from a9 ⋯)];exact q
theorem TB.ord_len:∀(β:TB) (o:Nat),(β.ord o).length=β.flat.length
 | .lf _,_=>rfl
 | .nd a b c,o=>by
  have e:(TB.nd a b c).flat=a.flat++b.flat++[c]:=rfl;rw [TB.ord,e];cases c <;> simp [TB.ord_len a,TB.ord_len b] <;> omega
theorem TB.ord_lt:∀(β:TB) (o k:Nat),k∈β.ord o->k < o+β.flat.length
 | .lf c,o,k,h=>by
  have:=Bc.mp h;subst this;show k < k+1;omega
 | .nd a b c,o,k,h=>by
  have e:(TB.nd a b c).flat.length=a.flat.length+b.flat.length+1:=by simp [TB.flat];try omega
  rw [TB.ord] at h;have h1:=TB.ord_lt a o k;have h2:=TB.ord_lt b (o+a.flat.length) k;have h:k∈a.ord o\/k∈b.ord (o+a.flat.length)\/k=o+a.flat.length+b.flat.length:=by
   cases c
   ·simpa [or_assoc] using h
   ·have h:(k∈b.ord (o+a.flat.length)\/k∈a.ord o)\/k=o+a.flat.length+b.flat.length:=by simpa [or_assoc] using h
    rcases h with (h | h) | h
    ·exact .inr (.inl h)
    ·exact .inl h
    ·exact .inr (.inr h)
  rcases h with h | h | h
  ·have:=h1 h;omega
  ·have:=h2 h;omega
  ·omega
theorem order_le:∀(n:Nat) (s:Tr) (β:TB) (o:Nat),s.depth < n->s.depth < 12->s.size<=300->β.Sh s->(m__law_order n s.pv (.cl (blP β.flat)) (.int (o:Int))).le (.ret (az (β.ord o)))
 | 0,s,_,_,h,_,_,_=>by omega
 | n+1,.leaf w,.lf c,o,_,_,_,_=>λQ q=>by
  unfold m__law_order;simp only [Tr.pv,gt,cr,eX,fD,a7,ga,if_true];exact q
 | n+1,.node l r,.nd a b c,o,hd,h12,hz,hs=>λQ q=>by
  have ed:(Tr.node l r).depth=max l.depth r.depth+1:=rfl;have es:(Tr.node l r).size=l.size+r.size+1:=rfl;have la:=TB.len hs.1;have lb:=TB.len hs.2;have oa:=a.ord_len o;have ob:=b.ord_len (o+a.flat.length);have i0:∀a b:PV,bW [a,b] 0=ap a:=λ_ _=>rfl;have i1:∀a b:PV,bW [a,b] 1=ap b:=λ_ _=>rfl;have ef:blP (TB.nd a b c).flat=blP a.flat++blP b.flat++[.bl c]:=by simp [blP,TB.flat]
  have c1:dZ (blP a.flat++blP b.flat++[.bl c]) bv (ap (l.size:Int))=blP a.flat:=by
   have:=cut_pre (blP a.flat) (blP b.flat++[.bl c])
   rwa [blP_len,la,<- AR] at this
  have c2:dZ (blP a.flat++blP b.flat++[.bl c]) (ap (l.size:Int)) (ap (-1))=blP b.flat:=by
   have:=cut_mid (blP a.flat) (blP b.flat) (.bl c)
   rwa [blP_len,la] at this
  have c3:bW (blP a.flat++blP b.flat++[.bl c]) (-1)=ap (.bl c):=sY _ _;have ll:((blP a.flat++blP b.flat++[PV.bl c]).length:Int)=(l.size:Int)+r.size+1:=by simp [blP_len,la,lb];try omega
  have eo:(o:Int)+(l.size:Int)=((o+a.flat.length:Nat):Int):=by omega
  have el:(o:Int)+((l.size:Int)+r.size+1)-1=((o+a.flat.length+b.flat.length:Nat):Int):=by omega
  rw [ef];unfold m__law_order;simp only [Tr.pv,gt,cr,dE,fC,a7,ga,Al,if_false,ay,bb,i0,i1,sK];refine W.le.use (eI 12 l ∅ ∅) ?_;simp only [mI,cu,ga,lS,eW,c1];refine W.le.use (order_le n l a o ∅ ∅ ∅ hs.1) ?_;simp only [gc,gt,cr,eW,ga,c2,fF,eo];refine W.le.use (order_le n r b _ ∅ ∅ ∅ hs.2) ?_;simp only [gE,ll,ga,fF,mH,el,bJ,bb,c3,sK,a7];rw [TB.ord] at q;cases c
  ·simp only [Al,if_false,ga,cr,lS];rw [gh (by rw [aZ,aZ];omega)];simp only [ga];rw [gh (by rw [Ae,aZ,aZ];simp;omega)];rw [if_neg ⋯,i8,i8] at q;exact q
  ·simp only [if_true,ga,cr,lS];rw [gh (by rw [aZ,aZ];omega)];simp only [ga];rw [gh (by rw [Ae,aZ,aZ];simp;omega)];rw [if_pos rfl,i8,i8] at q;exact q
theorem ex_places {A:Nat->PV}:∀{β:TB}{s:Tr}{u:WT} (o:Nat),β.Sh s->u.Ok g s->(∀k,k < u.size->(u.post.map WT.plc)[k]?=ap (A (o+k)))->(β.ord o).map A=(β.exW u).post.map WT.plc
 | .lf _,.leaf _,.lf p i,o,_,_,h=>by
  have:=h 0 (by show 0 < 1;decide);have e:(WT.lf p i).plc=A o:=Option.some.inj this;show [A o]=[(WT.lf p i).plc];rw [e]
 | .nd a b c,.node l r,.nd p i nm x y,o,hs,hk,h=>by
  have la:=TB.len hs.1;have lb:=TB.len hs.2;have sx:=hk.2.2.1.size;have sy':=hk.2.2.2.size;have px:=x.post_len;have py:=y.post_len;have es:(WT.nd p i nm x y).size=x.size+y.size+1:=rfl;have ep:((WT.nd p i nm x y).post.map WT.plc)=x.post.map WT.plc++y.post.map WT.plc++[(WT.nd p i nm x y).plc]:=by simp [WT.post]
  rw [ep] at h;have h1:=ex_places o hs.1 hk.2.2.1 λk hk=>by
   have:=h k ∅
   rwa [AR,Ay (by simp;omega)] at this
  have h2:=ex_places (o+a.flat.length) hs.2 hk.2.2.2 λk hk=>by
   have:=h (x.size+k) ∅;rw [AR,AB (by simp;omega),Af,px,BN,Ay (by simp;omega)] at this;rw [this,la,sx,A3]
  have h3:A (o+a.flat.length+b.flat.length)=(WT.nd p i nm x y).plc:=by
   have:=h (x.size+y.size) ∅;simp [px,py] at this;rw [this,la,lb,<- sx,<- sy',A3]
  have pl:∀x' y':WT,(WT.nd p i nm x' y').plc=(WT.nd p i nm x y).plc:=λ_ _=>rfl;rw [TB.ord,TB.exW];cases c
  ·rw [if_neg ⋯,if_neg ⋯,AM,AM,h1,h2];simp [WT.post,h3,pl]
  ·rw [if_pos rfl,if_pos rfl,AM,AM,h1,h2];simp [WT.post,h3,pl]
def lost_app2 (g:List Sy) (l m:List WT):lost g (l++m)=lost g l+lost g m:=by unfold lost;simp
def lost_one (g:List Sy) (x:WT):lost g [x]=losN g x.pre:=by unfold lost;simp
theorem ex_counts (g:List Sy):∀(β:TB) (u:WT),(∀nm,cnt nm (β.exW u).post=cnt nm u.post)/\lost g (β.exW u).post=lost g u.post
 | .lf _,u=>by cases u <;> exact⟨λ_=>rfl,rfl⟩
 | .nd a b c,.lf p i=>⟨λ_=>rfl,rfl⟩
 | .nd a b c,.nd p i nm x y=>by
  obtain⟨h1,l1⟩:=ex_counts g a x;obtain⟨h2,l2⟩:=ex_counts g b y;have k1:∀(x' y':WT) (z:Str),cnt z [WT.nd p i nm x' y']=cnt z [WT.nd p i nm x y]:=λ_ _ _=>by simp [cnt_one,WT.deed]
  have k2:∀(x' y':WT),lost g [WT.nd p i nm x' y']=lost g [WT.nd p i nm x y]:=λ_ _=>by simp [lost_one,WT.pre]
  have e:∀x' y':WT,(WT.nd p i nm x' y').post=x'.post++y'.post++[WT.nd p i nm x' y']:=λ_ _=>rfl;rw [TB.exW];cases c
  ·rw [if_neg ⋯];refine⟨λz=>?_,?_⟩
   ·rw [e,e,cnt_app,cnt_app,cnt_app,cnt_app,h1,h2,k1]
   ·rw [e,e,lost_app2,lost_app2,lost_app2,lost_app2,l1,l2,k2]
  ·rw [if_pos rfl];refine⟨λz=>?_,?_⟩
   ·rw [e,e,cnt_app,cnt_app,cnt_app,cnt_app,h1,h2,k1];omega
   ·rw [e,e,lost_app2,lost_app2,lost_app2,lost_app2,l1,l2,k2];omega
theorem turns_run (hd:t.depth < 12) (hz:t.size<=300) {Q:List PV->Prop} (q:∀T:List Bool,T.length=t.size->Q (blP T)):(m__law_turns t.pv).run Q:=by
 unfold m__law_turns;simp only [gt,cr];refine W.le.use (eI 12 t hd ∅) ?_;refine nt (S:=λv=>∃b:Bool,v=.bl b) (λx hx R r=>?_) λm hm hs=>?_
 ·obtain⟨e,_,rfl⟩:=Aw.mp hx;show (am _ _).run R;simp only [cr,cD 2 ⋯ ⋯];refine bt λd _ _=>?_;simp only [gt,cI,ga];cases c:d==0 with
  | false=>rw [xl];exact r _ ⟨_,rfl⟩
  | true=>
   cases e with
   | word w=>simp only [Ent.pv,eX,fD,gt,Hs];exact r _ ⟨_,rfl⟩
   | pair a b=>simp only [Ent.pv,dE,fC,gt,Hs];exact r _ ⟨_,rfl⟩
 ·have:∃T:List Bool,m=blP T:=by
   clear hm
   induction m with
   | nil=>exact⟨[],rfl⟩
   | cons v m ih=>
    obtain⟨b,rfl⟩:=hs v (.head _);obtain⟨T,rfl⟩:=ih λu hu=>hs u (.tail _ hu);exact⟨b::T,rfl⟩
  obtain⟨T,rfl⟩:=this;rw [blP_len,cu] at hm;exact q T hm
theorem law23_ok:∀ns:List Int,ns.length<=63->(m_law_8 (.cl (ns.map PV.int))).run (·=.bl true):=λns hn=>by
 unfold m_law_8;simp only [gt,cr,gE,Af,WS,WU,ga];obtain⟨k,hk,k1⟩:∃k:Nat,(if (if (6:Int) < (ns.length:Int) then (6:Int) else (ns.length:Int)) > 1 then (if (6:Int) < (ns.length:Int) then (6:Int) else (ns.length:Int)) else 1)=(k:Int)/\k<=6:=by
  refine⟨(if (if (6:Int) < (ns.length:Int) then (6:Int) else (ns.length:Int)) > 1 then (if (6:Int) < (ns.length:Int) then (6:Int) else (ns.length:Int)) else 1).toNat,?_,?_⟩ <;> split <;> split <;> omega
 rw [hk];simp only [fB,re (cq (i:=0) (j:=(k:Int)) ∅ ∅),ga,A1];refine Ov (λ_ _=>True) trivial (λi _ hi _=>?_) (λ_ _=>rfl);refine QZ ∅ λl hl=>⟨hl,?_⟩;unfold gr;simp only [cr,gt];refine Hc λt g=>?_;refine S1 g λs G=>?_;refine Ka g λu hu hul=>?_;have hz:u.size<=300:=by have:=u.size_eq;omega
 have hd:u.depth < 12:=by have:=u.nT;omega
 have uw:u.Ws:=λw hw=>g.ws w (hu w hw);refine whole_run G hu hd ∅ λi0 w0 W0=>?_;obtain⟨v,rfl,vp,ok⟩:=wok_root W0;refine turns_run hd hz λT hT=>?_;obtain⟨β,sh,rfl⟩:=TB.of_list u T hT;refine W.le.use (exchanged_le 12 u β v hd hd hz sh ok) ?_;obtain⟨Đ,ep⟩:=ok_ex sh ok;have z2:=TB.ex_size sh;have uw2:(β.exT u).Ws:=λw hw=>uw w (TB.ex_leaves sh w hw);have vz:=ok.size;have vd:=ok.depth;have vz2:=Đ.size;have W2:=ok_root Đ;rw [ep,vp] at W2;simp only [mG,ga];refine W.le.use (zc G uw ∅ W0) ?_;have e1:((([i0]:List Nat).length:Int)==1)=true:=rfl;simp only [e1,uZ,beq_self_eq_true,Bq,br,ga,Al,if_false,cr];refine W.le.use (zc G uw2 ∅ W2) ?_;simp only [e1,uZ,beq_self_eq_true,Bq,br,ga,Al,if_false,cr];have kn:=ok_kn G ok;have kn2:=ok_kn G Đ;obtain⟨cc,lc⟩:=ex_counts s β v;have ed:dueP s (β.exW v).post=dueP s v.post:=by unfold dueP;rw [cc,cc,cc,lc]
 refine W.le.use (counted_le (β.exW v) ∅ kn2) ?_;refine W.le.use (counted_le v ∅ kn) ?_;rw [ed];have sm:(m__law_same 4 (dueP s v.post) (dueP s v.post)).le (.ret (.bl true)):=same_self (.tup (λx hx=>by
  simp at hx;rcases hx with rfl | rfl | rfl | rfl <;> exact .int) (by simp))
 refine W.le.use sm ?_;simp only [a7,ga,Bq,Al,if_false,cr,fB,re (cq (i:=0) (j:=(4:Int)) ∅ ∅)];refine nt (S:=λv=>∃n:Int,v=.int n) (λx _ R r=>?_) λm hm hs=>?_
 ·simp only [gt,cD 1001 ⋯ ⋯];exact bt λd _ _=>r _ ⟨d,rfl⟩
 obtain⟨a,b,c,d,rfl⟩:∃a b c d:Int,m=[.int a,.int b,.int c,.int d]:=by
  match m,hm with
  | [x1,x2,x3,x4],_=>
   obtain⟨a,rfl⟩:=hs x1 (by simp);obtain⟨b,rfl⟩:=hs x2 (by simp);obtain⟨c,rfl⟩:=hs x3 (by simp);obtain⟨d,rfl⟩:=hs x4 (by simp);exact⟨a,b,c,d,rfl⟩
 simp only [sG,ga];refine W.le.use (counted_le (β.exW v) ∅ kn2) ?_;rw [ed];have pl:=v.post_len;have ag4:=size_inn v;have ag3:=cnts_inn ok;have ll:=lost_le v.post kn;have pe:m_priced (.tup [.int a,.int b,.int c,.int d]) (dueP s v.post)=.ret (.int (a*cnt "split" v.post+b*cnt "doubled" v.post+c*cnt "over" v.post+d*lost s v.post)):=priced_ev a b c d ∅ ∅ ∅ ∅;rw [pe];simp only [ga];refine W.le.use (lcounts_le G v ∅ ∅ kn) ?_;rw [pe];simp only [ga,xj,beq_self_eq_true,Bq,br,Al,if_false,cr];refine W.le.use (places_le v ∅) ?_;refine W.le.use (order_le 12 u β 0 hd hd hz sh) ?_;have pls:(v.post.map WT.plc).length=v.size:=by rw [Af,pl]
 have exp:=ex_places (g:=s) (A:=λk=>(v.post.map WT.plc).getD k .aX) 0 sh ok λk hk=>by
  rw [AI,Ap,Ad ∅];rfl
 have bd:∀k∈β.ord 0,k < v.size:=λk hk=>by have:=β.ord_lt 0 k hk;have:=TB.len sh;omega
 simp only [bJ,ga,ay];rw [nr (g:=λk=>(v.post.map WT.plc).getD k .aX) λk hk=>by
  have:=bd k hk;simp only [gt,bb];rw [bV (j:=k) (v:=(v.post.map WT.plc).getD k .aX) (by rw [Ap,Ad ∅];rfl)];rfl]
 rw [exp];simp only [ga,sG];refine W.le.use (places_le (β.exW v) ∅) ?_;refine W.le.use (same_self (n:=4) (.tup (λx hx=>?_) (by rw [Af,WT.post_len];omega))) ?_
 ·obtain⟨y,_,rfl⟩:=Aw.mp hx;refine .tup (λx hx=>?_) (by simp);simp at hx;rcases hx with rfl | rfl
  ·exact .int
  ·exact .str
 simp only [a7,ga,Bq,Al,if_false,cr]
end My
variable {kF uC Ir yr Mo Iv Iu Mn uD:PySem.Tok}{qE:BK}
namespace My
section
open PySem PySem.Spec PyProof.Rows L2 PL FL
def top (i:Nat):u8:=PySem.Challenge.pw_treewithin_k23_whole_two_exchanged.main.body.getD i (.Pass ⟨0,0,0,0⟩)
def sc_is_whole:aq ["thing"] ["thing"] (ag (top 1)):=eM
def sc_is_row:aq ["thing","many"] ["thing","many"] (ag (top 2)):=eM
abbrev N_is_word:List Str:=["thing"]
def sc_is_word:aq N_is_word ["thing"] (ag (top 6)):=eM
abbrev lsc_is_word_0:o0:=ka [("sign",lo),("LETTERS",gi)]
def lc_is_word_0:aA (ag (top 6)) N_is_word lsc_is_word_0 ["sign"] [bv]:=lcs
def sc_is_grown:aq ["thing","is_leaf","often","seen","waiting","part"] ["thing","is_leaf","often"] (ag (top 7)):=eM
def sc_is_tree:aq ["thing"] ["thing"] (ag (top 8)):=eM
def sc_parts_of:aq ["tree","backward","waiting","part"] ["tree"] (ag (top 9)):=eM
def sc_nodes:aq ["tree","told","loose","part","other","one"] ["tree"] (ag (top 10)):=eM
def sc_halves:aq ["node"] ["node"] (ag (top 11)):=eM
abbrev N_ahead_of:List Str:=["tree","told","node","ahead","number","half"]
def sc_ahead_of:aq N_ahead_of ["tree"] (ag (top 12)):=eM
abbrev lsc_ahead_of_0:o0:=ka [("node",lo)]
def lc_ahead_of_0:aA (ag (top 12)) N_ahead_of lsc_ahead_of_0 ["node"] [bv]:=lcs
def sc_under_at:aq ["stays","stay"] ["stays","stay"] (ag (top 17)):=eM
def sc_beside_at:aq ["stays","stay"] ["stays","stay"] (ag (top 18)):=eM
def sc_is_home:aq ["stays","stay","word"] ["stays","stay","word"] (ag (top 19)):=eM
def sc_name_of:aq ["houses","house"] ["houses","house"] (ag (top 20)):=eM
abbrev N_lines_up:List Str:=["great","ahead","house","lines","above"]
def sc_lines_up:aq N_lines_up ["great"] (ag (top 21)):=eM
abbrev lsc_lines_up_0:o0:=ka [("house",lo)]
def lc_lines_up_0:aA (ag (top 21)) N_lines_up lsc_lines_up_0 ["house"] [bv]:=lcs
abbrev N_apart_from:List Str:=["lines","house"]
def sc_apart_from:aq N_apart_from ["lines","house"] (ag (top 22)):=eM
abbrev lsc_apart_from_0:o0:=ka [("far",lo),("house",fr),("lines",fr)]
def lc_apart_from_0:aA (ag (top 22)) N_apart_from lsc_apart_from_0 ["far","house","lines"] [bv,ap 1,ap 0]:=lcs
abbrev N_ground:List Str:=["great","houses","lines"]
def sc_ground:aq N_ground ["great"] (ag (top 23)):=eM
abbrev lsc_ground_0:o0:=ka [("house",lo),("name_of",gi),("halves",gi),("apart_from",gi),("houses",fr),("lines",fr)]
def lc_ground_0:aA (ag (top 23)) N_ground lsc_ground_0 ["house","houses","lines"] [bv,ap 1,ap 2]:=lcs
def sc_comes_in:aq ["way"] ["way"] (ag (top 30)):=eM
def sc_done_at:aq ["way"] ["way"] (ag (top 31)):=eM
abbrev N_ins_of:List Str:=["way"]
def sc_ins_of:aq N_ins_of ["way"] (ag (top 32)):=eM
abbrev lsc_ins_of_0:o0:=ka [("half",lo),("comes_in",gi)]
def lc_ins_of_0:aA (ag (top 32)) N_ins_of lsc_ins_of_0 ["half"] [bv]:=lcs
def sc_split_ins:aq ["ground","stay","under"] ["ground","stay"] (ag (top 33)):=eM
abbrev N_over_ins:List Str:=["ground","stay","beside"]
def sc_over_ins:aq N_over_ins ["ground","stay"] (ag (top 34)):=eM
abbrev lsc_over_ins_0:o0:=ka [("far",lo),("stay",fr)]
abbrev lsc_over_ins_1:o0:=ka [("far",lo),("stay",fr)]
def lc_over_ins_0:aA (ag (top 34)) N_over_ins lsc_over_ins_0 ["far","stay"] [bv,ap 1]:=lcs
def lc_over_ins_1:aA (ag (top 34)) N_over_ins lsc_over_ins_1 ["far","stay"] [bv,ap 1]:=lcs
abbrev N_deeds_at:List Str:=["ground","node","stay","split","over"]
def sc_deeds_at:aq N_deeds_at ["ground","node","stay"] (ag (top 35)):=eM
abbrev lsc_deeds_at_0:o0:=ka [("ins",lo),("SPLIT",gi)]
abbrev lsc_deeds_at_1:o0:=ka [("ins",lo),("OVER",gi)]
def lc_deeds_at_0:aA (ag (top 35)) N_deeds_at lsc_deeds_at_0 ["ins"] [bv]:=lcs
def lc_deeds_at_1:aA (ag (top 35)) N_deeds_at lsc_deeds_at_1 ["ins"] [bv]:=lcs
def sc_is_stay:aq ["ground","thing"] ["ground","thing"] (ag (top 36)):=eM
abbrev N_is_path:List Str:=["ground","thing"]
def sc_is_path:aq N_is_path ["ground","thing"] (ag (top 37)):=eM
abbrev lsc_is_path_0:o0:=ka [("stay",lo),("is_stay",gi),("ground",fr)]
abbrev lsc_is_path_1:o0:=ka [("stay",lo),("below",lo),("under_at",gi),("ground",fr)]
def lc_is_path_0:aA (ag (top 37)) N_is_path lsc_is_path_0 ["stay","ground"] [bv,ap 0]:=lcs
def lc_is_path_1:aA (ag (top 37)) N_is_path lsc_is_path_1 ["stay","below","ground"] [bv,bv,ap 0]:=lcs
def sc_is_formed:aq ["ground","node","thing","many"] ["ground","node","thing"] (ag (top 38)):=eM
abbrev N_ways_of_nodes:List Str:=["ground","told","thing","node","ways","number","way","half","part"]
def sc_ways_of_nodes:aq N_ways_of_nodes ["ground","told","thing"] (ag (top 39)):=eM
abbrev lsc_ways_of_nodes_0:o0:=ka [("node",lo)]
def lc_ways_of_nodes_0:aA (ag (top 39)) N_ways_of_nodes lsc_ways_of_nodes_0 ["node"] [bv]:=lcs
def sc_is_done:aq ["ground","node","way"] ["ground","node","way"] (ag (top 40)):=eM
abbrev N_is_way:List Str:=["ground","small","thing","told","ways"]
def sc_is_way:aq N_is_way ["ground","small","thing"] (ag (top 41)):=eM
abbrev lsc_is_way_0:o0:=ka [("node",lo),("way",lo),("is_done",gi),("ground",fr)]
def lc_is_way_0:aA (ag (top 41)) N_is_way lsc_is_way_0 ["node","way","ground"] [bv,bv,ap 0]:=lcs
def sc_ways_within:aq ["way","backward","waiting","part"] ["way"] (ag (top 42)):=eM
abbrev N_places:List Str:=["way"]
def sc_places:aq N_places ["way"] (ag (top 43)):=eM
abbrev lsc_places_0:o0:=ka [("part",lo),("done_at",gi)]
def lc_places_0:aA (ag (top 43)) N_places lsc_places_0 ["part"] [bv]:=lcs
abbrev N_split_dates:List Str:=["houses","dates"]
def sc_split_dates:aq N_split_dates ["houses","dates"] (ag (top 45)):=eM
abbrev lsc_split_dates_0:o0:=ka [("house",lo),("date",lo),("isinstance",gi),("str",gi)]
def lc_split_dates_0:aA (ag (top 45)) N_split_dates lsc_split_dates_0 ["house","date"] [bv,bv]:=lcs
def sc_standing:aq ["great","dates","begins","ahead","pairs","number","begin","house","date"] ["great","dates","begins"] (ag (top 46)):=eM
abbrev N_stay_of:List Str:=["houses","dates","begins","numbers","pair","house","layer","goes_on","below","under","beside"]
def sc_stay_of:aq N_stay_of ["houses","dates","begins","numbers","pair"] (ag (top 47)):=eM
abbrev lsc_stay_of_0:o0:=ka [("each",lo),("layer",fr),("numbers",fr)]
abbrev lsc_stay_of_1:o0:=ka [("far",lo),("house",fr),("layer",fr),("numbers",fr)]
def lc_stay_of_0:aA (ag (top 47)) N_stay_of lsc_stay_of_0 ["each","layer","numbers"] [bv,ap 6,ap 3]:=lcs
def lc_stay_of_1:aA (ag (top 47)) N_stay_of lsc_stay_of_1 ["far","house","layer","numbers"] [bv,ap 5,ap 6,ap 3]:=lcs
abbrev N_dated:List Str:=["great","dates","houses","begins","pairs","numbers"]
def sc_dated:aq N_dated ["great","dates"] (ag (top 48)):=eM
abbrev lsc_dated_0:o0:=ka [("number",lo),("pair",lo)]
abbrev lsc_dated_1:o0:=ka [("pair",lo),("stay_of",gi),("begins",fr),("dates",fr),("houses",fr),("numbers",fr)]
def lc_dated_0:aA (ag (top 48)) N_dated lsc_dated_0 ["number","pair"] [bv,bv]:=lcs
def lc_dated_1:aA (ag (top 48)) N_dated lsc_dated_1 ["pair","begins","dates","houses","numbers"] [bv,ap 3,ap 1,ap 2,ap 5]:=lcs
abbrev N_lost_on:List Str:=["ground","path"]
def sc_lost_on:aq N_lost_on ["ground","path"] (ag (top 50)):=eM
abbrev lsc_lost_on_0:o0:=ka [("stay",lo),("len",gi),("under_at",gi),("ground",fr)]
def lc_lost_on_0:aA (ag (top 50)) N_lost_on lsc_lost_on_0 ["stay","ground"] [bv,ap 0]:=lcs
abbrev N_counted:List Str:=["ground","way","parts","done","lost"]
def sc_counted:aq N_counted ["ground","way"] (ag (top 51)):=eM
abbrev lsc_counted_0:o0:=ka [("part",lo)]
abbrev lsc_counted_1:o0:=ka [("part",lo),("lost_on",gi),("ground",fr)]
abbrev lsc_counted_2:o0:=ka [("deed",lo),("done",fr)]
def lc_counted_0:aA (ag (top 51)) N_counted lsc_counted_0 ["part"] [bv]:=lcs
def lc_counted_1:aA (ag (top 51)) N_counted lsc_counted_1 ["part","ground"] [bv,ap 0]:=lcs
def lc_counted_2:aA (ag (top 51)) N_counted lsc_counted_2 ["deed","done"] [bv,ap 3]:=lcs
abbrev N_priced:List Str:=["prices","count"]
def sc_priced:aq N_priced ["prices","count"] (ag (top 52)):=eM
abbrev lsc_priced_0:o0:=ka [("price",lo),("many",lo)]
def lc_priced_0:aA (ag (top 52)) N_priced lsc_priced_0 ["price","many"] [bv,bv]:=lcs
def sc__law_pot:aq ["_law_script","_law_k","_law_cell","_law_digits"] ["_law_script","_law_k"] (ag (top 54)):=eM
def sc__law_take:aq ["_law_pot_here","_law_many","_law_digit","_law_mixed"] ["_law_pot_here","_law_many"] (ag (top 55)):=eM
def sc__law_pick:aq ["_law_pot_here","_law_some"] ["_law_pot_here","_law_some"] (ag (top 56)):=eM
def sc__law_words:aq ["_law_pot_here","_law_many","_law_letters","_law_first","_law_turn","_law_stem","_law_ends","_law_found","_law_k","_law_letter"] ["_law_pot_here","_law_many"] (ag (top 57)):=eM
def sc__law_tree:aq ["_law_pot_here","_law_words_here","_law_some","_law_way_here","_law_at","_law_pair"] ["_law_pot_here","_law_words_here"] (ag (top 58)):=eM
def sc__law_great:aq ["_law_pot_here"] ["_law_pot_here"] (ag (top 59)):=eM
def sc__law_nodes:aq ["_law_tree_here","_law_rows","_law_many","_law_row"] ["_law_tree_here"] (ag (top 60)):=eM
abbrev N__law_dates:List Str:=["_law_pot_here","_law_rows","_law_dates_here","_law_house","_law_left","_law_date","_law_ready"]
def sc__law_dates:aq N__law_dates ["_law_pot_here","_law_rows"] (ag (top 61)):=eM
abbrev lsc__law_dates_0:o0:=ka [("_law_house",lo),("_law_row",lo),("isinstance",gi),("str",gi)]
abbrev lsc__law_dates_1:o0:=ka [("_law_house",lo),("_law_left",fr),("_law_rows",fr)]
def lc__law_dates_0:aA (ag (top 61)) N__law_dates lsc__law_dates_0 ["_law_house","_law_row"] [bv,bv]:=lcs
def lc__law_dates_1:aA (ag (top 61)) N__law_dates lsc__law_dates_1 ["_law_house","_law_left","_law_rows"] [bv,ap 4,ap 1]:=lcs
abbrev N__law_small:List Str:=["_law_pot_here","_law_great_here","_law_words_here","_law_many"]
def sc__law_small:aq N__law_small ["_law_pot_here","_law_great_here"] (ag (top 62)):=eM
abbrev lsc__law_small_0:o0:=ka [("_law_row",lo),("isinstance",gi),("str",gi)]
abbrev lsc__law_small_1:o0:=ka [("_law_k",lo),("_law_pick",gi),("_law_pot_here",fr),("_law_words_here",fr)]
def lc__law_small_0:aA (ag (top 62)) N__law_small lsc__law_small_0 ["_law_row"] [bv]:=lcs
def lc__law_small_1:aA (ag (top 62)) N__law_small lsc__law_small_1 ["_law_k","_law_pot_here","_law_words_here"] [bv,ap 0,ap 2]:=lcs
def sc__law_any_ground:aq ["_law_pot_here","_law_great_here"] ["_law_pot_here","_law_great_here"] (ag (top 63)):=eM
def sc__law_deeds:aq ["_law_stays","_law_stay","_law_name","_law_level","_law_under","_law_beside","_law_found","_law_other"] ["_law_stays","_law_stay"] (ag (top 64)):=eM
abbrev N__law_done:List Str:=["_law_stays","_law_rows","_law_can_here","_law_node","_law_stay","_law_row"]
def sc__law_done:aq N__law_done ["_law_stays","_law_rows","_law_can_here","_law_node","_law_stay"] (ag (top 65)):=eM
abbrev lsc__law_done_0:o0:=ka [("_law_one",lo),("_law_can_here",fr),("_law_row",fr)]
def lc__law_done_0:aA (ag (top 65)) N__law_done lsc__law_done_0 ["_law_one","_law_can_here","_law_row"] [bv,ap 2,ap 5]:=lcs
abbrev N__law_can:List Str:=["_law_stays","_law_rows","_law_found","_law_node","_law_stay","_law_on"]
def sc__law_can:aq N__law_can ["_law_stays","_law_rows"] (ag (top 66)):=eM
abbrev lsc__law_can_0:o0:=ka [("_law_low",lo),("_law_found",fr),("_law_node",fr)]
def lc__law_can_0:aA (ag (top 66)) N__law_can lsc__law_can_0 ["_law_low","_law_found","_law_node"] [bv,ap 2,ap 3]:=lcs
abbrev N__law_path:List Str:=["_law_pot_here","_law_stays","_law_rows","_law_can_here","_law_node","_law_stay","_law_path_here","_law_turn","_law_on","_law_ends"]
def sc__law_path:aq N__law_path ["_law_pot_here","_law_stays","_law_rows","_law_can_here","_law_node","_law_stay"] (ag (top 67)):=eM
abbrev lsc__law_path_0:o0:=ka [("_law_low",lo),("_law_can_here",fr),("_law_node",fr)]
abbrev lsc__law_path_1:o0:=ka [("_law_low",lo),("_law_can_here",fr),("_law_node",fr)]
def lc__law_path_0:aA (ag (top 67)) N__law_path lsc__law_path_0 ["_law_low","_law_can_here","_law_node"] [bv,ap 3,ap 4]:=lcs
def lc__law_path_1:aA (ag (top 67)) N__law_path lsc__law_path_1 ["_law_low","_law_can_here","_law_node"] [bv,ap 3,ap 4]:=lcs
def sc__law_way:aq ["_law_pot_here","_law_stays","_law_rows","_law_can_here","_law_node","_law_path_here","_law_deed","_law_one","_law_other","_law_row","_law_first"] ["_law_pot_here","_law_stays","_law_rows","_law_can_here","_law_node","_law_path_here"] (ag (top 68)):=eM
abbrev N__law_whole_way:List Str:=["_law_pot_here","_law_stays","_law_small_here","_law_rows","_law_can_here","_law_last","_law_some"]
def sc__law_whole_way:aq N__law_whole_way ["_law_pot_here","_law_stays","_law_small_here"] (ag (top 69)):=eM
abbrev lsc__law_whole_way_0:o0:=ka [("_law_stay",lo),("_law_done",gi),("_law_can_here",fr),("_law_last",fr),("_law_rows",fr),("_law_stays",fr)]
def lc__law_whole_way_0:aA (ag (top 69)) N__law_whole_way lsc__law_whole_way_0 ["_law_stay","_law_can_here","_law_last","_law_rows","_law_stays"] [bv,ap 4,ap 5,ap 3,ap 1]:=lcs
def sc__law_scene:aq ["_law_pot_here","_law_great_here","_law_stays","_law_small_here"] ["_law_pot_here"] (ag (top 70)):=eM
def sc__law_parts:aq ["_law_way_here"] ["_law_way_here"] (ag (top 71)):=eM
def sc__law_counts:aq ["_law_stays","_law_way_here","_law_found","_law_lost","_law_one","_law_stay"] ["_law_stays","_law_way_here"] (ag (top 72)):=eM
abbrev N__law_same:List Str:=["_law_found","_law_due"]
def sc__law_same:aq N__law_same ["_law_found","_law_due"] (ag (top 73)):=eM
abbrev lsc__law_same_0:o0:=ka [("_law_one",lo),("_law_other",lo),("_law_same",gi)]
def lc__law_same_0:aA (ag (top 73)) N__law_same lsc__law_same_0 ["_law_one","_law_other"] [bv,bv]:=lcs
abbrev N__law_turns:List Str:=["_law_pot_here","_law_tree_here"]
def sc__law_turns:aq N__law_turns ["_law_pot_here","_law_tree_here"] (ag (top 74)):=eM
abbrev lsc__law_turns_0:o0:=ka [("_law_row",lo),("_law_take",gi),("isinstance",gi),("str",gi),("_law_pot_here",fr)]
def lc__law_turns_0:aA (ag (top 74)) N__law_turns lsc__law_turns_0 ["_law_row","_law_pot_here"] [bv,ap 0]:=lcs
def sc__law_exchanged:aq ["_law_tree_here","_law_way_here","_law_turns_here","_law_many","_law_one","_law_other"] ["_law_tree_here","_law_way_here","_law_turns_here"] (ag (top 75)):=eM
def sc__law_order:aq ["_law_tree_here","_law_turns_here","_law_first","_law_many","_law_one","_law_other","_law_last"] ["_law_tree_here","_law_turns_here","_law_first"] (ag (top 76)):=eM
abbrev N_law:List Str:=["_law_script","_law_k","_law_pot_here","_law_great_here","_law_stays","_law_small_here","_law_way_here","_law_turns_here","_law_tree_here","_law_other","_law_prices","_law_here","_law_due"]
def sc_law:aq N_law ["_law_script"] (ag (top 77)):=eM
abbrev lsc_law_0:o0:=ka [("_law_turn",lo),("_law_take",gi),("_law_pot_here",fr)]
abbrev lsc_law_1:o0:=ka [("_law_node",lo),("_law_here",fr)]
def lc_law_0:aA (ag (top 77)) N_law lsc_law_0 ["_law_turn","_law_pot_here"] [bv,ap 2]:=lcs
def lc_law_1:aA (ag (top 77)) N_law lsc_law_1 ["_law_node","_law_here"] [bv,ap 11]:=lcs
structure NB (v:EV):Prop where
 isinstance:v.mg "isinstance"=bv
 bool:v.mg "bool"=bv
 int:v.mg "int"=bv
 len:v.mg "len"=bv
 tuple:v.mg "tuple"=bv
 str:v.mg "str"=bv
 all:v.mg "all"=bv
 list:v.mg "list"=bv
 reversed:v.mg "reversed"=bv
 enumerate:v.mg "enumerate"=bv
 range:v.mg "range"=bv
 sorted:v.mg "sorted"=bv
 zip:v.mg "zip"=bv
 dict:v.mg "dict"=bv
 sum:v.mg "sum"=bv
 abs:v.mg "abs"=bv
 any:v.mg "any"=bv
 min:v.mg "min"=bv
 max:v.mg "max"=bv
variable {v:EV}
abbrev d_is_whole:DF:=⟨"is_whole",top 1,["thing"],1,λK=>d8 K [.v] (bS 1 gW)⟩
def k_is_whole (D:DI v d_is_whole) (q:NB v):D.O:=
 kO (m:=gW) D sc_is_whole λaQ _ _ _ _ _ _ hr=>
 (SF.bH (lj (cJ rfl .int rfl q.isinstance (ae 0) rfl q.int boot_int) (lh (OY (cJ rfl .bool rfl q.isinstance (ae 0) rfl q.bool boot_bool)))) λ_=>rfl)
abbrev d_is_row:DF:=⟨"is_row",top 2,["thing","many"],1,λK=>d8 K [.v,.v] (bS 2 fM)⟩
def k_is_row (D:DI v d_is_row) (q:NB v):D.O:=
 nk (m:=fM) D sc_is_row λaQ jb _ _ _ _ _ _ hr=>
 (SF.bH (lj (cJ rfl .tup rfl q.isinstance (ae 0) rfl q.tuple boot_tuple) (lh (gj (dr rfl (aM hr)) (cQ rfl rfl q.len (ae 0)) (ae 1)))) λ_=>rfl)
abbrev d_is_word:DF:=⟨"is_word",top 6,["thing"],1,λK=>d8 K [.v] (bS 1 jd)⟩
def k_is_word (D:DI v d_is_word) (q:NB v) (cR:v.mg "LONGEST_WORD"=ap (.int 8 kF)) (gJ:v.mg "LETTERS"=ap (.str "abcdefghijklmnopqrstuvwxyz" uC)):D.O:=
 kO (m:=jd) D sc_is_word λaQ _ _ _ _ _ _ hr=>
 (SF.tD (qG.t (pd (ik (bG rfl (cJ rfl .str rfl q.isinstance (ae 0) rfl q.str ss) (λ_=>rfl))) (kC (ik (Qs Jn Jn ao (cQ rfl rfl q.len (ae 0)) (xr cR rfl))))))
 (SF.bH ki λ_=>rfl)
 (SF.bH (zH rfl rfl rfl q.all (bw (dq rfl lc_is_word_0 (Wq (ae 0)) (λ_ _ _ _ _=>(cU 0 lc_is_word_0.nd)) (λ_ _ _ _ _ p2=>(gj (Wl rfl) (ae 0) (sN gJ rfl))) rfl))) λ_=>rfl))
abbrev d_is_grown (hV:db):DF:=⟨"is_grown",top 7,["thing","is_leaf","often"],2,λK=>d8 K [.v,.f hV,.v] (bS 2 gX)⟩
theorem k_is_grown {hV:db} (D:DI v (d_is_grown hV)) (He:Xw v.P v.w v.K v.mg v.base hV d_is_word.k d_is_word.ps (d_is_word.sp v.K)) (sf:d_is_row.C v):D.O:=
 nk (m:=gX) D sc_is_grown λaQ Gw _ _ _ _ _ _ hr=>
 (SF.acM (i:=3) sc_is_grown.nd rfl (Ci rfl)
 (sl 4 sc_is_grown.nd (ba (n:=1) (af (ae 0) ak) rfl) λcL=>
 (SF.qN (hd:=(λ(s4:List (Key×PV)×List PV)=>([ap (.val aQ),ap (.adr hV),ap (.val Gw),ap (.od s4.1),ap (.ol bv s4.2),bv]:bF))) (s0:=([],cL)) (inj:=id) AL (.refl _) (λs4=>(Ml rfl (cj 4) (λ_=>rfl))) (λ_=>trivial) (λs4=>
 (SF.rg 4 5 rfl ⋯ rfl rfl (.inl rfl) sc_is_grown.nd rfl (Ci rfl) λt7=>
 (SF.XH (bG rfl (eC sf hr (af (ae 5) (af ao ak))) (λ_=>rfl))
 (SF.extend 4 rfl rfl rfl (.inl rfl) (ar (ae 5)) λdh=>
 (SF.fh rfl (.keep (.keep (.keep (.keep (.keep (.drop (.refl _)))))))))
 (SF.XH (qG.t (pd (ik (bG rfl (SH 1 He hr (by first | exact Dh rfl | omega) rfl (af (ae 5) ak) rfl) (λ_=>rfl))) (kC (qG.t (kD (Yp 3 rfl (aM hr) (ae 5)) (ig (ik (bG rfl (ae 2) (λ_=>rfl)))))))))
 (SF.ret (k:=λko=>(Lp.out ko)) ki λ_=>rfl)
 (SF.putD 3 rfl (aM hr) rfl (.inl rfl) ki (ae 5) λIH=>
 (SF.fh rfl (.keep (.keep (.keep (.keep (.keep (.drop (.refl _))))))))))))) λs4=>
 (SF.bH ki λ_=>rfl))))
abbrev d_is_tree:DF:=⟨"is_tree",top 8,["thing"],3,λK=>d8 K [.v] (bS 1 lI)⟩
def k_is_tree (D:DI v d_is_tree) {sE:db} (LI:v.mg "is_word"=ap (.ref sE)) (Hk:(d_is_grown sE).C v):D.O:=
 kO (m:=lI) D sc_is_tree λaQ _ _ _ _ _ _ hr=>
 (SF.bH (eC Hk hr (af (ae 0) (aet rfl LI (af ki ak)))) λ_=>rfl)
abbrev d_parts_of:DF:=⟨"parts_of",top 9,["tree"],1,λK=>eL K [.v] (bS 1 jO)⟩
def k_parts_of (D:DI v d_parts_of) (q:NB v):D.O:=
 NF (m:=jO) D sc_parts_of λiU _ _ _ _ _ _ hr=>
 (sl 1 sc_parts_of.nd (ba (n:=0) ak rfl) λeD=>
 (sl 2 sc_parts_of.nd (ba (n:=1) (af (ae 0) ak) rfl) λcL=>
 (SF.ym (hd:=(λ(s4:List PV×List PV)=>([ap (.val iU),ap (.ol bv s4.1),ap (.ol bv s4.2),bv]:bF))) (s0:=(eD,cL)) AL (.refl _) (λs4=>(Ml rfl (cj 2) (λ_=>rfl))) (λs4=>
 (SF.rg 2 3 rfl ⋯ rfl rfl (.inl rfl) sc_parts_of.nd rfl (Ci rfl) λt7=>
 (SF.append 1 rfl rfl rfl (.inl rfl) (ae 3) λft=>
 (SF.XH (ik (bG rfl (cJ rfl .str rfl q.isinstance (ae 3) rfl q.str ss) (λ_=>rfl)))
 (SF.extend 2 rfl rfl rfl (.inl rfl) (ar (ae 3)) λdh=>
 (SF.fh rfl (.keep (.keep (.keep (.drop (.refl _)))))))
 (SF.fh rfl (.keep (.keep (.keep (.drop (.refl _)))))))))) λs4=>
 (SF.fc (T3 rfl rfl rfl q.list rfl q.reversed (vY 1)) λ_=>rfl))))
abbrev d_nodes:DF:=⟨"nodes",top 10,["tree"],2,λK=>d8 K [.v] (bS 1 iy)⟩
def k_nodes (D:DI v d_nodes) (q:NB v) (Hg:d_parts_of.C v):D.O:=
 kO (m:=iy) D sc_nodes λiU _ _ _ _ _ _ hr=>
 (sl 1 sc_nodes.nd (ba (n:=0) ak rfl) λjC=>
 (sl 2 sc_nodes.nd (ba (n:=0) ak rfl) λwF=>
 (SF.sA (hd:=(λ(s4:List PV×List PV)=>([ap (.val iU),ap (.ol bv s4.1),ap (.ol bv s4.2),bv,bv,bv]:bF))) (s0:=(jC,wF)) AL rfl (bA rfl (mf (lC Hg hr (af (ae 0) ak)))) (.refl _) (cU 3 sc_nodes.nd) (λs4 wg=>
 (SF.ZO (out1:=λ(U3:List PV×List PV)=>.nx ([ap (.val iU),ap (.ol bv U3.1),ap (.ol bv U3.2),ap (.val wg),bv,bv]:bF)) (bG rfl (cJ rfl .str rfl q.isinstance (ae 3) rfl q.str ss) (λ_=>rfl))
 (SF.append 1 rfl rfl rfl (.inl rfl) (ae 3) λIq=>
 (SF.nil rfl (.refl _)))
 (SF.rg 2 4 rfl ⋯ rfl rfl (.inl rfl) sc_nodes.nd rfl (Ci rfl) λt20=>
 (SF.rg 2 5 rfl ⋯ rfl rfl (.inl rfl) sc_nodes.nd rfl (Ci rfl) λt22=>
 (SF.append 1 rfl rfl rfl (.inl rfl) (aU (n:=2) (af (ae 5) (af (ae 4) ak)) rfl) λIp=>
 (SF.nil rfl (.keep (.keep (.keep (.keep (.drop (.drop (.refl _)))))))))))
 λU3=>(SF.append 2 rfl rfl rfl (.inl rfl) (mi (jT rfl rfl q.len (cj 1)) ao) λy6=>
 (SF.fh rfl (.keep (.keep (.keep (.drop (.refl _))))))))) λs4=>
 (SF.bH (df rfl rfl q.tuple (cj 1)) λ_=>rfl))))
abbrev d_halves:DF:=⟨"halves",top 11,["node"],1,λK=>d8 K [.v] (bS 1 dj)⟩
def k_halves (D:DI v d_halves) (q:NB v):D.O:=
 kO (m:=dj) D sc_halves λck _ _ _ _ _ _ hr=>
 (SF.bH (Lg (bG rfl (cJ rfl .str rfl q.isinstance (ae 0) rfl q.str ss) (λ_=>rfl)) (aU (n:=0) ak rfl) (ae 0)) λ_=>rfl)
abbrev d_ahead_of:DF:=⟨"ahead_of",top 12,["tree"],3,λK=>d8 K [.v] (bS 1 fm)⟩
def k_ahead_of (D:DI v d_ahead_of) (q:NB v) (jQ:d_nodes.C v) (hU:d_halves.C v):D.O:=
 kO (m:=fm) D sc_ahead_of λiU _ _ _ _ _ _ hr=>
 (sv 1 sc_ahead_of.nd (eC jQ hr (af (ae 0) ak)) λjC=>
 (SF.mY (i:=3) rfl sc_ahead_of.nd rfl rfl lc_ahead_of_0 (bA rfl (bB (ae 1))) (λ_ _ _ _ _=>(cU 0 lc_ahead_of_0.nd)) (λ_ _ _ _ _ p5=>sM) rfl λxQ=>
 (SF.Sj (hd:=(λ(s7:List PV)=>([ap (.val iU),ap (.val jC),bv,ap (.ol bv s7),bv,bv]:bF))) (s0:=xQ) AL rfl (nB rfl rfl q.enumerate (bB (ae 1))) (.refl _) (λ_=>(L4 rfl (d9 rfl (aK (cU 4 sc_ahead_of.nd) (aK (cU 2 sc_ahead_of.nd) cT))))) (λs7 t9=>
 (SF.sA (hd:=(λ(pJ:List PV)=>([ap (.val iU),ap (.val jC),ap (.val t9.2),ap (.ol bv pJ),ap (.val t9.1),bv]:bF))) (s0:=s7) AL rfl (bA rfl (bB (eC hU hr (af (ae 2) ak)))) (.refl _) (cU 5 sc_ahead_of.nd) (λpJ Jz=>
 (SF.Gq 3 rfl rfl (.inl rfl) (ae 4) (ae 5) λzV=>
 (SF.fh rfl (.keep (.keep (.keep (.keep (.keep (.drop (.refl _)))))))))) λpJ=>
 (SF.fh rfl (.keep (.keep (.drop (.keep (.drop (.refl _))))))))) λs7=>
 (SF.bH (df rfl rfl q.tuple (cj 3)) λ_=>rfl))))
abbrev d_under_at:DF:=⟨"under_at",top 17,["stays","stay"],1,λK=>d8 K [.v,.v] (bS 2 cW)⟩
def k_under_at (D:DI v d_under_at) (nU:v.mg "UNDER"=ap (.int 2 Ir)):D.O:=
 nk (m:=cW) D sc_under_at λaH bj _ _ _ _ _ _ hr=>
 (SF.bH (aE rfl (ar (aE rfl (ar (ae 0)) (ae 1))) (xr nU rfl)) λ_=>rfl)
abbrev d_beside_at:DF:=⟨"beside_at",top 18,["stays","stay"],1,λK=>d8 K [.v,.v] (bS 2 fP)⟩
def k_beside_at (D:DI v d_beside_at) (lu:v.mg "BESIDE"=ap (.int 3 yr)):D.O:=
 nk (m:=fP) D sc_beside_at λaH bj _ _ _ _ _ _ hr=>
 (SF.bH (aE rfl (ar (aE rfl (ar (ae 0)) (ae 1))) (xr lu rfl)) λ_=>rfl)
abbrev d_is_home:DF:=⟨"is_home",top 19,["stays","stay","word"],2,λK=>d8 K [.v,.v,.v] (bS 3 jk)⟩
def k_is_home (D:DI v d_is_home) (sV:v.mg "NAME"=ap (.int 0 Mo)) (eB:d_under_at.C v):D.O:=
 ND (m:=jk) D sc_is_home λaH bj Tj _ _ _ _ _ _ hr=>
 (SF.bH (lj (gj (dr rfl (aM hr)) (eC eB hr (af (ae 0) (af (ae 1) ak))) (aU (n:=0) ak rfl)) (lh (gj (dr rfl (aM hr)) (aE rfl (ar (aE rfl (ar (ae 0)) (ae 1))) (xr sV rfl)) (ae 2)))) λ_=>rfl)
abbrev d_name_of:DF:=⟨"name_of",top 20,["houses","house"],1,λK=>d8 K [.v,.v] (bS 2 eF)⟩
def k_name_of (D:DI v d_name_of) (q:NB v):D.O:=
 nk (m:=eF) D sc_name_of λfy kY _ _ _ _ _ _ hr=>
 (SF.bH (Lg (bG rfl (cJ rfl .str rfl q.isinstance (aE rfl (ar (ae 0)) (ae 1)) rfl q.str ss) (λ_=>rfl)) (aE rfl (ar (ae 0)) (ae 1)) (ae 1)) λ_=>rfl)
abbrev d_lines_up:DF:=⟨"lines_up",top 21,["great"],4,λK=>eL K [.v] (bS 1 gV)⟩
def k_lines_up (D:DI v d_lines_up) (q:NB v) (mF:d_ahead_of.C v):D.O:=
 NF (m:=gV) D sc_lines_up λdP _ _ _ _ _ _ hr=>
 (sv 1 sc_lines_up.nd (eC mF hr (af (ae 0) ak)) λd6=>
 (SF.mY (i:=3) rfl sc_lines_up.nd rfl rfl lc_lines_up_0 (bA rfl (bB (ae 1))) (λ_ _ _ _ _=>(cU 0 lc_lines_up_0.nd)) (λ_ _ _ _ _ p5=>(aU (n:=0) ak rfl)) rfl λlK=>
 (SF.sA (hd:=(λ(s9:List PV)=>([ap (.val dP),ap (.val d6),bv,ap (.ol bv s9),bv]:bF))) (s0:=lK) AL rfl (Jq rfl q.range (mi (cQ rfl rfl q.len (ae 1)) ao) (fX ao) (fX ao)) (.refl _) (cU 2 sc_lines_up.nd) (λs9 kX=>
 (sv 4 sc_lines_up.nd (Lg (cY wR (aE rfl (ar (ae 1)) (ae 2)) sM) (aU (n:=0) ak rfl) (aE rfl (cj 3) (aE rfl (ar (ae 1)) (ae 2)))) λzW=>
 (SF.Gq 3 rfl rfl (.inl rfl) (cm rfl (aU (n:=1) (af (ae 2) ak) rfl) (ae 4)) (ae 2) λy8=>
 (SF.fh rfl (.keep (.keep (.drop (.keep (.drop (.refl _)))))))))) λs9=>
 (SF.MN 3 rfl rfl))))
abbrev d_apart_from:DF:=⟨"apart_from",top 22,["lines","house"],1,λK=>d8 K [.v,.v] (bS 2 eP)⟩
def k_apart_from (D:DI v d_apart_from) (q:NB v):D.O:=
 nk (m:=eP) D sc_apart_from λwH kY _ _ _ _ _ _ hr=>
 (SF.bH (df rfl rfl q.tuple (dI (uQ rfl lc_apart_from_0 (fx rfl q.range (cQ rfl rfl q.len (ae 0))) (λ_ _ _ _ _=>(cU 0 lc_apart_from_0.nd)) (λ_ _ _ _ _ p3=>(qG.t (kD (vJ rfl (aM hr) (ae 0) (ar (aE rfl (ar (ae 2)) (ae 1)))) (ig (vJ rfl (aM hr) (ae 1) (ar (aE rfl (ar (ae 2)) (ae 0)))))))) (λ_ _ _ _ _ p3=>(ae 0)) rfl))) λ_=>rfl)
abbrev d_ground:DF:=⟨"ground",top 23,["great"],5,λK=>d8 K [.v] (bS 1 kQ)⟩
def k_ground (D:DI v d_ground) (q:NB v) (jQ:d_nodes.C v) (Hi:d_lines_up.C v) (oT:d_name_of.C v) (hU:d_halves.C v) (w5:d_apart_from.C v):D.O:=
 kO (m:=kQ) D sc_ground λdP _ _ _ _ _ _ hr=>
 (sv 1 sc_ground.nd (eC jQ hr (af (ae 0) ak)) λfU=>
 (sl 2 sc_ground.nd (lC Hi hr (af (ae 0) ak)) λlK=>
 SF.cO 2 rfl (SF.bH (df rfl rfl q.tuple (dI (dq rfl lc_ground_0 (fx rfl q.range (cQ rfl rfl q.len (ae 1))) (λ_ _ _ _ _=>(cU 0 lc_ground_0.nd)) (λ_ _ _ _ _ p7=>(aU (n:=4) (af (eC oT hr (af (ae 1) (af (ae 0) ak))) (af ao (af (eC hU hr (af (aE rfl (ar (ae 1)) (ae 0)) ak)) (af (eC w5 hr (af (ae 2) (af (ae 0) ak))) ak)))) rfl)) rfl))) λ_=>rfl)))
abbrev d_comes_in:DF:=⟨"comes_in",top 30,["way"],1,λK=>d8 K [.v] (bS 1 dm)⟩
def k_comes_in (D:DI v d_comes_in):D.O:=
 kO (m:=dm) D sc_comes_in λgN _ _ _ _ _ _ hr=>
 (SF.bH (aE rfl (ar (aE rfl (ar (ae 0)) ao)) ao) λ_=>rfl)
abbrev d_done_at:DF:=⟨"done_at",top 31,["way"],1,λK=>d8 K [.v] (bS 1 fi)⟩
def k_done_at (D:DI v d_done_at):D.O:=
 kO (m:=fi) D sc_done_at λgN _ _ _ _ _ _ hr=>
 (SF.bH (aE rfl (ar (aE rfl (ar (ae 0)) ao)) (fX ao)) λ_=>rfl)
abbrev d_ins_of:DF:=⟨"ins_of",top 32,["way"],2,λK=>d8 K [.v] (bS 1 nu)⟩
def k_ins_of (D:DI v d_ins_of) (q:NB v) (Hm:d_comes_in.C v):D.O:=
 kO (m:=nu) D sc_ins_of λgN _ _ _ _ _ _ hr=>
 (SF.bH (df rfl rfl q.tuple (dI (dq rfl lc_ins_of_0 (bA rfl (bB (sL rfl (ae 0) (fg ao) jK))) (λ_ _ _ _ _=>(cU 0 lc_ins_of_0.nd)) (λ_ _ _ _ _ p5=>(eC Hm hr (af (ae 0) ak))) rfl))) λ_=>rfl)
abbrev d_split_ins:DF:=⟨"split_ins",top 33,["ground","stay"],2,λK=>eL K [.v,.v] (bS 2 fK)⟩
def k_split_ins (D:DI v d_split_ins) (q:NB v) (eB:d_under_at.C v):D.O:=
 Ks (m:=fK) D sc_split_ins λaO bj _ _ _ _ _ _ hr=>
 (sv 2 sc_split_ins.nd (eC eB hr (af (ae 0) (af (ae 1) ak))) λmU=>
 (SF.fc (ZD (cY (dr rfl (aM hr)) (cQ rfl rfl q.len (ae 2)) ao) (ba (n:=2) (af (ae 2) (af (aU (n:=2) (af (aE rfl (ar (ae 2)) ao) (af (aE rfl (ar (ae 2)) ao) ak)) rfl) ak)) rfl) (ba (n:=0) ak rfl)) λ_=>rfl))
abbrev d_over_ins:DF:=⟨"over_ins",top 34,["ground","stay"],2,λK=>eL K [.v,.v] (bS 2 gU)⟩
def k_over_ins (D:DI v d_over_ins) (zm:d_beside_at.C v):D.O:=
 Ks (m:=gU) D sc_over_ins λaO bj _ _ _ _ _ _ hr=>
 (sv 2 sc_over_ins.nd (eC zm hr (af (ae 0) (af (ae 1) ak))) λsW=>
 (SF.fc (kc rfl (bw (dq rfl lc_over_ins_0 (bA rfl (bB (ae 2))) (λ_ _ _ _ _=>(cU 0 lc_over_ins_0.nd)) (λ_ _ _ _ _ p5=>(aU (n:=2) (af (ae 1) (af (ae 0) ak)) rfl)) rfl)) (bw (dq rfl lc_over_ins_1 (bA rfl (bB (ae 2))) (λ_ _ _ _ _=>(cU 0 lc_over_ins_1.nd)) (λ_ _ _ _ _ p9=>(aU (n:=2) (af (ae 0) (af (ae 1) ak)) rfl)) rfl))) λ_=>rfl))
abbrev d_deeds_at:DF:=⟨"deeds_at",top 35,["ground","node","stay"],3,λK=>eL K [.v,.v,.v] (bS 3 fj)⟩
def k_deeds_at (D:DI v d_deeds_at) (q:NB v) (nW:v.mg "FOUND"=ap (.str "found" Iv)) (nV:v.mg "SPLIT"=ap (.str "split" Iu)) (sU:v.mg "OVER"=ap (.str "over" Mn)) (jv:v.mg "DOUBLED"=ap (.str "doubled" uD)) (K2:d_is_home.C v) (zh:d_split_ins.C v) (Hh:d_over_ins.C v):D.O:=
 Zz (m:=fj) D sc_deeds_at λaO ck bj _ _ _ _ _ _ hr=>
 (SF.tD (bG rfl (cJ rfl .str rfl q.isinstance (ae 1) rfl q.str ss) (λ_=>rfl))
 (SF.fc (ZD (bG rfl (eC K2 hr (af (ae 0) (af (ae 2) (af (ae 1) ak)))) (λ_=>rfl)) (ba (n:=1) (af (aU (n:=2) (af (sN nW rfl) (af (aU (n:=0) ak rfl) ak)) rfl) ak) rfl) (ba (n:=0) ak rfl)) λ_=>rfl)
 (SF.mY (i:=3) rfl sc_deeds_at.nd rfl rfl lc_deeds_at_0 (bA rfl (mf (lC zh hr (af (ae 0) (af (ae 2) ak))))) (λ_ _ _ _ _=>(cU 0 lc_deeds_at_0.nd)) (λ_ _ _ _ _ IX=>(aU (n:=2) (af (sN nV rfl) (af (ae 0) ak)) rfl)) rfl λID=>
 SF.cO 3 rfl (SF.mY (i:=4) rfl sc_deeds_at.nd rfl rfl lc_deeds_at_1 (bA rfl (mf (lC Hh hr (af (ae 0) (af (ae 2) ak))))) (λ_ _ _ _ _=>(cU 0 lc_deeds_at_1.nd)) (λ_ _ _ _ _ p18=>(aU (n:=2) (af (sN sU rfl) (af (ae 0) ak)) rfl)) rfl λIZ=>
 SF.cO 4 rfl (SF.fc (RF rfl (aM hr) rfl q.sorted (bw (kc rfl (bw (kc rfl (bw (ba (n:=1) (af (aU (n:=2) (af (sN jv rfl) (af (aU (n:=2) (af (ae 2) (af (ae 2) ak)) rfl) ak)) rfl) ak) rfl)) (eN (ae 3)))) (eN (ae 4))))) λ_=>rfl))))
abbrev d_is_stay:DF:=⟨"is_stay",top 36,["ground","thing"],2,λK=>d8 K [.v,.v] (bS 2 jg)⟩
def k_is_stay (D:DI v d_is_stay) (q:NB v) (Hj:d_is_whole.C v):D.O:=
 nk (m:=jg) D sc_is_stay λaO aQ _ _ _ _ _ _ hr=>
 (SF.bH (lj (eC Hj hr (af (ae 1) ak)) (lh (SE Jn Jm ao (ae 1) (cQ rfl rfl q.len (ae 0))))) λ_=>rfl)
abbrev d_is_path:DF:=⟨"is_path",top 37,["ground","thing"],3,λK=>d8 K [.v,.v] (bS 2 jh)⟩
def k_is_path (D:DI v d_is_path) (q:NB v) (K0:d_is_stay.C v) (eB:d_under_at.C v):D.O:=
 nk (m:=jh) D sc_is_path λaO aQ _ _ _ _ _ _ hr=>
 (SF.tD (qG.t (pd (ik (bG rfl (cJ rfl .tup rfl q.isinstance (ae 1) rfl q.tuple boot_tuple) (λ_=>rfl))) (kC (cY (dr rfl (aM hr)) (cQ rfl rfl q.len (ae 1)) ao))))
 (SF.bH ki λ_=>rfl)
 (SF.tD (ik (bG rfl (zH rfl rfl rfl q.all (bw (dq rfl lc_is_path_0 (bA rfl (bB (ae 1))) (λ_ _ _ _ _=>(cU 0 lc_is_path_0.nd)) (λ_ _ _ _ _ p2=>(eC K0 hr (af (ae 1) (af (ae 0) ak)))) rfl))) (λ_=>rfl)))
 (SF.bH ki λ_=>rfl)
 (SF.bH (zH rfl rfl rfl q.all (bw (rP rfl lc_is_path_1 (oJ rfl rfl q.zip (bB (ae 1)) (bB (sL rfl (ae 1) (fg ao) jK))) (λ_ _ _ _ _=>(L4 rfl (d9 rfl (aK (cU 0 lc_is_path_1.nd) (aK (cU 1 lc_is_path_1.nd) cT))))) (λ_ _ _ _ _ om=>(Uq rfl (aM hr) (ae 1) (ar (eC eB hr (af (ae 2) (af (ae 0) ak)))))) (GX rfl rfl ⋯) ⋯))) λ_=>rfl)))
abbrev d_is_formed:DF:=⟨"is_formed",top 38,["ground","node","thing"],4,λK=>d8 K [.v,.v,.v] (bS 3 fN)⟩
def k_is_formed (D:DI v d_is_formed) (q:NB v) (K1:d_is_path.C v) (sf:d_is_row.C v):D.O:=
 ND (m:=fN) D sc_is_formed λaO ck aQ _ _ _ _ _ _ hr=>
 (sv 3 sc_is_formed.nd (Lg (bG rfl (cJ rfl .str rfl q.isinstance (ae 1) rfl q.str ss) (λ_=>rfl)) ao ao) λNI=>
 (SF.bH (lj (eC sf hr (af (ae 2) (af (ae 3) ak))) (lj (eC K1 hr (af (ae 0) (af (aE rfl (ar (ae 2)) ao) ak))) (lh (cJ rfl .str rfl q.isinstance (aE rfl (ar (ae 2)) ao) rfl q.str ss)))) λ_=>rfl))
abbrev d_ways_of_nodes:DF:=⟨"ways_of_nodes",top 39,["ground","told","thing"],5,λK=>d8 K [.v,.v,.v] (bS 3 cZ)⟩
def k_ways_of_nodes (D:DI v d_ways_of_nodes) (q:NB v) (zl:d_is_formed.C v) (hU:d_halves.C v):D.O:=
 ND (m:=cZ) D sc_ways_of_nodes λaO uB aQ _ _ _ _ _ _ hr=>
 (SF.mY (i:=4) rfl sc_ways_of_nodes.nd rfl rfl lc_ways_of_nodes_0 (bA rfl (bB (ae 1))) (λ_ _ _ _ _=>(cU 0 lc_ways_of_nodes_0.nd)) (λ_ _ _ _ _ p3=>sM) rfl λMe=>
 (SF.Gq 4 rfl rfl (.inl rfl) (ae 2) (fX ao) λmx=>
 (SF.Uj (hd:=(λ(QK:List PV)=>([ap (.val aO),ap (.val uB),ap (.val aQ),bv,ap (.ol bv QK),bv,bv,bv,bv]:bF))) (s0:=mx) (inj:=id) AL rfl (Jq rfl q.range (mi (cQ rfl rfl q.len (ae 1)) ao) (fX ao) (fX ao)) (.refl _) (cU 5 sc_ways_of_nodes.nd) (λ_=>trivial) (λQK lF=>
 (sv 3 sc_ways_of_nodes.nd (aE rfl (ar (ae 1)) (ae 5)) λqp=>
 (sv 6 sc_ways_of_nodes.nd (aE rfl (cj 4) (ae 5)) λvC=>
 (SF.tD (ik (bG rfl (eC zl hr (af (ae 0) (af (ae 3) (af (ae 6) ak)))) (λ_=>rfl)))
 (SF.ret (k:=λqM=>(Lp.out qM)) sM λ_=>rfl)
 (SF.Sj (hd:=(λ(U1:List PV)=>([ap (.val aO),ap (.val uB),ap (.val aQ),ap (.val qp),ap (.ol bv U1),ap (.val lF),ap (.val vC),bv,bv]:bF))) (s0:=QK) AL rfl (oJ rfl rfl q.zip (bB (eC hU hr (af (ae 3) ak))) (bB (sL rfl (ae 6) (fg ao) jK))) (.refl _) (λ_=>(L4 rfl (d9 rfl (aK (cU 7 sc_ways_of_nodes.nd) (aK (cU 8 sc_ways_of_nodes.nd) cT))))) (λU1 ċ=>
 (SF.Gq 4 rfl rfl (.inl rfl) (ae 8) (ae 7) λIk=>
 (SF.fh rfl (.keep (.keep (.keep (.keep (.keep (.keep (.keep (.drop (.drop (.refl _))))))))))))) λU1=>
 (SF.fh rfl (.keep (.keep (.keep (.drop (.keep (.drop (.drop (.refl _)))))))))))))) λQK=>
 (SF.cO 4 rfl (SF.bH (ae 4) λ_=>rfl)))))
abbrev d_is_done:DF:=⟨"is_done",top 40,["ground","node","way"],4,λK=>d8 K [.v,.v,.v] (bS 3 jm)⟩
def k_is_done (D:DI v d_is_done) (Oq:d_ins_of.C v) (Hl:d_deeds_at.C v) (oU:d_done_at.C v):D.O:=
 ND (m:=jm) D sc_is_done λaO ck gN _ _ _ _ _ _ hr=>
 (SF.bH (Uq rfl (aM hr) (aU (n:=2) (af (aE rfl (ar (ae 2)) ao) (af (eC Oq hr (af (ae 2) ak)) ak)) rfl) (dI (lC Hl hr (af (ae 0) (af (ae 1) (af (eC oU hr (af (ae 2) ak)) ak)))))) λ_=>rfl)
abbrev d_is_way:DF:=⟨"is_way",top 41,["ground","small","thing"],6,λK=>d8 K [.v,.v,.v] (bS 3 je)⟩
def k_is_way (D:DI v d_is_way) (q:NB v) (KZ:d_is_tree.C v) (jQ:d_nodes.C v) (pS:d_ways_of_nodes.C v) (K3:d_is_done.C v):D.O:=
 ND (m:=je) D sc_is_way λaO Gn aQ _ _ _ _ _ _ hr=>
 (SF.tD (ik (bG rfl (eC KZ hr (af (ae 1) ak)) (λ_=>rfl)))
 (SF.bH ki λ_=>rfl)
 (sv 3 sc_is_way.nd (eC jQ hr (af (ae 1) ak)) λGd=>
 (sv 4 sc_is_way.nd (eC pS hr (af (ae 0) (af (ae 3) (af (ae 2) ak)))) λmx=>
 (SF.tD (qG.t (pd (cY wR (ae 4) sM) (kC (cY (Jl rfl (aM hr)) (cQ rfl rfl q.len (aE rfl (ar (ae 2)) ao)) ao))))
 (SF.bH ki λ_=>rfl)
 (SF.bH (zH rfl rfl rfl q.all (bw (rP rfl lc_is_way_0 (oJ rfl rfl q.zip (bB (ae 3)) (bB (ae 4))) (λ_ _ _ _ _=>(L4 rfl (d9 rfl (aK (cU 0 lc_is_way_0.nd) (aK (cU 1 lc_is_way_0.nd) cT))))) (λ_ _ _ _ _ om=>(eC K3 hr (af (ae 2) (af (ae 0) (af (ae 1) ak))))) (GX rfl rfl ⋯) ⋯))) λ_=>rfl)))))
abbrev d_ways_within:DF:=⟨"ways_within",top 42,["way"],1,λK=>eL K [.v] (bS 1 m_ways_within)⟩
def k_ways_within (D:DI v d_ways_within) (q:NB v):D.O:=
 NF (m:=m_ways_within) D sc_ways_within λgN _ _ _ _ _ _ hr=>
 (sl 1 sc_ways_within.nd (ba (n:=0) ak rfl) λeD=>
 (sl 2 sc_ways_within.nd (ba (n:=1) (af (ae 0) ak) rfl) λcL=>
 (SF.ym (hd:=(λ(s4:List PV×List PV)=>([ap (.val gN),ap (.ol bv s4.1),ap (.ol bv s4.2),bv]:bF))) (s0:=(eD,cL)) AL (.refl _) (λs4=>(Ml rfl (cj 2) (λ_=>rfl))) (λs4=>
 (SF.rg 2 3 rfl ⋯ rfl rfl (.inl rfl) sc_ways_within.nd rfl (Ci rfl) λt7=>
 (SF.append 1 rfl rfl rfl (.inl rfl) (ae 3) λft=>
 (SF.extend 2 rfl rfl rfl (.inl rfl) (ar (sL rfl (ae 3) (fg ao) jK)) λdh=>
 (SF.fh rfl (.keep (.keep (.keep (.drop (.refl _)))))))))) λs4=>
 (SF.fc (T3 rfl rfl rfl q.list rfl q.reversed (vY 1)) λ_=>rfl))))
abbrev d_places:DF:=⟨"places",top 43,["way"],2,λK=>d8 K [.v] (bS 1 m_places)⟩
def k_places (D:DI v d_places) (q:NB v) (iL:d_ways_within.C v) (oU:d_done_at.C v):D.O:=
 kO (m:=m_places) D sc_places λgN _ _ _ _ _ _ hr=>
 (SF.bH (df rfl rfl q.tuple (dI (dq rfl lc_places_0 (bA rfl (mf (lC iL hr (af (ae 0) ak)))) (λ_ _ _ _ _=>(cU 0 lc_places_0.nd)) (λ_ _ _ _ _ p3=>(aU (n:=2) (af (eC oU hr (af (ae 0) ak)) (af (aE rfl (ar (ae 0)) ao) ak)) rfl)) rfl))) λ_=>rfl)
abbrev d_split_dates:DF:=⟨"split_dates",top 45,["houses","dates"],1,λK=>eL K [.v,.v] (bS 2 dX)⟩
def k_split_dates (D:DI v d_split_dates) (q:NB v):D.O:=
 Ks (m:=dX) D sc_split_dates λfy dQ _ _ _ _ _ _ hr=>
 (SF.fc (T6 rfl lc_split_dates_0 (oJ rfl rfl q.zip (bB (ae 0)) (bB (ae 1))) (λ_ _ _ _ _=>(L4 rfl (d9 rfl (aK (cU 0 lc_split_dates_0.nd) (aK (cU 1 lc_split_dates_0.nd) cT))))) (λ_ _ _ _ _ t5=>(ik (bG rfl (cJ rfl .str rfl q.isinstance (ae 0) rfl q.str ss) (λ_=>rfl)))) (λ_ _ _ _ _ t5=>(ae 1)) (GX rfl rfl ⋯) ⋯) λ_=>rfl)
abbrev d_standing:DF:=⟨"standing",top 46,["great","dates","begins"],4,λK=>eL K [.v,.v,.v] (bS 3 gT)⟩
def k_standing (D:DI v d_standing) (q:NB v) (mF:d_ahead_of.C v):D.O:=
 Zz (m:=gT) D sc_standing λdP dQ jW _ _ _ _ _ _ hr=>
 (sv 3 sc_standing.nd (eC mF hr (af (ae 0) ak)) λd6=>
 (sl 4 sc_standing.nd (ba (n:=0) ak rfl) λwo=>
 (SF.Sj (hd:=(λ(s5:List PV)=>([ap (.val dP),ap (.val dQ),ap (.val jW),ap (.val d6),ap (.ol bv s5),bv,bv,bv,bv]:bF))) (s0:=wo) AL rfl (nB rfl rfl q.enumerate (bB (ae 2))) (.refl _) (λ_=>(L4 rfl (d9 rfl (aK (cU 5 sc_standing.nd) (aK (cU 6 sc_standing.nd) cT))))) (λs5 t7=>
 (SF.Sj (hd:=(λ(s9:List PV)=>([ap (.val dP),ap (.val dQ),ap (.val jW),ap (.val d6),ap (.ol bv s9),ap (.val t7.1),ap (.val t7.2),bv,bv]:bF))) (s0:=s5) AL rfl (nB rfl rfl q.enumerate (bB (ae 1))) (.refl _) (λ_=>(L4 rfl (d9 rfl (aK (cU 7 sc_standing.nd) (aK (cU 8 sc_standing.nd) cT))))) (λs9 YH=>
 (SF.XH (qG.t (kD (cY Jn (ae 8) (ae 6)) (ig (qG.t (pd (cY wR (aE rfl (ar (ae 3)) (ae 7)) sM) (kC (cY Jm (ae 6) (aE rfl (ar (ae 1)) (aE rfl (ar (ae 3)) (ae 7))))))))))
 (SF.append 4 rfl rfl rfl (.inl rfl) (aU (n:=2) (af (ae 7) (af (ae 5) ak)) rfl) λyP=>
 (SF.fh rfl (.keep (.keep (.keep (.keep (.keep (.keep (.keep (.drop (.drop (.refl _))))))))))))
 (SF.fh rfl (.keep (.keep (.keep (.keep (.keep (.keep (.keep (.drop (.drop (.refl _))))))))))))) λs9=>
 (SF.fh rfl (.keep (.keep (.keep (.keep (.keep (.drop (.drop (.refl _))))))))))) λs5=>
 (SF.MN 4 rfl rfl))))
abbrev d_stay_of:DF:=⟨"stay_of",top 47,["houses","dates","begins","numbers","pair"],2,λK=>d8 K [.v,.v,.v,.v,.v] (bS 5 jc)⟩
def k_stay_of (D:DI v d_stay_of) (q:NB v) (hU:d_halves.C v) (oT:d_name_of.C v):D.O:=
 Zw (m:=jc) D sc_stay_of λfy dQ jW ng Np _ _ _ _ _ _ hr=>
 (sv 5 sc_stay_of.nd (aE rfl (ar (ae 4)) ao) λlO=>
 (sv 6 sc_stay_of.nd (aE rfl (ar (ae 4)) ao) λny=>
 (sv 7 sc_stay_of.nd (gj Jm (aE rfl (ar (ae 1)) (ae 5)) (aE rfl (ar (ae 2)) (ae 6))) λuW=>
 (sv 8 sc_stay_of.nd (Lg (bG rfl (ae 7) (λ_=>rfl)) (aU (n:=1) (af (ae 5) ak) rfl) (eC hU hr (af (aE rfl (ar (ae 0)) (ae 5)) ak))) λbelow_4=>
 (sv 9 sc_stay_of.nd (df rfl rfl q.tuple (dI (dq rfl lc_stay_of_0 (bA rfl (bB (ae 8))) (λ_ _ _ _ _=>(cU 0 lc_stay_of_0.nd)) (λ_ _ _ _ _ p9=>(O4 (aM hr) (ae 2) (aU (n:=2) (af (ae 0) (af (mi (ae 1) ao) ak)) rfl) (λ_ _=>rfl))) rfl))) λIo=>
 (sv 10 sc_stay_of.nd (df rfl rfl q.tuple (dI (uQ rfl lc_stay_of_1 (RU (ae 3)) (λ_ _ _ _ _=>(cU 0 lc_stay_of_1.nd)) (λ_ _ _ _ _ Zi=>(qG.t (kD (cY (dr rfl (aM hr)) (aE rfl (ar (ae 0)) ao) (ae 2)) (ig (cY (Jl rfl (aM hr)) (aE rfl (ar (ae 0)) ao) (ae 1)))))) (λ_ _ _ _ _ Zi=>(O4 (aM hr) (ae 3) (ae 0) (λ_ _=>rfl))) rfl))) λvm=>
 (SF.bH (aU (n:=4) (af (eC oT hr (af (ae 0) (af (ae 5) ak))) (af (ae 6) (af (ae 9) (af (ae 10) ak)))) rfl) λ_=>rfl)))))))
abbrev d_dated:DF:=⟨"dated",top 48,["great","dates"],5,λK=>d8 K [.v,.v] (bS 2 lJ)⟩
def k_dated (D:DI v d_dated) (q:NB v) (jQ:d_nodes.C v) (ug:d_split_dates.C v) (Hf:d_standing.C v) (KU:d_stay_of.C v):D.O:=
 nk (m:=lJ) D sc_dated λdP dQ _ _ _ _ _ _ hr=>
 (sv 2 sc_dated.nd (eC jQ hr (af (ae 0) ak)) λfU=>
 (sl 3 sc_dated.nd (kc rfl (bw (ba (n:=1) (af ao ak) rfl)) (bw (RG rfl rfl q.sorted (bw (lC ug hr (af (ae 2) (af (ae 1) ak))))))) λsX=>
 SF.cO 3 rfl (sl 4 sc_dated.nd (lC Hf hr (af (ae 0) (af (ae 1) (af (ae 3) ak)))) λwj=>
 SF.cO 4 rfl (sv 5 sc_dated.nd (aem (SQ rfl rfl (aM hr) rfl q.dict (bw (rP rfl lc_dated_0 (nB rfl rfl q.enumerate (bB (ae 4))) (λ_ _ _ _ _=>(L4 rfl (d9 rfl (aK (cU 0 lc_dated_0.nd) (aK (cU 1 lc_dated_0.nd) cT))))) (λ_ _ _ _ _ Č=>(aU (n:=2) (af (ae 1) (af (ae 0) ak)) rfl)) (GX rfl rfl ⋯) ⋯)))) λrC=>
 (SF.bH (df rfl rfl q.tuple (dI (dq rfl lc_dated_1 (bA rfl (bB (ae 4))) (λ_ _ _ _ _=>(cU 0 lc_dated_1.nd)) (λ_ _ _ _ _ p21=>(eC KU hr (af (ae 3) (af (ae 2) (af (ae 1) (af (ae 4) (af (ae 0) ak))))))) rfl))) λ_=>rfl)))))
abbrev d_lost_on:DF:=⟨"lost_on",top 50,["ground","path"],2,λK=>d8 K [.v,.v] (bS 2 m_lost_on)⟩
def k_lost_on (D:DI v d_lost_on) (q:NB v) (eB:d_under_at.C v):D.O:=
 nk (m:=m_lost_on) D sc_lost_on λaO TN _ _ _ _ _ _ hr=>
 (SF.bH (jT rfl rfl q.len (dI (uQ rfl lc_lost_on_0 (bA rfl (bB (sL rfl (ae 1) jK (fg (fX ao))))) (λ_ _ _ _ _=>(cU 0 lc_lost_on_0.nd)) (λ_ _ _ _ _ p5=>(cY (dr rfl (aM hr)) (cQ rfl rfl q.len (eC eB hr (af (ae 1) (af (ae 0) ak)))) ao)) (λ_ _ _ _ _ p5=>(ae 0)) rfl))) λ_=>rfl)
abbrev d_counted:DF:=⟨"counted",top 51,["ground","way"],3,λK=>d8 K [.v,.v] (bS 2 m_counted)⟩
def k_counted (D:DI v d_counted) (q:NB v) (nX:v.mg "DEEDS"=ap (.ref qE)) (wO:TupK v.K qE ["split","doubled","over"]) (iL:d_ways_within.C v) (KW:d_lost_on.C v):D.O:=
 nk (m:=m_counted) D sc_counted λaO gN _ _ _ _ _ _ hr=>
 (sl 2 sc_counted.nd (lC iL hr (af (ae 1) ak)) λwd=>
 SF.cO 2 rfl (sl 3 sc_counted.nd (dq rfl lc_counted_0 (bA rfl (bB (ae 2))) (λ_ _ _ _ _=>(cU 0 lc_counted_0.nd)) (λ_ _ _ _ _ p5=>(aE rfl (ar (ae 0)) ao)) rfl) λO9=>
 SF.cO 3 rfl (sv 4 sc_counted.nd (OT rfl rfl rfl q.sum (bw (dq rfl lc_counted_1 (bA rfl (bB (ae 2))) (λ_ _ _ _ _=>(cU 0 lc_counted_1.nd)) (λ_ _ _ _ _ p8=>(eC KW hr (af (ae 1) (af (aE rfl (ar (ae 0)) ao) ak)))) rfl))) λNJ=>
 (SF.bH (df rfl rfl q.tuple (dI (kc rfl (bw (dq rfl lc_counted_2 (it_mt rfl nX wO) (λ_ _ _ _ _=>(cU 0 lc_counted_2.nd)) (λ_ _ _ _ _ ô=>(SD rfl (aM hr) (eN (ae 1)) (ae 0))) rfl)) (bw (ba (n:=1) (af (ae 4) ak) rfl))))) λ_=>rfl))))
abbrev d_priced:DF:=⟨"priced",top 52,["prices","count"],1,λK=>d8 K [.v,.v] (bS 2 m_priced)⟩
def k_priced (D:DI v d_priced) (q:NB v):D.O:=
 nk (m:=m_priced) D sc_priced λIL Pg _ _ _ _ _ _ hr=>
 (SF.bH (OT rfl rfl rfl q.sum (bw (rP rfl lc_priced_0 (oJ rfl rfl q.zip (bB (ae 0)) (bB (ae 1))) (λ_ _ _ _ _=>(L4 rfl (d9 rfl (aK (cU 0 lc_priced_0.nd) (aK (cU 1 lc_priced_0.nd) cT))))) (λ_ _ _ _ _ t5=>(nP (ae 0) (ae 1))) (GX rfl rfl ⋯) ⋯))) λ_=>rfl)
abbrev d__law_pot:DF:=⟨"_law_pot",top 54,["_law_script","_law_k"],1,λK=>eL K [.v,.v] (bS 2 gY)⟩
def k__law_pot (D:DI v d__law_pot) (q:NB v):D.O:=
 Ks (m:=gY) D sc__law_pot λgn k_ _ _ _ _ _ _ hr=>
 (sv 2 sc__law_pot.nd ao λPl=>
 (SF.ZO (out1:=λ(s3:PV)=>.nx ([ap (.val gn),ap (.val k_),ap (.val s3),bv]:bF)) (cY Jm (ae 1) (cQ rfl rfl q.len (ae 0)))
 (sv 2 sc__law_pot.nd (aaJ rfl q.abs (aE rfl (ar (ae 0)) (ae 1))) λPk=>
 (SF.nil rfl (.refl _)))
 (SF.nil rfl (.refl _))
 λs3=>(sv 3 sc__law_pot.nd (nP (nQ (ae 2) (nP (OV ao ao) (OV ao ao))) (nN rfl q.int (gj ZL (ae 2) (OV ao ao)))) λnS=>
 (SF.fc (ba (n:=3) (af (ae 3) (af (nQ (cm rfl (cm rfl (ae 2) (nP ao (ae 1))) ao) ao) (af ao ak))) rfl) λ_=>rfl))))
abbrev d__law_take:DF:=⟨"_law_take",top 55,["_law_pot_here","_law_many"],1,λK=>d8 K [.p (gH f9),.v] (bS 1 bq)⟩
def k__law_take (D:DI v d__law_take):D.O:=
 Vq (n:=1) (fnO (n:=1) (m:=fR) D.fn sc__law_take rfl λad dz l hl=>match l,hl with | [jb],_=>λ_ _ _ _ _ _ hr=>show SF _ _ _ [ap (.ol (ap ad) dz),ap (.val jb),bv,bv] _ (fR dz jb) _ from
 (SF.tD (cY T9 (aE rfl (cj 0) ao) ao)
 (sv 2 sc__law_take.nd (nQ (aE rfl (cj 0) ao) (ae 1)) λJM=>
 (SF.Gq 0 rfl rfl (.inl rfl) (Ur (aE rfl (cj 0) ao) (ae 1)) ao λmy=>
 (SF.YV 0 (k:=λx5=>(x5,my)) rfl (ae 2) λ_=>rfl)))
 (SF.aer 0 rfl rfl rfl (.inl rfl) ao ao G1 N2 λgR=>
 (sv 3 sc__law_take.nd (nQ (cm rfl (cm rfl (nP (aE rfl (cj 0) ao) ao) (nP ao (aE rfl (cj 0) ao))) ao) ao) λrJ=>
 (SF.Gq 0 rfl rfl (.inl rfl) (nQ (nP (ae 3) (cm rfl (cm rfl (nQ (ae 3) ao) (nP ao (aE rfl (cj 0) ao))) ao)) ao) ao λip=>
 (SF.YV 0 (k:=λko=>(ko,ip)) rfl (nQ (Ur (aE rfl (cj 0) ao) ao) (ae 1)) λ_=>rfl)))))) Qq
abbrev d__law_pick:DF:=⟨"_law_pick",top 56,["_law_pot_here","_law_some"],2,λK=>d8 K [.p (gH f9),.v] (bS 1 bL)⟩
def k__law_pick (D:DI v d__law_pick) (q:NB v) (aF:d__law_take.C v):D.O:=
 kO (m:=bL) D sc__law_pick λMz _ _ _ _ _ _ hr=>
 (SF.bH (aE rfl (ar (ae 1)) (eC aF hr (bC 0 (af (cQ rfl rfl q.len (ae 1)) ak)))) λ_=>rfl)
abbrev d__law_words:DF:=⟨"_law_words",top 57,["_law_pot_here","_law_many"],2,λK=>eL K [.p (gH f9),.v] (bS 1 dA)⟩
def k__law_words (D:DI v d__law_words) (q:NB v) (aF:d__law_take.C v):D.O:=
 NF (m:=dA) D sc__law_words λjb _ _ _ _ _ _ hr=>
 (sv 2 sc__law_words.nd fW λoH=>
 (sv 3 sc__law_words.nd (eC aF hr (bC 0 (af ao ak))) λqA=>
 (sv 4 sc__law_words.nd (aE rfl (dI (ba (n:=6) (af ao (af ao (af ao (af ao (af ao (af ao ak)))))) rfl)) (eC aF hr (bC 0 (af ao ak)))) λGb=>
 (sv 5 sc__law_words.nd (aE rfl (dI (ba (n:=2) (af fW (af fW ak)) rfl)) (eC aF hr (bC 0 (af ao ak)))) λvL=>
 (sl 6 sc__law_words.nd (ba (n:=4) (af fW (af fW (af fW (af fW ak)))) rfl) λxo=>
 SF.cO 6 rfl (sl 7 sc__law_words.nd (ba (n:=0) ak rfl) λsj=>
 (SF.sA (hd:=(λ(U2:List PV)=>([ap (.kI (gH f9)),ap (.val jb),ap (.val oH),ap (.val qA),ap (.val Gb),ap (.val vL),ap (.val (.cl xo)),ap (.ol bv U2),bv,bv]:bF))) (s0:=sj) AL rfl (fx rfl q.range (ae 1)) (.refl _) (cU 8 sc__law_words.nd) (λU2 Wj=>
 (sv 9 sc__law_words.nd (aaG (ae 2) (nQ (cm rfl (ae 3) (nP (ae 4) (ae 8))) ao) (λ_ _=>rfl)) λuO=>
 (SF.append 7 rfl rfl rfl (.inl rfl) (cm rfl (cm rfl (ae 5) (ae 9)) (aE rfl (ar (ae 6)) (nQ (cm rfl (ae 3) (ae 8)) ao))) λzr=>
 (SF.fh rfl (.keep (.keep (.keep (.keep (.keep (.keep (.keep (.keep (.drop (.drop (.refl _))))))))))))))) λU2=>
 (SF.MN 7 rfl rfl))))))))
abbrev d__law_tree:DF:=⟨"_law_tree",top 58,["_law_pot_here","_law_words_here"],2,λK=>d8 K [.p (gH f9),.v] (bS 1 fv)⟩
def k__law_tree (D:DI v d__law_tree) (q:NB v) (aF:d__law_take.C v):D.O:=
 kO (m:=fv) D sc__law_tree λeE _ _ _ _ _ _ hr=>
 (sl 2 sc__law_tree.nd (V0 rfl rfl q.list (ar (ae 1))) λqU=>
 (sv 3 sc__law_tree.nd (eC aF hr (bC 0 (af ao ak))) λgM=>
 (SF.ym (hd:=(λ(s4:List PV)=>([ap (.kI (gH f9)),ap (.val eE),ap (.ol bv s4),ap (.val gM),bv,bv]:bF))) (s0:=qU) AL (.refl _) (λs4=>(cY T9 (jT rfl rfl q.len (cj 2)) ao)) (λs4=>
 (sv 4 sc__law_tree.nd (aE rfl (dI (ba (n:=4) (af (eC aF hr (bC 0 (af (mi (jT rfl rfl q.len (cj 2)) ao) ak))) (af (mi (jT rfl rfl q.len (cj 2)) ao) (af ao (af ao ak)))) rfl)) (ae 3)) λmM=>
 (sv 5 sc__law_tree.nd (aU (n:=2) (af (aE rfl (cj 2) (ae 4)) (af (aE rfl (cj 2) (cm rfl (ae 4) ao)) ak)) rfl) λqi=>
 (SF.ZO (out1:=λ(XA:PV)=>.nx ([ap (.kI (gH f9)),ap (.val eE),ap (.ol bv s4),ap (.val gM),ap (.val mM),ap (.val XA)]:bF)) (qG.t (kD (cY (dr rfl (aM hr)) (ae 3) ao) (ig (cY (dr rfl (aM hr)) (eC aF hr (bC 0 (af ao ak))) ao))))
 (sv 5 sc__law_tree.nd (aU (n:=2) (af (aE rfl (cj 2) (cm rfl (ae 4) ao)) (af (aE rfl (cj 2) (ae 4)) ak)) rfl) λqh=>
 (SF.nil rfl (.refl _)))
 (SF.nil rfl (.refl _))
 λXA=>(SF.YL 2 rfl rfl (.inl rfl) (ba (n:=1) (af (ae 5) ak) rfl) (ae 4) (cm rfl (ae 4) ao) λqd=>
 (SF.fh rfl (.keep (.keep (.keep (.keep (.drop (.drop (.refl _))))))))))))) λs4=>
 (SF.bH (aE rfl (cj 2) ao) λ_=>rfl))))
abbrev d__law_great:DF:=⟨"_law_great",top 59,["_law_pot_here"],3,λK=>d8 K [.p (gH f9)] (bS 0 eR)⟩
def k__law_great (D:DI v d__law_great) (q:NB v) (k6:d__law_tree.C v) (w6:d__law_words.C v) (aF:d__law_take.C v):D.O:=
 Zx (m:=eR) D sc__law_great λ_ _ _ _ _ _ hr=>
 (SF.bH (eC k6 hr (bC 0 (af (mj (lC w6 hr (bC 0 (af (cm rfl ao (eC aF hr (bC 0 (af (aE rfl (dI (ba (n:=2) (af ao (af ao ak)) rfl)) (nN rfl q.int (gj (dr rfl (aM hr)) (eC aF hr (bC 0 (af ao ak))) ao))) ak)))) ak)))) ak))) λ_=>rfl)
abbrev d__law_nodes:DF:=⟨"_law_nodes",top 60,["_law_tree_here"],12,λK=>eL K [.v] (bS 1 (a6 12))⟩
theorem k__law_nodes (D:DI v d__law_nodes) (q:NB v):∀n,fu v.P v.w v.K v.mg v.base km (n+0) D.f D.fd ["_law_tree_here"] (eL v.K [.v] (bS 1 (a6 n)))
 | 0=>uX (vQ λl Q hl=>match l,hl with | [aD],_=>λh=>h.elim)
 | n+1=>have aW:=D.cN (k__law_nodes D q n)
  fnL (k:=n+0) (n:=1) (m:=a6 (n+1)) D.fn sc__law_nodes rfl (dW cK) λl hl=>match l,hl with | [aD],_=>λ_ _ _ _ _ _ hr=>show SF _ _ _ [ap (.val aD),bv,bv,bv] _ (a6 (n+1) aD) _ from
 (SF.tD (bG rfl (cJ rfl .str rfl q.isinstance (ae 0) rfl q.str ss) (λ_=>rfl))
 (SF.fc (ba (n:=1) (af (ae 0) ak) rfl) λ_=>rfl)
 (sl 1 sc__law_nodes.nd (lC aW hr (af (aE rfl (ar (ae 0)) ao) ak)) λvX=>
 (sv 2 sc__law_nodes.nd (jT rfl rfl q.len (cj 1)) λrL=>
 (SF.sA (hd:=(λ(s6:List PV)=>([ap (.val aD),ap (.ol bv s6),ap (.val rL),bv]:bF))) (s0:=vX) AL rfl (bA rfl (mf (lC aW hr (af (aE rfl (ar (ae 0)) ao) ak)))) (.refl _) (cU 3 sc__law_nodes.nd) (λs6 yA=>
 (SF.append 1 rfl rfl rfl (.inl rfl) (Lg (bG rfl (cJ rfl .str rfl q.isinstance (ae 3) rfl q.str ss) (λ_=>rfl)) (ae 3) (aU (n:=2) (af (cm rfl (aE rfl (ar (ae 3)) ao) (ae 2)) (af (cm rfl (aE rfl (ar (ae 3)) ao) (ae 2)) ak)) rfl)) λMM=>
 (SF.fh rfl (.keep (.keep (.keep (.drop (.refl _)))))))) λs6=>
 (SF.fc (kc rfl (vY 1) (bw (ba (n:=1) (af (aU (n:=2) (af (mi (ae 2) ao) (af (mi (jT rfl rfl q.len (cj 1)) ao) ak)) rfl) ak) rfl))) λ_=>rfl)))))
abbrev d__law_dates:DF:=⟨"_law_dates",top 61,["_law_pot_here","_law_rows"],3,λK=>d8 K [.p (gH f9),.v] (bS 1 eT)⟩
def k__law_dates (D:DI v d__law_dates) (q:NB v) (bM:d__law_pick.C v) (aF:d__law_take.C v):D.O:=
 kO (m:=eT) D sc__law_dates λbX _ _ _ _ _ _ hr=>
 (sl 2 sc__law_dates.nd (NP (ba (n:=1) (af ao ak) rfl) (cQ rfl rfl q.len (ae 1))) λjU=>
 (sl 4 sc__law_dates.nd (T6 rfl lc__law_dates_0 (nB rfl rfl q.enumerate (bB (ae 1))) (λ_ _ _ _ _=>(L4 rfl (d9 rfl (aK (cU 0 lc__law_dates_0.nd) (aK (cU 1 lc__law_dates_0.nd) cT))))) (λ_ _ _ _ _ t9=>(ik (bG rfl (cJ rfl .str rfl q.isinstance (ae 1) rfl q.str ss) (λ_=>rfl)))) (λ_ _ _ _ _ t9=>(ae 0)) (GX rfl rfl ⋯) ⋯) λGU=>
 (sv 5 sc__law_dates.nd ao λxH=>
 (SF.ym (hd:=(λ(pJ:List PV×List PV×PV)=>([ap (.kI (gH f9)),ap (.val bX),ap (.ol bv pJ.1),bv,ap (.ol bv pJ.2.1),ap (.val pJ.2.2),bv]:bF))) (s0:=(jU,GU,xH)) AL (.refl _) (λpJ=>(Mm rfl (aM hr) (vY 4))) (λpJ=>
 (SF.as (Xi 4 rfl (Xh (i:=6) rfl sc__law_dates.nd rfl rfl lc__law_dates_1 (bA rfl (bB (ae 4))) (λ_ _ _ _ _=>(cU 0 lc__law_dates_1.nd)) (λ_ _ _ _ _ Zh=>(qG.t (kD (vJ rfl (aM hr) (aE rfl (ar (aE rfl (ar (ae 2)) (ae 0))) ao) (ar (ae 1))) (ig (vJ rfl (aM hr) (aE rfl (ar (aE rfl (ar (ae 2)) (ae 0))) ao) (ar (ae 1))))))) (λ_ _ _ _ _ Zh=>(ae 0)) rfl)) λyE=>
 SF.cO 6 rfl (sv 3 sc__law_dates.nd (eC bM hr (bC 0 (af (ae 6) ak))) λrY=>
 (sv 5 sc__law_dates.nd (cm rfl (cm rfl (ae 5) ao) (eC aF hr (bC 0 (af (aE rfl (dI (ba (n:=3) (af ao (af ao (af ao ak))) rfl)) (eC aF hr (bC 0 (af ao ak)))) ak)))) λxG=>
 (SF.Gq 2 rfl rfl (.inl rfl) (ae 5) (ae 3) λmm=>
 (SF.remove 4 rfl rfl rfl (.inr (.inl rfl)) (ae 3) λJf=>
 (SF.fh rfl (.keep (.keep (.keep (.drop (.keep (.keep (.drop (.refl _))))))))))))))) λpJ=>
 (SF.bH (df rfl rfl q.tuple (cj 2)) λ_=>rfl)))))
abbrev d__law_small:DF:=⟨"_law_small",top 62,["_law_pot_here","_law_great_here"],13,λK=>d8 K [.p (gH f9),.v] (bS 1 eQ)⟩
def k__law_small (D:DI v d__law_small) (q:NB v) (aW:d__law_nodes.C v) (aF:d__law_take.C v) (k6:d__law_tree.C v) (bM:d__law_pick.C v):D.O:=
 kO (m:=eQ) D sc__law_small λdw _ _ _ _ _ _ hr=>
 (sl 2 sc__law_small.nd (uQ rfl lc__law_small_0 (bA rfl (mf (lC aW hr (af (ae 1) ak)))) (λ_ _ _ _ _=>(cU 0 lc__law_small_0.nd)) (λ_ _ _ _ _ p4=>(bG rfl (cJ rfl .str rfl q.isinstance (ae 0) rfl q.str ss) (λ_=>rfl))) (λ_ _ _ _ _ p4=>(ae 0)) rfl) λmR=>
 SF.cO 2 rfl (sv 3 sc__law_small.nd (cm rfl ao (eC aF hr (bC 0 (af (aE rfl (dI (ba (n:=2) (af ao (af ao ak)) rfl)) (nN rfl q.int (gj (dr rfl (aM hr)) (eC aF hr (bC 0 (af ao ak))) ao))) ak)))) λNH=>
 (SF.bH (eC k6 hr (bC 0 (af (mj (dq rfl lc__law_small_1 (fx rfl q.range (ae 3)) (λ_ _ _ _ _=>(cU 0 lc__law_small_1.nd)) (λ_ _ _ _ _ ô=>(eC bM hr (bC 1 (af (ae 2) ak)))) rfl)) ak))) λ_=>rfl)))
abbrev d__law_any_ground:DF:=⟨"_law_any_ground",top 63,["_law_pot_here","_law_great_here"],13,λK=>d8 K [.p (gH f9),.v] (bS 1 cy)⟩
def k__law_any_ground (D:DI v d__law_any_ground) (aF:d__law_take.C v) (Ot:d_ground.C v) (Sd:d_dated.C v) (xg:d__law_dates.C v) (aW:d__law_nodes.C v):D.O:=
 kO (m:=cy) D sc__law_any_ground λdw _ _ _ _ _ _ hr=>
 (SF.tD (cY (dr rfl (aM hr)) (eC aF hr (bC 0 (af ao ak))) ao)
 (SF.bH (eC Ot hr (af (ae 1) ak)) λ_=>rfl)
 (SF.bH (eC Sd hr (af (ae 1) (af (eC xg hr (bC 0 (af (mj (lC aW hr (af (ae 1) ak))) ak))) ak))) λ_=>rfl))
abbrev d__law_deeds:DF:=⟨"_law_deeds",top 64,["_law_stays","_law_stay"],1,λK=>eL K [.v,.v] (bS 2 eS)⟩
def k__law_deeds (D:DI v d__law_deeds) (q:NB v):D.O:=
 Ks (m:=eS) D sc__law_deeds λaH bj _ _ _ _ _ _ hr=>
 (SF.QI (aE rfl (ar (ae 0)) (ae 1)) (g_4 rfl (d9 rfl (aK (cU 2 sc__law_deeds.nd) (aK (cU 3 sc__law_deeds.nd) (aK (cU 4 sc__law_deeds.nd) (aK (cU 5 sc__law_deeds.nd) cT)))))) λt3=>
 (sl 6 sc__law_deeds.nd (ba (n:=1) (af (aU (n:=3) (af fW (af (ae 1) (af (ae 1) ak))) rfl) ak) rfl) λxh=>
 (SF.ZO (out1:=λ(YR:List PV)=>.nx ([ap (.val aH),ap (.val bj),ap (.val t3.1),ap (.val t3.2.1),ap (.val t3.2.2.1),ap (.val t3.2.2.2),ap (.ol bv YR),bv]:bF)) (cY (dr rfl (aM hr)) (cQ rfl rfl q.len (ae 4)) ao)
 (SF.extend 6 rfl rfl rfl (.inl rfl) (dI (ba (n:=2) (af (aU (n:=3) (af fW (af (aE rfl (ar (ae 4)) ao) (af (aE rfl (ar (ae 4)) ao) ak))) rfl) (af (aU (n:=3) (af fW (af (aE rfl (ar (ae 4)) ao) (af (aE rfl (ar (ae 4)) ao) ak))) rfl) ak)) rfl)) λzu=>
 (SF.nil rfl (.refl _)))
 (SF.nil rfl (.refl _))
 λYR=>(SF.sA (hd:=(λ(QJ:List PV)=>([ap (.val aH),ap (.val bj),ap (.val t3.1),ap (.val t3.2.1),ap (.val t3.2.2.1),ap (.val t3.2.2.2),ap (.ol bv QJ),bv]:bF))) (s0:=YR) AL rfl (bA rfl (bB (ae 5))) (.refl _) (cU 7 sc__law_deeds.nd) (λQJ iY=>
 (SF.extend 6 rfl rfl rfl (.inl rfl) (dI (ba (n:=2) (af (aU (n:=3) (af fW (af (ae 1) (af (ae 7) ak))) rfl) (af (aU (n:=3) (af fW (af (ae 7) (af (ae 1) ak))) rfl) ak)) rfl)) λnI=>
 (SF.fh rfl (.keep (.keep (.keep (.keep (.keep (.keep (.keep (.drop (.refl _)))))))))))) λQJ=>
 (SF.MN 6 rfl rfl)))))
abbrev d__law_done:DF:=⟨"_law_done",top 65,["_law_stays","_law_rows","_law_can_here","_law_node","_law_stay"],2,λK=>eL K [.v,.v,.v,.v,.v] (bS 5 cx)⟩
def k__law_done (D:DI v d__law_done) (q:NB v) (xf:d__law_deeds.C v):D.O:=
 ac3 (m:=cx) D sc__law_done λaH bX bc ck bj _ _ _ _ _ _ hr=>
 (sv 5 sc__law_done.nd (aE rfl (ar (ae 1)) (ae 3)) λyB=>
 (SF.tD (bG rfl (cJ rfl .str rfl q.isinstance (ae 5) rfl q.str ss) (λ_=>rfl))
 (SF.fc (NP (ba (n:=1) (af (aU (n:=3) (af fW (af (ae 4) (af (ae 4) ak))) rfl) ak) rfl) (nN rfl q.int (lj (gj (dr rfl (aM hr)) (aE rfl (ar (aE rfl (ar (ae 0)) (ae 4))) ao) (aU (n:=0) ak rfl)) (lh (gj (dr rfl (aM hr)) (aE rfl (ar (aE rfl (ar (ae 0)) (ae 4))) ao) (ae 5)))))) λ_=>rfl)
 (SF.fc (uQ rfl lc__law_done_0 (bA rfl (mf (lC xf hr (af (ae 0) (af (ae 4) ak))))) (λ_ _ _ _ _=>(cU 0 lc__law_done_0.nd)) (λ_ _ _ _ _ IX=>(qG.t (kD (bG rfl (aE rfl (ar (aE rfl (ar (ae 1)) (aE rfl (ar (ae 2)) ao))) (aE rfl (ar (ae 0)) ao)) (λ_=>rfl)) (ig (bG rfl (aE rfl (ar (aE rfl (ar (ae 1)) (aE rfl (ar (ae 2)) ao))) (aE rfl (ar (ae 0)) ao)) (λ_=>rfl)))))) (λ_ _ _ _ _ IX=>(ae 0)) rfl) λ_=>rfl)))
abbrev d__law_can:DF:=⟨"_law_can",top 66,["_law_stays","_law_rows"],3,λK=>eL K [.v,.v] (bS 2 gZ)⟩
def k__law_can (D:DI v d__law_can) (q:NB v) (cC:d__law_done.C v):D.O:=
 Ks (m:=gZ) D sc__law_can λaH bX _ _ _ _ _ _ hr=>
 (SF.YN (i:=2) sc__law_can.nd rfl (Cc rfl)
 (SF.sA (hd:=(λ(s3:(List db×List (List PV)))=>([ap (.val aH),ap (.val bX),ap (.qj s3.1 s3.2),bv,bv,bv]:bF))) (s0:=(([]:List db),([]:List (List PV)))) AL rfl (fx rfl q.range (cQ rfl rfl q.len (ae 1))) (.refl _) (cU 3 sc__law_can.nd) (λs3 rF=>
 (SF.Pw 2 rfl rfl rfl (.inr (.inl rfl)) (NP (ba (n:=1) (af ki ak) rfl) (cQ rfl rfl q.len (ae 0))) λb9 so=>
 (SF.sA (hd:=(λ(LW:(List db×List (List PV)))=>([ap (.val aH),ap (.val bX),ap (.qj LW.1 LW.2),ap (.val rF),bv,bv]:bF))) (s0:=(b9,so)) AL rfl (fx rfl q.range (cQ rfl rfl q.len (ae 0))) (.refl _) (cU 4 sc__law_can.nd) (λLW qb=>
 (sv 5 sc__law_can.nd (JK 2 rfl (Us 2 rfl (aaI rfl rfl rfl q.any (bw (dq rfl lc__law_can_0 (bA rfl (bB (aE rfl (ar (aE rfl (ar (ae 0)) (ae 4))) ao))) (λ_ _ _ _ _=>(cU 0 lc__law_can_0.nd)) (λ_ _ _ _ _ ó=>(aE rfl (ar (aE rfl (ar (ae 1)) (ae 2))) (ae 0))) rfl))))) λTR=>
 (SF.YO 2 rfl rfl rfl (.inr (.inl rfl)) (JK 2 rfl (Us 2 rfl (aaB (ae 5) (lh (aaC rfl (aM hr) (bw (lC cC hr (af (ae 0) (af (ae 1) (af (ae 2) (af (ae 3) (af (ae 4) ak)))))))))))) (ae 3) (ae 4) (λ_ _=>rfl) λzq=>
 (SF.fh rfl (.keep (.keep (.keep (.keep (.drop (.drop (.refl _))))))))))) λLW=>
 (SF.fh rfl (.keep (.keep (.keep (.drop (.refl _))))))))) λs3=>
 (SF.aan 2 rfl (SF.MN 2 rfl rfl))))
abbrev d__law_path:DF:=⟨"_law_path",top 67,["_law_pot_here","_law_stays","_law_rows","_law_can_here","_law_node","_law_stay"],3,λK=>d8 K [.p (gH f9),.v,.v,.v,.v,.v] (bS 5 eG)⟩
def k__law_path (D:DI v d__law_path) (q:NB v) (aF:d__law_take.C v) (cC:d__law_done.C v) (bM:d__law_pick.C v):D.O:=
 Zw (m:=eG) D sc__law_path λaH bX bc ck bj _ _ _ _ _ _ hr=>
 (sl 6 sc__law_path.nd (ba (n:=1) (af (ae 5) ak) rfl) λkJ=>
 (SF.sA (hd:=(λ(s4:List PV)=>([ap (.kI (gH f9)),ap (.val aH),ap (.val bX),ap (.val bc),ap (.val ck),ap (.val bj),ap (.ol bv s4),bv,bv,bv]:bF))) (s0:=kJ) AL rfl (fx rfl q.range (cQ rfl rfl q.len (ae 1))) (.refl _) (cU 7 sc__law_path.nd) (λs4 UM=>
 (SF.MH (i:=8) rfl sc__law_path.nd rfl rfl lc__law_path_0 (bA rfl (bB (aE rfl (ar (aE rfl (ar (ae 1)) (aE rfl (cj 6) (fX ao)))) ao))) (λ_ _ _ _ _=>(cU 0 lc__law_path_0.nd)) (λ_ _ _ _ _ p8=>(bG rfl (aE rfl (ar (aE rfl (ar (ae 1)) (ae 2))) (ae 0)) (λ_=>rfl))) (λ_ _ _ _ _ p8=>(ae 0)) rfl λVI=>
 SF.cO 8 rfl (sv 9 sc__law_path.nd (aaB (aaH rfl (aM hr) (bw (lC cC hr (af (ae 1) (af (ae 2) (af (ae 3) (af (ae 4) (af (aE rfl (cj 6) (fX ao)) ak)))))))) (lh (gj (dr rfl (aM hr)) (eC aF hr (bC 0 (af ao ak))) ao))) λOQ=>
 (SF.XH (qG.t (kD (Mm rfl (aM hr) (eN (ae 8))) (ig (bG rfl (ae 9) (λ_=>rfl)))))
 (SF.append 6 rfl rfl rfl (.inl rfl) (eC bM hr (bC 0 (af (ae 8) ak))) λgq=>
 (SF.fh rfl (.keep (.keep (.keep (.keep (.keep (.keep (.keep (.drop (.drop (.drop (.refl _)))))))))))))
 (SF.fh rfl (.keep (.keep (.keep (.keep (.keep (.keep (.keep (.drop (.drop (.drop (.refl _)))))))))))))))) λs4=>
 (SF.ym (hd:=(λ(uH:List PV)=>([ap (.kI (gH f9)),ap (.val aH),ap (.val bX),ap (.val bc),ap (.val ck),ap (.val bj),ap (.ol bv uH),bv,bv,bv]:bF))) (s0:=s4) AL (.refl _) (λuH=>(Yq rfl (aM hr) (bw (lC cC hr (af (ae 1) (af (ae 2) (af (ae 3) (af (ae 4) (af (aE rfl (cj 6) (fX ao)) ak))))))))) (λuH=>
 (SF.append 6 rfl rfl rfl (.inl rfl) (eC bM hr (bC 0 (af (mj (uQ rfl lc__law_path_1 (bA rfl (bB (aE rfl (ar (aE rfl (ar (ae 1)) (aE rfl (cj 6) (fX ao)))) ao))) (λ_ _ _ _ _=>(cU 0 lc__law_path_1.nd)) (λ_ _ _ _ _ ò=>(bG rfl (aE rfl (ar (aE rfl (ar (ae 1)) (ae 2))) (ae 0)) (λ_=>rfl))) (λ_ _ _ _ _ ò=>(ae 0)) rfl)) ak))) λm7=>
 (SF.fh rfl (.refl _)))) λuH=>
 (SF.bH (df rfl rfl q.tuple (cj 6)) λ_=>rfl))))
abbrev d__law_way:DF:=⟨"_law_way",top 68,["_law_pot_here","_law_stays","_law_rows","_law_can_here","_law_node","_law_path_here"],15,λK=>d8 K [.p (gH f9),.v,.v,.v,.v,.v] (bS 5 (cX 12))⟩
theorem k__law_way (D:DI v d__law_way) (bM:d__law_pick.C v) (cC:d__law_done.C v) (k7:d__law_path.C v):∀n,fu v.P v.w v.K v.mg v.base km (n+3) D.f D.fd ["_law_pot_here","_law_stays","_law_rows","_law_can_here","_law_node","_law_path_here"] (d8 v.K [.p (gH f9),.v,.v,.v,.v,.v] (bS 5 (cX n)))
 | 0=>uX (Gm λl Q hl=>match l,hl with | [aH,bX,bc,ck,eg],_=>λh=>h.elim)
 | n+1=>have jR:=D.cN (k__law_way D bM cC k7 n)
  fnV (k:=n+3) (n:=5) (m:=cX (n+1)) D.fn sc__law_way rfl (aG (n:=5)) λl hl=>match l,hl with | [aH,bX,bc,ck,eg],_=>λ_ _ _ _ _ _ hr=>show SF _ _ _ [ap (.kI (gH f9)),ap (.val aH),ap (.val bX),ap (.val bc),ap (.val ck),ap (.val eg),bv,bv,bv,bv,bv] _ (cX (n+1) aH bX bc ck eg) _ from
 (SF.QI (eC bM hr (bC 0 (af (mj (lC cC hr (af (ae 1) (af (ae 2) (af (ae 3) (af (ae 4) (af (aE rfl (ar (ae 5)) (fX ao)) ak))))))) ak))) (g_3 rfl (d9 rfl (aK (cU 6 sc__law_way.nd) (aK (cU 7 sc__law_way.nd) (aK (cU 8 sc__law_way.nd) cT))))) λt8=>
 (SF.tD (cY (dr rfl (aM hr)) (ae 6) fW)
 (SF.bH (aU (n:=2) (af (ae 5) (af (ae 6) ak)) rfl) λ_=>rfl)
 (sv 9 sc__law_way.nd (aE rfl (ar (ae 2)) (ae 4)) λq9=>
 (sv 10 sc__law_way.nd (eC jR hr (bC 0 (af (ae 1) (af (ae 2) (af (ae 3) (af (aE rfl (ar (ae 9)) ao) (af (eC k7 hr (bC 0 (af (ae 1) (af (ae 2) (af (ae 3) (af (aE rfl (ar (ae 9)) ao) (af (ae 7) ak))))))) ak))))))) λzw=>
 (SF.bH (aU (n:=4) (af (ae 5) (af (ae 6) (af (ae 10) (af (eC jR hr (bC 0 (af (ae 1) (af (ae 2) (af (ae 3) (af (aE rfl (ar (ae 9)) ao) (af (eC k7 hr (bC 0 (af (ae 1) (af (ae 2) (af (ae 3) (af (aE rfl (ar (ae 9)) ao) (af (ae 8) ak))))))) ak))))))) ak)))) rfl) λ_=>rfl)))))
abbrev d__law_whole_way:DF:=⟨"_law_whole_way",top 69,["_law_pot_here","_law_stays","_law_small_here"],16,λK=>d8 K [.p (gH f9),.v,.v] (bS 2 cM)⟩
def k__law_whole_way (D:DI v d__law_whole_way) (q:NB v) (aW:d__law_nodes.C v) (Ho:d__law_can.C v) (cC:d__law_done.C v) (jR:d__law_way.C v) (bM:d__law_pick.C v):D.O:=
 nk (m:=cM) D sc__law_whole_way λaH pj _ _ _ _ _ _ hr=>
 (sl 3 sc__law_whole_way.nd (lC aW hr (af (ae 2) ak)) λq8=>
 SF.cO 3 rfl (sl 4 sc__law_whole_way.nd (lC Ho hr (af (ae 1) (af (ae 3) ak))) λmL=>
 SF.cO 4 rfl (sv 5 sc__law_whole_way.nd (mi (cQ rfl rfl q.len (ae 3)) ao) λGY=>
 (SF.MH (i:=6) rfl sc__law_whole_way.nd rfl rfl lc__law_whole_way_0 (fx rfl q.range (cQ rfl rfl q.len (ae 1))) (λ_ _ _ _ _=>(cU 0 lc__law_whole_way_0.nd)) (λ_ _ _ _ _ XB=>(Mm rfl (aM hr) (bw (lC cC hr (af (ae 4) (af (ae 3) (af (ae 1) (af (ae 2) (af (ae 0) ak))))))))) (λ_ _ _ _ _ XB=>(ae 0)) rfl λMx=>
 SF.cO 6 rfl (SF.bH (eC jR hr (bC 0 (af (ae 1) (af (ae 3) (af (ae 4) (af (ae 5) (af (aU (n:=1) (af (eC bM hr (bC 0 (af (ae 6) ak))) ak) rfl) ak))))))) λ_=>rfl)))))
abbrev d__law_scene:DF:=⟨"_law_scene",top 70,["_law_pot_here"],17,λK=>d8 K [.p (gH f9)] (bS 0 gr)⟩
def k__law_scene (D:DI v d__law_scene) (xc:d__law_great.C v) (nH:d__law_any_ground.C v) (xa:d__law_small.C v) (oW:d__law_whole_way.C v):D.O:=
 Zx (m:=gr) D sc__law_scene λ_ _ _ _ _ _ hr=>
 (sv 1 sc__law_scene.nd (eC xc hr (bC 0 ak)) λgw=>
 (sv 2 sc__law_scene.nd (eC nH hr (bC 0 (af (ae 1) ak))) λvM=>
 (sv 3 sc__law_scene.nd (eC xa hr (bC 0 (af (ae 1) ak))) λjF=>
 (SF.bH (aU (n:=4) (af (ae 1) (af (ae 2) (af (ae 3) (af (eC oW hr (bC 0 (af (ae 2) (af (ae 3) ak)))) ak)))) rfl) λ_=>rfl))))
abbrev d__law_parts:DF:=⟨"_law_parts",top 71,["_law_way_here"],12,λK=>eL K [.v] (bS 1 (m__law_parts 12))⟩
theorem k__law_parts (D:DI v d__law_parts) (q:NB v):∀n,fu v.P v.w v.K v.mg v.base km (n+0) D.f D.fd ["_law_way_here"] (eL v.K [.v] (bS 1 (m__law_parts n)))
 | 0=>uX (vQ λl Q hl=>match l,hl with | [aV],_=>λh=>h.elim)
 | n+1=>have gA:=D.cN (k__law_parts D q n)
  fnL (k:=n+0) (n:=1) (m:=m__law_parts (n+1)) D.fn sc__law_parts rfl (dW cK) λl hl=>match l,hl with | [aV],_=>λ_ _ _ _ _ _ hr=>show SF _ _ _ [ap (.val aV)] _ (m__law_parts (n+1) aV) _ from
 (SF.tD (cY (dr rfl (aM hr)) (cQ rfl rfl q.len (ae 0)) ao)
 (SF.fc (ba (n:=1) (af (ae 0) ak) rfl) λ_=>rfl)
 (SF.fc (kc rfl (bw (kc rfl (bw (lC gA hr (af (aE rfl (ar (ae 0)) ao) ak))) (bw (lC gA hr (af (aE rfl (ar (ae 0)) ao) ak))))) (bw (ba (n:=1) (af (ae 0) ak) rfl))) λ_=>rfl))
abbrev d__law_counts:DF:=⟨"_law_counts",top 72,["_law_stays","_law_way_here"],13,λK=>d8 K [.v,.v] (bS 2 m__law_counts)⟩
def k__law_counts (D:DI v d__law_counts) (q:NB v) (gA:d__law_parts.C v):D.O:=
 nk (m:=m__law_counts) D sc__law_counts λaH aV _ _ _ _ _ _ hr=>
 (SF.setDc [("split",0),("doubled",0),("over",0),("found",0)] (i:=2) sc__law_counts.nd rfl (Ci rfl) (m6 rh rj (m6 rh rj (m6 rh rj (m6 rh rj QY))))
 (sv 3 sc__law_counts.nd ao λGP=>
 (SF.sA (hd:=(λ(s4:List (Key×PV)×PV)=>([ap (.val aH),ap (.val aV),ap (.od s4.1),ap (.val s4.2),bv,bv]:bF))) (s0:=((dcP [("split",0),("doubled",0),("over",0),("found",0)]),GP)) AL rfl (bA rfl (mf (lC gA hr (af (ae 1) ak)))) (.refl _) (cU 4 sc__law_counts.nd) (λs4 pw=>
 (SF.augD 2 rfl (aM hr) rfl (.inl rfl) (aE rfl (ar (ae 4)) ao) ao G1 N2 λsk=>
 (SF.sA (hd:=(λ(U4:PV)=>([ap (.val aH),ap (.val aV),ap (.od sk),ap (.val U4),ap (.val pw),bv]:bF))) (s0:=s4.2) AL rfl (bA rfl (bB (sL rfl (aE rfl (ar (ae 4)) ao) jK (fg (fX ao))))) (.refl _) (cU 5 sc__law_counts.nd) (λU4 Iz=>
 (SF.aug (i:=3) rfl sc__law_counts.nd rfl (Ci rfl) (nN rfl q.int (gj (dr rfl (aM hr)) (cQ rfl rfl q.len (aE rfl (ar (aE rfl (ar (ae 0)) (ae 5))) ao)) ao)) G1 N2 λJe=>
 (SF.fh rfl (.keep (.keep (.keep (.keep (.keep (.drop (.refl _)))))))))) λU4=>
 (SF.fh rfl (.keep (.keep (.keep (.keep (.drop (.refl _)))))))))) λs4=>
 (SF.bH (aU (n:=4) (af (HB 2 rfl (aM hr) fW (hsl:=λ_ _=>rfl)) (af (HB 2 rfl (aM hr) fW (hsl:=λ_ _=>rfl)) (af (HB 2 rfl (aM hr) fW (hsl:=λ_ _=>rfl)) (af (ae 3) ak)))) rfl) λ_=>rfl))))
abbrev d__law_same:DF:=⟨"_law_same",top 73,["_law_found","_law_due"],4,λK=>d8 K [.v,.v] (bS 2 (m__law_same 4))⟩
theorem k__law_same (D:DI v d__law_same) (q:NB v):∀n,fu v.P v.w v.K v.mg v.base km (n+0) D.f D.fd ["_law_found","_law_due"] (d8 v.K [.v,.v] (bS 2 (m__law_same n)))
 | 0=>uX (Gm λl Q hl=>match l,hl with | [gb,pW],_=>λh=>h.elim)
 | n+1=>have iz:=D.cN (k__law_same D q n)
  fnV (k:=n+0) (n:=2) (m:=m__law_same (n+1)) D.fn sc__law_same rfl (dW (dW cK)) λl hl=>match l,hl with | [gb,pW],_=>λ_ _ _ _ _ _ hr=>show SF _ _ _ [ap (.val gb),ap (.val pW)] _ (m__law_same (n+1) gb pW) _ from
 (SF.tD (bG rfl (cJ rfl .tup rfl q.isinstance (ae 1) rfl q.tuple boot_tuple) (λ_=>rfl))
 (SF.tD (qG.t (pd (ik (bG rfl (cJ rfl .tup rfl q.isinstance (ae 0) rfl q.tuple boot_tuple) (λ_=>rfl))) (kC (cY (Jl rfl (aM hr)) (cQ rfl rfl q.len (ae 0)) (cQ rfl rfl q.len (ae 1))))))
 (SF.bH ki λ_=>rfl)
 (SF.bH (zH rfl rfl rfl q.all (bw (rP rfl lc__law_same_0 (oJ rfl rfl q.zip (bB (ae 0)) (bB (ae 1))) (λ_ _ _ _ _=>(L4 rfl (d9 rfl (aK (cU 0 lc__law_same_0.nd) (aK (cU 1 lc__law_same_0.nd) cT))))) (λ_ _ _ _ _ t5=>(eC iz hr (af (ae 0) (af (ae 1) ak)))) (GX rfl rfl ⋯) ⋯))) λ_=>rfl))
 (SF.tD (qG.t (pd (bG rfl (cJ rfl .str rfl q.isinstance (ae 1) rfl q.str ss) (λ_=>rfl)) (kC (cY wR (ae 1) sM))))
 (SF.bH (lj (gj (dr rfl (aM hr)) (cJ rfl .str rfl q.isinstance (ae 0) rfl q.str ss) (cJ rfl .str rfl q.isinstance (ae 1) rfl q.str ss)) (lh (gj (dr rfl (aM hr)) (ae 0) (ae 1)))) λ_=>rfl)
 (SF.bH (lj (cJ rfl .int rfl q.isinstance (ae 0) rfl q.int boot_int) (lj (OY (cJ rfl .bool rfl q.isinstance (ae 0) rfl q.bool boot_bool)) (lh (gj (dr rfl (aM hr)) (ae 0) (ae 1))))) λ_=>rfl)))
abbrev d__law_turns:DF:=⟨"_law_turns",top 74,["_law_pot_here","_law_tree_here"],13,λK=>eL K [.p (gH f9),.v] (bS 1 m__law_turns)⟩
def k__law_turns (D:DI v d__law_turns) (q:NB v) (aW:d__law_nodes.C v) (aF:d__law_take.C v):D.O:=
 NF (m:=m__law_turns) D sc__law_turns λaD _ _ _ _ _ _ hr=>
 (SF.fc (dq rfl lc__law_turns_0 (bA rfl (mf (lC aW hr (af (ae 1) ak)))) (λ_ _ _ _ _=>(cU 0 lc__law_turns_0.nd)) (λ_ _ _ _ _ p3=>(lj (gj (dr rfl (aM hr)) (eC aF hr (bC 1 (af ao ak))) ao) (lh (OY (cJ rfl .str rfl q.isinstance (ae 0) rfl q.str ss))))) rfl) λ_=>rfl)
abbrev d__law_exchanged:DF:=⟨"_law_exchanged",top 75,["_law_tree_here","_law_way_here","_law_turns_here"],24,λK=>d8 K [.v,.v,.v] (bS 3 (m__law_exchanged 12))⟩
theorem k__law_exchanged (D:DI v d__law_exchanged) (q:NB v) (aW:d__law_nodes.C v):∀n,fu v.P v.w v.K v.mg v.base km (n+12) D.f D.fd ["_law_tree_here","_law_way_here","_law_turns_here"] (d8 v.K [.v,.v,.v] (bS 3 (m__law_exchanged n)))
 | 0=>uX (Gm λl Q hl=>match l,hl with | [aD,aV,aY],_=>λh=>h.elim)
 | n+1=>have dC:=D.cN (k__law_exchanged D q aW n)
  fnV (k:=n+12) (n:=3) (m:=m__law_exchanged (n+1)) D.fn sc__law_exchanged rfl (dW (dW (dW cK))) λl hl=>match l,hl with | [aD,aV,aY],_=>λ_ _ _ _ _ _ hr=>show SF _ _ _ [ap (.val aD),ap (.val aV),ap (.val aY),bv,bv,bv] _ (m__law_exchanged (n+1) aD aV aY) _ from
 (SF.tD (bG rfl (cJ rfl .str rfl q.isinstance (ae 0) rfl q.str ss) (λ_=>rfl))
 (SF.bH (aU (n:=2) (af (ae 0) (af (ae 1) ak)) rfl) λ_=>rfl)
 (sv 3 sc__law_exchanged.nd (jT rfl rfl q.len (dI (lC aW hr (af (aE rfl (ar (ae 0)) ao) ak)))) λwC=>
 (sv 4 sc__law_exchanged.nd (eC dC hr (af (aE rfl (ar (ae 0)) ao) (af (aE rfl (ar (ae 1)) ao) (af (mj (RH rfl (eN (ae 2)) jK (fg (ae 3)))) ak)))) λpw=>
 (sv 5 sc__law_exchanged.nd (eC dC hr (af (aE rfl (ar (ae 0)) ao) (af (aE rfl (ar (ae 1)) ao) (af (mj (RH rfl (eN (ae 2)) (fg (ae 3)) (fg (fX ao)))) ak)))) λrq=>
 (SF.ZO (out1:=λ(uH:PV×PV)=>.nx ([ap (.val aD),ap (.val aV),ap (.val aY),ap (.val wC),ap (.val uH.1),ap (.val uH.2)]:bF)) (bG rfl (aE rfl (ar (ae 2)) (fX ao)) (λ_=>rfl))
 (SF.par (i:=4) (j:=5) rfl sc__law_exchanged.nd rfl rfl ⋯ rfl rfl (ae 5) (ae 4) λNt yR=>
 (SF.nil rfl (.refl _)))
 (SF.nil rfl (.refl _))
 λuH=>(SF.bH (aU (n:=2) (af (aU (n:=2) (af (aE rfl (ar (ae 4)) ao) (af (aE rfl (ar (ae 5)) ao) ak)) rfl) (af (cm rfl (sL rfl (ae 1) jK (fg ao)) (aU (n:=2) (af (aE rfl (ar (ae 4)) ao) (af (aE rfl (ar (ae 5)) ao) ak)) rfl)) ak)) rfl) λ_=>rfl))))))
abbrev d__law_order:DF:=⟨"_law_order",top 76,["_law_tree_here","_law_turns_here","_law_first"],24,λK=>eL K [.v,.v,.v] (bS 3 (m__law_order 12))⟩
theorem k__law_order (D:DI v d__law_order) (q:NB v) (aW:d__law_nodes.C v):∀n,fu v.P v.w v.K v.mg v.base km (n+12) D.f D.fd ["_law_tree_here","_law_turns_here","_law_first"] (eL v.K [.v,.v,.v] (bS 3 (m__law_order n)))
 | 0=>uX (vQ λl Q hl=>match l,hl with | [aD,aY,k8],_=>λh=>h.elim)
 | n+1=>have gB:=D.cN (k__law_order D q aW n)
  fnL (k:=n+12) (n:=3) (m:=m__law_order (n+1)) D.fn sc__law_order rfl (dW (dW (dW cK))) λl hl=>match l,hl with | [aD,aY,k8],_=>λ_ _ _ _ _ _ hr=>show SF _ _ _ [ap (.val aD),ap (.val aY),ap (.val k8),bv,bv,bv,bv] _ (m__law_order (n+1) aD aY k8) _ from
 (SF.tD (bG rfl (cJ rfl .str rfl q.isinstance (ae 0) rfl q.str ss) (λ_=>rfl))
 (SF.fc (ba (n:=1) (af (ae 2) ak) rfl) λ_=>rfl)
 (sv 3 sc__law_order.nd (jT rfl rfl q.len (dI (lC aW hr (af (aE rfl (ar (ae 0)) ao) ak)))) λwD=>
 (sl 4 sc__law_order.nd (lC gB hr (af (aE rfl (ar (ae 0)) ao) (af (mj (RH rfl (eN (ae 1)) jK (fg (ae 3)))) (af (ae 2) ak)))) λNr=>
 SF.cO 4 rfl (sl 5 sc__law_order.nd (lC gB hr (af (aE rfl (ar (ae 0)) ao) (af (mj (RH rfl (eN (ae 1)) (fg (ae 3)) (fg (fX ao)))) (af (cm rfl (ae 2) (ae 3)) ak)))) λrz=>
 SF.cO 5 rfl (sl 6 sc__law_order.nd (ba (n:=1) (af (mi (cm rfl (ae 2) (cQ rfl rfl q.len (ae 1))) ao) ak) rfl) λwL=>
 SF.cO 6 rfl (SF.tD (bG rfl (aE rfl (ar (ae 1)) (fX ao)) (λ_=>rfl))
 (SF.fc (kc rfl (bw (kc rfl (eN (ae 5)) (eN (ae 4)))) (eN (ae 6))) λ_=>rfl)
 (SF.fc (kc rfl (bw (kc rfl (eN (ae 4)) (eN (ae 5)))) (eN (ae 6))) λ_=>rfl)))))))
abbrev d_law:DF:=⟨"law",top 77,["_law_script"],25,λK=>d8 K [.v] (bS 1 m_law_8)⟩
def k_law (D:DI v d_law) (q:NB v) (Hn:d__law_pot.C v) (xb:d__law_scene.C v) (w9:d__law_turns.C v) (dC:d__law_exchanged.C v) (zk:d_is_way.C v) (iz:d__law_same.C v) (oV:d_counted.C v) (aF:d__law_take.C v) (zi:d_priced.C v) (uh:d__law_counts.C v) (zj:d_places.C v) (gB:d__law_order.C v):D.O:=
 kO (m:=m_law_8) D sc_law λgn _ _ _ _ _ _ hr=>
 (SF.Uj (hd:=(λ(s6:Unit)=>([ap (.val gn),bv,bv,bv,bv,bv,bv,bv,bv,bv,bv,bv,bv]:bF))) (s0:=()) (inj:=id) AL rfl (fx rfl q.range (aaE rfl rfl q.max ao (aaD rfl rfl q.min (cQ rfl rfl q.len (ae 0)) ao))) (.refl _) (cU 1 sc_law.nd) (λ_=>trivial) (λs6 k_7=>
 (sl 2 sc_law.nd (lC Hn hr (af (ae 0) (af (ae 1) ak))) λrf=>SF.kI 2 rfl
 (SF.QI (eC xb hr (bC 2 ak)) (g_4 rfl (d9 rfl (aK (cU 3 sc_law.nd) (aK (cU 4 sc_law.nd) (aK (cU 5 sc_law.nd) (aK (cU 6 sc_law.nd) cT)))))) λom=>
 (sl 7 sc_law.nd (lC w9 hr (bC 2 (af (ae 5) ak))) λiG=>
 SF.cO 7 rfl (SF.QI (eC dC hr (af (ae 5) (af (ae 6) (af (ae 7) ak)))) (L4 rfl (d9 rfl (aK (cU 8 sc_law.nd) (aK (cU 9 sc_law.nd) cT)))) λXy=>
 (SF.tD (qG.t (pd (cY uS (eC zk hr (af (ae 4) (af (ae 5) (af (ae 6) ak)))) ki) (kC (cY uS (eC zk hr (af (ae 4) (af (ae 8) (af (ae 9) ak)))) ki))))
 (SF.ret (k:=λpH=>(Lp.out pH)) ki λ_=>rfl)
 (SF.tD (ik (bG rfl (eC iz hr (af (eC oV hr (af (ae 4) (af (ae 9) ak))) (af (eC oV hr (af (ae 4) (af (ae 6) ak))) ak))) (λ_=>rfl)))
 (SF.ret (k:=λUD=>(Lp.out UD)) ki λ_=>rfl)
 (sv 10 sc_law.nd (df rfl rfl q.tuple (dI (dq rfl lc_law_0 (fx rfl q.range ao) (λ_ _ _ _ _=>(cU 0 lc_law_0.nd)) (λ_ _ _ _ _ p37=>(eC aF hr (bC 1 (af ao ak)))) rfl))) λoA=>
 (SF.tD (cY (Jl rfl (aM hr)) (eC zi hr (af (ae 10) (af (eC oV hr (af (ae 4) (af (ae 9) ak))) ak))) (eC zi hr (af (ae 10) (af (eC uh hr (af (ae 4) (af (ae 6) ak))) ak))))
 (SF.ret (k:=λx47=>(Lp.out x47)) ki λ_=>rfl)
 (sv 11 sc_law.nd (eC zj hr (af (ae 6) ak)) λJx=>
 (sv 12 sc_law.nd (df rfl rfl q.tuple (dI (dq rfl lc_law_1 (bA rfl (mf (lC gB hr (af (ae 5) (af (ae 7) (af ao ak)))))) (λ_ _ _ _ _=>(cU 0 lc_law_1.nd)) (λ_ _ _ _ _ p55=>(aE rfl (ar (ae 1)) (ae 0))) rfl))) λO8=>
 (SF.XH (ik (bG rfl (eC iz hr (af (eC zj hr (af (ae 9) ak)) (af (ae 12) ak))) (λ_=>rfl)))
 (SF.ret (k:=λx59=>(Lp.out x59)) ki λ_=>rfl)
 (SF.fh rfl (.keep (.drop (.drop (.drop (.drop (.drop (.drop (.drop (.drop (.drop (.drop (.drop (.drop (.refl _))))))))))))))))))))))))))) λs6=>
 (SF.bH ki λ_=>rfl))
end
open PySem PySem.Spec PyProof.Rows L2 PL FL
def all_d {K:Ab} (X:K.In h) (G:h.Ns f8 mg) (Hz:DX K "is_whole" (top 1)) (O0:DX K "is_row" (top 2)) (K9:DX K "is_word" (top 6)) (HA:DX K "is_grown" (top 7)) (La:DX K "is_tree" (top 8)) (Hw:DX K "parts_of" (top 9)) (Sz:DX K "nodes" (top 10)) (O2:DX K "halves" (top 11)) (HE:DX K "ahead_of" (top 12)) (Hu:DX K "under_at" (top 17)) (zG:DX K "beside_at" (top 18)) (Ld:DX K "is_home" (top 19)) (K7:DX K "name_of" (top 20)) (Hy:DX K "lines_up" (top 21)) (xt:DX K "apart_from" (top 22)) (O3:DX K "ground" (top 23)) (HD:DX K "comes_in" (top 30)) (Lh:DX K "done_at" (top 31)) (O1:DX K "ins_of" (top 32)) (zE:DX K "split_ins" (top 33)) (Hx:DX K "over_ins" (top 34)) (HC:DX K "deeds_at" (top 35)) (Lb:DX K "is_stay" (top 36)) (Lc:DX K "is_path" (top 37)) (zF:DX K "is_formed" (top 38)) (pV:DX K "ways_of_nodes" (top 39)) (Lf:DX K "is_done" (top 40)) (OZ:DX K "is_way" (top 41)) (uk:DX K "ways_within" (top 42)) (OW:DX K "places" (top 43)) (um:DX K "split_dates" (top 45)) (Hv:DX K "standing" (top 46)) (K6:DX K "stay_of" (top 47)) (SA:DX K "dated" (top 48)) (K8:DX K "lost_on" (top 50)) (Li:DX K "counted" (top 51)) (OU:DX K "priced" (top 52)) (HG:DX K "_law_pot" (top 54)) (zJ:DX K "_law_take" (top 55)) (zL:DX K "_law_pick" (top 56)) (xu:DX K "_law_words" (top 57)) (zI:DX K "_law_tree" (top 58)) (xC:DX K "_law_great" (top 59)) (xB:DX K "_law_nodes" (top 60)) (xE:DX K "_law_dates" (top 61)) (xw:DX K "_law_small" (top 62)) (nR:DX K "_law_any_ground" (top 63)) (xD:DX K "_law_deeds" (top 64)) (zN:DX K "_law_done" (top 65)) (HH:DX K "_law_can" (top 66)) (zM:DX K "_law_path" (top 67)) (HF:DX K "_law_way" (top 68)) (oZ:DX K "_law_whole_way" (top 69)) (xx:DX K "_law_scene" (top 70)) (xy:DX K "_law_parts" (top 71)) (uo:DX K "_law_counts" (top 72)) (zK:DX K "_law_same" (top 73)) (xv:DX K "_law_turns" (top 74)) (o4:DX K "_law_exchanged" (top 75)) (xA:DX K "_law_order" (top 76)) (cR:AE K f8 "LONGEST_WORD"=ap (ap (.int 8 kF))) (gJ:AE K f8 "LETTERS"=ap (ap (.str "abcdefghijklmnopqrstuvwxyz" uC))) (nU:AE K f8 "UNDER"=ap (ap (.int 2 Ir))) (lu:AE K f8 "BESIDE"=ap (ap (.int 3 yr))) (sV:AE K f8 "NAME"=ap (ap (.int 0 Mo))) (nW:AE K f8 "FOUND"=ap (ap (.str "found" Iv))) (nV:AE K f8 "SPLIT"=ap (ap (.str "split" Iu))) (sU:AE K f8 "OVER"=ap (ap (.str "over" Mn))) (jv:AE K f8 "DOUBLED"=ap (ap (.str "doubled" uD))) (nX:AE K f8 "DEEDS"=ap (ap (.ref qE))) (wO:TupK K qE ["split","doubled","over"]) (vt:AE K f8 "isinstance"=ap bv) (UC:AE K f8 "bool"=ap bv) (Yf:AE K f8 "int"=ap bv) (Ye:AE K f8 "len"=ap bv) (Qc:AE K f8 "tuple"=ap bv) (Yb:AE K f8 "str"=ap bv) (Yh:AE K f8 "all"=ap bv) (UA:AE K f8 "list"=ap bv) (F4:AE K f8 "reversed"=ap bv) (yk:AE K f8 "enumerate"=ap bv) (Qd:AE K f8 "range"=ap bv) (L9:AE K f8 "sorted"=ap bv) (X9:AE K f8 "zip"=ap bv) (UB:AE K f8 "dict"=ap bv) (Ya:AE K f8 "sum"=ap bv) (Yi:AE K f8 "abs"=ap bv) (Yg:AE K f8 "any"=ap bv) (Yc:AE K f8 "min"=ap bv) (Yd:AE K f8 "max"=ap bv):aa3 K mg d_law:=by
 constructor
 rintro v rfl rfl D;have q:NB v:=⟨AG X G vt,AG X G UC,AG X G Yf,AG X G Ye,AG X G Qc,AG X G Yb,AG X G Yh,AG X G UA,AG X G F4,AG X G yk,AG X G Qd,AG X G L9,AG X G X9,AG X G UB,AG X G Ya,AG X G Yi,AG X G Yg,AG X G Yc,AG X G Yd⟩;replace cR:=BG X G cR;replace gJ:=BG X G gJ;replace nU:=BG X G nU;replace lu:=BG X G lu;replace sV:=BG X G sV;replace nW:=BG X G nW;replace nV:=BG X G nV;replace sU:=BG X G sU;replace jv:=BG X G jv;replace nX:=BG X G nX;obtain⟨gK⟩:=K9.mk2 (d:=d_is_word) X G;refine Hz.go (d:=d_is_whole) X G (λD=>k_is_whole D q) λIb=>?_;refine O0.go (d:=d_is_row) X G (λD=>k_is_row D q) λzZ=>?_;have LU:=gK.cA (k_is_word gK q cR gJ);have X6:=gK.c (k_is_word gK q cR gJ);obtain⟨tu⟩:=HA.mk2 (d:=(d_is_grown gK.f)) X G;have Ic:=tu.c (k_is_grown tu LU zZ);refine La.go (d:=d_is_tree) X G (λD=>k_is_tree D gK.at' Ic) λLL=>?_;refine Hw.go (d:=d_parts_of) X G (λD=>k_parts_of D q) λH0=>?_;refine Sz.go (d:=d_nodes) X G (λD=>k_nodes D q H0) λqF=>?_;refine O2.go (d:=d_halves) X G (λD=>k_halves D q) λn8=>?_;refine HE.go (d:=d_ahead_of) X G (λD=>k_ahead_of D q qF n8) λtj=>?_;refine Hu.go (d:=d_under_at) X G (λD=>k_under_at D nU) λj7=>?_;refine zG.go (d:=d_beside_at) X G (λD=>k_beside_at D lu) λFl=>?_;refine Ld.go (d:=d_is_home) X G (λD=>k_is_home D sV j7) λLO=>?_;refine K7.go (d:=d_name_of) X G (λD=>k_name_of D q) λvn=>?_;refine Hy.go (d:=d_lines_up) X G (λD=>k_lines_up D q tj) λIa=>?_;refine xt.go (d:=d_apart_from) X G (λD=>k_apart_from D q) λxT=>?_;refine O3.go (d:=d_ground) X G (λD=>k_ground D q qF Ia vn n8 xT) λPR=>?_;refine HD.go (d:=d_comes_in) X G (λD=>k_comes_in D) λIg=>?_;refine Lh.go (d:=d_done_at) X G (λD=>k_done_at D) λvo=>?_;refine O1.go (d:=d_ins_of) X G (λD=>k_ins_of D q Ig) λPQ=>?_;refine zE.go (d:=d_split_ins) X G (λD=>k_split_ins D q j7) λzY=>?_;refine Hx.go (d:=d_over_ins) X G (λD=>k_over_ins D Fl) λH9=>?_;refine HC.go (d:=d_deeds_at) X G (λD=>k_deeds_at D q nW nV sU jv LO zY H9) λIe=>?_;refine Lb.go (d:=d_is_stay) X G (λD=>k_is_stay D q Ib) λLM=>?_;refine Lc.go (d:=d_is_path) X G (λD=>k_is_path D q LM j7) λLN=>?_;refine zF.go (d:=d_is_formed) X G (λD=>k_is_formed D q LN zZ) λz9=>?_;refine pV.go (d:=d_ways_of_nodes) X G (λD=>k_ways_of_nodes D q z9 n8) λpZ=>?_;refine Lf.go (d:=d_is_done) X G (λD=>k_is_done D PQ Ie vo) λLP=>?_;refine OZ.go (d:=d_is_way) X G (λD=>k_is_way D q LL qF pZ LP) λPN=>?_;refine uk.go (d:=d_ways_within) X G (λD=>k_ways_within D q) λmr=>?_;refine OW.go (d:=d_places) X G (λD=>k_places D q mr vo) λPM=>?_;refine um.go (d:=d_split_dates) X G (λD=>k_split_dates D q) λux=>?_;refine Hv.go (d:=d_standing) X G (λD=>k_standing D q tj) λHZ=>?_;refine K6.go (d:=d_stay_of) X G (λD=>k_stay_of D q n8 vn) λLJ=>?_;refine SA.go (d:=d_dated) X G (λD=>k_dated D q qF ux HZ LJ) λS5=>?_;refine K8.go (d:=d_lost_on) X G (λD=>k_lost_on D q j7) λLK=>?_;refine Li.go (d:=d_counted) X G (λD=>k_counted D q nX wO mr LK) λLQ=>?_;refine OU.go (d:=d_priced) X G (λD=>k_priced D q) λPK=>?_;refine HG.go (d:=d__law_pot) X G (λD=>k__law_pot D q) λIi=>?_;refine zJ.go (d:=d__law_take) X G (λD=>k__law_take D) λcf=>?_;refine zL.go (d:=d__law_pick) X G (λD=>k__law_pick D q cf) λfY=>?_;refine xu.go (d:=d__law_words) X G (λD=>k__law_words D q cf) λxU=>?_;refine zI.go (d:=d__law_tree) X G (λD=>k__law_tree D q cf) λpE=>?_;refine xC.go (d:=d__law_great) X G (λD=>k__law_great D q pE xU cf) λya=>?_;refine xB.go (d:=d__law_nodes) X G (λD=>k__law_nodes D q 12) λdG=>?_;refine xE.go (d:=d__law_dates) X G (λD=>k__law_dates D q fY cf) λyc=>?_;refine xw.go (d:=d__law_small) X G (λD=>k__law_small D q dG cf pE fY) λxW=>?_;refine nR.go (d:=d__law_any_ground) X G (λD=>k__law_any_ground D cf PR S5 yc dG) λn9=>?_;refine xD.go (d:=d__law_deeds) X G (λD=>k__law_deeds D q) λyb=>?_;refine zN.go (d:=d__law_done) X G (λD=>k__law_done D q yb) λiC=>?_;refine HH.go (d:=d__law_can) X G (λD=>k__law_can D q iC) λIj=>?_;refine zM.go (d:=d__law_path) X G (λD=>k__law_path D q cf iC fY) λFV=>?_;refine HF.go (d:=d__law_way) X G (λD=>k__law_way D fY iC FV 12) λIh=>?_;refine oZ.go (d:=d__law_whole_way) X G (λD=>k__law_whole_way D q dG Ij iC Ih fY) λo7=>?_;refine xx.go (d:=d__law_scene) X G (λD=>k__law_scene D ya n9 xW o7) λxX=>?_;refine xy.go (d:=d__law_parts) X G (λD=>k__law_parts D q 12) λxY=>?_;refine uo.go (d:=d__law_counts) X G (λD=>k__law_counts D q xY) λuy=>?_;refine zK.go (d:=d__law_same) X G (λD=>k__law_same D q 4) λFU=>?_;refine xv.go (d:=d__law_turns) X G (λD=>k__law_turns D q dG cf) λxV=>?_;refine o4.go (d:=d__law_exchanged) X G (λD=>k__law_exchanged D q dG 12) λo8=>?_;refine xA.go (d:=d__law_order) X G (λD=>k__law_order D q dG 12) λxZ=>?_;exact k_law D q Ii xX xV o8 PN FU LQ cf PK uy PM xZ
def walk {l:EY}{q:ul}{d:DefRec}{K:Params->Ab} (hn:l.most=ap 63) (é:d.params.defaults=[])
  (hY:∀(w:wv) (h:r9),YP w h->(K w.params).In h)
  (F:∀(w:wv) (mg:Str->Option ci) (fa:db) (h:r9),(K w.params).In h->h.Ns f8 mg->mg d.name=ap (.ref fa)->
   ∃fd:FS,(∀(s:dL) (u:ci),BindsTo s fd ⟨[u],[]⟩ [("_law_script",u)])/\∀base:r9,(K w.params).In base->base.Ns f8 mg->fu l.prog w (K w.params) mg base km 25 fa fd ["_law_script"] (IE (K w.params))) :
  PySem.W.WalkO q Ô XP YP l.row.toRowW d [] (λf vs=>FR f vs):=
 L2.Qi (n:=63) (k:=25) (x:="_law_script") (CX:=λ_=>km) (sp:=λw=>IE (K w.params)) hn ⋯ é ⟨rfl,by decide,by decide,rfl⟩ hY F (λ_ _ a ns hl hO hS=>⟨a,ns,rfl,hO,hS,hl,λ_=>rfl⟩) λ_ _ _ _ _ z=>z
end My
end
open PySem PySem.W PyProof.Rows
inductive PySem.W.Fast:Prop|tw1765107864100098008|tw14432356780453104840|tw5158095624570227837|tw4995158899017589687|tw11147788443553632764|tw7134367419527170594|tw12475187189156977293|tw10625621600388211035|tw4332950718180344101|tw13093561896593904295|tw16445440412878115344|tw13760538539778170881|tw18314729097443962045|tw16174097978855772390|tw9891225259705535092|tw16879046094726062273|tw5229015962174013590|tw15428587713165715226|tw13534536094512590330|tw14997915394737386976|tw15246133684978637902|tw3477041390435580115|tw16725896091919878322|tw12226240110538361078|tw7117243067389730134|tw14249149832249616237|tw5611684004143437375|tw7216555527199091951|tw7699048650679766587|tw6976826982634292658|tw17598592287689046661|tw10225692527253502899|tw1032590675807872994|tw15100566076933297430|tw6826356703950261301|tw7290078471153509472|tw18394377810554087081|tw1236129241959401805|tw9725732643823047934|tw2977553591756629707|tw10848603285724136515|tw8537715358234315745|tw4255661763590335452|tw12396668935053323864|tw1817411179751312010|tw14535739768680100680|tw18042198845619158476|tw15685052630809190492|tw13052620450659541837|tw5704344167121701767|tw2778869970695564329|tw4927947745153026660|tw10151651443902260141|tw9745635200639678917|tw6215589951040855664|tw8648437662287749238|tw8437293899879157759|tw7033205588505986505|tw1208950637698464804|tw13339520209110556698|tw6550804556529845687|tw18089500899148466326|tw8323263743382897447|tw5805360993837864426|tw8548466511932683317|tw17516265595463962616|tw1071406559840161312|tw1983569506387269450|tw13256380597665867123|tw3893993010315338772|tw2224897094500919707|tw10858866426850458334|tw7104478491967374751|tw6104827139562278079|tw16032907422324776298|tw11379207168272731668|tw2834238827146853892|tw12118090834776323441|tw9936121609660558896|tw16146993055566681886|tw9148674330535110849|tw11733588200283424917|tw14592934992305377069|tw12171151640866166906|tw689602287924917462|tw9916830144512192585|tw11831053150602814349|tw16530678244725812684|tw17414678936153642838|tw10577819416342066208|tw12195085958891957540|tw3753257643556743099|tw336599216036405206|tw15053074672672211868|tw8137751670661196338|tw14163350322384527589|tw17750201596132591552|tw4353023486254083241|tw17720891955422868228|tw17981867009674820930
def PySem.W.Fast.tw3369617619538280201:=PySem.Challenge.pw_treewithin_k23_whole_two_exchanged
theorem PySem.W.Fast.te3369617619538280201:PySem.Challenge.pw_treewithin_k23_whole_two_exchanged=PySem.W.Fast.tw3369617619538280201:=rfl
set_option maxRecDepth 100000 in
set_option maxHeartbeats 0 in
theorem PySem.Challenge.cw_treewithin_k23_whole_two_exchanged_holds : PySem.Challenge.rw_treewithin_k23_whole_two_exchanged.Holds := by
 w_on;o_law;k_head;(case hw=>w_witness2)
 k_fill
 refine My.walk (l:=PySem.Challenge.rw_treewithin_k23_whole_two_exchanged) rfl rfl (fun w h Y=>PySem.W.kIn_of Y) ?F
 case F=>
  intro w mg fa h KX G hmg;refine' FL.mkAll (st:=My.top 77) (k:=25) My.law23_ok KX G hmg ?e (fun _ _ _ _ _ _=>FL.us1 fun _=>rfl) (My.all_d KX G ..)
  all_goals try first | (refine' FL.dx ?a ?l ?c ?k;(case a=>k_is);(case l=>k_is);(case c=>k_is);(case k=>k_is)) | (refine' FL.tup3K ?a;(case a=>k_is)) | k_is
#print axioms PySem.Challenge.cw_treewithin_k23_whole_two_exchanged_holds
