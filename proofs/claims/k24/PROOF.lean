import PyProof.Rows.All
import Wide.All
import OpenK.AllK
import Wide.FinOn
import Lean
import PyProof.EqAt
import PyProof.EqKinds
import PyProof.TupleCall
import PyProof.NeKinds
import PyProof.FactsAll.tuple_2
import PyProof.FactsAll.str_0
import PyProof.FactsAll.str_1
import PyProof.FactsAll.str_2
import PyProof.FactsAll.str_3
import PyProof.Rows.MinMaxN
import PyProof.Rows.SumAny
import PyProof.Rows.SetFrom
import PyProof.ReprRoads
import PyProof.Rows.StrKeys3
import PyProof.CallFns
import KE.KSortTup
import KE.KDictSum
import PySem.Challenge.RW_treewithin_k24_whole_great_trees_turned
local macro_rules | `(tactic| omega) => `(tactic| lia)
open PySem renaming wpAny_bind -> Aa, wpAny_pure -> Ah, wpAny_callSpecial?_slot -> AZ, wpAny_field -> A6, wpAny_setField_rec -> A8, Value -> Ba, wpAny_holding -> Bi, wpAny_call_entry -> Bl, wpAny_newObj_type -> Bm, wpAny_truthy_bool -> Bt, wpAny_seqItems -> BO, wpAny_Call_Name_kw -> BR, Expr -> BU, Addr -> BV, wpAny_mono -> BW, mem_of_lookup -> BX, Str -> BZ, wpAny_typeNameOfWhole_keyiter -> B7, wpAny_passesOwn -> Co, wpAny_typeOf -> Ct, wpAny_typeNameOf_keyiter -> Cw, Pos -> CB, wpAny_getItem_str_slice -> CC, wpAny_of_eq -> CH, wpAny_pyIter_list -> CN, wpAny_rule -> CS, wpAny_newTuple -> CT, wpAny_attempt -> C3, wpAny_pyIter_tuple -> C7, wpAny_pyIter_enum -> Dg, wpAny_isInstance -> Ds, wpAny_standAt -> Dw, wpAny_updateSeq_pair -> DC, wpAny_letGo -> DE, wpAny_updateSeq -> DN, wpAny_specialOf -> DP, wpAny_execs_nil -> DQ, Shared -> D1, wpAny_setField -> Ea, wpAny_letOwnedTupleGo_enum -> Eb, wpAny_sequenceKey -> Eo, wpAny_dictEntries -> Ep, wpAny_onRaise -> Ex, wpAny_comprehension_free -> Ey, wpAny_dictEpoch -> E5, wpAny_listPart -> Fh, Heap -> FE, Obj -> FU, call -> F1
open PySem.W renaming Frag -> Ab, nsIn -> AJ, mg_none_of -> AL, kia_one -> Bk, kitOne -> BE, mg_of -> BN, fnOf -> B6, keepIn -> CO, KasT -> DW, codeIn -> D5, methodObj -> Ek, kitx_list -> El, kitx_dict -> Em, cellsFrom_some -> EN, kas_rev -> E1, instObj -> E2, OpenLaw -> E3, lookIn -> Ff, kitx_tuple -> Fy, callWith_K -> Fz, plainGet -> FO, kat_cons -> FP, kas_sort -> FQ
open List renaming getElem?_eq_getElem -> Ad, getElem?_map -> Ae, length_append -> Af, length_map -> Ag, size_toArray -> Ai, getElem?_eq_some_iff -> Ak, getD_eq_getElem?_getD -> Al, replicate -> Am, length_cons -> Ap, mem_map -> Ar, getElem?_eq_none -> Av, mem_range -> Aw, range -> Ax, mem_filter -> Ay, map_cons -> Az, mem_cons -> AA, getElem?_append_left -> AE, map_map -> AH, getElem?_append_right -> AI, mem_append_right -> AN, getElem?_range -> AR, map_append -> AU, mem_cons_of_mem -> AW, mem_append -> AY, ext_getElem? -> A1, mem_singleton -> A3, mem_of_getElem? -> A7, pairwise_iff_getElem -> A9, getElem?_set_ne -> Bd, append_assoc -> Be, length_replicate -> Bf, length_filter_le -> Bg, map_congr_left -> Bj, lookup_cons -> Br, drop_eq_getElem_cons -> Bu, take_of_length_le -> Bv, getElem?_set_self -> Bw, length_nil -> Bx, replicate_succ -> BA, filterMap_cons -> BB, getElem?_replicate -> BD, mem_cons_self -> BF, mem_append_left -> BG, not_mem_nil -> BI, getElem_mem -> BJ, any_eq_true -> BK, length_range -> BM, find?_cons -> BQ, idxOf_lt_length_of_mem -> BS, length_set -> B1, length -> B2, flatten_cons -> B8, forIn_cons -> Ca, mergeSort_perm -> Cc, length_reverse -> Cd, flatMap_append -> Ce, length_take -> Cg, filter_cons -> Ci, nodup_append -> Cv, any_cons -> Cz, getElem_of_mem -> CA, mem_flatMap -> CD, all_eq_true -> CF, getElem?_of_mem -> CU, reverse_append -> CZ, append_nil -> C5, mem_filterMap -> C8, reverse_cons -> Dj, pairwise_lt_range -> Dk, map_nil -> Dl, replicate_append_replicate -> Dm, length_drop -> Dv, getElem_toArray -> DG, eq_nil_of_length_eq_zero -> DH, range_succ -> DR, nodup_cons -> DS, map_const' -> DT, take_succ -> Ed, perm_ext_iff_of_nodup -> Ee, pairwise_cons -> Ef, map_singleton -> Eg, pairwise_map -> Er, length_erase_of_mem -> Ez, pairwise_mergeSort -> ED, nodup_range -> EE, length_eq_zero_iff -> EG, isEmpty_map -> EH, getElem_inj -> EI, getElem?_cons_succ -> EJ, drop_length -> EK, map_set -> ET, length_pos_of_mem -> EU, filter_eq_nil_iff -> EW, drop_eq_nil_of_le -> EX, of_mem_zip -> E7, countP_map -> E8, set_append_right -> Fc, length_singleton -> Fd, getElem?_toArray -> Fe, nodup_nil -> Fm, map_eq_nil_iff -> Ft, length_pos_iff -> Fu, any_map -> FN, map -> F2
open PySem.Heap renaming get?_push_of_some -> Aj, get?_push_size -> Aq, lt_size -> Au, SameBut -> Cf, get?_update_self -> CJ, size_push -> CP, get?_update_other -> De, size_update -> EA, get?_update_ne -> Fs, ExtBut -> FX
open Bool renaming false_eq_true -> An, and_eq_true -> AO, false_ne_true -> AV, not_true -> Bz, eq_iff_iff -> Cr, not_false -> Eh, and_false -> Ei, or_eq_true -> E9, false_and -> Fo, true_and -> Fx
open Nat renaming le_refl -> Ao, lt_of_lt_of_le -> AB, zero_add -> AG, ne_of_lt -> AM, le_trans -> A4, add_assoc -> A5, zero_le -> Bb, lt_irrefl -> Bc, add_sub_cancel_left -> Bh, le_add_right -> BH, sub_self -> Cu, lt_or_ge -> CW, strongRecOn -> C4, sub_zero -> Dh, lt_succ_of_lt -> Di, le_of_ble_eq_true -> Dn, lt_succ_self -> Du, le_of_lt -> D2, eq_or_lt_of_le -> Ec, not_lt_zero -> E6, sub_sub -> Fi, le_succ -> Fj, succ_mul -> FJ, succ -> FK
open PySem.Value renaming ref -> AD, none -> AX, type -> B3, bool -> B9, str -> D3, int -> D4
open PySem.PassesOwn renaming never -> AQ
open Int renaming toNat_natCast -> A2, emod_lt_of_pos -> B5, emod_nonneg -> Cb, le_refl -> DJ, eq_ofNat_of_zero_le -> EL, zero_add -> EY
open PySem.NameKind renaming free -> Bn, cell -> Fw
open PyProof.Rows renaming callWith_type1 -> Bo, slot_tuple_getitem -> Bp
open PySem.Obj renaming mapSeq -> Bq, data_mapFields -> C6, isFreed_of_fields -> Fb
open False renaming elim -> Bs
open PySem.F renaming plainAttrs_list -> BC, slot_dict_keyiterator_next -> BP, slot_tuple_iterator_next -> Ck, slot_enumerate_next -> CK, args_tuple_add_2 -> C1, slot_list_getattribute -> C2, entry_tuple_add -> C9, slot_tuple_add -> Df, args_dict_keyiterator_next_1 -> Dq, entry_dict_keyiterator_next -> Dy, args_list_extend_2 -> Dz, slot_zip_next -> DK, args_tuple_iterator_next_1 -> DL, entry_list_extend -> DU, entry_tuple_iterator_next -> DZ, slot_list_extend -> D8, type_list_append -> Eu, slot_list_append -> Ew, args_enumerate_next_1 -> EB, entry_enumerate_next -> EO
open Ne renaming symm -> BL
open PySem.AutoSeq1 renaming wpAny_loadPart' -> B4, sub_tuple_tuple -> Dr, sub_tuple_list -> DA, sub_list_tuple -> DB, sub_list_list -> DM, idx_int -> ES
open True renaming intro -> Cj
open PySem.Calls renaming spliced_cons -> Cm, spliced_nil -> CM, Name_function_global -> D9, callWith_builtin -> ER
open Array renaming getElem?_toList -> Cn, getElem?_eq_getElem -> CY, length_toList -> DV, perm_iff_toList_perm -> Ej, size_append -> Es, toList_inj -> EM, getElem?_eq_none -> EZ, toList_append -> Fv
open Option renaming map_some -> Cp, getD_none -> EC, isSome_map -> FI
open ForInStep renaming yield -> Cq
open PySem.Str renaming ofString -> Cs, length_append -> Dc, length -> FA
open Or renaming inr -> Cy, inl -> CI
open And renaming right -> CG
open PySem.Txt renaming slice -> CV, slice_le -> DY
open PySem.SeqAt renaming EqAt -> Dp
open Function renaming comp -> Dx
open PySem.SeqAt.RcNeAt renaming lists_lengths -> D6, lists -> FC
open PySem.SeqAt.EqAt renaming int_int -> D7, of_refs -> FD, same -> FY
open PySem.EqBoolInt renaming of_rcne -> En, of_rc -> E4
open PySem.SeqAt.RcAt renaming lists_lengths -> Et, tuples -> FG, lists -> FR
open PySem.Data renaming seq -> Fg
open Sum renaming inr -> Fp, inl -> Fq
open Prod renaming fst -> FH
open PySem.IsL renaming isList -> FT
open PyProof.Rows.IsTup renaming new -> FV
open PySem.Flow renaming ret -> FZ
open PySem.Fin renaming done -> F0
set_option compiler.extract_closed false
set_option Elab.async false
set_option linter.all false
set_option maxRecDepth 100000
set_option maxHeartbeats 1000000
open Option renaming some→ap,none→bm
open PyProof.Rows renaming boot_str→re,envOfC→sB,seqObj→t0,IntsAre→ww,AllBare→Ge
open PySem renaming Value→bv,Addr→ci,Shared→cr,wpAny→db,model→dL,mainGlobals→d4,starEach→d5,Expr→ga,compareOp→im,eval→kw,swapsWith→lc,Scope→lm,behindInMarks→lw,bootBuiltins→mo,cLine→nn,Heap→nw,tupleKind→o0,attributeBase→pc,holding→r9,Around→sn,binaryOp→ss,Program→sK,Stmt→tt,sysModules→tz,call_meets→ul,sliceBounds→ut,rawInt→u8,assignEach→wf,World→wn,IntMulOk→wv,swapsWithSole→wE,swappedStores→wP,assign→wT,setField→xz,NameKind→zn,Builtin→BT,PassesOwn→Da,setItem→Db,tupleKind_room_in1→Ev,FuncData→EQ,storedH→Fa,getItem→Fk,typeLookup→FB,standAt→FM,codeAny→FS,backTo→Gc,post_val_or_str→Gf,letOwnedTupleGo→GE
local macro_rules | `(∅)=>`(by omega)
local macro_rules | `(⋯)=>`(by decide)
namespace L2
open PySem PySem.Spec PyProof.Rows
abbrev Key:=Sum Int Str
def vP:Key->bv->Bool
 | .inl k,v=>Value.isInt k v
 | .inr x,v=>Value.isStrOf x v
def keyH (w:wn):Key->Int
 | .inl k=>hashInt k
 | .inr x=>hashStr w x
def cE:∀{k:Key}{v:bv},vP k v=true->(∃i t,k=Fq i/\v=D4 i t)\/(∃x t,k=Fp x/\v=D3 x t)
 | .inl i,v,h=>by
  obtain⟨t,e⟩:=Value.isInt_shape (k:=i) (v:=v) h;exact .inl ⟨i,t,rfl,e⟩
 | .inr x,v,h=>by
  obtain⟨t,e⟩:=Value.isStrOf_shape (x:=x) (v:=v) h;exact .inr ⟨x,t,rfl,e⟩
def L6 (i:Int) (t:Tok):vP (.inl i) (.int i t)=true:=by simp [vP,Value.isInt]
def L5 (x:Str) (t:Tok):vP (.inr x) (.str x t)=true:=by simp [vP,Value.isStrOf]
def XJ (a b:Int):decide ((Fq a:Key)=Fq b)=(a==b):=by
 by_cases e:a=b
 ·subst e;simp
 ·have h:¬(Fq a:Key)=Fq b:=λq=>e (Fq.inj q);rw [decide_eq_false h];exact (beq_eq_false_iff_ne.mpr e).symm
def XG (a b:Str):decide ((Fp a:Key)=Fp b)=decide (a=b):=by
 by_cases e:a=b
 ·subst e;simp
 ·have h:¬(Fp a:Key)=Fp b:=λq=>e (Fp.inj q);rw [decide_eq_false h,decide_eq_false e]
def XI (a:Int) (b:Str):decide ((Fq a:Key)=Fp b)=false:=decide_eq_false (λq=>nomatch q)
def XH (a:Str) (b:Int):decide ((Fp a:Key)=Fq b)=false:=decide_eq_false (λq=>nomatch q)
def cv (prog:sK) (w:wn):PySem.KeyKind prog w Key where
 is:=vP
 hash:=keyH w
 inj:=λv a b ha hb=>by
  rcases cE ha with⟨i,t,rfl,rfl⟩ | ⟨x,t,rfl,rfl⟩
  ·rcases cE hb with⟨j,u,rfl,e⟩ | ⟨y,u,rfl,e⟩
   ·injection e with e1 _;rw [e1]
   ·exact nomatch e
  ·rcases cE hb with⟨j,u,rfl,e⟩ | ⟨y,u,rfl,e⟩
   ·exact nomatch e
   ·injection e with e1 _;rw [e1]
 byValue:=λk v h=>by
  rcases cE h with⟨i,t,rfl,rfl⟩ | ⟨x,t,rfl,rfl⟩ <;> rfl
 pyHash:=λhv h=>by
  rcases cE hv with⟨i,t,rfl,rfl⟩ | ⟨x,t,rfl,rfl⟩
  ·exact wpAny_pyHash_int h
  ·exact wpAny_pyHash_str h
 eqBool:=λhu hv h=>by
  rcases cE hu with⟨i,t,rfl,rfl⟩ | ⟨x,t,rfl,rfl⟩
  ·rcases cE hv with⟨j,u,rfl,rfl⟩ | ⟨y,u,rfl,rfl⟩
   ·rw [XJ] at h;exact wpAny_eqBool_int h
   ·rw [XI] at h;exact Dp.int_str i t y u _ _ _ _ h
  ·rcases cE hv with⟨j,u,rfl,rfl⟩ | ⟨y,u,rfl,rfl⟩
   ·rw [XH] at h;exact Dp.str_int x t j u _ _ _ _ h
   ·rw [XG] at h;exact wpAny_eqBool_str h
 «strs»:=λk x t v h=>by
  rcases cE h with⟨i,u,rfl,e⟩ | ⟨y,u,rfl,e⟩
  ·exact nomatch e
  ·injection e with e1 _;subst e1;cases v <;> rfl
def z9 (prog:sK) (w:wn) (i:Int) (t:Tok):(cv prog w).is (.inl i) (.int i t)=true:=L6 i t
def zZ (prog:sK) (w:wn) (x:Str) (t:Tok):(cv prog w).is (.inr x) (.str x t)=true:=L5 x t
end L2
variable {us:List Ba}{u:Ba}{κ α β:Type}{a b e:BV}{P:PySem.Program}{w:PySem.World}{h h':FE}{ob:FU}
namespace L2
open PySem PySem.Spec PyProof.Rows
inductive V where
 | aV | bl (b:Bool) | int (i:Int) | str (x:Str) | YB (b:Array UInt8) | Ze (b:UInt64) | ref (a:ci) | ty (n:String)
 deriving DecidableEq
def RelV:V->bv->Prop
 | .aV,u=>u=AX
 | .bl b,u=>u=B9 b
 | .int i,u=>∃t,u=D4 i t
 | .str x,u=>∃t,u=D3 x t
 | .YB b,u=>∃t,u=Value.bytes b t
 | .Ze b,u=>∃t,u=Value.float b t
 | .ref a,u=>u=AD a
 | .ty n,u=>u=B3 n
abbrev Vals:List V->List bv->Prop:=Paired RelV
def Vals.length {xs:List V} (r:Vals xs us):xs.length=us.length:=Paired.length r
theorem Vals.get:∀{xs:List V}{us:List bv}{i:Nat}{x:V},Vals xs us->xs[i]?=ap x->∃u,us[i]?=ap u/\RelV x u
 | _,_,_,_,.nil,e=>by simp at e
 | _,_,0,_,.cons r _,e=>by simp at e;subst e;exact⟨_,rfl,r⟩
 | _,_,i+1,x,.cons _ t,e=>by
  obtain⟨u,h1,h2⟩:=Vals.get (i:=i) (x:=x) t (by simpa using e);exact⟨u,by simpa using h1,h2⟩
theorem Vals.set {x:V} (r:RelV x u):∀{xs:List V}{us:List bv} (i:Nat),Vals xs us->Vals (xs.set i x) (us.set i u)
 | _,_,_,.nil=>.nil
 | _,_,0,.cons _ t=>.cons r t
 | _,_,i+1,.cons q t=>.cons q (Vals.set r i t)
theorem Vals.append:∀{xs ys:List V}{us ws:List bv},Vals xs us->Vals ys ws->Vals (xs++ys) (us++ws)
 | _,_,_,_,.nil,s=>s
 | _,_,_,_,.cons r t,s=>.cons r (Vals.append t s)
theorem Vals.take:∀{xs:List V}{us:List bv} (n:Nat),Vals xs us->Vals (xs.take n) (us.take n)
 | _,_,0,_=>.nil
 | _,_,_+1,.nil=>.nil
 | _,_,n+1,.cons r t=>.cons r (Vals.take n t)
theorem Vals.drop:∀{xs:List V}{us:List bv} (n:Nat),Vals xs us->Vals (xs.drop n) (us.drop n)
 | _,_,0,r=>r
 | _,_,_+1,.nil=>.nil
 | _,_,n+1,.cons _ t=>Vals.drop n t
def uF:Option V->Option bv->Prop
 | some v,ap u=>RelV v u
 | none,bm=>True
 | _,_=>False
def KV:List (κ×V)->List (κ×bv)->Prop:=Paired λ(p:κ×V) (q:κ×bv)=>p.1=q.1/\RelV p.2 q.2
def kV:Key->V
 | .inl i=>.int i
 | .inr x=>.str x
inductive HO where
 | lst (xs:List V)
 | tup (xs:List V)
 | dK (kvs:List (Key×V)) | dT (kvs:List (List Key×V))
 | set (S:Int->Bool) (n:Nat)
 | ins (C dx:ci) (fs:List (Str×V))
 | own (x:ci)
 | xd (fs:List (Str×V))
 | met (f x:ci)
 | rng (lo hi:Int)
 | cT (o:Obj) (u:HO)
 | V8 (ps:Array bv)
 | ext (φ:nw->Prop)
abbrev Hp:=ci->Option HO
def upd (H:Hp) (a:ci) (o:HO):Hp:=λb=>if b=a then ap o else H b
def aW {H:Hp}{o:HO}:upd H a o a=ap o:=by unfold upd;rw [if_pos rfl]
def aD {H:Hp}{o:HO} (h:b≠a):upd H a o b=H b:=by unfold upd;rw [if_neg h]
def Kp {H:Hp}{o u:HO} (h:H a=ap o) (h':H b=ap u) (d:o≠u):a≠b:=by
 intro e;subst e;rw [h] at h';exact d (Option.some.inj h')
def bQ {H:Hp}{o:HO} (h:H a=ap o) (h':H b=bm):a≠b:=by
 intro e;subst e;rw [h] at h';cases h'
section
variable (P:sK) (w:wn)
def bu (H:Hp) (h:nw) (a:ci):HO->Prop
 | .lst xs=>xs.length<=sizeLine/\∃(au:List bv) (n:Nat),Vals xs au/\h.get? a=ap {cls:=.type "list",data:=.seq au.toArray n}
 | .tup xs=>xs.length<=sizeLine/\∃au:List bv,Vals xs au/\IsTup h a au.toArray
 | .dK kvs=>kvs.length<=sizeLine/\(a==tz)=false/\∃vs,KV kvs vs/\h.DictOf (cv P w) a vs
 | .dT kvs=>kvs.length<=sizeLine/\(a==tz)=false/\∃xs:List (List Key×ci×bv),
   Paired (λ(p:List Key×V) (q:List Key×ci×bv)=>p.1=q.1/\H q.2.1=ap (.tup (p.1.map kV))/\RelV p.2 q.2.2) kvs xs/\
   ∃o es ep,h.get? a=ap o/\o.ExactDict/\o.data=.dict es ep/\es.toList=xs.map (entryOfKey (o0 (cv P w)))/\(xs.map (·.1)).Nodup
 | .set S n=>h.SetOf (intKind P w) a S n
 | .ins C dx fs=>H dx=ap (.own a)/\fs.length<=1000/\dx≠a/\h.get? a=ap (E2 C dx)/\
   ∃mA,h.Ns1 dx mA/\(∀f,uF (fs.lookup f) (mA f))/\PySem.Within mA (fs.map (·.1))
 | .own _=>∃o,h.get? a=ap o
 | .xd fs=>∃mA,h.Ns1 a mA/\∀f,uF (fs.lookup f) (mA f)
 | .rng lo hi=>∃t u v,h.get? a=ap {cls:=.type "range",data:=.fields #[.int lo t,.int hi u,.int 1 v]}
 | .cT o u=>h.get? a=ap o/\bu H h a u
 | .V8 ps=>h.get? a=ap {cls:=.none,data:=.fields ps}
 | .met f x=>h.get? a=ap (Ek (.ref f) (.ref x))
 | .ext φ=>φ h/\(∃o,h.get? a=ap o)/\∀h1 h2:nw,φ h1->(∀o,h1.get? a=ap o->h2.get? a=ap o)->φ h2
def mz (H:Hp) (h:nw):Prop:=∀a o,H a=ap o->bu P w H h a o
end
section
variable {H H':Hp}{o:HO}
def bu.lt (x:bu P w H h a o):a < h.objs.size:=by
 cases o with
 | lst xs=>obtain⟨_,_,_,_,e⟩:=x;exact Au e
 | tup xs=>obtain⟨_,_,_,p⟩:=x;exact p.lt
 | dK kvs=>obtain⟨_,_,_,_,o,_,_,e,_⟩:=x;exact Au e
 | dT kvs=>obtain⟨_,_,_,_,o,_,_,e,_⟩:=x;exact Au e
 | set S n=>obtain⟨o,_,_,_,e,_⟩:=x;exact Au e
 | ins C dx fs=>obtain⟨_,_,_,e,_⟩:=x;exact Au e
 | own y=>obtain⟨_,e⟩:=x;exact Au e
 | xd fs=>obtain⟨_,⟨_,_,_,e,_⟩,_⟩:=x;exact Au e
 | rng lo hi=>obtain⟨_,_,_,e⟩:=x;exact Au e
 | cT ob u=>obtain⟨e,_⟩:=x;exact Au e
 | V8 ps=>exact Au (show h.get? a=ap _ from x)
 | met f y=>exact Au (show h.get? a=ap _ from x)
 | ext φ=>obtain⟨_,⟨_,e⟩,_⟩:=x;exact Au e
theorem Paired.Xp {F G:α->β->Prop}:∀{l₁:List α}{l₂:List β},Paired F l₁ l₂->(∀a b,F a b->G a b)->Paired G l₁ l₂
 | _,_,.nil,_=>.nil
 | _,_,.cons r t,f=>.cons (f _ _ r) (Paired.Xp t f)
def bu.w6 (x:bu P w H h a o) (k:∀b u,(b=a\/H b=ap (.own a))->h.get? b=ap u->h'.get? b=ap u)
  (ho:∀b,H b=ap (.own a)->H' b=ap (.own a)) (ht:∀b xs,H b=ap (.tup xs)->H' b=ap (.tup xs)):bu P w H' h' a o:=by
 induction o with
 | lst xs=>obtain⟨z,au,n,r,e⟩:=x;exact⟨z,au,n,r,k _ _ (.inl rfl) e⟩
 | tup xs=>obtain⟨z,au,r,ob,e,c⟩:=x;exact⟨z,au,r,ob,k _ _ (.inl rfl) e,c⟩
 | dK kvs=>obtain⟨z,y,vs,r,ob,es,ep,e,c⟩:=x;exact⟨z,y,vs,r,ob,es,ep,k _ _ (.inl rfl) e,c⟩
 | dT kvs=>
  obtain⟨z,y,xs,r,ob,es,ep,e,c⟩:=x;exact⟨z,y,xs,Paired.Xp r λp q z=>⟨z.1,ht _ _ z.2.1,z.2.2⟩,ob,es,ep,k _ _ (.inl rfl) e,c⟩
 | set S n=>obtain⟨ob,es,ep,t,e,c⟩:=x;exact⟨ob,es,ep,t,k _ _ (.inl rfl) e,c⟩
 | ins C dx fs=>
  obtain⟨d,z,ne,e,mA,⟨od,es,ep,e2,c⟩,r⟩:=x;exact⟨ho _ d,z,ne,k _ _ (.inl rfl) e,mA,⟨od,es,ep,k _ _ (.inr d) e2,c⟩,r⟩
 | own y=>obtain⟨ob,e⟩:=x;exact⟨ob,k _ _ (.inl rfl) e⟩
 | xd fs=>obtain⟨mA,⟨od,es,ep,e,c⟩,r⟩:=x;exact⟨mA,⟨od,es,ep,k _ _ (.inl rfl) e,c⟩,r⟩
 | rng lo hi=>obtain⟨t,u,v,e⟩:=x;exact⟨t,u,v,k _ _ (.inl rfl) e⟩
 | cT ob u ih=>obtain⟨e,q⟩:=x;exact⟨k _ _ (.inl rfl) e,ih q⟩
 | V8 ps=>
  have e:h.get? a=ap {cls:=.none,data:=.fields ps}:=x;show h'.get? a=ap {cls:=.none,data:=.fields ps};exact k a _ (.inl rfl) e
 | met f y=>
  have e:h.get? a=ap (Ek (.ref f) (.ref y)):=x;show h'.get? a=ap (Ek (.ref f) (.ref y));exact k a _ (.inl rfl) e
 | ext φ=>obtain⟨p,⟨o,e⟩,st⟩:=x;exact⟨st _ _ p λo q=>k _ _ (.inl rfl) q,⟨o,k _ _ (.inl rfl) e⟩,st⟩
def mz.lt (x:mz P w H h) (e:H a=ap o):a < h.objs.size:=(x a o e).lt
def mz.fresh (x:mz P w H h) (e:h.objs.size<=a):H a=bm:=by
 cases q:H a with
 | none=>rfl
 | some u=>exact absurd (AB (x.lt q) e) (Bc _)
def mz.kept (x:mz P w H h) (k:∀b u,h.get? b=ap u->h'.get? b=ap u):mz P w H h':=λa o e=>
 (x a o e).w6 (λb u _ q=>k b u q) (λ_ q=>q) λ_ _ q=>q
def mz.laid (x:mz P w H h) (k:∀b u,h.get? b=ap u->h'.get? b=ap u) (hp:h.objs.size<=a) (new:bu P w (upd H a o) h' a o):mz P w (upd H a o) h':=λb u e=>by
 have hn:=x.fresh hp;by_cases hb:b=a
 ·subst hb;rw [aW] at e;cases e;exact new
 ·rw [aD hb] at e;exact (x b u e).w6 (λc v _ q=>k c v q) (λc q=>by rw [aD (bQ q hn)];exact q) λc xs q=>by rw [aD (bQ q hn)];exact q
end
def Rd (H:Hp) (a:ci) (u:HO):Prop:=H a=ap u\/∃o,H a=ap (.cT o u)
def Rd.ok {H:Hp}{u:HO} (r:Rd H a u) (x:mz P w H h):bu P w H h a u:=by
 rcases r with r | ⟨o,r⟩
 ·exact x a u r
 ·obtain⟨_,q⟩:=x a _ r;exact q
def Mut:Option HO->Prop
 | some (.lst _)=>True
 | some (.dK _)=>True
 | some (.dT _)=>True
 | some (.set _ _)=>True
 | some (.ins _ _ _)=>True
 | some (.ext _)=>True
 | _=>False
section
variable {H:Hp}{x:ci}{o':HO}
def mz.write (ok:mz P w H h) (mu:Mut (H x)) (he:e=x\/H e=ap (.own x)) (k:∀b u,b≠e->h.get? b=ap u->h'.get? b=ap u) (Y8:∃u,h'.get? e=ap u)
  (new:bu P w (upd H x o') h' x o'):mz P w (upd H x o') h':=λb u q=>by
 have OW:∀c y,H c=ap (.own y)->c≠x:=λc y r z=>by subst z;rw [r] at mu;exact mu
 have aez:∀c xs,H c=ap (.tup xs)->c≠x:=λc xs r z=>by subst z;rw [r] at mu;exact mu
 by_cases hb:b=x
 ·subst hb;rw [aW] at q;cases q;exact new
 ·rw [aD hb] at q;by_cases X4:b=e
  ·have q':H b=ap (.own x):=by
    rcases he with z | z
    ·exact absurd (X4.trans z) hb
    ·rw [X4];exact z
   rw [q] at q';cases q';obtain⟨v,hv⟩:=Y8;exact⟨v,by rw [X4];exact hv⟩
  ·refine (ok b u q).w6 (λc v hc r=>k c v ?_ r) (λc r=>by rw [aD (OW c b r)];exact r) λc xs r=>by rw [aD (aez c xs r)];exact r
   rcases hc with rfl | hc
   ·exact X4
   ·rintro rfl;rcases he with z | z
    ·exact OW c b hc z
    ·rw [hc] at z;cases z;exact hb rfl
end
structure Un (fs ex:List ci) (H H':Hp) (h h':nw):Prop where
 keep:∀b o,h.get? b=ap o->H b=bm->b∉fs->b∉ex->h'.get? b=ap o
 slot:∀b o,h.get? b=ap o->H b=bm->b∈fs->b∉ex->∃sl,h'.get? b=ap {o with slots:=sl}
 free:∀b o,h.get? b=ap o->H b=bm->b∉ex->H' b=bm
 there:∀b o,h.get? b=ap o->b∉ex->∃o',h'.get? b=ap o'
 eQ:∀b xs,H b=ap (.tup xs)->H' b=ap (.tup xs)
 qN:∀b o u,H b=ap (.cT o u)->H' b=ap (.cT o u)
 wY:∀b ps,H b=ap (.V8 ps)->∃more,H' b=ap (.V8 (ps++more))
section
variable {fs ex:List ci}{H H1:Hp}{h1:nw}{x:ci}{o:HO}
def Un.any (u:Un fs ex H H1 h h1) (q:h.get? b=ap ob) (n:H b=bm) (hx:b∉ex):∃sl,h1.get? b=ap {ob with slots:=sl}:=by
 by_cases hb:b∈fs
 ·exact u.slot b ob q n hb hx
 ·exact⟨ob.slots,u.keep b ob q n hb hx⟩
def Un.kept (k:∀b u,h.get? b=ap u->h'.get? b=ap u):Un fs ex H H h h':=
 ⟨λb ob q _ _ _=>k b ob q,λb ob q _ _ _=>⟨ob.slots,k b ob q⟩,λ_ _ _ n _=>n,λb ob q _=>⟨ob,k b ob q⟩,λ_ _ q=>q,λ_ _ _ q=>q,λ_ ps q=>⟨#[],by rw [q];simp⟩⟩
def Un.refl:Un fs ex H H h h:=Un.kept λ_ _ q=>q
def Un.laid (k:∀b u,h.get? b=ap u->h'.get? b=ap u) (hp:h.objs.size<=a) (hn:H a=bm):Un fs ex H (upd H a o) h h' where
 keep:=λb u q _ _ _=>k b u q
 slot:=λb u q _ _ _=>⟨u.slots,k b u q⟩
 free:=λb u q n _=>by rw [aD (AM (AB (Au q) hp))];exact n
 there:=λb u q _=>⟨u,k b u q⟩
 eQ:=λb xs q=>by rw [aD (bQ q hn)];exact q
 qN:=λb u xs q=>by rw [aD (bQ q hn)];exact q
 wY:=λb ps q=>⟨#[],by rw [aD (bQ q hn),q];simp⟩
def Un.write (mu:Mut (H x)) (he:e=x\/H e=ap (.own x)) (k:∀b u,b≠e->h.get? b=ap u->h'.get? b=ap u) (Y8:∃u,h'.get? e=ap u):Un fs ex H (upd H x o) h h':=by
 have hx:∀b,H b=bm->b≠x:=λb n z=>by subst z;rw [n] at mu;exact mu
 have hb:∀b,H b=bm->b≠e:=λb n z=>by
  subst z;rcases he with r | r
  ·exact hx b n r
  ·rw [n] at r;cases r
 have hm:∀b u,H b=ap u->¬Mut (ap u)->b≠x:=λb u q nm z=>by subst z;rw [q] at mu;exact nm mu
 refine⟨λb u q n _ _=>k b u (hb b n) q,λb u q n _ _=>⟨u.slots,k b u (hb b n) q⟩,λb u q n _=>by rw [aD (hx b n)];exact n,λb u q _=>?_,
  λb xs q=>by rw [aD (hm b _ q λz=>z)];exact q,λb u xs q=>by rw [aD (hm b _ q λz=>z)];exact q,λb ps q=>⟨#[],by rw [aD (hm b _ q λz=>z),q];simp⟩⟩
 by_cases X4:b=e
 ·subst X4;exact Y8
 ·exact⟨u,k b u X4 q⟩
end
def trk (h:nw) (H:Hp):List ci:=(Ax h.objs.size).filter λa=>(H a).isSome
def xV (h:nw) (H:Hp):nw:=PySem.W.hideAll h (trk h H)
def Mg (h:nw) (H:Hp):(xV h H).objs.size=h.objs.size:=PySem.W.hideAll_size _ _
def Pw {H:Hp}{o:Obj} (e:h.get? b=ap o) (n:H b=bm):(xV h H).get? b=ap o:=
 PySem.W.hideAll_get _ e λhm=>by
  have q:=(Ay.mp hm).2;rw [n] at q;simp at q
def SK {H:Hp}{o:Obj} (e:(xV h H).get? b=ap o):h.get? b=ap o/\H b=bm:=by
 have e':=PySem.W.of_hideAll (trk h H) e;refine⟨e',?_⟩;cases q:H b with
 | none=>rfl
 | some x=>
  have hm:b∈trk h H:=Ay.mpr ⟨Aw.mpr (Au e'),by simp [q]⟩;have z:(xV h H).get? b=bm:=PySem.W.hideAll_none (trk h H) hm;rw [z] at e;cases e
def UC (g h:nw) (L:ci):List (ci×Obj):=(Ax h.objs.size).filterMap λa=>if a=L\/(g.get? a).isSome=true then bm else (h.get? a).map λo=>(a,o)
def rest (g h:nw) (L d:ci):List (ci×Obj):=(UC g h L).filter λp=>decide (p.1≠d)
end L2
variable {o:FU}{it:BV}{i j:Nat}{M:PySem.Model}{A:PySem.Around}{E:Ba->D1->Prop}{v:L2.V}{Q:Unit->D1->Prop}{s' s:D1}
namespace L2
open PySem PySem.Spec PyProof.Rows
structure Mod (K:Ab) (mg:Str->Option bv) (base:nw):Prop where
 kin:K.In base
 glob:base.Ns d4 mg
 blt:∃mb,base.Ns builtinsNs mb/\∀x:Str,x≠"__name__"->mb x=mo x
 nolimit:base.NoLimit
structure Cx where
 prog:sK
 w:wn
 K:Ab
 mg:Str->Option bv
 base:nw
 A:sn
 N:List Str
 s₀:cr
 H₀:Hp
 env:Env
 outer:List Env
 stack:List Env
 ex:List ci
 fn:Str->Bool
 calm:Bool
 pn:List (ci×Obj)
 xe:bv->cr->Prop
abbrev jh (x:Str):Prop:=(x==("__debug__":Str))=false
abbrev y9 (x:Str):Prop:=(x==("__classdict__":Str))=false
abbrev gR (X:Cx) (e:ga) (es:List ga):Prop:=d5 (e::es) X.env=(false,kw e X.env)::d5 es X.env
abbrev kL (X:Cx) (p:Pos) (es:List ga):Prop:=(Gc p (d5 es X.env)).any (·.1)=false
abbrev wI (X:Cx) (e:ga):Prop:=∀x,foldedSetIterable e X.env x=pure x
abbrev VP (X:Cx) (p:Pos) (l:List ga):Prop:=((Gc p (d5 l X.env)).all (λx=>!x.1)&&(backToKw p (keywordEach [] X.env)).all (λx=>x.1.isSome)&&decide (l.length+([]:List Keyword).length+(if ([]:List Keyword).isEmpty then 0 else 1) < 30))=true
abbrev Q8 (p q:Pos):Prop:=(p.endLine==q.line)=true
abbrev Nw (X:Cx) (y:Str):Prop:=X.fn y=true\/X.env.scope.names.lookup y=ap .local
def Nt (l:List Env):List ci:=l.filterMap (·.frame)
abbrev Cx.fs (X:Cx):List ci:=Nt X.outer
def yN (sc:lm) (x:Str):Prop:=sc.names.lookup x=ap .local\/sc.names.lookup x=ap .cell\/sc.names.lookup x=ap .free
def Loc (sc:lm) (x:Str):Prop:=sc.names.lookup x=ap .local\/sc.names.lookup x=ap .cell
def Look (env:Env) (h:nw) (m:Str->Option bv) (x:Str) (u:bv):Prop:=
 (env.kindOf x=ap .local/\m x=ap u)\/((env.kindOf x=ap .cell\/env.kindOf x=ap .free)/\∃c,env.cells.lookup x=ap c/\h.IsCell c (ap u))
structure Cx.Ok (X:Cx):Prop where
 mod:Mod X.K X.mg X.base
 kind:X.env.scope.kind=.function
 glob:X.env.globals=d4
 blt:X.env.builtins=builtinsNs
 above:X.s₀.heap.objs.size<=X.env.locals
 inj:∀x y c,X.env.cells.lookup x=ap c->X.env.cells.lookup y=ap c->x=y
 has:∀x,(X.env.kindOf x=ap .cell\/X.env.kindOf x=ap .free)->∃c,X.env.cells.lookup x=ap c
 cab:∀x c,X.fn x=true->X.env.cells.lookup x=ap c->X.s₀.heap.objs.size<=c
 hd:X.calm=true->X.A.handled=bm
 frames:X.A.frames=ap X.stack
 stk:X.stack=X.outer\/(X.stack=X.env::X.outer/\X.env.frame=ap X.env.locals)
 exf:∀b∈X.ex,b≠X.env.locals/\∀x c,X.env.cells.lookup x=ap c->c≠b
 bs:∀b o,X.base.get? b=ap o->X.s₀.heap.get? b=ap o/\X.H₀ b=bm
 VN:X.base.objs.size<=X.s₀.heap.objs.size
 OX:∀b o,X.base.get? b=ap o->b∉X.ex
 P8:∀b∈X.ex,b∉X.fs
 tU:X.s₀.heap.FunFrames X.base X.outer
 Zb:∀b∈X.fs,X.H₀ b=bm
structure Inv (X:Cx) (Z:List (ci×Obj)) (σ:List (Option V)) (H:Hp) (s:cr):Prop where
 ok:X.Ok
 os:s.os=X.s₀.os
 bare:Ge s.gens
 base:Un X.fs X.ex X.H₀ H X.s₀.heap s.heap
 loc:∃m,s.heap.Ns X.env.locals m/\∀(i:Nat) (x:Str) (v:V),X.N[i]?=ap x->σ[i]?=ap (ap v)->yN X.env.scope x->∃u,RelV v u/\Look X.env s.heap m x u
 cell:∀x c,X.env.cells.lookup x=ap c->∃v,s.heap.IsCell c v
 free:H X.env.locals=bm
 kF:∀x c,X.env.cells.lookup x=ap c->H c=bm
 pin:∀p∈X.pn++Z,s.heap.get? p.1=ap p.2/\H p.1=bm/\p.1≠X.env.locals/\p.1∉X.fs/\∀v,p.2.data≠.cell v
 bK:mz X.prog X.w H s.heap
 len:σ.length=X.N.length
section
variable {X:Cx}{Z:List (ci×Obj)}{σ:List (Option V)}{H H':Hp}{s:cr}{h':nw}
def Cx.Ok.aeB (ok:X.Ok) (e:X.base.get? b=ap o):b∉X.fs:=λhb=>by
 have:=(ok.tU.mem hb).1;rw [e] at this;cases this
def Inv.bs (I:Inv X Z σ H s):∀b o,X.base.get? b=ap o->s.heap.get? b=ap o/\H b=bm:=λb o e=>
 ⟨I.base.keep b o (I.ok.bs b o e).1 (I.ok.bs b o e).2 (I.ok.aeB e) (I.ok.OX b o e),I.base.free b o (I.ok.bs b o e).1 (I.ok.bs b o e).2 (I.ok.OX b o e)⟩
def Inv.bk (I:Inv X Z σ H s):∀b o,X.base.get? b=ap o->s.heap.get? b=ap o:=λb o e=>(I.bs b o e).1
def Inv.mod (I:Inv X Z σ H s):Mod X.K X.mg X.base:=I.ok.mod
def Inv.uW (I:Inv X Z σ H s):X.K.In s.heap:=I.ok.mod.kin.keeps I.bk
def Inv.lt (I:Inv X Z σ H s):X.env.locals < s.heap.objs.size:=let ⟨_,hn,_⟩:=I.loc;hn.lt
def Inv.sz (I:Inv X Z σ H s):X.s₀.heap.objs.size<=s.heap.objs.size:=A4 I.ok.above (D2 I.lt)
def Inv.aeA (I:Inv X Z σ H s) (h:s.heap.objs.size<=a):a∉X.fs:=λhb=>by
 obtain⟨_,o,ho,_⟩:=I.ok.tU.mem hb;exact absurd (AB (Au ho) (A4 I.sz h)) (Bc _)
def Inv.Yy (I:Inv X Z σ H s):∀x c,X.env.cells.lookup x=ap c->c≠X.env.locals:=λx c e z=>by
 obtain⟨v,o,ho,hd⟩:=I.cell x c e;obtain⟨m,⟨o',es,ep,Pr,ľ,_⟩,_⟩:=I.loc;rw [z,Pr] at ho;cases ho;rw [ľ] at hd;cases hd
def Inv.tU (I:Inv X Z σ H s):s.heap.FunFrames X.base X.outer:=by
 have all:∀(l:List Env),(∀b∈Nt l,b∈X.fs)->X.s₀.heap.FunFrames X.base l->s.heap.FunFrames X.base l:=by
  intro l
  induction l with
  | nil=>intro _ _;trivial
  | cons env r ih=>
   intro hs hl;obtain⟨hk,⟨L,o,hf,hn,ho,hd⟩,hr⟩:=hl;have hL:=hs L (by unfold Nt;rw [BB,hf];exact BF);obtain⟨sl,e⟩:=I.base.slot L o ho (I.ok.Zb L hL) hL λz=>I.ok.P8 L z hL;exact⟨hk,⟨L,_,hf,hn,e,hd⟩,ih (λb hb=>hs b (by unfold Nt;rw [BB,hf];exact AW _ hb)) hr⟩
 exact all X.outer (λ_ hb=>hb) I.ok.tU
def Inv.stack (I:Inv X Z σ H s):s.heap.FunFrames X.base X.stack:=by
 rcases I.ok.stk with e | ⟨e,hf⟩
 ·rw [e];exact I.tU
 ·rw [e];obtain⟨m,hn,_⟩:=I.loc;refine .cons (by rw [I.ok.kind];decide) hf hn ?_ I.tU;exact Heap.get?_none_of_le (A4 I.ok.VN I.ok.above)
def Inv.Hw (I:Inv X Z σ H s):∀b∈Nt X.stack,b∈X.env.locals::X.fs:=λb hb=>by
 rcases I.ok.stk with e | ⟨e,hf⟩
 ·rw [e] at hb;exact AW _ hb
 ·rw [e] at hb;unfold Nt at hb;rw [BB,hf] at hb;exact hb
def Inv.JV (I:Inv X Z σ H s):∀b∈Nt X.stack,H b=bm:=λb hb=>by
 rcases AA.mp (I.Hw b hb) with e | hb
 ·rw [e];exact I.free
 ·obtain⟨_,o,ho,_⟩:=I.ok.tU.mem hb;exact I.base.free b o ho (I.ok.Zb b hb) λz=>I.ok.P8 b z hb
def Inv.step {g':Array GenState}{t':Nat}{d':Drawn}{ch:List ci} (I:Inv X Z σ H s)
  (Rh:∀b∈ch,(b∈X.ex\/X.s₀.heap.objs.size<=b)/\b≠X.env.locals/\(∀x c,X.env.cells.lookup x=ap c->c≠b)/\∀p∈X.pn++Z,p.1≠b)
  (keep:∀b o,b≠X.env.locals->b∉X.fs->b∉ch->s.heap.get? b=ap o->H b=bm->h'.get? b=ap o)
  (slot:∀b o,b≠X.env.locals->b∈X.fs->b∉ch->s.heap.get? b=ap o->H b=bm->∃sl,h'.get? b=ap {o with slots:=sl}) (free:∀b o,b∉ch->s.heap.get? b=ap o->H b=bm->H' b=bm)
  (there:∀b o,b∉ch->s.heap.get? b=ap o->∃o',h'.get? b=ap o')
  (eQ:∀b xs,H b=ap (.tup xs)->H' b=ap (.tup xs)) (qN:∀b o u,H b=ap (.cT o u)->H' b=ap (.cT o u)) (wY:∀b ps,H b=ap (.V8 ps)->∃more,H' b=ap (.V8 (ps++more)))
  (ns:∀m,s.heap.Ns X.env.locals m->h'.Ns X.env.locals m) (bK:mz X.prog X.w H' h') (hg:Ge g') :
  Inv X Z σ H' {s with heap:=h',gens:=g',drawn:=d',toks:=t'}:=by
 have neL:∀b o,X.s₀.heap.get? b=ap o->b≠X.env.locals:=λb o e=>AM (AB (Au e) I.ok.above);have Ă:∀b o,X.s₀.heap.get? b=ap o->b∉X.ex->b∉ch:=λb o e hx hb=>by
  rcases (Rh b hb).1 with z | z
  ·exact hx z
  ·exact absurd (AB (Au e) z) (Bc _)
 have Û:∀x c,X.env.cells.lookup x=ap c->∀v,s.heap.IsCell c v->h'.IsCell c v:=λx c e v ⟨o,ho,hd⟩=>by
  have é:c∉ch:=λz=>(Rh c z).2.2.1 x c e rfl;by_cases hc:c∈X.fs
  ·obtain⟨sl,q⟩:=slot c o (I.Yy x c e) hc é ho (I.kF x c e);exact⟨_,q,hd⟩
  ·exact⟨o,keep c o (I.Yy x c e) hc é ho (I.kF x c e),hd⟩
 refine⟨I.ok,I.os,hg,⟨λb o e n hb hx=>?_,λb o e n hb hx=>?_,λb o e n hx=>?_,λb o e hx=>?_,λb xs e=>eQ b xs (I.base.eQ b xs e),λb o xs e=>qN b o xs (I.base.qN b o xs e),λb ps e=>?_⟩,?_,λx c e=>?_,?_,λx c e=>?_,λp hp=>?_,bK,I.len⟩
 ·exact keep b o (neL b o e) hb (Ă b o e hx) (I.base.keep b o e n hb hx) (I.base.free b o e n hx)
 ·obtain⟨sl,e1⟩:=I.base.slot b o e n hb hx;obtain⟨sl',e2⟩:=slot b _ (neL b o e) hb (Ă b o e hx) e1 (I.base.free b o e n hx);exact⟨sl',e2⟩
 ·obtain⟨o',e1⟩:=I.base.there b o e hx;exact free b o' (Ă b o e hx) e1 (I.base.free b o e n hx)
 ·obtain⟨o',e1⟩:=I.base.there b o e hx;exact there b o' (Ă b o e hx) e1
 ·obtain⟨m1,e1⟩:=I.base.wY b ps e;obtain⟨m2,e2⟩:=wY b _ e1;exact⟨m1++m2,by rw [e2,Array.append_assoc]⟩
 ·obtain⟨m,hn,hl⟩:=I.loc;refine⟨m,ns m hn,λi x v e1 e2 e3=>?_⟩;obtain⟨u,r,l⟩:=hl i x v e1 e2 e3;refine⟨u,r,?_⟩;rcases l with l | ⟨k,c,e,z⟩
  ·exact .inl l
  ·exact .inr ⟨k,c,e,Û x c e _ z⟩
 ·obtain⟨v,z⟩:=I.cell x c e;exact⟨v,Û x c e v z⟩
 ·obtain⟨m,⟨o,_,_,ho,_⟩,_⟩:=I.loc;exact free _ o (λz=>(Rh _ z).2.1 rfl) ho I.free
 ·obtain⟨v,o,ho,hd⟩:=I.cell x c e;exact free c o (λz=>(Rh c z).2.2.1 x c e rfl) ho (I.kF x c e)
 ·obtain⟨e,n,ne,nf,d⟩:=I.pin p hp;have é:p.1∉ch:=λz=>(Rh p.1 z).2.2.2 p hp rfl;exact⟨keep p.1 p.2 ne nf é e n,free p.1 p.2 é e n,ne,nf,d⟩
def Inv.un {t':Nat} (I:Inv X Z σ H s) (u:Un X.fs [] H H' s.heap h') (bK:mz X.prog X.w H' h'):Inv X Z σ H' {s with heap:=h',toks:=t'}:=by
 obtain⟨m,⟨o,es,ep,ho,r⟩,_⟩:=id I.loc;obtain⟨sl,hL⟩:=u.any ho I.free (by simp);exact I.step (g':=s.gens) (d':=s.drawn) (ch:=[]) (λ_ z=>nomatch z) (λb o _ hb _ e n=>u.keep b o e n hb (by simp)) (λb o _ hb _ e n=>u.slot b o e n hb (by simp)) (λb o _ e n=>u.free b o e n (by simp)) (λb o _ e=>u.there b o e (by simp)) u.eQ u.qN u.wY (λm' hm=>by
  obtain⟨o',ď,Đ,Pr,r'⟩:=hm;rw [ho] at Pr;cases Pr;exact⟨_,ď,Đ,hL,r'⟩) bK I.bare
def Inv.call {g':Array GenState}{t':Nat}{d':Drawn}{ch:List ci} (I:Inv X Z σ H s) (u:Un (Nt X.stack) ch H H' s.heap h') (bK:mz X.prog X.w H' h') (hg:Ge g')
  (Rh:∀b∈ch,(b∈X.ex\/X.s₀.heap.objs.size<=b)/\b≠X.env.locals/\(∀x c,X.env.cells.lookup x=ap c->c≠b)/\∀p∈X.pn++Z,p.1≠b) :
  Inv X Z σ H' {s with heap:=h',gens:=g',drawn:=d',toks:=t'}:=by
 obtain⟨m,⟨o,es,ep,ho,r⟩,_⟩:=id I.loc;obtain⟨sl,hL⟩:=u.any ho I.free λz=>(Rh _ z).2.1 rfl;exact I.step (ch:=ch) Rh (λb o hL hb hc e n=>u.keep b o e n (λz=>(AA.mp (I.Hw b z)).elim hL hb) hc) (λb o _ _ hc e n=>u.any e n hc) (λb o hc e n=>u.free b o e n hc) (λb o hc e=>u.there b o e hc) u.eQ u.qN u.wY (λm' hm=>by
  obtain⟨o',ď,Đ,Pr,r'⟩:=hm;rw [ho] at Pr;cases Pr;exact⟨_,ď,Đ,hL,r'⟩) bK hg
def Inv.turned {t':Nat} (I:Inv X Z σ H s) (k:∀b o,b≠it->s.heap.get? b=ap o->h'.get? b=ap o) (hn:H it=bm) (hL:it≠X.env.locals)
  (h1:it∈X.ex\/X.s₀.heap.objs.size<=it) (h2:∀x c,X.env.cells.lookup x=ap c->c≠it) (h3:∀p∈X.pn++Z,p.1≠it):Inv X Z σ H {s with heap:=h',toks:=t'}:=by
 have Vb:∀b u,H b=ap u->b≠it:=λb u e z=>by rw [z,hn] at e;cases e
 refine I.step (g':=s.gens) (d':=s.drawn) (ch:=[it]) (λb hb=>?_) (λb o _ _ hc e _=>k b o (λz=>hc (by simp [z])) e) (λb o _ _ hc e _=>⟨o.slots,k b o (λz=>hc (by simp [z])) e⟩) (λ_ _ _ _ n=>n)
  (λb o hc e=>⟨o,k b o (λz=>hc (by simp [z])) e⟩) (λ_ _ e=>e) (λ_ _ _ e=>e) (λb ps e=>⟨#[],by rw [e];simp⟩) (λm hm=>?_) (λb u e=>?_) I.bare
 ·have e:b=it:=by simpa using hb
  subst e;exact⟨h1,hL,h2,h3⟩
 ·obtain⟨o,es,ep,ho,r⟩:=hm;exact⟨o,es,ep,k _ o (BL hL) ho,r⟩
 ·refine (I.bK b u e).w6 (λc v hc q=>k c v ?_ q) (λ_ q=>q) λ_ _ q=>q;rcases hc with z | z
  ·rw [z];exact Vb b u e
  ·exact Vb c _ z
def Inv.tok (I:Inv X Z σ H s) (t:Nat):Inv X Z σ H {s with toks:=t}:=I.un (h':=s.heap) (t':=t) Un.refl I.bK
def Inv.kept {t':Nat} (I:Inv X Z σ H s) (k:∀b u,s.heap.get? b=ap u->h'.get? b=ap u):Inv X Z σ H {s with heap:=h',toks:=t'}:=I.un (Un.kept k) (I.bK.kept k)
def Inv.laid {o:HO}{t':Nat} (I:Inv X Z σ H s) (k:∀b u,s.heap.get? b=ap u->h'.get? b=ap u) (hp:s.heap.objs.size<=a) (new:bu X.prog X.w (upd H a o) h' a o) :
  Inv X Z σ (upd H a o) {s with heap:=h',toks:=t'}:=I.un (Un.laid k hp (I.bK.fresh hp)) (I.bK.laid k hp new)
def Inv.write {x:ci}{o:HO}{t':Nat} (I:Inv X Z σ H s) (mu:Mut (H x)) (he:e=x\/H e=ap (.own x)) (k:∀b u,b≠e->s.heap.get? b=ap u->h'.get? b=ap u) (Y8:∃u,h'.get? e=ap u)
  (new:bu X.prog X.w (upd H x o) h' x o):Inv X Z σ (upd H x o) {s with heap:=h',toks:=t'}:=I.un (Un.write mu he k Y8) (I.bK.write mu he k Y8 new)
def Inv.Kb {zM:List (ci×Obj)} (I:Inv X Z σ H s) (h:∀p∈zM,s.heap.get? p.1=ap p.2/\H p.1=bm/\p.1≠X.env.locals/\p.1∉X.fs/\∀v,p.2.data≠.cell v):Inv X zM σ H s:=
 ⟨I.ok,I.os,I.bare,I.base,I.loc,I.cell,I.free,I.kF,λp hp=>(AY.mp hp).elim (λz=>I.pin p (BG _ z)) (h p),I.bK,I.len⟩
def zX {N:List Str} (hN:N.Nodup) {x:Str} (a:N[i]?=ap x) (b:N[j]?=ap x):i=j:=by
 obtain⟨h1,e1⟩:=Ak.mp a;obtain⟨h2,e2⟩:=Ak.mp b;exact (EI hN).mp (e1.trans e2.symm)
def vC {x:Str} (I:Inv X Z σ H s) (hN:X.N.Nodup) (hi:X.N[i]?=ap x) (hx:Loc X.env.scope x) (r:RelV v u)
  (h:∀s',Inv X Z (σ.set i (ap v)) H s'->(∃a,Cf a s.heap s'.heap/\(a=X.env.locals\/X.env.cells.lookup x=ap a))->Q () s') (hf:Nw X x:=by first | exact .inl rfl | exact .inr rfl | assumption):db M A (storeName X.env x u) Q E s:=by
 obtain⟨m,hn,hl⟩:=id I.loc;have afy:(X.env.scope.kind==.class||(X.env.scope.kind==.module&&X.env.locals != X.env.globals))=false:=by rw [I.ok.kind];rfl
 have abq:i < σ.length:=by rw [I.len];exact (Ak.mp hi).1
 have Yy:=I.Yy;have Ð:∀{a:ci}{h':nw},(∃o,s.heap.get? a=ap o/\H a=bm)->Cf a s.heap h'->mz X.prog X.w H h':=λ{a h'} ha hs b ob e=>by
  obtain⟨_,_,Vt⟩:=ha;refine (I.bK b ob e).w6 (λc w' hc q=>(hs.2 c ?_).trans q) (λ_ q=>q) λ_ _ q=>q;rintro rfl;rcases hc with rfl | hc
  ·rw [Vt] at e;cases e
  ·rw [Vt] at hc;cases hc
 rcases hx with hk | hk
 ·refine wpAny_storeName_local hk hn (λh' hn' hs=>?_) afy;obtain⟨oL,_,_,ĉ,_⟩:=id hn;refine h _ ⟨I.ok,I.os,I.bare,⟨λb o e n hb hx=>?_,λb o e n hb hx=>?_,I.base.free,λb o e hx=>?_,I.base.eQ,I.base.qN,I.base.wY⟩,⟨_,hn',λj y v' e1 e2 e3=>?_⟩,λy c e=>?_,I.free,I.kF,λp hp=>?_,Ð ⟨oL,ĉ,I.free⟩ hs,by simpa using I.len⟩ ⟨_,hs,.inl rfl⟩
  ·exact (hs.2 b (AM (AB (Au e) I.ok.above))).trans (I.base.keep b o e n hb hx)
  ·obtain⟨sl,e1⟩:=I.base.slot b o e n hb hx;exact⟨sl,(hs.2 b (AM (AB (Au e) I.ok.above))).trans e1⟩
  ·obtain⟨o',e1⟩:=I.base.there b o e hx;exact⟨o',(hs.2 b (AM (AB (Au e) I.ok.above))).trans e1⟩
  ·by_cases hj:j=i
   ·subst hj;rw [hi] at e1;cases e1;rw [Bw abq] at e2;cases e2;exact⟨u,r,.inl ⟨hk,by simp⟩⟩
   ·rw [Bd (BL hj)] at e2;obtain⟨u',r',q⟩:=hl j y v' e1 e2 e3;refine⟨u',r',?_⟩;rcases q with⟨k,e⟩ | ⟨k,c,e,z⟩
    ·refine .inl ⟨k,?_⟩;have:y≠x:=λe=>hj (zX hN e1 (e▸hi));simp [this,e]
    ·exact .inr ⟨k,c,e,z.sameBut hs (Yy y c e)⟩
  ·obtain⟨w',z⟩:=I.cell y c e;exact⟨w',z.sameBut hs (Yy y c e)⟩
  ·obtain⟨e,n,ne,nf,d⟩:=I.pin p hp;exact⟨(hs.2 p.1 ne).trans e,n,ne,nf,d⟩
 ·have ó:X.fn x=true:=by
   rcases hf with z | z
   ·exact z
   ·rw [z] at hk;cases hk
  obtain⟨c,hc⟩:=I.ok.has x (.inl hk);obtain⟨w',z⟩:=I.cell x c hc;refine wpAny_storeName_cell I.ok.kind hk hc z (λh' Ri hs=>?_);obtain⟨oc,hoc,afi⟩:=id z;refine h {s with heap:=h'} ⟨I.ok,I.os,I.bare,⟨λb o e n hb hx=>?_,λb o e n hb hx=>?_,I.base.free,λb o e hx=>?_,I.base.eQ,I.base.qN,I.base.wY⟩,⟨m,hn.sameBut hs (BL (Yy x c hc)),λj y v' e1 e2 e3=>?_⟩,λy c' e=>?_,I.free,I.kF,λp hp=>?_,Ð ⟨oc,hoc,I.kF x c hc⟩ hs,by simpa using I.len⟩ ⟨c,hs,.inr hc⟩
  ·exact (hs.2 b (AM (AB (Au e) (I.ok.cab x c ó hc)))).trans (I.base.keep b o e n hb hx)
  ·obtain⟨sl,e1⟩:=I.base.slot b o e n hb hx;exact⟨sl,(hs.2 b (AM (AB (Au e) (I.ok.cab x c ó hc)))).trans e1⟩
  ·obtain⟨o',e1⟩:=I.base.there b o e hx;exact⟨o',(hs.2 b (AM (AB (Au e) (I.ok.cab x c ó hc)))).trans e1⟩
  ·by_cases hj:j=i
   ·subst hj;rw [hi] at e1;cases e1;rw [Bw abq] at e2;cases e2;exact⟨u,r,.inr ⟨.inl hk,c,hc,Ri⟩⟩
   ·rw [Bd (BL hj)] at e2;obtain⟨u',r',q⟩:=hl j y v' e1 e2 e3;refine⟨u',r',?_⟩;rcases q with q | ⟨k,c',e,z'⟩
    ·exact .inl q
    ·refine .inr ⟨k,c',e,z'.sameBut hs ?_⟩;rintro rfl;exact hj (zX hN e1 (I.ok.inj _ _ _ e hc▸hi))
  ·by_cases hcc:c'=c
   ·subst hcc;exact⟨_,Ri⟩
   ·obtain⟨w2,z2⟩:=I.cell y c' e;exact⟨w2,z2.sameBut hs hcc⟩
  ·obtain⟨e,n,ne,nf,d⟩:=I.pin p hp;refine⟨(hs.2 p.1 ?_).trans e,n,ne,nf,d⟩;intro q;rw [q,hoc] at e;have q':oc=p.2:=Option.some.inj e;exact d w' (by rw [<- q'];exact afi)
def nJ {x:Str} (I:Inv X Z σ H s) (hN:X.N.Nodup) (hi:X.N[i]?=ap x) (hx:Loc X.env.scope x) (r:RelV v u)
  (h:∀s',Inv X Z (σ.set i (ap v)) H s'->Q () s') (hf:Nw X x:=by first | exact .inl rfl | exact .inr rfl | assumption):db M A (storeName X.env x u) Q E s:=
 vC I hN hi hx r (λs' I' _=>h s' I') hf
def Inv.acf {ch:List ci} (I:Inv X Z σ H s) (ho:s'.os=s.os) (u:Un (Nt X.stack) ch H H' s.heap s'.heap) (bK:mz X.prog X.w H' s'.heap) (hg:Ge s'.gens)
  (Rh:∀b∈ch,(b∈X.ex\/X.s₀.heap.objs.size<=b)/\b≠X.env.locals/\(∀x c,X.env.cells.lookup x=ap c->c≠b)/\∀p∈X.pn++Z,p.1≠b):Inv X Z σ H' s':=by
 obtain⟨h',g',d',t',o'⟩:=s';have e:o'=s.os:=ho;subst e;exact I.call (g':=g') (t':=t') (d':=d') u bK hg Rh
end
abbrev XK:=bv->Option ci->Hp->Prop
abbrev St:=List (Option V)
abbrev VK:=V->Hp->Prop
abbrev TE:=St->Hp->VK->Prop
abbrev TT:=St->Hp->(Bool->Hp->Prop)->Prop
abbrev TA:=St->Hp->(List V->Hp->Prop)->Prop
structure Ends where
 nx:St->Hp->Prop
 rt:VK
 bk:St->Hp->Prop:=λ_ _=>False
 ct:St->Hp->Prop:=λ_ _=>False
abbrev TS:=Ends->St->Hp->Prop
def EP (X:Cx) (Z:List (ci×Obj)) (σ:St) (Q:VK) (u:bv) (s':cr):Prop:=∃v H',Inv X Z σ H' s'/\RelV v u/\Q v H'
def TP (X:Cx) (Z:List (ci×Obj)) (σ:St) (Q:Bool->Hp->Prop) (b:Bool) (s':cr):Prop:=∃H',Inv X Z σ H' s'/\Q b H'
def AP (X:Cx) (Z:List (ci×Obj)) (σ:St) (Q:List V->Hp->Prop) (us:List bv) (s':cr):Prop:=∃vs H',Inv X Z σ H' s'/\Vals vs us/\Q vs H'
def SP (X:Cx) (Z:List (ci×Obj)) (D:Ends) (f:Flow) (s':cr):Prop:=
 match f with
 | .next=>∃σ' H',Inv X Z σ' H' s'/\D.nx σ' H'
 | .brk=>∃σ' H',Inv X Z σ' H' s'/\D.bk σ' H'
 | .cont=>∃σ' H',Inv X Z σ' H' s'/\D.ct σ' H'
 | .ret u=>∃v σ' H',Inv X Z σ' H' s'/\RelV v u/\D.rt v H'
def PE (X:Cx) (e:ga) (t:TE):Prop:=
 ∀(Z:List (ci×Obj)) (s:cr) (σ:St) (H:Hp) (Q:VK),Inv X Z σ H s->t σ H Q->db (dL X.prog X.w) X.A (kw e X.env) (EP X Z σ Q) X.xe s
def PT (X:Cx) (e:ga) (t:TT):Prop:=
 ∀(Z:List (ci×Obj)) (s:cr) (σ:St) (H:Hp) (Q:Bool->Hp->Prop),Inv X Z σ H s->t σ H Q->db (dL X.prog X.w) X.A (isTrue e X.env (kw e X.env)) (TP X Z σ Q) X.xe s
def PW (X:Cx) (e:ga) (t:TT):Prop:=
 ∀(Æ:Sem bv) (Z:List (ci×Obj)) (s:cr) (σ:St) (H:Hp) (Q:Bool->Hp->Prop),Inv X Z σ H s->t σ H Q->db (dL X.prog X.w) X.A (isTrue e X.env Æ) (TP X Z σ Q) X.xe s
def PW.pt {X:Cx}{e:ga}{t:TT} (h:PW X e t):PT X e t:=h _
def PA (X:Cx) (es:List ga) (t:TA):Prop:=
 ∀(pos:Pos) (Z:List (ci×Obj)) (s:cr) (σ:St) (H:Hp) (Q:List V->Hp->Prop),Inv X Z σ H s->t σ H Q->db (dL X.prog X.w) X.A (spliced (Gc pos (d5 es X.env))) (AP X Z σ Q) X.xe s
def PS (X:Cx) (st:tt) (t:TS):Prop:=
 ∀(Z:List (ci×Obj)) (s:cr) (σ:St) (H:Hp) (D:Ends),Inv X Z σ H s->t D σ H->db (dL X.prog X.w) X.A (exec st X.env) (SP X Z D) X.xe s
def rN (X:Cx) (st:List tt) (t:TS):Prop:=
 ∀(Z:List (ci×Obj)) (s:cr) (σ:St) (H:Hp) (D:Ends),Inv X Z σ H s->t D σ H->db (dL X.prog X.w) X.A (execs st X.env) (SP X Z D) X.xe s
def bE {t:Sem α}{Q Q':α->cr->Prop} (h:db M A t Q E s) (hQ:∀a s,Q a s->Q' a s):db M A t Q' E s:=BW h hQ λ_ _ x=>x
end L2
variable {x:BZ}{H:L2.Hp}{a:BU}{Q:Ba->D1->Prop}{X:L2.Cx}{ta tb:L2.TE}{Z:List (BV×FU)}{σ:L2.St}{R:L2.V->L2.V->L2.Hp->Prop}{pos:CB}{op:PySem.CmpOp}
namespace L2
open PySem PySem.Spec PyProof.Rows
section
def bin {b:ga} (ha:PE X a ta) (hb:PE X b tb) (I:Inv X Z σ H s) (h:ta σ H λx H1=>tb σ H1 λy H2=>R x y H2) {Q:α->cr->Prop}{f:bv->bv->Sem α}
  (hf:∀v u s2 x y H2,Inv X Z σ H2 s2->RelV x v->RelV y u->R x y H2->db (dL X.prog X.w) X.A (f v u) Q X.xe s2) :
  db (dL X.prog X.w) X.A (kw a X.env) (λv s₁=>db (dL X.prog X.w) X.A (kw b X.env) (λu s₂=>db (dL X.prog X.w) X.A (f v u) Q X.xe s₂) X.xe s₁) X.xe s:=by
 refine bE (ha Z s σ H _ I h) λv s1 ⟨x,H1,I1,r1,q1⟩=>?_;refine bE (hb Z s1 σ H1 _ I1 q1) λu s2 ⟨y,H2,I2,r2,q2⟩=>?_;exact hf v u s2 x y H2 I2 r1 r2 q2
def ZK (i:Nat):TE:=λσ H Q=>∃v,σ[i]?=ap (ap v)/\Q v H
def tC (v:V):TE:=λ_ H Q=>Q v H
def dz (hN:X.N[i]?=ap x) (hv:yN X.env.scope x) (hd:jh x:=by decide) (iY:y9 x:=by decide):PE X (.Name x pos) (ZK i):=by
 intro Z s σ H Q I h;obtain⟨v,e,h⟩:=h;obtain⟨m,hn,hl⟩:=I.loc;obtain⟨u,r,l⟩:=hl i x v hN e hv;have fin:EP X Z σ Q u s:=⟨v,H,I,r,h⟩;rcases l with⟨hk,hm⟩ | ⟨hk,c,hc,Vw⟩
 ·exact wpAny_Name (wpAny_loadName_local I.ok.kind hk hn hm fin) hd
 ·rcases hk with hk | hk
  ·exact wpAny_Name (wpAny_loadName_cell I.ok.kind hk hc Vw fin) hd
  ·exact wpAny_Name (wpAny_loadName_free I.ok.kind hk hc Vw fin iY) hd
def WZ {i j pos}:PE X (.Constant (.int i) j pos) (tC (.int i)):=λ_ _ _ H _ I h=>wpAny_Constant_int ⟨.int i,H,I.tok _,⟨_,rfl⟩,h⟩
def aaA {b j pos}:PE X (.Constant (.bool b) j pos) (tC (.bl b)):=λ_ _ _ H _ I h=>Constant_bool ⟨.bl b,H,I,rfl,h⟩
def WY {j pos}:PE X (.Constant .none j pos) (tC .aV):=λ_ _ _ H _ I h=>Constant_none ⟨.aV,H,I,rfl,h⟩
def WV {x j pos}:PE X (.Constant (.str x) j pos) (tC (.str x)):=λ_ _ _ H _ I h=>Calls.Constant_str ⟨.str x,H,I.tok _,⟨_,rfl⟩,h⟩
def Gl (X:Cx) (x:Str):Prop:=X.env.kindOf x=ap .globalImplicit
def Kr (I:Inv X Z σ H s) (hg:Gl X x) (hm:X.mg x=ap u) (h:Q u s)
  (hd:jh x:=by decide):db (dL X.prog X.w) X.A (kw (.Name x pos) X.env) Q E s:=
 D9 I.ok.kind hg (Calls.loadGlobal_global (by rw [I.ok.glob];exact I.mod.glob.keeps I.bk) hm h) hd
def j5 (I:Inv X Z σ H s) (hg:Gl X x) (hm:X.mg x=bm) (hv:mo x=ap u) (h:Q u s)
  (hn:x≠"__name__":=by decide) (hd:jh x:=by decide):db (dL X.prog X.w) X.A (kw (.Name x pos) X.env) Q E s:=by
 obtain⟨mb,h1,h2⟩:=I.mod.blt;exact D9 I.ok.kind hg (Calls.loadGlobal_builtin (by rw [I.ok.glob];exact I.mod.glob.keeps I.bk) hm (by rw [I.ok.blt];exact h1.keeps I.bk) ((h2 x hn).trans hv) h) hd
def rf (hg:Gl X x) (hm:X.mg x=ap u) (r:RelV v u) (hd:jh x:=by decide):PE X (.Name x pos) (tC v):=
 λ_ _ _ H _ I h=>Kr I hg hm ⟨v,H,I,r,h⟩ hd
def Su (hg:Gl X x) (hm:X.mg x=bm) (hv:mo x=ap u) (r:RelV v u) (hn:x≠"__name__":=by decide) (hd:jh x:=by decide):PE X (.Name x pos) (tC v):=
 λ_ _ _ H _ I h=>j5 I hg hm hv ⟨v,H,I,r,h⟩ hn hd
variable {b:ga}
def PC (X:Cx) (op:CmpOp) (a b:ga) (t:TE):Prop:=
 ∀(Z:List (ci×Obj)) (s:cr) (σ:St) (H:Hp) (Q:VK),Inv X Z σ H s->t σ H Q->
  db (dL X.prog X.w) X.A (kw a X.env) (λv s₁=>db (dL X.prog X.w) X.A (kw b X.env) (λu s₂=>db (dL X.prog X.w) X.A (im op v u) (EP X Z σ Q) X.xe s₂) X.xe s₁) X.xe s
def tB (t:TE):TT:=λσ H Q=>t σ H λx H1=>∃c,x=.bl c/\Q c H1
def WN {t:TE} (h:PC X op a b t) (h1:lw op b=false:=by first | exact aaP _ ⋯ ⋯ | rfl):PT X (.Compare a [op] [b] pos) (tB t):=by
 intro Z s σ H Q I hw;refine wpAny_isTrue_Compare1 (bE (h Z s σ H _ I hw) λv s1 h1=>bE h1 λu s2 h2=>bE h2 λc s3 ⟨x,H1,I1,r1,q1⟩=>?_) h1;obtain⟨d,rfl,q⟩:=q1;cases r1;exact Bt ⟨H1,I1,q⟩
variable {tA ý:TT}{rest:List ga}
def aec (t u:TT):TT:=λσ H Q=>t σ H λc H1=>if c=true then u σ H1 Q else Q false H1
def tOr (t u:TT):TT:=λσ H Q=>t σ H λc H1=>if c=true then Q true H1 else u σ H1 Q
def ad6 (t:TT):TT:=λσ H Q=>t σ H λc H1=>Q (!c) H1
def Sb (ha:PT X a tA):PW X (.BoolOp .And [a] pos) tA:=by
 intro wh Z s σ H Q I h;refine isTrue_and (bE (ha Z s σ H Q I h) λc s1 e=>?_);cases c with
 | true=>exact isTrue_and_nil e
 | false=>exact e
def WI (ha:PT X a tA):PW X (.BoolOp .Or [a] pos) tA:=by
 intro wh Z s σ H Q I h;refine isTrue_or (bE (ha Z s σ H Q I h) λc s1 e=>?_);cases c with
 | false=>exact isTrue_or_nil e
 | true=>exact e
def WJ (ha:PT X a tA) (hb:PW X (.BoolOp .And (b::rest) pos) ý):PW X (.BoolOp .And (a::b::rest) pos) (aec tA ý):=by
 intro wh Z s σ H Q I h;refine isTrue_and (bE (ha Z s σ H _ I h) λc s1 ⟨H1,I1,q1⟩=>?_);cases c with
 | true=>exact hb wh Z s1 σ H1 Q I1 q1
 | false=>exact⟨H1,I1,q1⟩
def aat (ha:PT X a tA) (hb:PW X (.BoolOp .Or (b::rest) pos) ý):PW X (.BoolOp .Or (a::b::rest) pos) (tOr tA ý):=by
 intro wh Z s σ H Q I h;refine isTrue_or (bE (ha Z s σ H _ I h) λc s1 ⟨H1,I1,q1⟩=>?_);cases c with
 | true=>exact⟨H1,I1,q1⟩
 | false=>exact hb wh Z s1 σ H1 Q I1 q1
def WM (ha:PT X a tA):PT X (.UnaryOp .Not a pos) (ad6 tA):=by
 intro Z s σ H Q I h;exact isTrue_not (ha Z s σ H (λc H1=>Q (!c) H1) I h)
def ZX (ta tb:TE):TE:=λσ H Q=>ta σ H λx H1=>∃c,x=.bl c/\if c=true then tb σ H1 Q else Q (.bl false) H1
def ad5 (ta tb:TE):TE:=λσ H Q=>ta σ H λx H1=>∃c,x=.bl c/\if c=true then Q (.bl true) H1 else tb σ H1 Q
def ZN (ta:TE):TE:=λσ H Q=>ta σ H λx H1=>∃c,x=.bl c/\Q (.bl (!c)) H1
def WW {op}{t:TE} (h:PE X a t):PE X (.BoolOp op [a] pos) t:=λZ s σ H Q I hw=>BoolOp_one (h Z s σ H Q I hw)
def W4 (ha:PE X a ta) (hb:PE X (.BoolOp .And (b::rest) pos) tb):PE X (.BoolOp .And (a::b::rest) pos) (ZX ta tb):=by
 intro Z s σ H Q I h;refine BoolOp_and (bE (ha Z s σ H _ I h) λv s1 ⟨x,H1,I1,r1,q1⟩=>?_);obtain⟨c,rfl,q1⟩:=q1;cases r1;refine Bt ?_;cases c with
 | true=>exact hb Z s1 σ H1 Q I1 q1
 | false=>exact⟨.bl false,H1,I1,rfl,q1⟩
def aax (ha:PE X a ta) (hb:PE X (.BoolOp .Or (b::rest) pos) tb):PE X (.BoolOp .Or (a::b::rest) pos) (ad5 ta tb):=by
 intro Z s σ H Q I h;refine BoolOp_or (bE (ha Z s σ H _ I h) λv s1 ⟨x,H1,I1,r1,q1⟩=>?_);obtain⟨c,rfl,q1⟩:=q1;cases r1;refine Bt ?_;cases c with
 | false=>exact hb Z s1 σ H1 Q I1 q1
 | true=>exact⟨.bl true,H1,I1,rfl,q1⟩
def WX (ha:PE X a ta):PE X (.UnaryOp .Not a pos) (ZN ta):=by
 intro Z s σ H Q I h;refine UnaryOp_ (bE (ha Z s σ H _ I h) λv s1 ⟨x,H1,I1,r1,q1⟩=>?_);obtain⟨c,rfl,q1⟩:=q1;cases r1;exact not_of (Bt ⟨.bl (!c),H1,I1,rfl,q1⟩)
def tIf (t:TT) (ta tb:TE):TE:=λσ H Q=>t σ H λc H1=>if c=true then ta σ H1 Q else tb σ H1 Q
def zO {c:ga} (hc:PT X c tA) (ha:PE X a ta) (hb:PE X b tb):PE X (.IfExp c a b pos) (tIf tA ta tb):=by
 intro Z s σ H Q I h;refine wpAny_IfExp (bE (hc Z s σ H _ I h) λd s1 ⟨H1,I1,q1⟩=>?_);cases d with
 | true=>exact ha Z s1 σ H1 Q I1 q1
 | false=>exact hb Z s1 σ H1 Q I1 q1
end
end L2
variable {xs ys:List L2.V}{H':L2.Hp}{e tg:BU}{y:L2.V}{D:L2.Ends}{te to:L2.TE}{es:List BU}{n:Nat}{Ô px py pt gn:CB}{body:List PySem.Stmt}
namespace L2
open PySem PySem.Spec PyProof.Rows
def dc (K:Ab) (H:Hp) (a:ci) (xs:List V):Prop:=
 Rd H a (.lst xs)\/
  ∃(o:Obj) (au:Array bv) (n:Nat),K.lookup a=ap o/\o.cls=.type "list"/\o.dict=bm/\o.data=.seq au n/\au.size<=sizeLine/\Vals xs au.toList
def d9 (K:Ab) (H:Hp) (a:ci) (xs:List V):Prop:=
 Rd H a (.tup xs)\/
  ∃(o:Obj) (au:Array bv) (n:Nat),K.lookup a=ap o/\o.cls=.type "tuple"/\o.data=.seq au n/\au.size<=sizeLine/\Vals xs au.toList
def af5:bv->Option V
 | .none=>ap .aV
 | .bool b=>ap (.bl b)
 | .int i _=>ap (.int i)
 | .str x _=>ap (.str x)
 | .bytes b _=>ap (.YB b)
 | .float b _=>ap (.Ze b)
 | .ref a=>ap (.ref a)
 | .type n=>ap (.ty n)
 | _=>bm
def RelV.abs {x:V} (r:RelV x u):af5 u=ap x:=by
 cases x with
 | aV=>cases r;rfl
 | bl _=>cases r;rfl
 | int _=>obtain⟨t,rfl⟩:=r;rfl
 | str _=>obtain⟨t,rfl⟩:=r;rfl
 | YB _=>obtain⟨t,rfl⟩:=r;rfl
 | Ze _=>obtain⟨t,rfl⟩:=r;rfl
 | ref _=>cases r;rfl
 | ty _=>cases r;rfl
def RelV.inj {x:V} (r:RelV x u) (q:RelV y u):x=y:=Option.some.inj (r.abs.symm.trans q.abs)
theorem Vals.inj:∀{xs ys:List V}{us:List bv},Vals xs us->Vals ys us->xs=ys
 | _,_,_,.nil,.nil=>rfl
 | _,_,_,.cons r t,.cons r' t'=>by rw [r.inj r',Vals.inj t t']
section
variable {a:ci}
def dc.of {K:Ab} (h:H a=ap (.lst xs)):dc K H a xs:=.inl (.inl h)
def d9.of {K:Ab} (h:H a=ap (.tup xs)):d9 K H a xs:=.inl (.inl h)
theorem Inv.list (I:Inv X Z σ H s) (h:dc X.K H a xs):∃au:List bv,Vals xs au/\PlainL s.heap a au.toArray/\xs.length<=sizeLine:=by
 rcases h with h | ⟨o,au,n,hk,hc,hd,hs,hz,r⟩
 ·obtain⟨z,au,n,r,e⟩:=h.ok I.bK;exact⟨au,r,⟨_,n,e,rfl,rfl,rfl⟩,z⟩
 ·refine⟨au.toList,r,⟨o,n,I.uW a o hk,hc,hd,by simpa using hs⟩,?_⟩;have e:=r.length;simp only [DV] at e;omega
theorem Inv.tuple (I:Inv X Z σ H s) (h:d9 X.K H a xs):∃au:List bv,Vals xs au/\IsTup s.heap a au.toArray/\xs.length<=sizeLine:=by
 rcases h with h | ⟨o,au,n,hk,hc,hs,hz,r⟩
 ·obtain⟨z,au,r,p⟩:=h.ok I.bK;exact⟨au,r,p,z⟩
 ·refine⟨au.toList,r,⟨o,I.uW a o hk,hc,n,by simpa using hs⟩,?_⟩;have e:=r.length;simp only [DV] at e;omega
def Inv.F4 (I:Inv X Z σ H s) (h:dc X.K H a xs) (h':dc X.K H a ys):xs=ys:=by
 obtain⟨au,r,⟨o,n,e,_,_,d⟩,_⟩:=I.list h;obtain⟨its',r',⟨o',n',e',_,_,d'⟩,_⟩:=I.list h';rw [e] at e';cases e';rw [d] at d';injection d' with d1 _;have:au=its':=by simpa using congrArg Array.toList d1
 subst this;exact r.inj r'
def Inv.lT (I:Inv X Z σ H s) (h:d9 X.K H a xs) (h':d9 X.K H a ys):xs=ys:=by
 obtain⟨au,r,⟨o,e,_,n,d⟩,_⟩:=I.tuple h;obtain⟨its',r',⟨o',e',_,n',d'⟩,_⟩:=I.tuple h';rw [e] at e';cases e';rw [d] at d';injection d' with d1 _;have:au=its':=by simpa using congrArg Array.toList d1
 subst this;exact r.inj r'
end
abbrev Cx.uL (X:Cx) (E:bv->cr->Prop):Cx:={X with xe:=E}
abbrev Cx.y6 (X:Cx):Cx:=X.uL λ_ _=>False
def Cx.Ok.uL (ok:X.Ok) (E:bv->cr->Prop):(X.uL E).Ok:=
 ⟨ok.mod,ok.kind,ok.glob,ok.blt,ok.above,ok.inj,ok.has,ok.cab,ok.hd,ok.frames,ok.stk,ok.exf,ok.bs,ok.VN,ok.OX,ok.P8,ok.tU,ok.Zb⟩
def Cx.Ok.kU (ok:(X.uL E).Ok):X.Ok:=
 ⟨ok.mod,ok.kind,ok.glob,ok.blt,ok.above,ok.inj,ok.has,ok.cab,ok.hd,ok.frames,ok.stk,ok.exf,ok.bs,ok.VN,ok.OX,ok.P8,ok.tU,ok.Zb⟩
section
def Inv.uL (I:Inv X Z σ H s) (E:bv->cr->Prop):Inv (X.uL E) Z σ H s:=⟨I.ok.uL E,I.os,I.bare,I.base,I.loc,I.cell,I.free,I.kF,I.pin,I.bK,I.len⟩
def Inv.kU (I:Inv (X.uL E) Z σ H s):Inv X Z σ H s:=⟨I.ok.kU,I.os,I.bare,I.base,I.loc,I.cell,I.free,I.kF,I.pin,I.bK,I.len⟩
def SP.kU {f:Flow} (h:SP (X.uL E) Z D f s'):SP X Z D f s':=by
 cases f with
 | next=>obtain⟨σ',H',I,q⟩:=h;exact⟨σ',H',I.kU,q⟩
 | brk=>obtain⟨σ',H',I,q⟩:=h;exact⟨σ',H',I.kU,q⟩
 | cont=>obtain⟨σ',H',I,q⟩:=h;exact⟨σ',H',I.kU,q⟩
 | ret u=>obtain⟨v,σ',H',I,r,q⟩:=h;exact⟨v,σ',H',I.kU,r,q⟩
def rN.y6 {st:List tt}{t:TS} (h:rN X.y6 st t):rN X st t:=λZ s σ H D I hw=>
 BW (h Z s σ H D (I.uL _) hw) (λ_ _ q=>q.kU) λ_ _ z=>Bs z
end
section
variable {st:tt}{rest:List tt}{t u:TS}
def ZP:TS:=λD σ H=>D.nx σ H
def ad2 (t u:TS):TS:=λD σ H=>t {D with nx:=u D} σ H
def xk:rN X [] ZP:=λ_ _ σ H _ I h=>DQ ⟨σ,H,I,h⟩
def zH (h1:PS X st t) (h2:rN X rest u):rN X (st::rest) (ad2 t u):=by
 intro Z s σ H D I h;refine wpAny_execs_cons (bE (h1 Z s σ H {D with nx:=u D} I h) λf s1 q=>?_);cases f with
 | next=>
  obtain⟨σ',H',I',q⟩:=q;exact h2 Z s1 σ' H' D I' q
 | ret v=>exact q
 | brk=>exact q
 | cont=>exact q
def Sd (h1:PS X st t):rN X [st] t:=by
 intro Z s σ H D I h;refine wpAny_execs_cons (bE (h1 Z s σ H D I h) λf s1 q=>?_);cases f with
 | next=>exact DQ q
 | ret v=>exact q
 | brk=>exact q
 | cont=>exact q
def ZT:TS:=λD σ H=>D.ct σ H
def zK:PS X (.Continue pos) ZT:=λ_ _ σ H _ I h=>wpAny_Continue ⟨σ,H,I,h⟩
def Inv.quiet (I:Inv X Z σ H s):interactive X.env=false:=by simp [interactive,I.ok.kind]
def ZR (te:TE):TS:=λD σ H=>te σ H λ_ H1=>D.nx σ H1
def nR (he:PE X e te) (hs:lc e bm pos.line X.env=pure false:=by rfl):PS X (.Expr e pos) (ZR te):=by
 intro Z s σ H D I h;exact wpAny_Expr_any (bE (he Z s σ H _ I h) λv s1 ⟨x,H1,I1,r1,q1⟩=>⟨σ,H1,I1,q1⟩) I.quiet hs
def ad3 (te:TE):TS:=λD σ H=>te σ H D.rt
def xl (he:PE X e te):PS X (.Return (ap e) pos) (ad3 te):=by
 intro Z s σ H D I h;exact wpAny_Return_some (bE (he Z s σ H _ I h) λv s1 ⟨x,H1,I1,r1,q1⟩=>⟨x,σ,H1,I1,r1,q1⟩)
def ad8 (c:TT) (t u:TS):TS:=λD σ H=>c σ H λb H1=>if b=true then t D σ H1 else u D σ H1
def Ou {c:ga}{a b:List tt}{tc:TT} (hc:PT X c tc) (ha:rN X a t) (hb:rN X b u):PS X (.If c a b pos) (ad8 tc t u):=by
 intro Z s σ H D I h;refine wpAny_If (bE (hc Z s σ H _ I h) λd s1 ⟨H1,I1,q1⟩=>?_);cases d with
 | true=>exact ha Z s1 σ H1 D I1 q1
 | false=>exact hb Z s1 σ H1 D I1 q1
def Wc:TS:=λ_ _ _=>False
end
abbrev TG:=V->St->Hp->(St->Hp->Prop)->Prop
abbrev YL:=List V->St->Hp->(St->Hp->Prop)->Prop
def PG (X:Cx) (È:ga) (t:TG):Prop:=
 ∀(Z:List (ci×Obj)) (s:cr) (σ:St) (H:Hp) (v:V) (u:bv) (Q:St->Hp->Prop),Inv X Z σ H s->RelV v u->t v σ H Q->
  db (dL X.prog X.w) X.A (wT È X.env u) (λ_ s'=>∃σ' H',Inv X Z σ' H' s'/\Q σ' H') X.xe s
def PGs (X:Cx) (ts:List ga) (t:YL):Prop:=
 ∀(Z:List (ci×Obj)) (s:cr) (σ:St) (H:Hp) (vs:List V) (us:List bv) (Q:St->Hp->Prop),Inv X Z σ H s->Vals vs us->t vs σ H Q->
  db (dL X.prog X.w) X.A (assignInOrder ((wf ts X.env).map (·.2)) us) (λ_ s'=>∃σ' H',Inv X Z σ' H' s'/\Q σ' H') X.xe s
abbrev JG:=V->V->V->Hp->(Hp->Prop)->Prop
def JH (X:Cx) (t:JG):Prop:=
 ∀(Z:List (ci×Obj)) (s:cr) (σ:St) (H:Hp) (o i v:V) (ov iv u:bv) (Q:Hp->Prop),Inv X Z σ H s->RelV o ov->RelV i iv->RelV v u->t o i v H Q->
  db (dL X.prog X.w) X.A (Db ov iv u) (λ_ s'=>∃H',Inv X Z σ H' s'/\Q H') X.xe s
abbrev TIp:=V->V->Hp->VK->Prop
def PIp (X:Cx) (op:Operator) (t:TIp):Prop:=
 ∀(Z:List (ci×Obj)) (s:cr) (σ:St) (H:Hp) (x y:V) (v u:bv) (Q:VK),Inv X Z σ H s->RelV x v->RelV y u->t x y H Q->
  db (dL X.prog X.w) X.A (inplaceOp op v u) (EP X Z σ Q) X.xe s
section
def dJ (i:Nat):TG:=λv σ H Q=>Q (σ.set i (ap v)) H
def Sl (hN:X.N.Nodup) (hi:X.N[i]?=ap x) (hx:Loc X.env.scope x) (hf:Nw X x:=by first | exact .inl rfl | exact .inr rfl | assumption):PG X (.Name x pos) (dJ i):=by
 intro Z s σ H v u Q I r h;exact wpAny_assign_Name (nJ I hN hi hx r (λs' I'=>⟨_,H,I',h⟩) hf)
def TU:YL:=λvs σ H Q=>vs=[]/\Q σ H
def mI (t:TG) (u:YL):YL:=λvs σ H Q=>∃v r,vs=v::r/\t v σ H λσ' H'=>u r σ' H' Q
def c6:PGs X [] TU:=by
 intro Z s σ H vs us Q I r h;obtain⟨e,h⟩:=h;subst e;cases r;exact assignInOrder_nil ⟨σ,H,I,h⟩
def aN {t:TG}{u:YL} (h1:PG X e t) (h2:PGs X es u)
  (hs:(wf (e::es) X.env).map (·.2)=wT e X.env::(wf es X.env).map (·.2):=by rfl):PGs X (e::es) (mI t u):=by
 intro Z s σ H vs us Q I r h;obtain⟨v,vr,e1,h⟩:=h;subst e1;cases r with
 | cons r rr=>
  rw [hs];refine assignInOrder_cons (bE (h1 Z s σ H _ _ _ I r h) λ_ s1 ⟨σ1,H1,I1,q1⟩=>?_);exact h2 Z s1 σ1 H1 _ _ Q I1 rr q1
def TR (K:Ab) (n:Nat) (t:YL):TG:=λv σ H Q=>∃a xs,v=.ref a/\d9 K H a xs/\xs.length=n/\t xs σ H Q
def eB {k:Nat}{t:YL} (hc:X.calm=true) (h:PGs X es t)
  (hn:(wf es X.env).length=n:=by rfl) (qI:(wf es X.env).findIdx? (·.1)=bm:=by rfl):PG X (.Tuple es k pos) (TR X.K n t):=by
 intro Z s σ H v u Q I r hw;obtain⟨a,xs,e1,hq,hl,hw⟩:=hw;subst e1;cases r;obtain⟨au,rv,ht,hz⟩:=I.tuple hq;refine assign_Tuple_tuple (I.ok.hd hc) ht (by simp [hn,<- hl,rv.length]) qI λh' hx=>?_;have I1:Inv X Z σ H {s with heap:=h'}:=I.kept (t':=s.toks) λb o e=>hx b o (AM (Au e)) e;exact h Z _ σ H xs _ Q I1 (by simpa using rv) hw
def afK (to ti:TE) (t:JG):TG:=λv σ H Q=>to σ H λo H1=>ti σ H1 λi H2=>t o i v H2 λH3=>Q σ H3
def Oz {o i:ga}{ti:TE}{t:JG} (ho:PE X o to) (hi:PE X i ti) (hs:JH X t)
  (ha:∀v,wT (.Subscript o i pos) X.env v=(do
   let ov <- r9 [v] (kw o X.env)
   let iv <- r9 [v,ov] (kw i X.env)
   FM pos
   r9 [v,ov,iv] (Db ov iv v)
   release [v,ov,iv] []):=by intro _;rfl):PG X (.Subscript o i pos) (afK to ti t):=by
 intro Z s σ H v u Q I r h;refine Aa (Bi (bE (ho Z s σ H _ I h) λov s1 ⟨x,H1,I1,r1,q1⟩=>?_));refine Aa (Bi (bE (hi Z s1 σ H1 _ I1 q1) λiv s2 ⟨y,H2,I2,r2,q2⟩=>?_));refine Aa (Dw (Aa (Bi (bE (hs Z s2 σ H2 x y v ov iv u _ I2 r1 r2 r q2) λ_ s3 ⟨H3,I3,q3⟩=>?_))));exact wpAny_release ⟨σ,H3,I3,q3⟩
def Wh (te:TE) (g:TG):TS:=λD σ H=>te σ H λx H1=>g x σ H1 D.nx
def xn {g:TG} (he:PE X e te) (hg:PG X tg g) (hs:wE [tg] e pos.line X.env=pure false:=by rfl) (hw:wP [tg] e X.env=pure bm:=by rfl)
  (h1:(wf [tg] X.env).map (·.2)=[wT tg X.env]:=by rfl):PS X (.Assign [tg] e pos) (Wh te g):=by
 intro Z s σ H D I h;refine wpAny_Assign_stores (bE (he Z s σ H _ I h) λv s1 ⟨x,H1,I1,r1,q1⟩=>?_) hs hw;rw [h1];exact bE (hg Z s1 σ H1 x v _ I1 r1 q1) λ_ s2 q=>q
def sF (hN:X.N.Nodup) (hi:X.N[i]?=ap x) (hx:Loc X.env.scope x) (he:PE X e te) (hs:lc e (ap (.Name x Ô)) pos.line X.env=pure false:=by rfl) (hf:Nw X x:=by first | exact .inl rfl | exact .inr rfl | assumption) :
  PS X (.Assign [.Name x Ô] e pos) (Wh te (dJ i)):=by
 intro Z s σ H D I h;refine wpAny_Assign_Name (bE (he Z s σ H _ I h) λv s1 ⟨y,H1,I1,r1,q1⟩=>?_) hs;exact nJ I1 hN hi hx r1 (λs2 I2=>⟨_,H1,I2,q1⟩) hf
def ad4 (i j:Nat) (ta:TA):TS:=λD σ H=>ta σ H λvs H1=>∃v w,vs=[v,w]/\D.nx ((σ.set i (ap v)).set j (ap w)) H1
def WQ {y:Str}{b:ga}{ta:TA}{kt k2 WO} (hc:X.calm=true) (hN:X.N.Nodup) (hi:X.N[i]?=ap x) (hj:X.N[j]?=ap y) (Vr:i≠j)
  (hx:X.env.scope.names.lookup x=ap .local) (hy:X.env.scope.names.lookup y=ap .local) (ha:PA X [a,b] ta)
  (hw:wP [.Tuple [.Name x px,.Name y py] kt pt] (.Tuple [a,b] k2 WO) X.env=pure (ap [x,y]))
  (hs:wE [.Tuple [.Name x px,.Name y py] kt pt] (.Tuple [a,b] k2 WO) pos.line X.env=pure false:=by rfl) :
  PS X (.Assign [.Tuple [.Name x px,.Name y py] kt pt] (.Tuple [a,b] k2 WO) pos) (ad4 i j ta):=by
 intro Z s σ H D I h;refine Aa (Dw ?_);refine Aa (Ah ?_);rw [if_neg ⋯];refine Aa (Tuple_ (bE (ha _ Z s σ H _ I h) λus s1 ⟨vs,H1,I1,r1,q1⟩=>?_));obtain⟨v,w,e1,q1⟩:=q1;subst e1;obtain⟨u1,u2,rfl,rv,iz⟩:∃u1 u2,us=[u1,u2]/\RelV v u1/\RelV w u2:=by
  cases r1 with
  | cons p q=>
   cases q with
   | cons p' q'=>
    cases q';exact⟨_,_,rfl,p,p'⟩
 refine Bm ?_ (by show 2<=sizeLine;decide);have I2:Inv X Z σ H1 {s1 with heap:=s1.heap.push {cls:=.type "tuple",data:=.seq [u1,u2].toArray}}:=I1.kept (t':=s1.toks) λb o e=>Aj _ e;rw [hw];refine Aa (Ah ?_);refine Aa (CS (Aa (unpackItems_tuple (items:=#[u1,u2]) (I.ok.hd hc) (FV s1.heap _) λh' uH=>?_)));have I3:=I2.kept (h':=h') (t':=s1.toks) λb o e=>uH b o (AM (Au e)) e;show db _ _ (assignInOrder [λv=>bindName X.env y v,λv=>bindName X.env x v] [u2,u1] >>= λ_=>pure Flow.next) _ _ _;refine Aa (assignInOrder_cons (wpAny_bindName (nJ I3 hN hj (.inl hy) iz (λs2 I4=>?_) (.inr hy))));refine assignInOrder_cons (wpAny_bindName (nJ I4 hN hi (.inl hx) rv (λs3 I5=>assignInOrder_nil (Ah ?_)) (.inr hx)));rw [List.set_comm _ _ (BL Vr)] at I5;exact⟨_,H1,I5,q1⟩
def ZW (to ti te:TE) (RD:V->V->Hp->VK->Prop) (ü:TIp) (RA:JG):TS:=λD σ H=>to σ H λo H1=>ti σ H1 λi H2=>RD o i H2 λx H3=>te σ H3 λy H4=>ü x y H4 λz H5=>RA o i z H5 λH6=>D.nx σ H6
def aco (X:Cx) (t:V->V->Hp->VK->Prop):Prop:=
 ∀(Z:List (ci×Obj)) (s:cr) (σ:St) (H:Hp) (o i:V) (ov iv:bv) (Q:VK),Inv X Z σ H s->RelV o ov->RelV i iv->t o i H Q->
  db (dL X.prog X.w) X.A (Fk ov iv) (EP X Z σ Q) X.xe s
def Sf {o i:ga}{ti:TE}{RD:V->V->Hp->VK->Prop}{ü:TIp}{RA:JG}{op:Operator} (ho:PE X o to) (hi:PE X i ti) (hg:aco X RD) (he:PE X e te) (hp:PIp X op ü) (hs:JH X RA)
  (ha:∀ov iv new,augStore i ov iv new=(do r9 [new,ov,iv] (Db ov iv new);release [new,ov,iv] [];pure .next):=by intros;rfl):PS X (.AugAssign (.Subscript o i gn) op e pos) (ZW to ti te RD ü RA):=by
 intro Z s σ H D I h;refine wpAny_AugAssign_SubscriptAny (bE (ho Z s σ H _ I h) λov s1 ⟨x1,H1,I1,r1,q1⟩=>?_) ha;refine bE (hi Z s1 σ H1 _ I1 q1) λiv s2 ⟨x2,H2,I2,r2,q2⟩=>?_;refine bE (hg Z s2 σ H2 x1 x2 ov iv _ I2 r1 r2 q2) λË s3 ⟨x3,H3,I3,r3,q3⟩=>?_;refine bE (he Z s3 σ H3 _ I3 q3) λv s4 ⟨x4,H4,I4,r4,q4⟩=>?_;refine bE (hp Z s4 σ H4 x3 x4 Ë v _ I4 r3 r4 q4) λnew s5 ⟨x5,H5,I5,r5,q5⟩=>?_;exact bE (hs Z s5 σ H5 x1 x2 x5 ov iv new _ I5 r1 r2 r5 q5) λ_ s6 ⟨H6,I6,q6⟩=>⟨σ,H6,I6,q6⟩
def ipI (f:Int->Int->Int):TIp:=λx y H Q=>∃i j,x=.int i/\y=.int j/\Q (.int (f i j)) H
def XW:PIp X .Add (ipI λi j=>i+j):=by
 intro Z s σ H x y v u Q I r1 r2 h;obtain⟨i,j,e1,e2,q⟩:=h;subst e1;subst e2;obtain⟨t,rfl⟩:=r1;obtain⟨t',rfl⟩:=r2;exact iadd_int ⟨.int _,H,I.tok _,⟨_,rfl⟩,q⟩
end
section
def V9 (c:TT) (tb:TS):TS:=λD σ H=>∃W:Nat->St->Hp->Prop,(∃m,W m σ H)/\∀m σ H,W m σ H->
 c σ H λb H1=>if b=true then ∃N:St->Hp->Prop,(∀σ' H',N σ' H'->∃m',m' < m/\W m' σ' H')/\tb {D with nx:=N,ct:=N,bk:=D.nx} σ H1 else D.nx σ H1
def zI {c:ga}{tc:TT}{tb:TS} (hp:Da (dL X.prog X.w) X.A X.env X.xe) (hc:PT X c tc) (hb:rN X body tb):PS X (.While c body [] pos) (V9 tc tb):=by
 intro Z s σ H D I h;obtain⟨W,⟨m0,w0⟩,turn⟩:=h;refine wpAny_While (codeAny_whileLoop (λn s'=>∃σ' H',Inv X Z σ' H' s'/\W n σ' H') ?_ m0 ⟨σ,H,I,w0⟩);rintro n s1 ⟨σ1,H1,I1,w1⟩;refine Co hp (bE (hc Z s1 σ1 H1 _ I1 (turn n σ1 H1 w1)) λb s2 ⟨H2,I2,q2⟩=>?_);cases b with
 | true=>
  obtain⟨N,hN,q2⟩:=q2;refine Co hp (bE (hb Z s2 σ1 H2 _ I2 q2) λf s3 q3=>?_);cases f with
  | next=>
   obtain⟨σ3,H3,I3,n3⟩:=q3;obtain⟨m',hm,w3⟩:=hN σ3 H3 n3;exact⟨m',hm,σ3,H3,I3,w3⟩
  | cont=>
   obtain⟨σ3,H3,I3,n3⟩:=q3;obtain⟨m',hm,w3⟩:=hN σ3 H3 n3;exact⟨m',hm,σ3,H3,I3,w3⟩
  | brk=>exact q3
  | ret v=>exact q3
 | false=>
  exact DQ ⟨σ1,H2,I2,q2⟩
end
structure It where
 go:Nat->Hp->Prop
 UR:Nat->Hp->V->Hp->Prop
 stop:Nat->Hp->Prop
def vo (X:Cx) (Z:List (ci×Obj)) (H:Hp) (b:ci):Prop:=
 H b=bm/\b≠X.env.locals/\b∉X.fs/\(b∈X.ex\/X.s₀.heap.objs.size<=b)/\(∀x c,X.env.cells.lookup x=ap c->c≠b)/\∀p∈X.pn++Z,p.1≠b
def Inv.va (I:Inv X Z σ H s) (hb:s.heap.objs.size<=b) (hn:H' b=bm):vo X Z H' b:=by
 refine⟨hn,Nat.ne_of_gt (AB I.lt hb),I.aeA hb,.inr (A4 I.sz hb),λx c e z=>?_,λp hp z=>?_⟩
 ·obtain⟨v,q⟩:=I.cell x c e;exact absurd (AB q.lt (by rw [z];exact hb)) (Bc _)
 ·exact absurd (AB (Au (I.pin p hp).1) (by rw [z];exact hb)) (Bc _)
structure Turn (P:sK) (w:wn) (K:Ab) (tg:ga) (J:It) (fp:List ci) (it:ci) (tn:Nat->nw->Prop):Prop where
 mem:it∈fp
 obj:∀i h,tn i h->∀b∈fp,∃o,h.get? b=ap o/\∀v,o.data≠.cell v
 keep:∀i h h',tn i h->(∀b∈fp,∀o,h.get? b=ap o->h'.get? b=ap o)->tn i h'
 item:∀(X:Cx),X.prog=P->X.w=w->X.K=K->X.calm=true->∀(i:Nat) (Z:List (ci×Obj)) (s:cr) (σ:St) (H:Hp) (E:bv->cr->Prop),Inv X Z σ H s->(∀b∈fp,vo X Z H b)->tn i s.heap->J.go i H->
  db (dL P w) X.A (pyNext (.ref it)) (λr s1=>∃u,r=ap u/\
   db (dL P w) X.A (GE tg (.ref it) u) (λ_ s2=>∃x H',Inv X Z σ H' s2/\RelV x u/\J.UR i H x H'/\tn (i+1) s2.heap/\∀b∈fp,H' b=bm) E s1) E s
 done:∀(X:Cx),X.prog=P->X.w=w->X.K=K->X.calm=true->∀(i:Nat) (Z:List (ci×Obj)) (s:cr) (σ:St) (H:Hp) (E:bv->cr->Prop),Inv X Z σ H s->(∀b∈fp,vo X Z H b)->tn i s.heap->J.stop i H->
  db (dL P w) X.A (pyNext (.ref it)) (λr s1=>r=bm/\Inv X Z σ H s1) E s
 self:∀(A:sn) (i:Nat) (s:cr) (Q:bv->cr->Prop) (E:bv->cr->Prop),tn i s.heap->Q (.ref it) s->db (dL P w) A (pyIter (.ref it)) Q E s
abbrev TI:=St->Hp->(It->Hp->Prop)->Prop
def PIE (X:Cx) (Z:List (ci×Obj)) (σ:St) (tg:ga) (R:It->Hp->Prop) (Ą:bv) (s2:cr):Prop:=
 ∃(it:ci) (fp:List ci) (tn:Nat->nw->Prop) (J:It) (H':Hp),Ą=.ref it/\Inv X Z σ H' s2/\Turn X.prog X.w X.K tg J fp it tn/\tn 0 s2.heap/\(∀b∈fp,vo X Z H' b)/\R J H'
def PI (X:Cx) (tg iter:ga) (wi:TI):Prop:=
 ∀(Z:List (ci×Obj)) (s:cr) (σ:St) (H:Hp) (R:It->Hp->Prop),Inv X Z σ H s->wi σ H R->
  db (dL X.prog X.w) X.A (kw iter X.env) (λv s1=>db (dL X.prog X.w) X.A (pyIter v) (PIE X Z σ tg R) X.xe s1) X.xe s
def tS {n:String}{vs:Array bv}{Q:Unit->cr->Prop} (ho:s.heap.get? it=ap o) (hc:o.cls=.type n) (hd:o.data=.fields vs)
  (hn:["enumerate","zip","dict_itemiterator","dict_reverseitemiterator","odict_iterator","itertools.zip_longest","itertools.pairwise"].contains n=false) (hQ:Q () s):db M A (GE tg (.ref it) u) Q E s:=by
 unfold GE;cases tg <;> first
  | exact Ah hQ
  | (cases u <;> first
    | exact Ah hQ
    | (
      refine Aa (wpAny_load ho ?_);rw [hc,hd];show db M A (if (["enumerate","zip","dict_itemiterator","dict_reverseitemiterator","odict_iterator","itertools.zip_longest","itertools.pairwise"].contains n&&vs[0]?==ap (u8 _))=true then _ else _) Q E s;rw [if_neg (by intro h;rw [hn,Fo] at h;cases h)];exact Ah hQ))
def Itl (K:Ab) (a:ci):It:=
 ⟨λi H=>∃xs x,dc K H a xs/\xs[i]?=ap x,λi H x H'=>H'=H/\∀xs,dc K H a xs->xs[i]?=ap x,λi H=>∃xs,dc K H a xs/\xs.length<=i⟩
def Itt (K:Ab) (a:ci):It:=
 ⟨λi H=>∃xs x,d9 K H a xs/\xs[i]?=ap x,λi H x H'=>H'=H/\∀xs,d9 K H a xs->xs[i]?=ap x,λi H=>∃xs,d9 K H a xs/\xs.length<=i⟩
def Itr (lo:Int) (n:Nat):It:=⟨λi _=>i < n,λi H x H'=>H'=H/\x=.int (lo+i),λi _=>n<=i⟩
theorem Lo {K:Ab} (a it:ci):Turn P w K tg (Itl K a) [it] it (λi h=>h.IsListIter it a i) where
 mem:=by simp
 obj:=λi h st b hb=>by
  have e:b=it:=by simpa using hb
  subst e;obtain⟨o,e,c,d⟩:=st;exact⟨o,e,λv z=>by rw [d] at z;cases z⟩
 keep:=λi h h' st k=>st.at λo e=>k it (by simp) o e
 item:=by
  intro X hP hw hK hc i Z s σ H E I hf st hg;subst hP hw hK;obtain⟨xs,x,hq,hx⟩:=hg;obtain⟨au,rv,p,hz⟩:=I.list hq;obtain⟨u,hu,ru⟩:=rv.get hx;obtain⟨f0,f1,f2,f3,f4,f5⟩:=hf it (by simp);refine wpAny_pyNext_list_item st p.isList (x:=u) (by simpa using hu) λh' nr sb=>?_;have I1:Inv X Z σ H {s with heap:=h'}:=I.turned (t':=s.toks) (λb o hb e=>(sb.2 b hb).trans e) f0 f1 f3 f4 f5;obtain⟨o,e,c,d⟩:=id nr;exact⟨u,rfl,tS (s:={s with heap:=h'}) e c d ⋯ ⟨x,H,I1,ru,⟨rfl,λys hy=>by rw [I.F4 hy hq];exact hx⟩,nr,λb hb=>(hf b hb).1⟩⟩
 done:=by
  intro X hP hw hK hc i Z s σ H E I hf st hg;subst hP hw hK;obtain⟨xs,hq,hx⟩:=hg;obtain⟨au,rv,p,hz⟩:=I.list hq;obtain⟨f0,f1,f2,f3,f4,f5⟩:=hf it (by simp);have hl:=rv.length;exact wpAny_pyNext_list_end (I.ok.hd hc) st p.isList (by simp;omega) λh' eb=>⟨rfl,I.turned (t':=s.toks) (λb o hb e=>eb b o hb e) f0 f1 f3 f4 f5⟩
 self:=λ_ _ _ _ _ st h=>wpAny_pyIter_listiter st h
theorem rT {K:Ab} (a it:ci):Turn P w K tg (Itt K a) [it] it (λi h=>h.IsTupleIter it a i) where
 mem:=by simp
 obj:=λi h st b hb=>by
  have e:b=it:=by simpa using hb
  subst e;obtain⟨o,e,c,d⟩:=st;exact⟨o,e,λv z=>by rw [d] at z;cases z⟩
 keep:=λi h h' st k=>st.at λo e=>k it (by simp) o e
 item:=by
  intro X hP hw hK hc i Z s σ H E I hf st hg;subst hP hw hK;obtain⟨xs,x,hq,hx⟩:=hg;obtain⟨au,rv,p,hz⟩:=I.tuple hq;obtain⟨u,hu,ru⟩:=rv.get hx;obtain⟨f0,f1,f2,f3,f4,f5⟩:=hf it (by simp);refine wpAny_pyNext_tuple_item st (show s.heap.IsTuple a au.toArray from p) (x:=u) (by simpa using hu) λh' nr sb=>?_;have I1:Inv X Z σ H {s with heap:=h'}:=I.turned (t':=s.toks) (λb o hb e=>(sb.2 b hb).trans e) f0 f1 f3 f4 f5;obtain⟨o,e,c,d⟩:=id nr;exact⟨u,rfl,tS (s:={s with heap:=h'}) e c d ⋯ ⟨x,H,I1,ru,⟨rfl,λys hy=>by rw [I.lT hy hq];exact hx⟩,nr,λb hb=>(hf b hb).1⟩⟩
 done:=by
  intro X hP hw hK hc i Z s σ H E I hf st hg;subst hP hw hK;obtain⟨xs,hq,hx⟩:=hg;obtain⟨au,rv,p,hz⟩:=I.tuple hq;obtain⟨f0,f1,f2,f3,f4,f5⟩:=hf it (by simp);have hl:=rv.length;exact wpAny_pyNext_tuple_end (I.ok.hd hc) st (show s.heap.IsTuple a au.toArray from p) (by simp;omega) λh' eb=>⟨rfl,I.turned (t':=s.toks) (λb o hb e=>eb b o hb e) f0 f1 f3 f4 f5⟩
 self:=λ_ _ _ _ _ st h=>wpAny_pyIter_tupleiter st h
theorem Hn {K:Ab} (it:ci) (lo:Int) (n:Nat):Turn P w K tg (Itr lo n) [it] it (λi h=>IsRangeIter h it (lo+(i:Nat)*1) ((n:Int)-(i:Nat)) 1) where
 mem:=by simp
 obj:=λi h st b hb=>by
  have e:b=it:=by simpa using hb
  subst e;exact⟨_,st,λv z=>by
   have z':=z;cases z'⟩
 keep:=λi h h' st k=>k it (by simp) _ st
 item:=by
  intro X hP hw hK hc i Z s σ H E I hf st hg;subst hP hw hK;obtain⟨f0,f1,f2,f3,f4,f5⟩:=hf it (by simp);have W:=Walks.range (prog:=X.prog) (w:=X.w) (I.ok.hd hc) it lo 1 n;refine W.item i s _ _ hg st λv h' tk hv nr kk=>?_;obtain⟨t,rfl⟩:=hv;have I1:Inv X Z σ H {s with heap:=h',toks:=tk}:=I.turned (λb o hb e=>kk b o (by simpa using hb) e) f0 f1 f3 f4 f5;refine⟨_,rfl,tS (s:={s with heap:=h',toks:=tk}) (n:="range_iterator") nr rfl rfl ⋯ ⟨.int (lo+i),H,I1,⟨t,?_⟩,⟨rfl,rfl⟩,nr,λb hb=>(hf b hb).1⟩⟩;rw [Int.mul_one]
 done:=by
  intro X hP hw hK hc i Z s σ H E I hf st hg;obtain⟨f0,f1,f2,f3,f4,f5⟩:=hf it (by simp);exact wpAny_pyNext_range_end (I.ok.hd hc) st (by have:n<=i:=hg;omega) λh' eb=>⟨rfl,I.turned (t':=s.toks) (λb o hb e=>eb b o hb e) f0 f1 f3 f4 f5⟩
 self:=λ_ _ _ _ _ st h=>wpAny_pyIter_rangeiter st h
end L2
variable {p:CB}{fp:List BV}{iter:BU}{wi:L2.TI}
namespace L2
open PySem PySem.Spec PyProof.Rows
section
theorem Oe {R:It->Hp->Prop}{lo hi:Int}{t u v:Tok}{tk:Nat} (I:Inv X Z σ H s) (h1:-(2 ^ 62)<=lo) (h2:lo < 2 ^ 62) (h3:-(2 ^ 62)<=hi) (h4:hi < 2 ^ 62)
  (q:R (Itr lo (hi-lo).toNat) H):db (dL X.prog X.w) X.A (pyIter (.ref s.heap.objs.size)) (PIE X Z σ tg R) E {s with heap:=s.heap.push {cls:=.type "range",data:=.fields #[.int lo t,.int hi u,.int 1 v]},toks:=tk}:=by
 refine wpAny_pyIter_range (IsRange.new ..) (small_one h1 h2 h3 h4) ?_;have I1:Inv X Z σ H {s with heap:=s.heap.push {cls:=.type "range",data:=.fields #[.int lo t,.int hi u,.int 1 v]},toks:=tk}:=I.kept λb o e=>Aj _ e;refine⟨(s.heap.push {cls:=.type "range",data:=.fields #[.int lo t,.int hi u,.int 1 v]}).objs.size,[(s.heap.push {cls:=.type "range",data:=.fields #[.int lo t,.int hi u,.int 1 v]}).objs.size],_,_,H,rfl,
  I1.kept (t':=tk) λb o e=>Aj _ e,Hn _ lo (hi-lo).toNat,?_,λb hb=>?_,q⟩
 ·have e1:lo+((0:Nat):Int)*1=lo:=by simp
  have e2:(((hi-lo).toNat:Nat):Int)-((0:Nat):Int)=Builtin.Range.rangeSize lo hi 1:=by rw [rangeSize_one];split <;> omega
  show IsRangeIter _ _ (lo+((0:Nat):Int)*1) ((((hi-lo).toNat:Nat):Int)-((0:Nat):Int)) 1;rw [e1,e2];exact Aq _ rfl
 ·have e:b=(s.heap.push {cls:=.type "range",data:=.fields #[.int lo t,.int hi u,.int 1 v]}).objs.size:=by simpa using hb
  subst e;exact I1.va (Ao _) (I1.bK.fresh (Ao _))
def aba (ta:TA):TI:=λσ H R=>ta σ H λvs H1=>∃j:Int,vs=[.int j]/\-(2 ^ 62)<=j/\j < 2 ^ 62/\R (Itr 0 j.toNat) H1
theorem LP {ta:TA} (hg:Gl X "range") (hm:X.mg "range"=bm) (ha:PA X [a] ta) (hs:d5 [a] X.env=[(false,kw a X.env)]:=by rfl):PI X tg (.Call (.Name "range" p) [a] [] pos) (aba ta):=by
 intro Z s σ H R I h;refine Call_ (j5 I hg hm boot_range (Bo (bE (ha pos Z s σ H _ I h) λus s1 ⟨vs,H1,I1,r1,q1⟩=>?_) hs rfl));obtain⟨j,e,q1,q2,q⟩:=q1;subst e;cases r1 with
 | cons r rr=>
  cases rr;obtain⟨t,rfl⟩:=r;exact call_range_1 (Oe I1 ∅ ∅ q1 q2 (by simpa using q))
def ad9 (wi:TI) (g:TG) (tb:TS):TS:=λD σ H=>wi σ H λJ H1=>∃W:Nat->Nat->St->Hp->Prop,(∃m,W 0 m σ H1)/\∀i m σ H,W i m σ H->
 (J.stop i H/\D.nx σ H)\/(J.go i H/\∃N:St->Hp->Prop,(∀σ' H',N σ' H'->∃m',m' < m/\W (i+1) m' σ' H')/\∀x H',J.UR i H x H'->g x σ H' λσ2 H2=>tb {D with nx:=N,ct:=N,bk:=D.nx} σ2 H2)
def pe (fp:List ci) (h:nw):List (ci×Obj):=fp.filterMap λb=>(h.get? b).map λo=>(b,o)
def jY (hb:b∈fp) (e:h.get? b=ap o):(b,o)∈pe fp h:=C8.mpr ⟨b,hb,by rw [e];rfl⟩
def LU {p:ci×Obj} (hp:p∈pe fp h):p.1∈fp/\h.get? p.1=ap p.2:=by
 obtain⟨b,hb,e⟩:=C8.mp hp;cases q:h.get? b with
 | none=>rw [q] at e;cases e
 | some o=>
  rw [q] at e;have e':=Option.some.inj e;subst e';exact⟨hb,q⟩
def Inv.pinned (I:Inv X Z σ H s) (hf:∀b∈fp,vo X Z H b) (ho:∀b∈fp,∃o,s.heap.get? b=ap o/\∀v,o.data≠.cell v):Inv X (Z++pe fp s.heap) σ H s:=
 I.Kb λp hp=>(AY.mp hp).elim (λz=>I.pin p (AN _ z)) λz=>by
  obtain⟨hb,e⟩:=LU z;obtain⟨f0,f1,f2,_⟩:=hf p.1 hb;obtain⟨o,e',d⟩:=ho p.1 hb;rw [e] at e';cases e';exact⟨e,f0,f1,f2,d⟩
def Inv.kW {pl:List (ci×Obj)} (I:Inv X (Z++pl) σ H s):Inv X Z σ H s:=I.Kb λp hp=>I.pin p (AN _ (BG _ hp))
def Ov {g:TG}{tb:TS} (hp:Da (dL X.prog X.w) X.A X.env X.xe) (hc:X.calm=true) (hi:PI X tg iter wi) (hg:PG X tg g) (hb:rN X body tb)
  (hs:wI X iter:=by intro _;rfl):PS X (.For tg iter body [] pos) (ad9 wi g tb):=by
 intro Z s σ H D I h;refine wpAny_For (bE (hi Z s σ H _ I h) λv s1 h1=>bE h1 λĄ s2 h2=>?_) hs;obtain⟨it,fp,tn,J,H2,e,I2,T,Lx,f2,W,⟨m0,w0⟩,turn⟩:=h2;subst e;have Wi:∀{H':Hp},(∀b∈fp,H' b=bm)->∀b∈fp,vo X Z H' b:=λhn b hb=>⟨hn b hb,(f2 b hb).2⟩;refine codeAny_forLoop_any (λn s'=>∃i σ' H',Inv X Z σ' H' s'/\tn i s'.heap/\(∀b∈fp,H' b=bm)/\W i n σ' H') ?_ m0 ⟨0,σ,H2,I2,Lx,λb hb=>(f2 b hb).1,w0⟩;rintro n s3 ⟨i,σ3,H3,I3,Z1,ù,w3⟩;rcases turn i n σ3 H3 w3 with⟨stop,qn⟩ | ⟨go,N,hN,step⟩
 ·refine Co hp (bE (T.done X rfl rfl rfl hc i Z s3 σ3 H3 X.xe I3 (Wi ù) Z1 stop) λr s4 ⟨hr,I4⟩=>?_);subst hr;exact DQ ⟨σ3,H3,I4,qn⟩
 ·refine Co hp (bE (T.item X rfl rfl rfl hc i Z s3 σ3 H3 X.xe I3 (Wi ù) Z1 go) λr s4 ⟨u,hr,h4⟩=>?_);subst hr;refine Co hp (bE h4 λ_ s5 ⟨x,H5,I5,r5,y5,Wk,ń⟩=>?_);have ň:=I5.pinned (Wi ń) (T.obj _ _ Wk);refine Co hp (bE (hg _ s5 σ3 H5 x u _ ň r5 (step x H5 y5)) λ_ s6 ⟨σ6,H6,I6,q6⟩=>?_);refine Co hp (bE (hb _ s6 σ6 H6 _ I6 q6) λf s7 q7=>?_);have again:∀{σ7:St}{H7:Hp},Inv X (Z++pe fp s5.heap) σ7 H7 s7->N σ7 H7->∃m,m < n/\∃i σ' H',Inv X Z σ' H' s7/\tn i s7.heap/\(∀b∈fp,H' b=bm)/\W i m σ' H':=λ{σ7 H7} I7 n7=>by
   obtain⟨m',hm,w7⟩:=hN σ7 H7 n7;refine⟨m',hm,i+1,σ7,H7,I7.kW,T.keep _ _ _ Wk λb hb o e=>(I7.pin (b,o) (AN _ (AN _ (jY hb e)))).1,λb hb=>?_,w7⟩;obtain⟨o,e,d⟩:=T.obj _ _ Wk b hb;exact (I7.pin (b,o) (AN _ (AN _ (jY hb e)))).2.1
  cases f with
  | next=>obtain⟨σ7,H7,I7,n7⟩:=q7;exact again I7 n7
  | cont=>obtain⟨σ7,H7,I7,n7⟩:=q7;exact again I7 n7
  | brk=>obtain⟨σ7,H7,I7,q7⟩:=q7;exact⟨σ7,H7,I7.kW,q7⟩
  | ret v=>obtain⟨x7,σ7,H7,I7,r7,q7⟩:=q7;exact⟨x7,σ7,H7,I7.kW,r7,q7⟩
end
end L2
variable {i:Int}{g:Int->Int->Int}{Nq:PySem.CmpOp}{au:List Ba}
namespace L2
open PySem PySem.Spec PyProof.Rows
abbrev R2:=V->V->Hp->VK->Prop
def iy (X:Cx) (f:bv->bv->Sem bv) (r:R2):Prop:=
 ∀(Z:List (ci×Obj)) (s:cr) (σ:St) (H:Hp) (x y:V) (v u:bv) (Q:VK),Inv X Z σ H s->RelV x v->RelV y u->r x y H Q->
  db (dL X.prog X.w) X.A (f v u) (EP X Z σ Q) X.xe s
def UnR (X:Cx) (f:bv->Sem bv) (r:V->Hp->VK->Prop):Prop:=
 ∀(Z:List (ci×Obj)) (s:cr) (σ:St) (H:Hp) (x:V) (v:bv) (Q:VK),Inv X Z σ H s->RelV x v->r x H Q->
  db (dL X.prog X.w) X.A (f v) (EP X Z σ Q) X.xe s
def bW (X:Cx) (f:bv) (r:List V->Hp->VK->Prop):Prop:=
 ∀(Z:List (ci×Obj)) (s:cr) (σ:St) (H:Hp) (xs:List V) (us:List bv) (Q:VK),Inv X Z σ H s->Vals xs us->r xs H Q->
  db (dL X.prog X.w) X.A (call f us) (EP X Z σ Q) X.xe s
def af8 (X:Cx) (r:V->Hp->(Bool->Hp->Prop)->Prop):Prop:=
 ∀(Z:List (ci×Obj)) (s:cr) (σ:St) (H:Hp) (x:V) (v:bv) (Q:Bool->Hp->Prop),Inv X Z σ H s->RelV x v->r x H Q->
  db (dL X.prog X.w) X.A (truthy v) (TP X Z σ Q) X.xe s
def UX (r:R2) (ta tb:TE):TE:=λσ H Q=>ta σ H λx H1=>tb σ H1 λy H2=>r x y H2 Q
def tUn (r:V->Hp->VK->Prop) (ta:TE):TE:=λσ H Q=>ta σ H λx H1=>r x H1 Q
def rI (C:Int->Int->Prop) (g:Int->Int->V):R2:=λx y H Q=>∃i j,x=.int i/\y=.int j/\C i j/\Q (g i j) H
def R7 (g:Int->Int->V):R2:=λx y H Q=>∃i j,x=.int i/\y=.int j/\Q (g i j) H
def rU (g:Int->V):V->Hp->VK->Prop:=λx H Q=>∃i,x=.int i/\Q (g i) H
section
variable {b:ga}
def YC (ha:PE X a ta) (hb:PE X b tb) (I:Inv X Z σ H s)
  (h:ta σ H λx H1=>tb σ H1 λy H2=>R x y H2) {f:bv->bv->Sem bv}
  (hf:∀v u s2 x y H2,Inv X Z σ H2 s2->RelV x v->RelV y u->R x y H2->db (dL X.prog X.w) X.A (f v u) Q X.xe s2) :
  db (dL X.prog X.w) X.A (kw a X.env) (λv s₁=>db (dL X.prog X.w) X.A (kw b X.env) (λu s₂=>db (dL X.prog X.w) X.A (f v u) Q X.xe s₂) X.xe s₁) X.xe s:=by
 refine bE (ha Z s σ H _ I h) λv s1 ⟨x,H1,I1,r1,q1⟩=>?_;refine bE (hb Z s1 σ H1 _ I1 q1) λu s2 ⟨y,H2,I2,r2,q2⟩=>?_;exact hf v u s2 x y H2 I2 r1 r2 q2
def Kc {op:Operator}{r:R2} (ho:iy X (ss op) r) (ha:PE X a ta) (hb:PE X b tb):PE X (.BinOp a op b pos) (UX r ta tb):=by
 intro Z s σ H Q I h;exact wpAny_BinOp (YC ha hb I h λv u s2 x y H2 I2 rx ry q=>ho Z s2 σ H2 x y v u Q I2 rx ry q)
def aaw {op:UnaryOp}{r:V->Hp->VK->Prop} (ho:UnR X (unaryOp op) r) (ha:PE X a ta):PE X (.UnaryOp op a pos) (tUn r ta):=by
 intro Z s σ H Q I h;exact UnaryOp_ (bE (ha Z s σ H _ I h) λv s1 ⟨x,H1,I1,r1,q1⟩=>ho Z s1 σ H1 x v Q I1 r1 q1)
def opI {f:bv->bv->Sem bv}{C:Int->Int->Prop}
  (rule:∀(i j:Int) (t u:Tok) (s:cr) (Q:bv->cr->Prop) (E:bv->cr->Prop),C i j->Q (.int (g i j) s.toks) {s with toks:=s.toks+1}->db (dL X.prog X.w) X.A (f (.int i t) (.int j u)) Q E s) :
  iy X f (rI C λi j=>.int (g i j)):=by
 intro Z s σ H x y v u Q I rx ry h;obtain⟨i,j,rfl,rfl,hc,q⟩:=h;obtain⟨t,rfl⟩:=rx;obtain⟨t',rfl⟩:=ry;exact rule i j t t' s _ _ hc ⟨.int (g i j),H,I.tok _,⟨_,rfl⟩,q⟩
def aaI {f:bv->bv->Sem bv}
  (rule:∀(i j:Int) (t u:Tok) (s:cr) (Q:bv->cr->Prop) (E:bv->cr->Prop),Q (.int (g i j) s.toks) {s with toks:=s.toks+1}->db (dL X.prog X.w) X.A (f (.int i t) (.int j u)) Q E s) :
  iy X f (R7 λi j=>.int (g i j)):=by
 intro Z s σ H x y v u Q I rx ry h;obtain⟨i,j,rfl,rfl,q⟩:=h;obtain⟨t,rfl⟩:=rx;obtain⟨t',rfl⟩:=ry;exact rule i j t t' s _ _ ⟨.int (g i j),H,I.tok _,⟨_,rfl⟩,q⟩
def SJ {f:bv->bv->Sem bv}{g:Int->Int->Bool}
  (rule:∀(i j:Int) (t u:Tok) (s:cr) (Q:bv->cr->Prop) (E:bv->cr->Prop),Q (.bool (g i j)) s->db (dL X.prog X.w) X.A (f (.int i t) (.int j u)) Q E s) :
  iy X f (R7 λi j=>.bl (g i j)):=by
 intro Z s σ H x y v u Q I rx ry h;obtain⟨i,j,rfl,rfl,q⟩:=h;obtain⟨t,rfl⟩:=rx;obtain⟨t',rfl⟩:=ry;exact rule i j t t' s _ _ ⟨.bl (g i j),H,I,rfl,q⟩
def UQ (i j:Int):Prop:=0 < j/\j < 1073741824
def Q7 (i j:Int):Prop:=0<=j/\j<=1000000/\i.natAbs < 2 ^ 64
def UP (i j:Int):Prop:=(-(2 ^ 64) < i/\i < 2 ^ 64)\/(-(2 ^ 64) < j/\j < 2 ^ 64)
def UP.ok {j:Int} (h:UP i j):wv i j:=by
 rcases h with⟨h1,h2⟩ | ⟨h1,h2⟩
 ·exact .of_left (intBits_le_64 h1 h2)
 ·exact .of_right (intBits_le_64 h1 h2)
def Xf:iy X (ss .Add) (R7 λi j=>.int (i+j)):=aaI λ_ _ _ _ _ _ _ q=>add_int q
def W6:iy X (ss .Sub) (R7 λi j=>.int (i-j)):=aaI λ_ _ _ _ _ _ _ q=>sub_int q
theorem SD:iy X (ss .FloorDiv) (rI UQ λi j=>.int (i / j)):=opI λi j _ _ _ _ _ hc q=>by
 have h1:(0:Int) < j:=hc.1;have h2:j < 1073741824:=hc.2;exact floordiv_int ∅ (by rw [Int.fdiv_eq_ediv_of_nonneg i ∅];exact q) (.inl (PyProof.noPylong_small ∅))
theorem Xa:iy X (ss .Mod) (rI (λ_ j=>0 < j) λi j=>.int (i % j)):=opI λi j _ _ _ _ _ hc q=>by
 have h1:(0:Int) < j:=hc;exact mod_int' ∅ (by rw [Int.fmod_eq_emod_of_nonneg i ∅];exact q)
def W8:iy X (ss .Pow) (rI Q7 λi j=>.int (i ^ j.toNat)):=opI λ_ _ _ _ _ _ _ hc q=>pow_int_small hc.1 hc.2.1 hc.2.2 q
def unI {f:bv->Sem bv}{g:Int->Int}
  (rule:∀(i:Int) (t:Tok) (s:cr) (Q:bv->cr->Prop) (E:bv->cr->Prop),Q (.int (g i) s.toks) {s with toks:=s.toks+1}->db (dL X.prog X.w) X.A (f (.int i t)) Q E s) :
  UnR X f (rU λi=>.int (g i)):=by
 intro Z s σ H x v Q I rx h;obtain⟨i,rfl,q⟩:=h;obtain⟨t,rfl⟩:=rx;exact rule i t s _ _ ⟨.int (g i),H,I.tok _,⟨_,rfl⟩,q⟩
def V4:UnR X (unaryOp .USub) (rU λi=>.int (-i)):=unI λ_ _ _ _ _ q=>neg_int q
end
section
variable {b c:ga}{tc:TE}
def PZ {Q:VK}{k k':Bool} (I:Inv X Z σ H s) (q:Q (.bl k) H) (e:k=k'):EP X Z σ Q (.bool k') s:=by
 subst e;exact⟨.bl k,H,I,rfl,q⟩
def aaE:iy X (im .Lt) (R7 λi j=>.bl (decide (i < j))):=SJ λ_ _ _ _ _ _ _ q=>lt_int q
def aaF:iy X (im .LtE) (R7 λi j=>.bl (decide (i<=j))):=SJ λ_ _ _ _ _ _ _ q=>le_int q
def aaG:iy X (im .Gt) (R7 λi j=>.bl (decide (j < i))):=SJ λ_ _ _ _ _ _ _ q=>gt_int q
def aaH:iy X (im .GtE) (R7 λi j=>.bl (decide (j<=i))):=SJ λ_ _ _ _ _ _ _ q=>ge_int q
def LS:iy X (im .In) (λx y H Q=>∃i j,x=.str i/\y=.str j/\Q (.bl (!(Builtin.Str.occurrences j i 0 j.length 1).isEmpty)) H):=by
 intro Z s σ H x y v u Q I rx ry h;obtain⟨i,j,rfl,rfl,q⟩:=h;obtain⟨t,rfl⟩:=rx;obtain⟨t',rfl⟩:=ry;exact in_str (PZ I q rfl)
def Xb:iy X (im .Is) (λx y H Q=>y=.aV/\Q (.bl (decide (x=.aV))) H):=by
 intro Z s σ H x y v u Q I rx ry h;obtain⟨rfl,q⟩:=h;cases ry;refine is_none_gen (PZ I q ?_);cases x <;> first
  | (cases rx;rfl)
  | (obtain⟨t,rfl⟩:=rx;rfl)
def iy.or {f:bv->bv->Sem bv}{r r':R2} (h:iy X f r) (h':iy X f r'):iy X f (λx y H Q=>r x y H Q\/r' x y H Q):=by
 intro Z s σ H x y v u Q I rx ry q;rcases q with q | q
 ·exact h Z s σ H x y v u Q I rx ry q
 ·exact h' Z s σ H x y v u Q I rx ry q
def lq (b:ga) (h:op≠.In:=by decide) (h2:op≠.NotIn:=by decide):lw op b=false:=by
 have e1:(op==CmpOp.In)=false:=by cases op <;> first | rfl | exact absurd rfl h
 have e2:(op==CmpOp.NotIn)=false:=by cases op <;> first | rfl | exact absurd rfl h2
 cases b <;> simp [lw,e1,e2]
def rg {r:R2} (ho:iy X (im op) r) (ha:PE X a ta) (hb:PE X b tb) (hm:lw op b=false):PE X (.Compare a [op] [b] pos) (UX r ta tb):=by
 intro Z s σ H Q I h;exact wpAny_Compare1 (YC ha hb I h λv u s2 x y H2 I2 rx ry q=>ho Z s2 σ H2 x y v u Q I2 rx ry q) hm
def UW (t:TE):TT:=λσ H Q=>t σ H λx H'=>∃k,x=.bl k/\Q k H'
def q9 {r:R2} (ho:iy X (im op) r) (ha:PE X a ta) (hb:PE X b tb) (hm:lw op b=false):PT X (.Compare a [op] [b] pos) (UW (UX r ta tb)):=by
 intro Z s σ H Q I h;refine wpAny_isTrue_Compare1 (bE (ha Z s σ H _ I h) λv s1 ⟨x,H1,I1,r1,q1⟩=>bE (hb Z s1 σ H1 _ I1 q1) λu s2 ⟨y,H2,I2,r2,q2⟩=>
  bE (ho Z s2 σ H2 x y v u _ I2 r1 r2 q2) λc s3 ⟨z,H3,I3,r3,k,e,q3⟩=>?_) hm
 subst e;cases r3;exact Bt ⟨H3,I3,q3⟩
def Hu (r r':R2) (ta tb tc:TE):TE:=λσ H Q=>ta σ H λx H1=>tb σ H1 λy H2=>r x y H2 λz H3=>∃k,z=.bl k/\
 (if k=true then tc σ H3 λw' H4=>r' y w' H4 Q else Q (.bl false) H3)
def OH {r r':R2} (ho:iy X (im op) r) (Pr:iy X (im Nq) r') (ha:PE X a ta) (hb:PE X b tb) (hc:PE X c tc)
  (hm:lastMarks [op,Nq] [b,c]=false:=by with_unfolding_all rfl):PE X (.Compare a [op,Nq] [b,c] pos) (Hu r r' ta tb tc):=by
 intro Z s σ H Q I h;refine Compare_chain (bE (ha Z s σ H _ I h) λv s1 ⟨x,H1,I1,r1,q1⟩=>chain_link (bE (hb Z s1 σ H1 _ I1 q1) λu s2 ⟨y,H2,I2,r2,q2⟩=>
  bE (ho Z s2 σ H2 x y v u _ I2 r1 r2 q2) λd s3 ⟨z,H3,I3,r3,k,e,q3⟩=>?_)) hm
 subst e;cases r3;refine Bt ?_;cases k with
 | false=>exact ite_ff ⟨.bl false,H3,I3,rfl,q3⟩
 | true=>exact ite_tt (chain_last (bE (hc Z s3 σ H3 _ I3 q3) λw' s4 ⟨z',H4,I4,r4,q4⟩=>Pr Z s4 σ H4 y z' u w' Q I4 r2 r4 q4))
def Ot {r r':R2} (ho:iy X (im op) r) (Pr:iy X (im Nq) r') (ha:PE X a ta) (hb:PE X b tb) (hc:PE X c tc)
  (hm:lastMarks [op,Nq] [b,c]=false:=by with_unfolding_all rfl):PT X (.Compare a [op,Nq] [b,c] pos) (UW (Hu r r' ta tb tc)):=by
 intro Z s σ H Q I h;refine isTrue_chain (bE (ha Z s σ H _ I h) λv s1 ⟨x,H1,I1,r1,q1⟩=>test_link (bE (hb Z s1 σ H1 _ I1 q1) λu s2 ⟨y,H2,I2,r2,q2⟩=>
  bE (ho Z s2 σ H2 x y v u _ I2 r1 r2 q2) λd s3 ⟨z,H3,I3,r3,k,e,q3⟩=>?_)) hm
 subst e;cases r3;refine Bt ?_;cases k with
 | false=>
  obtain⟨k',e',q'⟩:=q3;cases e';exact ite_ff ⟨H3,I3,q'⟩
 | true=>
  refine ite_tt (test_last (bE (hc Z s3 σ H3 _ I3 q3) λw' s4 ⟨z',H4,I4,r4,q4⟩=>bE (Pr Z s4 σ H4 y z' u w' _ I4 r2 r4 q4) λd' s5 ⟨z2,H5,I5,r5,k2,e2,q5⟩=>?_));subst e2;cases r5;exact Bt ⟨H5,I5,q5⟩
def YK (K:Ab) (x:V) (H:Hp) (k:Bool):Prop:=
 match x with
 | .aV=>k=false
 | .bl b=>k=b
 | .int i=>k=(i != 0)
 | .str y=>y.length<=sizeLine/\k=((y.length:Int) != 0)
 | .YB y=>y.size<=sizeLine/\k=((y.size:Int) != 0)
 | .ref p=>(∃xs,dc K H p xs/\k=!xs.isEmpty)\/(∃xs,d9 K H p xs/\k=!xs.isEmpty)\/∃kvs,H p=ap (.dK kvs)/\k=!kvs.isEmpty
 | _=>False
def Ii {kvs:List (κ×V)}{vs:List (κ×bv)} (r:KV kvs vs):(!vs.isEmpty)=!kvs.isEmpty:=by
 cases r <;> rfl
def tH (r:Vals xs au):(!au.toArray.isEmpty)=!xs.isEmpty:=by
 cases r <;> simp
def xI:(sizeLine:Nat) < 2 ^ 63:=by rw [sizeLine_eq];decide
theorem V6:af8 X (λx H Q=>∃k,YK X.K x H k/\Q k H):=by
 intro Z s σ H x v Q I rx h;obtain⟨k,e,q⟩:=h;have hs:=sizeLine_eq;cases x with
 | aV=>
  cases rx;have e':=e;subst e';exact truthy_none ⟨H,I,q⟩
 | bl b=>
  cases rx;have e':=e;subst e';exact Bt ⟨H,I,q⟩
 | int i=>
  obtain⟨t,rfl⟩:=rx;have e':=e;subst e';exact PySem.P.truthy_int ⟨H,I,q⟩
 | str y=>
  obtain⟨t,rfl⟩:=rx;obtain⟨hy,e'⟩:y.length<=sizeLine/\k=((y.length:Int) != 0):=e;subst e';exact PySem.P.truthy_str ∅ ⟨H,I.tok _,q⟩
 | YB y=>
  obtain⟨t,rfl⟩:=rx;obtain⟨hy,e'⟩:y.size<=sizeLine/\k=((y.size:Int) != 0):=e;subst e';exact PySem.W.truthy_bytes ∅ ⟨H,I.tok _,q⟩
 | ref p=>
  cases rx;have e':=e;rcases e' with⟨xs,hx,e'⟩ | ⟨xs,hx,e'⟩ | ⟨kvs,hx,e'⟩
  ·subst e';obtain⟨au,r,pl,hz⟩:=I.list hx;have Á:=r.length;exact wpAny_truthy_list pl.isList (by simp only [Ai];omega) ⟨H,I.tok _,by rw [tH r];exact q⟩
  ·subst e';obtain⟨au,r,pl,hz⟩:=I.tuple hx;have Á:=r.length;exact truthy_tuple pl (by simp only [Ai];omega) ⟨H,I.tok _,by rw [tH r];exact q⟩
  ·subst e';obtain⟨hz,hS,vs,r,m⟩:kvs.length<=sizeLine/\(p==tz)=false/\∃vs,KV kvs vs/\s.heap.DictOf (cv X.prog X.w) p vs:=I.bK p _ hx;have Á:=Paired.length r;exact wpAny_truthy_dict hS m ∅ ⟨H,I.tok _,by rw [Ii r];exact q⟩
 | _=>exact (show False from e).elim
def Oq (ha:PE X a ta) (he:∀Æ,isTrue a X.env Æ=(do let v <- Æ;FM a.pos;r9 [v] (truthy v))) :
  PT X a (λσ H Q=>ta σ H λx H'=>∃k,YK X.K x H' k/\Q k H'):=by
 intro Z s σ H Q I h;exact isTrue_plain (bE (ha Z s σ H _ I h) λv s1 ⟨x,H1,I1,r1,q1⟩=>V6 Z s1 σ H1 x v Q I1 r1 q1) (he _)
def HE:iy X (ss .Add) (λx y H Q=>∃i j,x=.str i/\y=.str j/\i.length+j.length<=sizeLine/\Q (.str (i++j)) H):=by
 intro Z s σ H x y v u Q I rx ry h;obtain⟨i,j,rfl,rfl,hz,q⟩:=h;obtain⟨t,rfl⟩:=rx;obtain⟨t',rfl⟩:=ry;exact add_str (λt' tk=>⟨.str (i++j),H,I.tok _,⟨_,rfl⟩,q⟩) hz
def vals1 {x:V} (r:Vals [x] us):∃u,us=[u]/\RelV x u:=by
 cases r with
 | cons r1 r2=>cases r2;exact⟨_,rfl,r1⟩
def vals2 {x:V} (r:Vals [x,y] us):∃u w',us=[u,w']/\RelV x u/\RelV y w':=by
 cases r with
 | cons r1 r2=>
  cases r2 with
  | cons r3 r4=>cases r4;exact⟨_,_,rfl,r1,r3⟩
def QK:bW X (.builtin "abs") (λxs H Q=>∃i,xs=[.int i]/\Q (.int (if i < 0 then -i else i)) H):=by
 intro Z s σ H xs us Q I r h;obtain⟨i,rfl,q⟩:=h;obtain⟨u,rfl,t,rfl⟩:=vals1 r;exact call_abs_int λu tk=>⟨.int (if i < 0 then -i else i),H,I.tok _,⟨_,rfl⟩,q⟩
def M3 (hc:X.calm=true):bW X (.builtin "max") (λxs H Q=>∃i j,xs=[.int i,.int j]/\Q (.int (if j > i then j else i)) H):=by
 intro Z s σ H xs us Q I r h;obtain⟨i,j,rfl,q⟩:=h;obtain⟨u,w',rfl,⟨t,rfl⟩,⟨t',rfl⟩⟩:=vals2 r;refine max_two_ints (I.ok.hd hc) λh' tk k=>⟨_,H,I.kept k,?_,q⟩;by_cases hj:j > i
 ·rw [if_pos hj,if_pos hj];exact⟨_,rfl⟩
 ·rw [if_neg hj,if_neg hj];exact⟨_,rfl⟩
def MZ (hc:X.calm=true):bW X (.builtin "min") (λxs H Q=>∃i j,xs=[.int i,.int j]/\Q (.int (if j < i then j else i)) H):=by
 intro Z s σ H xs us Q I r h;obtain⟨i,j,rfl,q⟩:=h;obtain⟨u,w',rfl,⟨t,rfl⟩,⟨t',rfl⟩⟩:=vals2 r;refine min_two_ints (I.ok.hd hc) λh' tk k=>⟨_,H,I.kept k,?_,q⟩;by_cases hj:j < i
 ·rw [if_pos hj,if_pos hj];exact⟨_,rfl⟩
 ·rw [if_neg hj,if_neg hj];exact⟨_,rfl⟩
def M7:bW X (.type "int") (λxs H Q=>(∃i,xs=[.int i]/\Q (.int i) H)\/∃k,xs=[.bl k]/\Q (.int (if k then 1 else 0)) H):=by
 intro Z s σ H xs us Q I r h;rcases h with⟨i,rfl,q⟩ | ⟨k,rfl,q⟩
 ·obtain⟨u,rfl,t,rfl⟩:=vals1 r;exact call_int_int ⟨.int i,H,I,⟨_,rfl⟩,q⟩
 ·obtain⟨u,rfl,r1⟩:=vals1 r;cases r1;exact call_int_bool ⟨.int (if k then 1 else 0),H,I.tok _,⟨_,rfl⟩,q⟩
def acq (K:Ab) (x:V) (H:Hp) (n:Nat):Prop:=
 match x with
 | .str y=>y.length<=sizeLine/\n=y.length
 | .YB y=>y.size<=sizeLine/\n=y.size
 | .ref p=>(∃xs,dc K H p xs/\n=xs.length)\/∃xs,d9 K H p xs/\n=xs.length
 | _=>False
theorem QJ:bW X (.builtin "len") (λxs H Q=>∃x n,xs=[x]/\acq X.K x H n/\Q (.int n) H):=by
 intro Z s σ H xs us Q I r h;obtain⟨x,n,rfl,e,q⟩:=h;obtain⟨u,rfl,rx⟩:=vals1 r;have hs:=sizeLine_eq;cases x with
 | str y=>
  obtain⟨t,rfl⟩:=rx;obtain⟨hy,e'⟩:y.length<=sizeLine/\n=y.length:=e;subst e';exact len_str ∅ ⟨.int _,H,I.tok _,⟨_,rfl⟩,q⟩
 | YB y=>
  obtain⟨t,rfl⟩:=rx;obtain⟨hy,e'⟩:y.size<=sizeLine/\n=y.size:=e;subst e';exact PySem.W.len_bytes ∅ ⟨.int _,H,I.tok _,⟨_,rfl⟩,q⟩
 | ref p=>
  cases rx;have e':=e;rcases e' with⟨xs,hx,e'⟩ | ⟨xs,hx,e'⟩
  ·subst e';obtain⟨au,r',pl,hz⟩:=I.list hx;have Á:=r'.length;exact Calls.call_len_list pl.isList (by simp only [Ai];omega) ⟨.int xs.length,H,I.tok _,⟨_,by simp only [Ai];rw [Á]⟩,q⟩
  ·subst e';obtain⟨au,r',pl,hz⟩:=I.tuple hx;have Á:=r'.length;exact len_tuple pl (by simp only [Ai];omega) ⟨.int xs.length,H,I.tok _,⟨_,by simp only [Ai];rw [Á]⟩,q⟩
 | _=>exact (show False from e).elim
end
end L2
variable {a:BV}{mA:BZ->Option Ba}
namespace L2
open PySem PySem.Spec PyProof.Rows
structure YN (h:nw) (x dx C:ci) (mA:Str->Option bv):Prop where
 obj:h.get? x=ap (E2 C dx)
 ns:h.Ns1 dx mA
 ne:dx≠x
def LZ {dx:ci} (n:h.Ns1 dx mA):∃od,h.get? dx=ap od/\∀name,Ff name od=ap (mA name):=by
 obtain⟨o,es,ep,ho,hd,hk,_,hm⟩:=n;refine⟨o,ho,λname=>?_⟩;have e:=hm name;unfold nsFind findBy at e;rw [<- Array.find?_toList] at e;unfold Ff;rw [hd];dsimp only
 split
 ·rename_i y q;rw [q] at e;exact congrArg ap e
 ·rename_i q;rw [q] at e;have a:es.toList.any (·.refKey)=false:=by
   rw [List.any_eq_false];intro y hy;obtain⟨z,t,afp⟩:=hk y (Array.mem_toList_iff.mp hy);simp [DictEntry.refKey,afp]
  have a':¬es.toList.any (·.refKey)=true:=by rw [a];exact AV
  rw [if_neg a'];exact congrArg ap e
def YN.look {x dx C:ci} (I:YN h x dx C mA):∃od,PySem.W.InstAt h x (E2 C dx) C (ap od)/\∀name,Ff name od=ap (mA name):=
 let ⟨od,ho,hl⟩:=LZ I.ns
 ⟨od,⟨I.obj,rfl,rfl,ho⟩,hl⟩
def uF.some_of {o:Option bv} (r:uF (ap v) o):∃u,o=ap u/\RelV v u:=by
 cases o with
 | none=>exact (show False from r).elim
 | some u=>exact⟨u,rfl,r⟩
section
variable {C dx:ci}{fs:List (Str×V)}
def Tq (bK:mz P w H h) (e:H a=ap (.ins C dx fs)):∃mA,YN h a dx C mA/\(∀f,uF (fs.lookup f) (mA f))/\PySem.Within mA (fs.map (·.1))/\fs.length<=1000/\H dx=ap (.own a):=by
 obtain⟨d,z,ne,ob,mA,n,r,q⟩:=(show bu P w H h a (.ins C dx fs) from bK a _ e);exact⟨mA,⟨ob,n,ne⟩,r,q,z,d⟩
end
structure Cls (K:Ab) (C:ci):Prop where
 pg:FO K C Str.empty=true
 hd:PySem.W.hasDictIn K C=true
 po:PySem.W.plainOver K C=true
 sa:PySem.W.findIn K (.ref C) "__setattr__"=ap (ap (.builtin "object.__setattr__"))
def Cls.get {K:Ab}{C:ci} (c:Cls K C) (f:Str):FO K C f=true:=c.pg
section
variable {c:bv}{b:Bool}
inductive mE (K:Ab) (H:Hp):V->bv->Prop where
 | aV:mE K H .aV (.type "NoneType")
 | bl (x:Bool):mE K H (.bl x) (.type "bool")
 | int (i:Int):mE K H (.int i) (.type "int")
 | str (x:Str):mE K H (.str x) (.type "str")
 | Ze (x:UInt64):mE K H (.Ze x) (.type "float")
 | lst {a:ci}{xs:List V} (e:H a=ap (.lst xs)):mE K H (.ref a) (.type "list")
 | cT {a:ci}{o:Obj}{xs:List V} (e:H a=ap (.cT o (.lst xs))):mE K H (.ref a) (.type "list")
 | tup {a:ci}{xs:List V} (e:H a=ap (.tup xs)):mE K H (.ref a) (.type "tuple")
 | dK {a:ci}{kvs:List (Key×V)} (e:H a=ap (.dK kvs)):mE K H (.ref a) (.type "dict")
 | dT {a:ci}{kvs:List (List Key×V)} (e:H a=ap (.dT kvs)):mE K H (.ref a) (.type "dict")
 | ins {a C dx:ci}{fs:List (Str×V)} (e:H a=ap (.ins C dx fs)) (cl:Cls K C) (ha:PySem.W.findIn K (.ref C) "__class__"=ap (ap (.builtin "object.__class__")))
   (hn:PySem.W.specialIn K (.builtin "object.__class__") "__get__"=ap (ap (.builtin "getset_descriptor.__get__"))) (htk:PySem.W.takesIn K (.builtin "object.__class__")=ap true)
   (hm:PySem.W.mroIn K C (.type "object")=ap true):mE K H (.ref a) (.ref C)
def L8 {x:V}{t:bv} (I:Inv X Z σ H s) (rx:RelV x u) (ty:mE X.K H x t) (e:BE X.K t c=ap b) (h:∀tk,Q (.bool b) {s with toks:=tk}) :
  db (dL X.prog X.w) A (call (.builtin "isinstance") [u,c]) Q E s:=by
 cases ty with
 | aV=>cases (show u=AX from rx);exact Bk PySem.W.kitx_none I.uW Cj e (λz=>nomatch z) h
 | bl y=>cases (show u=B9 y from rx);exact Bk PySem.W.kitx_bool I.uW Cj e (λz=>nomatch z) h
 | int i=>obtain⟨t,q⟩:=(show ∃t,u=D4 i t from rx);cases q;exact Bk PySem.W.kitx_int I.uW Cj e (λz=>nomatch z) h
 | str y=>obtain⟨t,q⟩:=(show ∃t,u=D3 y t from rx);cases q;exact Bk PySem.W.kitx_str I.uW Cj e (λz=>nomatch z) h
 | Ze y=>obtain⟨t,q⟩:=(show ∃t,u=Value.float y t from rx);cases q;exact Bk PySem.W.kitx_float I.uW Cj e (λz=>nomatch z) h
 | @lst a xs ea=>
  cases (show u=AD a from rx);obtain⟨_,_,n,_,h1⟩:=(show bu X.prog X.w H s.heap a (.lst xs) from I.bK a _ ea);exact Bk El I.uW ⟨_,h1,rfl⟩ e (λz=>nomatch z) h
 | @cT a ob xs ea=>
  cases (show u=AD a from rx);obtain⟨_,_,_,n,_,h1⟩:=(show bu X.prog X.w H s.heap a (.cT ob (.lst xs)) from I.bK a _ ea);exact Bk El I.uW ⟨_,h1,rfl⟩ e (λz=>nomatch z) h
 | @tup a xs ea=>
  cases (show u=AD a from rx);obtain⟨_,_,_,p⟩:=(show bu X.prog X.w H s.heap a (.tup xs) from I.bK a _ ea);obtain⟨o,h1,h2,_⟩:=p;exact Bk Fy I.uW ⟨o,h1,h2⟩ e (λz=>nomatch z) h
 | @dK a kvs ea=>
  cases (show u=AD a from rx);obtain⟨_,_,vs,_,p⟩:=(show bu X.prog X.w H s.heap a (.dK kvs) from I.bK a _ ea);obtain⟨o,es,ep,h1,h2,_⟩:=p;exact Bk Em I.uW ⟨o,h1,h2.1⟩ e (λz=>nomatch z) h
 | @dT a kvs ea=>
  cases (show u=AD a from rx);obtain⟨_,_,xs,_,o,es,ep,h1,h2,_⟩:=(show bu X.prog X.w H s.heap a (.dT kvs) from I.bK a _ ea);exact Bk Em I.uW ⟨o,h1,h2.1⟩ e (λz=>nomatch z) h
 | @ins a C dx fs ea cl ha hn htk hm=>
  cases (show u=AD a from rx);obtain⟨mA,O,_⟩:=Tq I.bK ea;obtain⟨od,J,_⟩:=O.look;exact Bk (PySem.W.kitx_own (cl.get _) cl.hd ha hn htk hm) I.uW J e (λz=>nomatch z) h
end
end L2
variable {v Ç pm cX ct oc:Ba}{vs:List L2.V}{mg:BZ->Option Ba}{base:FE}{fd:PySem.FuncData}{ps:List BZ}{Â:CB}{sc scope:PySem.Scope}{qual:BZ}{an od:Option BV}{Rf:Array (Option Ba)}
namespace L2
open PySem PySem.Spec PyProof.Rows
structure dg (k:Nat) (A:sn):Prop where
 hd:A.handled=bm
 dp:A.depth+3*k+5 < recursionLimit
 un:A.units+16*k+200 < nn
 gd:A.guards=ap []
theorem dg.mono {k:Nat} (r:dg k A) (h:j<=k):dg j A:=⟨r.hd,by have:=r.dp;omega,by have:=r.un;omega,r.gd⟩
theorem dg.deeper {k:Nat} (r:dg (k+1) A) (env:Env):dg k (A.deeper env):=
 ⟨r.hd,by have:=r.dp;show A.depth+1+3*k+5 < _;omega,by have:=r.un;show A.units+3+16*k+200 < _;omega,r.gd⟩
theorem dg.depth {k:Nat} (r:dg k A):A.depth < recursionLimit:=by have:=r.dp;omega
def ZO:TA:=λ_ H Q=>Q [] H
def UY (ta:TE) (tr:TA):TA:=λσ H Q=>ta σ H λx H1=>tr σ H1 λxs H2=>Q (x::xs) H2
section
variable {t:TA}
def cy:PA X [] ZO:=λ_ _ _ _ H Q I h=>CM ⟨[],H,I,.nil,h⟩
def bc (ha:PE X e te) (hr:PA X es t) (hs:gR X e es:=by rfl):PA X (e::es) (UY te t):=by
 intro pos Z s σ H Q I h;rw [hs];refine Cm (bE (ha Z s σ H _ I h) λu s1 ⟨x,H1,I1,r1,q1⟩=>?_);exact bE (hr pos Z s1 σ H1 _ I1 q1) λus s2 ⟨xs,H2,I2,r2,q2⟩=>⟨x::xs,H2,I2,.cons r1 r2,q2⟩
end
abbrev Sp:=List V->Hp->VK->XK->Prop
abbrev Nx:=List Env->Hp->cr->XK->bv->cr->Prop
structure UM (P:sK) (w:wn) (K:Ab) (mg:Str->Option bv) (base:nw) (A:sn) (outer:List Env) (s:cr) (H:Hp):Prop where
 frames:A.frames=ap outer
 mod:Mod K mg base
 bs:∀b o,base.get? b=ap o->s.heap.get? b=ap o/\H b=bm
 VN:base.objs.size<=s.heap.objs.size
 tU:s.heap.FunFrames base outer
 Zb:∀b∈Nt outer,H b=bm
 bK:mz P w H s.heap
 bare:Ge s.gens
def CE (outer:List Env) (P:sK) (w:wn) (H:Hp) (s:cr) (Q:VK) (u:bv) (s':cr):Prop:=
 ∃v H',s'.os=s.os/\Ge s'.gens/\Un (Nt outer) [] H H' s.heap s'.heap/\mz P w H' s'.heap/\RelV v u/\Q v H'
def CR (CX:Nx) (outer:List Env) (P:sK) (w:wn) (H:Hp) (s:cr) (Q:VK) (E:XK) (r:Result) (s':cr):Prop:=
 match r with
 | .ok (.ret u)=>CE outer P w H s Q u s'
 | .ok _=>False
 | .error e=>CX outer H s E e s'
structure fH (P:sK) (w:wn) (K:Ab) (mg:Str->Option bv) (base:nw) (CX:Nx) (k:Nat) (f:ci) (fd:EQ) (ps:List Str) (sp:Sp):Prop where
 len:∀vs H Q E,sp vs H Q E->vs.length=ps.length
 run:∀(A:sn) (outer:List Env) (s:cr) (H:Hp) (args:Args) (us:List bv) (vs:List V) (Q:VK) (E:XK),dg k A->UM P w K mg base A outer s H->BindsTo s fd args (ps.zip us)->Vals vs us->sp vs H Q E->
  FS (dL P w) A (.call (.ref f) args) (CR CX outer P w H s Q E) s
def fH.imp {K:Ab}{CX:Nx}{k:Nat}{f:ci}{sp sp':Sp} (F:fH P w K mg base CX k f fd ps sp)
  (h:∀vs H Q E,sp' vs H Q E->sp vs H Q E):fH P w K mg base CX k f fd ps sp':=
 ⟨λvs H Q E q=>F.len vs H Q E (h _ _ _ _ q),λA outer s H args us vs Q E hr he hb hv hs=>F.run A outer s H args us vs Q E hr he hb hv (h _ _ _ _ hs)⟩
section
def Inv.afX (I:Inv X Z σ H s):UM X.prog X.w X.K X.mg X.base X.A X.stack s H:=
 ⟨I.ok.frames,I.ok.mod,I.bs,A4 I.ok.VN I.sz,I.stack,I.JV,I.bK,I.bare⟩
def Inv.after {Q:VK} (I:Inv X Z σ H s) (h:CE X.stack X.prog X.w H s Q u s'):EP X Z σ Q u s':=by
 obtain⟨v,H',os,bare,un,bK,r,q⟩:=h;obtain⟨hh,g,d,t,os'⟩:=s';obtain rfl:os'=s.os:=os;exact⟨v,H',I.call (h':=hh) (g':=g) (d':=d) (t':=t) (ch:=[]) un bK bare (λb z=>absurd z (by simp)),r,q⟩
end
def Binds (K:Ab) (fd:EQ) (ps:List Str) (ds:List bv):Prop:=
 ∀(s:cr) (us:List bv),K.In s.heap->(us++ds).length=ps.length->BindsTo s fd ⟨us,[]⟩ (ps.zip (us++ds))
def Binds.all {K:Ab} (h:∀us:List bv,us.length=ps.length->bindArgs fd ⟨us,[]⟩=pure (ps.zip us)):Binds K fd ps []:=λs us _ hl=>by
 rw [C5] at hl ⊢;exact .of_eq (h us hl)
def Passes (CX:Nx) (X:Cx) (E:XK):Prop:=∀(Z:List (ci×Obj)) (σ:St) (H:Hp) (s:cr) (e:bv) (s':cr),Inv X Z σ H s->CX X.stack H s E e s'->X.xe e s'
section
variable {CX:Nx}{k:Nat}{f:ci}{sp:Sp}{dvs:List V}{ds:List bv}{E:XK}
def N9 {Q:VK} (F:fH X.prog X.w X.K X.mg X.base CX k f fd ps sp) (hr:dg k X.A) (hb:Binds X.K fd ps ds) (hd:Vals dvs ds) (hx:Passes CX X E)
  (I:Inv X Z σ H s) (r:Vals vs us) (h:sp (vs++dvs) H Q E):db (dL X.prog X.w) X.A (call (.ref f) us) (EP X Z σ Q) X.xe s:=by
 have r2:Vals (vs++dvs) (us++ds):=r.append hd;have hl:(us++ds).length=ps.length:=by rw [<- r2.length];exact F.len _ _ _ _ h
 refine wpAny_call (codeAny_mono (F.run X.A X.stack s H ⟨us,[]⟩ (us++ds) (vs++dvs) Q E hr I.afX (hb s us I.uW hl) r2 h) λr s' hq=>?_);cases r with
 | error e=>exact hx Z σ H s e s' I hq
 | ok fl=>
  cases fl with
  | ret u=>exact I.after hq
  | next=>exact Bs hq
  | brk=>exact Bs hq
  | cont=>exact Bs hq
end
structure aq (N P:List Str) (sc:lm):Prop where
 kind:sc.kind=.function
 co:sc.isCoroutine=false
 gen:sc.isGenerator=false
 nd:N.Nodup
 pre:N.take P.length=P
 par:∀x∈P,sc.names.lookup x=ap .local\/sc.names.lookup x=ap .cell
 Xi:∀y∈sc.names,y.2≠.free
theorem wz {kindOf:Str->Option zn}:∀{binds:List (Str×bv)}{m:Str->Option bv},(∀v,(x,v)∉binds)->bindL kindOf binds m x=m x
 | [],_,_=>rfl
 | (n,v)::r,m,h=>by
  unfold bindL;rw [wz λw hw=>h w (AW _ hw)]
  split
  ·have:x≠n:=by rintro rfl;exact h v BF
   simp [this]
  ·rfl
theorem wB {kindOf:Str->Option zn}:∀{binds:List (Str×bv)}{m:Str->Option bv},(∀v,(x,v)∉binds)->bindC kindOf binds m x=m x
 | [],_,_=>rfl
 | (n,v)::r,m,h=>by
  unfold bindC;rw [wB λw hw=>h w (AW _ hw)]
  split
  ·rfl
  ·have:x≠n:=by rintro rfl;exact h v BF
   simp [this]
theorem wA {kindOf:Str->Option zn}:∀{P:List Str}{vs:List bv}{i:Nat}{m:Str->Option bv},P.Nodup->P[i]?=ap x->vs[i]?=ap v->kindOf x=ap .local->
  bindL kindOf (P.zip vs) m x=ap v
 | [],_,_,_,_,h,_,_=>by simp at h
 | _::_,[],_,_,_,_,h,_=>by simp at h
 | p::P,w::vs,0,m,nd,h1,h2,hk=>by
  simp at h1 h2;subst h1;subst h2;show bindL kindOf ((p,w)::P.zip vs) m p=_;unfold bindL;rw [wz λv hv=>(DS.mp nd).1 (E7 hv).1,if_pos hk];simp
 | p::P,w::vs,i+1,m,nd,h1,h2,hk=>by
  show bindL kindOf ((p,w)::P.zip vs) m x=_;unfold bindL;exact wA (i:=i) (DS.mp nd).2 (by simpa using h1) (by simpa using h2) hk
theorem wC {kindOf:Str->Option zn}:∀{P:List Str}{vs:List bv}{i:Nat}{m:Str->Option bv},P.Nodup->P[i]?=ap x->vs[i]?=ap v->kindOf x≠ap .local->
  bindC kindOf (P.zip vs) m x=ap v
 | [],_,_,_,_,h,_,_=>by simp at h
 | _::_,[],_,_,_,_,h,_=>by simp at h
 | p::P,w::vs,0,m,nd,h1,h2,hk=>by
  simp at h1 h2;subst h1;subst h2;show bindC kindOf ((p,w)::P.zip vs) m p=_;unfold bindC;rw [wB λv hv=>(DS.mp nd).1 (E7 hv).1,if_neg hk];simp
 | p::P,w::vs,i+1,m,nd,h1,h2,hk=>by
  show bindC kindOf ((p,w)::P.zip vs) m x=_;unfold bindC;exact wC (i:=i) (DS.mp nd).2 (by simpa using h1) (by simpa using h2) hk
def start (N:List Str) (vs:List V):St:=vs.map ap++Am (N.length-vs.length) bm
def jG (CX:Nx) (P:sK) (w:wn) (K:Ab) (mg:Str->Option bv) (base:nw) (N:List Str) (qual:Str) (scope:lm) (f:ci) (cd:bv) (A:sn) (outer:List Env) (s:cr) (H:Hp) (E:XK):Cx where
 prog:=P
 w:=w
 K:=K
 mg:=mg
 base:=base
 A:=A.deeper (sB qual scope s.heap.objs.size f cd)
 N:=N
 s₀:=s
 H₀:=H
 env:=sB qual scope s.heap.objs.size f cd
 outer:=outer
 stack:=sB qual scope s.heap.objs.size f cd::outer
 ex:=[]
 calm:=true
 fn:=λ_=>true
 pn:=[]
 xe:=λe s'=>db (dL P w) (A.deeper (sB qual scope s.heap.objs.size f cd)) (leaving (sB qual scope s.heap.objs.size f cd) e) (λ_ á=>CX outer H s E e á) (λe' á=>CX outer H s E e' á) s'
def GS (h:sc.names.lookup x=ap .cell):∃c,(cellsFrom n sc.names []).lookup x=ap c:=by
 have q:=EN sc.names n [] (.inl h);exact Option.isSome_iff_exists.mp q
theorem Ma {CX:Nx}{K:Ab}{N:List Str}{f:ci}{cd:bv}{outer:List Env}{s1:cr}{E:XK}
  (S:aq N ps scope) (hd:A.handled=bm) (e0:UM P w K mg base A outer s H) (hl:vs.length=ps.length) (r:Vals vs us)
  (x:InCallC s s.heap.objs.size (bindL (sB qual scope s.heap.objs.size f cd).kindOf (ps.zip us) λ_=>bm) (cellsFrom (s.heap.objs.size+1) scope.names []) (bindC (sB qual scope s.heap.objs.size f cd).kindOf (ps.zip us) λ_=>bm) s1) :
  Inv (jG CX P w K mg base N qual scope f cd A outer s H E) [] (start N vs) H s1:=by
 have dI:ps.length<=N.length:=by have:=congrArg B2 S.pre;rw [Cg] at this;omega
 obtain⟨h1,tk,rfl,hk⟩:=x.done;have è:∀b:ci,b∉(jG CX P w K mg base N qual scope f cd A outer s H E).ex:=λb z=>absurd (show b∈([]:List ci) from z) (by simp);refine⟨⟨e0.mod,S.kind,rfl,rfl,Ao _,λy z c h1 h2=>?_,λy hy=>?_,λy c _ h=>?_,λ_=>hd,Around.frames_deeper e0.frames,.inr ⟨rfl,rfl⟩,λb z=>absurd z (è b),e0.bs,e0.VN,λb _ _=>è b,λb z=>absurd z (è b),e0.tU,e0.Zb⟩,
  rfl,e0.bare,Un.kept hk,⟨_,x.toInCall.ns,λi y v h1 h2 h3=>?_⟩,λy c h=>⟨_,x.cell y c h⟩,e0.bK.fresh (Ao _),λy c h=>?_,λp hp=>absurd (show p∈([]:List (ci×Obj)) from hp) (by simp),e0.bK.kept hk,?_⟩
 ·exact name_of_addr x.apart (BX h1) (BX h2)
 ·rcases hy with hy | hy
  ·exact GS hy
  ·exact absurd rfl (S.Xi _ (BX hy))
 ·exact D2 (x.above y c (BX h))
 ·have hi:i < vs.length:=by
   unfold start at h2;by_cases hi:i < vs.length
   ·exact hi
   ·rw [AI (by simpa using hi)] at h2;rw [BD] at h2
    split at h2 <;> cases h2
  have ha:vs[i]?=ap v:=by
   unfold start at h2;rw [AE (by simpa using hi),Ae] at h2;cases e:vs[i]? with
   | none=>rw [e] at h2;cases h2
   | some a=>rw [e] at h2;cases h2;rfl
  obtain⟨u,hu,rv⟩:=r.get ha;have hp:ps[i]?=ap y:=by
   rw [<- S.pre,List.getElem?_take_of_lt ∅];exact h1
  have ndP:ps.Nodup:=by rw [<- S.pre];exact S.nd.sublist (List.take_sublist _ _)
  refine⟨u,rv,?_⟩;rcases S.par y (A7 hp) with k | k
  ·exact .inl ⟨k,wA ndP hp hu k⟩
  ·obtain⟨c,e⟩:=GS (n:=s.heap.objs.size+1) k;refine .inr ⟨.inl k,c,e,?_⟩;have q:=x.cell y c e;rw [wC ndP hp hu (by show scope.names.lookup y≠_;rw [k];decide)] at q;exact q
 ·exact e0.bK.fresh (D2 (x.above y c (BX h)))
 ·unfold start;show _=N.length;rw [Af,Ag,Bf];omega
def abL {CX:Nx}{K:Ab}{k:Nat}{f:ci}{name:Str}{params:Arguments}{dV kV:bv}{N:List Str}{sp:Sp} (lk:K.lookup f=ap ⟨oc,od,.func (B6 name qual params body scope dV kV Ç pm an cX ct),Rf⟩) (iY:D5 K cX qual=true) (S:aq N ps scope)
  (len:∀vs H Q E,sp vs H Q E->vs.length=ps.length)
  (PJ:∀(A:sn) (outer:List Env) (s:cr) (H:Hp) (vs:List V) (Q:VK) (E:XK),dg k (A.deeper (sB qual scope s.heap.objs.size f cX))->sp vs H Q E->
   ∃t,rN (jG CX P w K mg base N qual scope f cX A outer s H E) body t/\t {nx:=λ_ H'=>Q .aV H',rt:=Q} (start N vs) H) :
  fH P w K mg base CX (k+1) f (B6 name qual params body scope dV kV Ç pm an cX ct) ps sp:=by
 refine⟨len,λA outer s H args us vs Q E hr e0 hb r TC=>?_⟩;have hl:=len _ _ _ _ TC;have KX:K.In s.heap:=e0.mod.kin.keeps λb o e=>(e0.bs b o e).1;have lim:s.heap.NoLimit:=e0.mod.nolimit.keeps λb o e=>(e0.bs b o e).1;have abp:∀y∈ps.zip us,scope.names.lookup y.1=ap .local\/(scope.names.lookup y.1=ap .cell/\((cellsFrom (s.heap.objs.size+1) scope.names []).lookup y.1).isSome=true):=λ⟨n,v⟩ hy=>by
  rcases S.par n (E7 hy).1 with q | q
  ·exact .inl q
  ·exact .inr ⟨q,EN _ _ _ (.inl q)⟩
 refine codeAny_call_function hr.depth (KX _ _ lk) rfl S.co S.gen rfl (PySem.W.codeRec_of KX iY) (hb _ _ _ _ ?_);refine wpAny_newFunctionEnv_cells S.kind abp λenv he s1 x=>?_;subst he;refine⟨lim.keeps x.toInCall.keep,codeAny_func ?_⟩;obtain⟨t,ht,hq⟩:=PJ A outer s H vs Q E (hr.deeper _) TC;have I:Inv (jG CX P w K mg base N qual scope f cX A outer s H E) [] (start N vs) H s1:=Ma S hr.hd e0 hl r x;refine BW (ht [] s1 (start N vs) H _ I hq) (λfl s' hs=>?_) λe s' hs=>hs;have fin:∀{σ':St}{H':Hp}{v:V}{u:bv},Inv (jG CX P w K mg base N qual scope f cX A outer s H E) [] σ' H' s'->RelV v u->Q v H'->CE outer P w H s Q u s':=
  λ{σ' H' v u} J rv q=>⟨v,H',J.os,J.bare,J.base,J.bK,rv,q⟩
 cases fl with
 | ret u=>
  obtain⟨v,σ',H',J,rv,q⟩:=hs;exact fin J rv q
 | next=>
  obtain⟨σ',H',J,q⟩:=hs;exact fin (v:=V.aV) (u:=AX) J rfl q
 | brk=>
  obtain⟨_,_,_,q⟩:=hs;exact Bs q
 | cont=>
  obtain⟨_,_,_,q⟩:=hs;exact Bs q
end L2
variable {T:String}
namespace L2
open PySem PySem.Spec PyProof.Rows
section
variable {t:TA}{id:String}{r:List V->Hp->VK->Prop}
def tCB (r:List V->Hp->VK->Prop) (t:TA):TE:=λσ H Q=>t σ H λvs H1=>r vs H1 Q
def eT (hc:bW X (.builtin id) r) (hg:Gl X x) (hm:X.mg x=bm) (hv:mo x=ap (.builtin id)) (ha:PA X (e::es) t) (hn:x≠"__name__":=by decide) (oq:jh x:=by decide)
  (he:gR X e es:=by rfl) (dI:kL X pos es:=by rfl):PE X (.Call (.Name x p) (e::es) [] pos) (tCB r t):=by
 intro Z s σ H Q I h;refine BR (j5 I hg hm hv ?_ hn oq);exact PyProof.Rows.callWith_builtin1 (bE (ha pos Z s σ H _ I h) λus s1 ⟨vs,H1,I1,r1,q1⟩=>hc Z s1 σ H1 vs us Q I1 r1 q1) he dI
def lW (hc:bW X (.type T) r) (hg:Gl X x) (hm:X.mg x=bm) (hv:mo x=ap (.type T)) (ha:PA X (e::es) t) (hn:x≠"__name__":=by decide) (oq:jh x:=by decide)
  (he:gR X e es:=by rfl) (dI:kL X pos es:=by rfl):PE X (.Call (.Name x p) (e::es) [] pos) (tCB r t):=by
 intro Z s σ H Q I h;refine BR (j5 I hg hm hv ?_ hn oq);exact Bo (bE (ha pos Z s σ H _ I h) λus s1 ⟨vs,H1,I1,r1,q1⟩=>hc Z s1 σ H1 vs us Q I1 r1 q1) he dI
end
end L2
variable {hi:Option Int}{prog:PySem.Program}{l:BV}{items:Array Ba}{ns ms:List Int}{vl vu:Ba}
namespace HT
open PySem PyProof.Rows
def lexLt:List Int->List Int->Bool
 | [],[]=>false
 | [],_::_=>true
 | _::_,[]=>false
 | x::xs,y::ys=>if x=y then lexLt xs ys else decide (x < y)
theorem H0 (x y:Int) (xs ys:List Int):lexLt (x::xs) (y::ys)=if x=y then lexLt xs ys else decide (x < y):=rfl
def Qi (A:sn) (s:cr) (a:Int) (t:Tok) (c:Int) (u:Tok):∃e,Dp A s (.int a t) (.int c u) e/\(e=true↔a=c):=
 ⟨(a==c),D7 a t c u,by simp⟩
def Od (A:sn) (s:cr) (a:Int) (t:Tok) (c:Int) (u:Tok) (prog:sK) (w:wn) (E:bv->cr->Prop) (Q:bv->cr->Prop) (h:Q (.bool (decide (a < c))) s) :
  db (dL prog w) A (richCompare .Lt (.int a t) (.int c u)) Q E s:=
 (PyProof.Rows.lt_int h:db (dL prog w) A (im .Lt (.int a t) (.int c u)) Q E s)
section
open PySem.SeqAt
open PySem.AutoSeq1 (wpAny_loadPart')
open PySem.MeetsSeq PySem.MeetsSeq2 PySem.MeetsSeq3
theorem uN (l b:ci) (items cz:Array bv) (n n2:Nat) (dd Up:Option ci) (sl Rc:Array (Option bv)) (ns ms:List Int) (hi:ww items.toList ns) (hj:ww cz.toList ms) :
  Meets (BT.«tuple.__lt__» ⟨[.ref l,.ref b],[]⟩)
   (λ_ R s=>s.heap.get? l=ap {cls:=.type "tuple",dict:=dd,data:=.seq items n,slots:=sl}/\s.heap.get? b=ap {cls:=.type "tuple",dict:=Up,data:=.seq cz n2,slots:=Rc}/\
    R (.ok (.ret (.bool (lexLt ns ms)))) s):=
 .of_wp λprog w A R s h=>by
  obtain⟨hp,g,d,tk,os⟩:=s;obtain⟨hl,hb,h⟩:=h;have f2:=AutoSeq1.sub_tuple_tuple;have z1:items.size=ns.length:=by rw [<- hi.length];simp
  have z2:cz.size=ms.length:=by rw [<- hj.length];simp
  wp_walk using wpAny_loadPart' hl,wpAny_loadPart' hb,wpAny_forIn_list _ (λrest b s'=>b.1=bm/\s'=⟨hp,g,d,tk,os⟩/\∃(vs ws:List bv) (Km Y1:List Int),rest=vs.zip ws/\
   ww vs Km/\ww ws Y1/\Km.length+cz.size=Y1.length+items.size/\R (.ok (.ret (.bool (lexLt Km Y1)))) ⟨hp,g,d,tk,os⟩) _
  case turn=>
   rintro⟨y,x⟩ rest b s' ⟨Ď,rfl,vs,ws,Km,Y1,hz,hvi,hwi,Á,hR⟩;cases hvi with
   | nil=>rw [List.zip_nil_left] at hz;cases hz
   | cons a t ae1=>
    cases hwi with
    | nil=>rw [List.zip_nil_right] at hz;cases hz
    | cons c u ae0=>
     rw [List.zip_cons_cons] at hz;injection hz with hyx abj;injection hyx with hy hx;subst hy hx;rw [H0] at hR;simp only [Ap] at Á;obtain⟨e,he,abt⟩:=Qi A.in1 ⟨hp,g,d,tk,os⟩ a t c u;refine Aa (he prog w _ _ ?_);cases e with
     | true=>
      rw [if_pos (abt.mp rfl)] at hR
      wp_walk
      exact⟨rfl,rfl,_,_,_,_,abj,ae1,ae0,by omega,hR⟩
     | false=>
      rw [if_neg (λq=>absurd (abt.mpr q) AV)] at hR;have hri:=Od A.in1 ⟨hp,g,d,tk,os⟩ a t c u prog w
      wp_walk using hri
      exact⟨_,rfl,by simpa using hR⟩
  case fin=>
   rintro⟨b1,b2⟩ s' ⟨Ď,rfl,vs,ws,Km,Y1,hz,hvi,hwi,Á,hR⟩;simp only at Ď;subst Ď;have hv:lexLt Km Y1=decide (items.size < cz.size):=by
    cases hvi with
    | nil=>
     cases hwi with
     | nil=>
      exact (decide_eq_false ∅).symm
     | cons c u hw=>
      simp only [Bx,Ap] at Á;exact (decide_eq_true ∅).symm
    | cons a t hv=>
     cases hwi with
     | nil=>
      simp only [Bx,Ap] at Á;exact (decide_eq_false ∅).symm
     | cons c u hw=>
      rw [List.zip_cons_cons] at hz;cases hz
   rw [hv] at hR
   wp_walk
   exact⟨_,rfl,by simpa [Builtin.Tuple.tupleCompareSizes] using hR⟩
  case h=>
   exact⟨rfl,rfl,items.toList,cz.toList,ns,ms,rfl,hi,hj,by omega,h⟩
end
section
def HX {cz:Array bv} (hl:IsTup s.heap l items) (hb:IsTup s.heap b cz) (hi:ww items.toList ns) (hj:ww cz.toList ms)
  (hu:A.units < nn) (h:Q (.bool (lexLt ns ms)) s):db (dL prog w) A (im .Lt (.ref l) (.ref b)) Q E s:=by
 obtain⟨⟨cls,dd,data,sl⟩,ho,hc,n,hd⟩:=id hl;obtain⟨⟨YA,Up,data2,Rc⟩,Me,PF,n2,Í⟩:=id hb;simp only at hc hd PF Í;subst hc hd PF Í;exact richCompare_meets_room (op:=.Lt) ⟨_,ho,rfl⟩ ⟨_,Me,rfl⟩ PySem.F.slot_tuple_lt PySem.F.entry_tuple_lt (PySem.F.args_tuple_lt_2 _ _) (uN l b items cz n n2 dd Up sl Rc ns ms hi hj)
  ⟨ho,Me,show B9 (lexLt ns ms)≠Value.notImplemented/\Q (.bool (lexLt ns ms)) s from⟨(λx=>nomatch x),h⟩⟩ hu
def Us {t:ci}{vs ws:List bv} (ht:IsTup s.heap t vs.toArray) (hb:IsTup s.heap b ws.toArray) (hv:vs≠[])
  (h1:ws=[]->Q (.ref t) s) (h2:ws≠[]->Q (.ref s.heap.objs.size) {s with heap:=s.heap.push {cls:=.type "tuple",data:=.seq (vs++ws).toArray}})
  (hsz:vs.length+ws.length<=sizeLine):db (dL prog w) A (ss .Add (.ref t) (.ref b)) Q E s:=by
 obtain⟨⟨cls,dd,data,sl⟩,ho,hc,n,hd⟩:=id ht;obtain⟨⟨YA,Up,data2,Rc⟩,Me,PF,n2,Í⟩:=id hb;simp only at hc hd PF Í;subst hc hd PF Í;have e:vs.toArray++ws.toArray=(vs++ws).toArray:=by simp
 by_cases hw:ws=[]
 ·exact concat_meets ⟨_,ho,rfl⟩ ⟨_,Me,rfl⟩ noFill_tuple_add seq_tuple_add Df C9 (C1 _ _)
   (tuple_addW1 t b vs.toArray ws.toArray n n2 dd Up sl Rc (by simpa using hv) (by simp [hw])) ⟨ho,Me,h1 hw⟩
 ·refine concat_meets ⟨_,ho,rfl⟩ ⟨_,Me,rfl⟩ noFill_tuple_add seq_tuple_add Df C9 (C1 _ _)
   (tuple_addW2 t b vs.toArray ws.toArray n n2 dd Up sl Rc (by simpa using hv) (by simpa using hw) (by rw [Ai,Ai];exact hsz)) ⟨ho,Me,?_⟩
  rw [e];exact h2 hw
def d6 (n d:Nat):Option Int->Nat
 | none=>d
 | some v=>if v < 0 then (v+(n:Int)).toNat else min v.toNat n
theorem zB (n d:Nat):d6 n d bm=d:=rfl
theorem RX (n d k:Nat):d6 n d (ap (k:Int))=min k n:=by
 show (if (k:Int) < 0 then ((k:Int)+(n:Int)).toNat else min (k:Int).toNat n)=min k n;rw [if_neg ∅,A2]
theorem La (v:Int) (n d:Nat):(if v < 0 then max (v+(n:Int)) 0 else min v (n:Int))=((d6 n d (ap v):Nat):Int):=by
 show (if v < 0 then max (v+(n:Int)) 0 else min v (n:Int))=(((if v < 0 then (v+(n:Int)).toNat else min v.toNat n):Nat):Int);by_cases hv:v < 0
 ·simp only [if_pos hv];omega
 ·simp only [if_neg hv];omega
theorem Js (lo hi:Option Int) (n:Nat):Builtin.Slice.sliceAdjust lo hi 1 (n:Int)=(((d6 n 0 lo:Nat):Int),((d6 n n hi:Nat):Int)):=by
 have h1:¬((1:Int) < 0):=by omega
 unfold Builtin.Slice.sliceAdjust;refine Prod.ext ?_ ?_
 ·cases lo with
  | none=>rfl
  | some v=>exact La v n 0
 ·cases hi with
  | none=>rfl
  | some v=>exact La v n n
theorem HC (i j:Nat):Builtin.Slice.slicePlaces (i:Int) (j:Int) 1=j-i:=by
 unfold Builtin.Slice.slicePlaces;have h1:(1:Int) > 0:=by omega
 split <;> omega
def sj {o:Option Int}{Q:Option Int->cr->Prop} (p:IsPart v o) (h:Q o s):db (dL prog w) A (Builtin.Slice.slicePartIndex v) Q E s:=by
 cases p with
 | none=>exact slicePart_none h
 | int i t=>exact slicePart_int h
def jn {sl:ci}{lo:Option Int}{Q:Int×Int×Nat->cr->Prop} (hs:s.heap.IsSliceOf sl vl vu .none) (pl:IsPart vl lo) (pu:IsPart vu hi)
  (h:Q (((d6 n 0 lo:Nat):Int),1,d6 n n hi-d6 n 0 lo) s):db (dL prog w) A (Builtin.Slice.sliceApplied (.ref sl) (pure (n:Int))) Q E s:=by
 obtain⟨os,Gg,Py,KO⟩:=id hs;refine Aa (Aa (A6 Gg KO (x:=vl) rfl (Aa (A6 Gg KO (x:=vu) rfl (Aa (A6 Gg KO (x:=.none) rfl (Ah ?_)))))));refine Aa (slicePart_none ?_);refine Aa (sj pl (Aa (sj pu (Aa (Ah ?_)))));show db _ _ (match Builtin.Slice.sliceAdjust lo hi 1 (n:Int) with | (lo,hi)=>pure (lo,(1:Int),Builtin.Slice.slicePlaces lo hi 1)) _ _ s;rw [Js lo hi n];show db _ _ (pure (((d6 n 0 lo:Nat):Int),(1:Int),Builtin.Slice.slicePlaces ((d6 n 0 lo:Nat):Int) ((d6 n n hi:Nat):Int) 1)) _ _ s;rw [HC];exact Ah h
theorem Ow (xs:Array bv) (i k:Nat):((Ax k).filterMap λ(m:Nat)=>xs[((i:Int)+(m:Int)*1).toNat]?).toArray=((xs.toList.drop i).take k).toArray:=by
 have e:(λ(m:Nat)=>xs[((i:Int)+(m:Int)*1).toNat]?)=λm=>xs[i+m]?:=by
  funext m;have:((i:Int)+(m:Int)*1).toNat=i+m:=by omega
  rw [this]
 rw [e];have:=pick_run xs i k;rw [List.filterMap_map] at this;have e2:((λx=>xs[x]?)∘λx=>i+x)=λm=>xs[i+m]?:=rfl;rw [e2] at this;rw [this]
theorem ou {t sl:ci}{lo:Option Int} (ht:IsTup s.heap t items) (hs:s.heap.IsSliceOf sl vl vu .none) (pl:IsPart vl lo) (pu:IsPart vu hi)
  (hw:¬(d6 items.size 0 lo=0/\d6 items.size items.size hi=items.size))
  (h:Q (.ref s.heap.objs.size) {s with heap:=s.heap.push {cls:=.type "tuple",data:=.seq ((items.toList.drop (d6 items.size 0 lo)).take (d6 items.size items.size hi-d6 items.size 0 lo)).toArray}})
  (hsz:items.size<=sizeLine):db (dL prog w) A (Fk (.ref t) (.ref sl)) Q E s:=by
 have KI:sizeOk (.seq ((items.toList.drop (d6 items.size 0 lo)).take (d6 items.size items.size hi-d6 items.size 0 lo)).toArray):=by
  show ((items.toList.drop (d6 items.size 0 lo)).take (d6 items.size items.size hi-d6 items.size 0 lo)).toArray.size<=sizeLine;rw [Ai,Cg,Dv,DV];omega
 obtain⟨os,Gg,Py,KO⟩:=id hs;have Za:s.TypeIs (.ref sl) "slice":=⟨os,Gg,Py⟩;unfold Fk
 try with_reducible refine Bi ?_
 first | refine Aa (Ah ?_) | skip
 refine Aa (Eo ht.typeIs ⋯ ?_);refine Aa (AZ (name:=Cs "__getitem__") ht.typeIs Bp
  (Bl Bp ht.typeIs entry_tuple_getitem ?_ (args_tuple_getitem _ _)))
 show db _ _ (Builtin.Tuple.tupleItemsOf (.ref t) >>= _) _ _ s;refine Aa (tupleItemsOf_ ht ?_);refine Aa (Ct Za ?_);refine Aa (jn hs pl pu ?_);have hno:¬((((d6 items.size 0 lo:Nat):Int)==0&&(1:Int)==1&&(d6 items.size items.size hi-d6 items.size 0 lo)==items.size)=true):=by
  intro q;rw [AO,AO] at q;have q1:=eq_of_beq q.1.1;have q2:=eq_of_beq q.2;exact hw ⟨by omega,by omega⟩
 show db _ _ (if (((d6 items.size 0 lo:Nat):Int)==0&&(1:Int)==1&&(d6 items.size items.size hi-d6 items.size 0 lo)==items.size)=true then _ else _) _ _ s;rw [if_neg hno,Ow]
 first
  | exact Aa (m:=Builtin.Tuple.tupleExact _) (Bm (Ah ⟨_,rfl,Ah h⟩) KI)
  | exact Aa (m:=Builtin.Tuple.tupleExact _) (Bm (Aa (Ah (Ah ⟨_,rfl,Ah h⟩))) KI)
  | exact Aa (Aa (m:=Builtin.Tuple.tupleExact _) (Bm (Ah (Ah ⟨_,rfl,Ah h⟩)) KI))
  | exact Aa (Aa (m:=Builtin.Tuple.tupleExact _) (Bm (Ah ⟨_,rfl,Ah h⟩) KI))
end
end HT
variable {p2:CB}
namespace L2
open PySem PySem.Spec PyProof.Rows
abbrev TO:=St->Hp->(Option Int->Hp->Prop)->Prop
def PO (X:Cx) (e:Option ga) (t:TO):Prop:=
 ∀(Z:List (ci×Obj)) (s:cr) (σ:St) (H:Hp) (Q:Option Int->Hp->Prop),Inv X Z σ H s->t σ H Q->
  db (dL X.prog X.w) X.A (evalPart e X.env) (λu s'=>∃o H',Inv X Z σ H' s'/\IsPart u o/\Q o H') X.xe s
def RH:TO:=λ_ H Q=>Q bm H
def ZM (t:TE):TO:=λσ H Q=>t σ H λx H1=>∃i,x=.int i/\Q (ap i) H1
def intsAre_of:∀{us:List bv},Vals (ns.map V.int) us->ww us ns:=by
 induction ns with
 | nil=>intro us r;rw [Dl] at r;cases r;exact .nil
 | cons n ns ih=>
  intro us r;rw [Az] at r;cases r with
  | cons r1 r2=>
   obtain⟨t,e⟩:=r1;subst e;exact .cons n t (ih r2)
section
variable {lo hi:Option ga}{tl th:TO}
def Sj:PO X bm RH:=by
 intro Z s σ H Q I h;exact Ah ⟨bm,H,I,.none,h⟩
def Si (h:PE X e te):PO X (ap e) (ZM te):=by
 intro Z s σ H Q I hw;refine bE (h Z s σ H _ I hw) λu s1 ⟨x,H1,I1,r1,q1⟩=>?_;obtain⟨i,rfl,q⟩:=q1;obtain⟨t,rfl⟩:=r1;exact⟨ap i,H1,I1,.int i t,q⟩
def SlR (X:Cx) (r:V->Option Int->Option Int->Hp->VK->Prop):Prop:=
 ∀(Z:List (ci×Obj)) (s:cr) (σ:St) (H:Hp) (x:V) (v vl vu:bv) (lo hi:Option Int) (sl:ci) (Q:VK),Inv X Z σ H s->RelV x v->s.heap.IsSliceOf sl vl vu .none->IsPart vl lo->IsPart vu hi->r x lo hi H Q->
  ∃T id,FB (.type T) "__getitem__"=pure (ap (.builtin id))/\s.TypeIs v T/\db (dL X.prog X.w) X.A (Fk v (.ref sl)) (EP X Z σ Q) X.xe s
def tSl (r:V->Option Int->Option Int->Hp->VK->Prop) (te:TE) (tl th:TO):TE:=λσ H Q=>te σ H λx H1=>tl σ H1 λl H2=>th σ H2 λu H3=>r x l u H3 Q
def zN {r:V->Option Int->Option Int->Hp->VK->Prop} (hr:SlR X r) (he:PE X e te) (hl:PO X lo tl) (hu:PO X hi th):PE X (.Subscript e (.Slice lo hi bm p2) pos) (tSl r te tl th):=by
 intro Z s σ H Q I h;refine Subscript_ (bE (he Z s σ H _ I h) λv s1 ⟨x,H1,I1,r1,q1⟩=>?_);refine wpAny_Slice (bE (hl Z s1 σ H1 _ I1 q1) λvl s2 ⟨l,H2,I2,pl,q2⟩=>bE (hu Z s2 σ H2 _ I2 q2) λvu s3 ⟨u,H3,I3,pu,q3⟩=>?_);rw [evalPart_none];refine Ah ?_;have I4:Inv X Z σ H3 {s3 with heap:=s3.heap.push {cls:=.type "slice",data:=.fields #[vl,vu,.none]}}:=I3.kept (t':=s3.toks) λb ob q=>Aj _ q;obtain⟨T,id,hT,ht,hg⟩:=hr Z {s3 with heap:=s3.heap.push {cls:=.type "slice",data:=.fields #[vl,vu,.none]}} σ H3 x v vl vu l u s3.heap.objs.size Q I4 r1 (Heap.IsSliceOf.new ..) pl pu q3;show db (dL X.prog X.w) X.A (subscriptTail e (.Slice lo hi bm p2) v (.ref s3.heap.objs.size)) (EP X Z σ Q) X.xe {s3 with heap:=s3.heap.push {cls:=.type "slice",data:=.fields #[vl,vu,.none]}};exact tail_any (ops:=[.ref s3.heap.objs.size,v]) ht hT hg (by with_unfolding_all rfl)
def yC (xs:List V) (lo hi:Option Int):List V:=(xs.drop (HT.d6 xs.length 0 lo)).take (HT.d6 xs.length xs.length hi-HT.d6 xs.length 0 lo)
theorem qo (xs:List V) (lo hi:Option Int):(yC xs lo hi).length<=xs.length:=by
 unfold yC;rw [Cg,Dv];omega
def aeo (K:Ab):V->Option Int->Option Int->Hp->VK->Prop:=λx lo hi H Q=>∃a xs,x=.ref a/\d9 K H a xs/\
 ¬(HT.d6 xs.length 0 lo=0/\HT.d6 xs.length xs.length hi=xs.length)/\∀p,H p=bm->Q (.ref p) (upd H p (.tup (yC xs lo hi)))
def Wm:SlR X (aeo X.K):=by
 intro Z s σ H x v vl vu lo hi sl Q I rx hs pl pu h;obtain⟨a,xs,rfl,hx,hw,q⟩:=h;cases rx;obtain⟨au,r,ht,hz⟩:=I.tuple hx;have Á:au.toArray.size=xs.length:=by rw [Ai];exact r.length.symm
 refine⟨"tuple",_,Bp.lookup,ht.typeIs,?_⟩;refine HT.ou ht hs pl pu (by rw [Á];exact hw) ?_ (by rw [Á];exact hz);rw [Á];refine⟨.ref s.heap.objs.size,_,I.laid (t':=s.toks) (o:=.tup (yC xs lo hi)) (λb ob q=>Aj _ q) (Ao _) ?_,rfl,q _ (I.bK.fresh (Ao _))⟩;exact⟨A4 (qo xs lo hi) hz,_,(r.drop (HT.d6 xs.length 0 lo)).take (HT.d6 xs.length xs.length hi-HT.d6 xs.length 0 lo),FV _ _⟩
def U6 (K:Ab):R2:=λx y H Q=>∃a b xs ys,x=.ref a/\y=.ref b/\d9 K H a xs/\d9 K H b ys/\xs≠[]/\xs.length+ys.length<=sizeLine/\
 (ys=[]->Q (.ref a) H)/\(ys≠[]->∀p,H p=bm->Q (.ref p) (upd H p (.tup (xs++ys))))
def Vals.jX (r:Vals xs us):us=[]↔xs=[]:=by
 cases r with
 | nil=>simp
 | cons _ _=>simp
def Kj:iy X (ss .Add) (U6 X.K):=by
 intro Z s σ H x y v u Q I rx ry h;obtain⟨a,b,xs,ys,rfl,rfl,ha,hb,hx,hz,q1,q2⟩:=h;cases rx;cases ry;obtain⟨au,r1,p1,_⟩:=I.tuple ha;obtain⟨cK,r2,p2,_⟩:=I.tuple hb;refine HT.Us p1 p2 (λz=>hx (r1.jX.mp z)) (λz=>⟨.ref a,H,I,rfl,q1 (r2.jX.mp z)⟩) (λz=>?_) (by rw [<- r1.length,<- r2.length];exact hz);refine⟨.ref s.heap.objs.size,_,I.laid (t':=s.toks) (o:=.tup (xs++ys)) (λb ob q=>Aj _ q) (Ao _) ?_,rfl,q2 (λw=>z (r2.jX.mpr w)) _ (I.bK.fresh (Ao _))⟩;exact⟨by rw [Af];exact hz,_,r1.append r2,FV _ _⟩
end
end L2
variable {r':L2.R2}{its':List Ba}
namespace L2
open PySem PySem.Spec PyProof.Rows
def oh (n:Nat) (i:Int):Option Nat:=if 0<=i then (if i < n then ap i.toNat else bm) else if -(n:Int)<=i then ap (i+n).toNat else bm
def cq (xs:List α) (i:Int):Option α:=(oh xs.length i).bind λj=>xs[j]?
theorem xR (h:oh n i=ap j):seqIndex? i n=ap j/\j < n/\-(n:Int)<=i/\i < n:=by
 unfold oh at h;by_cases h0:0<=i
 ·rw [if_pos h0] at h;by_cases h1:i < n
  ·rw [if_pos h1] at h;have e:=Option.some.inj h;exact⟨by rw [seqIndex_of h0 h1,e],by omega,by omega,h1⟩
  ·rw [if_neg h1] at h;cases h
 ·rw [if_neg h0] at h;by_cases h1:-(n:Int)<=i
  ·rw [if_pos h1] at h;have e:=Option.some.inj h;exact⟨by rw [seqIndex_neg ∅ h1,e],by omega,h1,by omega⟩
  ·rw [if_neg h1] at h;cases h
def yH {xs:List α}{v:α} (h:cq xs i=ap v):∃j,seqIndex? i xs.length=ap j/\xs[j]?=ap v/\j < xs.length/\-(xs.length:Int)<=i/\i < xs.length:=by
 unfold cq at h;cases e:oh xs.length i with
 | none=>rw [e] at h;cases h
 | some j=>
  rw [e] at h;obtain⟨h1,h2,h3,h4⟩:=xR e;exact⟨j,h1,h,h2,h3,h4⟩
theorem bM {xs:List α}{v:α} (h:xs[j]?=ap v):cq xs (j:Int)=ap v:=by
 have hj:=(Ak.mp h).1;have e:oh xs.length (j:Int)=ap j:=by
  unfold oh;rw [if_pos ∅,if_pos ∅];simp
 unfold cq;rw [e];exact h
theorem QR (xs:List α) (v:α):cq (xs++[v]) (-1)=ap v:=by
 have hl:(xs++[v]).length=xs.length+1:=by simp
 have e:oh (xs++[v]).length (-1)=ap xs.length:=by
  unfold oh;rw [hl,if_neg ⋯,if_pos ∅];congr 1;omega
 unfold cq;rw [e];simp
def rM (b:ga):Prop:=∀o i,subscripted b false o i=operate [o,i] (Fk o i)
def Rk (X:Cx) (r:R2):Prop:=
 ∀(value slice:ga) (Z:List (ci×Obj)) (s:cr) (σ:St) (H:Hp) (x y:V) (v u:bv) (Q:VK),Inv X Z σ H s->RelV x v->RelV y u->r x y H Q->
  subscripted slice false v u=operate [v,u] (Fk v u)->db (dL X.prog X.w) X.A (subscriptTail value slice v u) (EP X Z σ Q) X.xe s
def MtR (X:Cx) (id:String) (r:V->List V->Hp->VK->Prop):Prop:=
 ∀(Z:List (ci×Obj)) (s:cr) (σ:St) (H:Hp) (x:V) (xs:List V) (v:bv) (us:List bv) (Q:VK),Inv X Z σ H s->RelV x v->Vals xs us->r x xs H Q->
  db (dL X.prog X.w) X.A (call (.builtin id) (v::us)) (EP X Z σ Q) X.xe s
section
variable {X:Cx}{a b:ga}{ta tb:TE}{pos:Pos}
def Rk.or {r:R2} (h:Rk X r) (h':Rk X r'):Rk X (λx y H Q=>r x y H Q\/r' x y H Q):=by
 intro value slice Z s σ H x y v u Q I rx ry q hs;rcases q with q | q
 ·exact h value slice Z s σ H x y v u Q I rx ry q hs
 ·exact h' value slice Z s σ H x y v u Q I rx ry q hs
def OD {r:R2} (hr:Rk X r) (ha:PE X a ta) (hb:PE X b tb) (hs:rM b):PE X (.Subscript a b pos) (UX r ta tb):=by
 intro Z s σ H Q I h;exact Subscript_ (YC ha hb I h λv u s2 x y H2 I2 rx ry q=>hr a b Z s2 σ H2 x y v u Q I2 rx ry q (hs _ _))
def aaj (K:Ab):R2:=λx y H Q=>∃p xs i v,x=.ref p/\y=.int i/\dc K H p xs/\cq xs i=ap v/\Q v H
def aai (K:Ab):R2:=λx y H Q=>∃p xs i v,x=.ref p/\y=.int i/\d9 K H p xs/\cq xs i=ap v/\Q v H
def WC:R2:=λx y H Q=>∃z i c,x=.str z/\y=.int i/\z.length<=sizeLine/\cq z.cps.toList i=ap c/\Q (.str ⟨#[c]⟩) H
theorem Ti:Rk X (aaj X.K):=by
 intro value slice Z s σ H x y v u Q I rx ry h hs;obtain⟨p,xs,i,z,rfl,rfl,hq,he,q⟩:=h;cases rx;obtain⟨t,rfl⟩:=ry;obtain⟨au,r,pl,hz⟩:=I.list hq;obtain⟨j,h1,h2,h3,h4,h5⟩:=yH he;obtain⟨w,ew,iz⟩:=r.get h2;have hl:=r.length;have hn:=xI;have fin:EP X Z σ Q w s:=⟨z,H,I,iz,q⟩;by_cases h0:0<=i
 ·have hj:i.toNat=j:=by
   rw [seqIndex_of h0 h5] at h1;exact Option.some.inj h1
  exact item_listR pl.isList h0 ∅ (by rw [hj];simpa using ew) fin hs
 ·have hj:(i+(au.toArray.size:Int)).toNat=j:=by
   rw [seqIndex_neg ∅ h4] at h1;rw [Ai,<- hl];exact Option.some.inj h1
  exact subscriptTail_builtinR (x:=w) pl.isList.typeIs slot_list_getitem.lookup
   (wpAny_getItem_list_neg (Q:=λr s'=>r=w/\EP X Z σ Q r s') pl.isList ∅ (by rw [Ai] <;> omega) ∅ (by rw [hj];simpa using ew) ⟨rfl,fin⟩) hs
theorem XR:Rk X (aai X.K):=by
 intro value slice Z s σ H x y v u Q I rx ry h hs;obtain⟨p,xs,i,z,rfl,rfl,hq,he,q⟩:=h;cases rx;obtain⟨t,rfl⟩:=ry;obtain⟨au,r,pl,hz⟩:=I.tuple hq;obtain⟨j,h1,h2,h3,h4,h5⟩:=yH he;obtain⟨w,ew,iz⟩:=r.get h2;have hl:=r.length;have hn:=xI;have fin:EP X Z σ Q w s:=⟨z,H,I,iz,q⟩;exact subscriptTail_builtinR (x:=w) pl.typeIs slot_tuple_getitem.lookup
  (getItem_tuple (j:=j) (Q:=λr s'=>r=w/\EP X Z σ Q r s') pl ∅ ∅ (by rw [Ai,<- hl];exact h1) (by simpa using ew) ⟨rfl,fin⟩) hs
theorem Ph:Rk X WC:=by
 intro value slice Z s σ H x y v u Q I rx ry h hs;obtain⟨z,i,c,rfl,rfl,hz,he,q⟩:=h;obtain⟨t,rfl⟩:=rx;obtain⟨t',rfl⟩:=ry;obtain⟨j,h1,h2,h3,h4,h5⟩:=yH he;have hl:z.cps.toList.length=z.length:=by simp [FA]
 rw [hl] at h1 h4 h5;have hn:=xI;exact tail_any (typeIs_str s z t) slot_str_getitem.lookup (getItem_str (c:=c) (by
  have e1:decide (i < -(2 ^ 63:Int))=false:=decide_eq_false ∅;have e2:decide (i≥2 ^ 63)=false:=decide_eq_false ∅;rw [e1,e2,Bool.or_false]) (by rw [h1];simpa using h2) ⟨.str ⟨#[c]⟩,H,I.tok _,⟨_,rfl⟩,q⟩) hs
def rIx (K:Ab):R2:=λx y H Q=>aaj K x y H Q\/aai K x y H Q\/WC x y H Q
def XS:Rk X (rIx X.K):=Ti.or (XR.or Ph)
def HW (au:List bv) (n j:Nat) (u:bv):Bq (·.setIfInBounds j u) {cls:=.type "list",data:=.seq au.toArray n}={cls:=.type "list",data:=.seq (au.set j u).toArray n}:=by
 simp [Bq]
def Inv.lst {Z:List (ci×Obj)}{σ:St}{H:Hp}{s:cr}{p:ci}{xs:List V} (I:Inv X Z σ H s) (h:H p=ap (.lst xs)) :
  ∃(au:List bv) (n:Nat),Vals xs au/\s.heap.get? p=ap {cls:=.type "list",data:=.seq au.toArray n}/\xs.length<=sizeLine:=by
 obtain⟨z,au,n,r,e⟩:=I.bK p _ h;exact⟨au,n,r,e,z⟩
def Inv.Xq {p:ci}{n':Nat}{f:Obj->Obj} (I:Inv X Z σ H s) (h:H p=ap (.lst xs))
  (ho:s.heap.get? p=ap {cls:=.type "list",data:=.seq au.toArray n}) (hf:f {cls:=.type "list",data:=.seq au.toArray n}={cls:=.type "list",data:=.seq its'.toArray n'}) (r:Vals ys its') (hz:ys.length<=sizeLine) (t:Nat) :
  Inv X Z σ (upd H p (.lst ys)) {s with heap:=s.heap.update p f,toks:=t}:=by
 have e:(s.heap.update p f).get? p=ap {cls:=.type "list",data:=.seq its'.toArray n'}:=by
  rw [CJ f ho (by rw [hf] <;> rfl),hf]
 refine I.write (x:=p) (e:=p) (by rw [h];trivial) (.inl rfl) (λb u hb q=>(De _ _ (BL hb)).trans q) ⟨_,e⟩ ?_;exact⟨hz,its',n',r,e⟩
def aag:V->V->V->Hp->(Hp->Prop)->Prop:=λo i v H Q=>∃p xs k j,o=.ref p/\i=.int k/\H p=ap (.lst xs)/\oh xs.length k=ap j/\Q (upd H p (.lst (xs.set j v)))
theorem set_list:JH X aag:=by
 intro Z s σ H o i v ov iv u Q I ro ri rv h;obtain⟨p,xs,k,j,rfl,rfl,hp,hj,q⟩:=h;cases ro;obtain⟨t,rfl⟩:=ri;obtain⟨au,n,r,ho,hz⟩:=I.lst hp;obtain⟨h1,h2,h3,h4⟩:=xR hj;have hl:=r.length;have hn:=xI;have I':Inv X Z σ (upd H p (.lst (xs.set j v))) {s with heap:=s.heap.update p (Bq (·.setIfInBounds j u))}:=
  I.Xq hp ho (HW au n j u) (r.set rv j) (by rw [B1];exact hz) s.toks
 by_cases h0:0<=k
 ·have hk:k.toNat=j:=by
   rw [seqIndex_of h0 h4] at h1;exact Option.some.inj h1
  exact PySem.W.ki_setAt ho h0 ∅ (by rw [Ai,<- hl];exact h4) (by rw [hk];exact⟨_,I',q⟩)
 ·have hk:(k+(au.toArray.size:Int)).toNat=j:=by
   rw [seqIndex_neg ∅ h3] at h1;rw [Ai,<- hl];exact Option.some.inj h1
  exact PySem.W.ki_setBack ho ∅ (by rw [Ai,<- hl];exact h3) ∅ (by rw [hk];exact⟨_,I',q⟩)
theorem xg (lo hi:Option Int) (n:Nat):(ut lo hi bm n).1=((HT.d6 n 0 lo:Nat):Int)/\(ut lo hi bm n).2.1=((HT.d6 n n hi:Nat):Int)/\(ut lo hi bm n).2.2=1:=by
 refine⟨?_,?_,rfl⟩
 ·cases lo with
  | none=>simp [ut,HT.d6]
  | some i=>
   simp only [ut,HT.d6,EC,show (1:Int) > 0 by decide,if_true];by_cases h:i < 0
   ·simp only [h,if_true] <;> omega
   ·simp only [h,if_false] <;> omega
 ·cases hi with
  | none=>simp [ut,HT.d6]
  | some i=>
   simp only [ut,HT.d6,EC,show (1:Int) > 0 by decide,if_true];by_cases h:i < 0
   ·simp only [h,if_true] <;> omega
   ·simp only [h,if_false] <;> omega
def uQ (au:List bv) (lo hi:Option Int):slicePick au.toArray lo hi bm=((au.drop (HT.d6 au.length 0 lo)).take (HT.d6 au.length au.length hi-HT.d6 au.length 0 lo)).toArray:=by
 obtain⟨h1,h2,h3⟩:=xg lo hi au.toArray.size;unfold slicePick;rw [h1,h2,h3];simp only [sliceRange_one,pick_run,Ai] <;> rfl
def aeq (K:Ab):V->Option Int->Option Int->Hp->VK->Prop:=λx lo hi H Q=>∃a xs,x=.ref a/\dc K H a xs/\∀p,H p=bm->Q (.ref p) (upd H p (.lst (yC xs lo hi)))
theorem acF:SlR X (aeq X.K):=by
 intro Z s σ H x v vl vu lo hi sl Q I rx hs pl pu h;obtain⟨a,xs,rfl,hx,q⟩:=h;cases rx;obtain⟨au,r,ht,hz⟩:=I.list hx;have Á:=r.length;refine⟨"list",_,slot_list_getitem.lookup,ht.isList.typeIs,?_⟩;refine wpAny_getItem_list_slice ht.isList hs pl pu .none (by simp) ?_ (by rw [Ai] <;> omega);rw [uQ,<- Á];refine⟨.ref s.heap.objs.size,_,I.laid (t':=s.toks) (o:=.lst (yC xs lo hi)) (λb ob q=>Aj _ q) (Ao _) ?_,rfl,q _ (I.bK.fresh (Ao _))⟩;exact⟨A4 (qo xs lo hi) hz,_,0,(r.drop (HT.d6 xs.length 0 lo)).take (HT.d6 xs.length xs.length hi-HT.d6 xs.length 0 lo),Aq _ rfl⟩
theorem yD:bW X (.type "list") (λxs H Q=>∃p ys,xs=[.ref p]/\(dc X.K H p ys\/d9 X.K H p ys)/\∀l,H l=bm->Q (.ref l) (upd H l (.lst ys))):=by
 intro Z s σ H xs us Q I r h;obtain⟨p,ys,rfl,hq,q⟩:=h;obtain⟨u,rfl,rx⟩:=vals1 r;cases rx;have fin:∀(au:List bv),Vals ys au->ys.length<=sizeLine->∀(h':nw) (c':Nat),(∀b o',s.heap.get? b=ap o'->h'.get? b=ap o')->
   h'.get? s.heap.objs.size=ap {cls:=.type "list",dict:=bm,data:=.seq au.toArray c',slots:=#[]}->EP X Z σ Q (.ref s.heap.objs.size) {s with heap:=h'}:=λau r' hz h' c' kp e=>
  ⟨.ref s.heap.objs.size,_,I.laid (t':=s.toks) kp (Ao _) (show bu X.prog X.w _ h' _ (.lst ys) from⟨hz,au,c',r',e⟩),rfl,q _ (I.bK.fresh (Ao _))⟩
 rcases hq with hq | hq
 ·obtain⟨au,r',pl,hz⟩:=I.list hq;have Á:=r'.length;obtain⟨o,ho,hc,n,hd⟩:=pl.isList;exact call_list_seq p (.inl rfl) ho hc hd (λh' c' kp e=>fin au r' hz h' c' kp e) (by simp only [Ai] <;> omega)
 ·obtain⟨au,r',pl,hz⟩:=I.tuple hq;have Á:=r'.length;obtain⟨o,ho,hc,n,hd⟩:=pl;exact call_list_seq p (.inr rfl) ho hc hd (λh' c' kp e=>fin au r' hz h' c' kp e) (by simp only [Ai] <;> omega)
theorem vh:bW X (.type "tuple") (λxs H Q=>∃p ys,xs=[.ref p]/\((dc X.K H p ys/\∀l,H l=bm->Q (.ref l) (upd H l (.tup ys)))\/(d9 X.K H p ys/\Q (.ref p) H))):=by
 intro Z s σ H xs us Q I r h;obtain⟨p,ys,rfl,h⟩:=h;obtain⟨u,rfl,rx⟩:=vals1 r;cases rx;rcases h with⟨hq,q⟩ | ⟨hq,q⟩
 ·obtain⟨au,r',pl,hz⟩:=I.list hq;have Á:=r'.length;refine call_tuple_list pl.isList (λh' kp=>?_) (by simp only [Ai] <;> omega);have I1:Inv X Z σ H {s with heap:=h'}:=I.kept (t':=s.toks) kp;have I2:Inv X Z σ (upd H h'.objs.size (.tup ys)) {s with heap:=h'.push {cls:=.type "tuple",data:=.seq au.toArray}}:=
   I1.laid (t':=s.toks) (λb o e=>Aj _ e) (Ao _) (show bu X.prog X.w _ _ _ (.tup ys) from⟨hz,au,r',FV _ _⟩)
  exact⟨.ref h'.objs.size,_,I2,rfl,q _ (I1.bK.fresh (Ao _))⟩
 ·obtain⟨au,r',pl,hz⟩:=I.tuple hq;exact call_tuple_same pl ⟨.ref p,H,I,rfl,q⟩
def tyV (K:Ab) (T:String) (x:V) (H:Hp):Prop:=match x with
 | .str _=>T="str"
 | .int _=>T="int"
 | .ref p=>(T="list"/\∃xs,dc K H p xs)\/(T="tuple"/\∃o,K.lookup p=ap o/\o.cls=.type "tuple"/\o.dict=bm)\/
   (T="dict"/\((∃kvs,H p=ap (.dK kvs))\/∃kvs,H p=ap (.dT kvs)))\/(T="set"/\∃S n,H p=ap (.set S n))
 | _=>False
def NH {x:V} (I:Inv X Z σ H s) (r:RelV x v) (ty:tyV X.K T x H) :
  s.TypeIs v T/\∀a,v=.ref a->∃ob,s.heap.get? a=ap ob/\ob.dict=bm:=by
 cases x with
 | str z=>
  obtain⟨t,rfl⟩:=r;cases (show T="str" from ty);exact⟨typeIs_str s z t,λ_ e=>nomatch e⟩
 | int i=>
  obtain⟨t,rfl⟩:=r;cases (show T="int" from ty);exact⟨typeIs_int s i t,λ_ e=>nomatch e⟩
 | ref p=>
  cases r;rcases ty with⟨rfl,xs,hq⟩ | ⟨rfl,o,hk,hc,hd⟩ | ⟨rfl,hk⟩ | ⟨rfl,S,n,hk⟩
  ·obtain⟨au,_,pl,_⟩:=I.list hq;refine⟨pl.isList.typeIs,λa e=>?_⟩;cases e;obtain⟨o,n,e,c,hd,_⟩:=pl;exact⟨o,e,hd⟩
  ·refine⟨⟨o,I.uW p o hk,hc⟩,λa e=>?_⟩;cases e;exact⟨o,I.uW _ o hk,hd⟩
  ·have z:∃o,s.heap.get? p=ap o/\o.ExactDict:=by
    rcases hk with⟨kvs,hk⟩ | ⟨kvs,hk⟩
    ·obtain⟨_,_,_,_,o,_,_,e,ex,_⟩:=I.bK p _ hk;exact⟨o,e,ex⟩
    ·obtain⟨_,_,_,_,o,_,_,e,ex,_⟩:=I.bK p _ hk;exact⟨o,e,ex⟩
   obtain⟨o,e,ex⟩:=z;refine⟨⟨o,e,ex.1⟩,λa e2=>?_⟩;cases e2;exact⟨o,e,ex.2.1⟩
  ·obtain⟨o,_,_,_,e,ex,_⟩:=I.bK p _ hk;refine⟨⟨o,e,ex.1⟩,λa e2=>?_⟩;cases e2;exact⟨o,e,ex.2.1⟩
 | _=>exact Bs ty
def ZV (K:Ab) (T:String) (r:V->List V->Hp->VK->Prop) (to:TE):TE:=λσ H Q=>to σ H λx H1=>tyV K T x H1/\r x [] H1 Q
def tBM (K:Ab) (T:String) (r:V->List V->Hp->VK->Prop) (to:TE) (t:TA):TE:=λσ H Q=>to σ H λx H1=>tyV K T x H1/\t σ H1 λxs H2=>r x xs H2 Q
variable {o e:ga}{es:List ga}{to:TE}{t:TA}{name:Str}{Â bS:Pos}{T id:String}{r:V->List V->Hp->VK->Prop}
def W3 (pa:PlainAttrs T) (slot:Slot T name id) (KH:typeOf (.builtin id)=pure (.type "method_descriptor")) (hm:MtR X id r) (ho:PE X o to)
  (dW:pc o name X.env (kw o X.env)=kw o X.env:=by rfl) (dU:Q8 Â bS:=by rfl):PE X (.Call (.Attribute o name Â) [] [] bS) (ZV X.K T r to):=by
 intro Z s σ H Q I h;refine wpAny_Call_method0_late dW dU (bE (ho Z s σ H _ I h) λv s1 ⟨x,H1,I1,r1,ty,q1⟩=>?_);obtain⟨h1,h2⟩:=NH I1 r1 ty;exact⟨T,id,pa,slot,KH,h1,h2,ER rfl (PySem.evalArgs_none (hm Z s1 σ H1 x [] v [] Q I1 r1 .nil q1))⟩
def aaz (pa:PlainAttrs T) (slot:Slot T name id) (KH:typeOf (.builtin id)=pure (.type "method_descriptor")) (hm:MtR X id r) (ho:PE X o to) (ha:PA X (e::es) t)
  (dW:pc o name X.env (kw o X.env)=kw o X.env:=by rfl)
  (m5:VP X bS (e::es):=by rfl)
  (dU:Q8 Â bS:=by rfl) (hs:gR X e es:=by rfl) (eE:kL X bS es:=by rfl) :
  PE X (.Call (.Attribute o name Â) (e::es) [] bS) (tBM X.K T r to t):=by
 intro Z s σ H Q I h;refine wpAny_Call_method_late dW m5 dU rfl (bE (ho Z s σ H _ I h) λv s1 ⟨x,H1,I1,r1,ty,q1⟩=>?_);obtain⟨h1,h2⟩:=NH I1 r1 ty;refine⟨T,id,pa,slot,KH,h1,h2,?_⟩;have hA:=ha bS Z s1 σ H1 _ I1 q1;rw [hs] at hA ⊢;refine ER (by show (false||(Gc bS (d5 es X.env)).any (·.1))=false;rw [eE] <;> rfl) (Calls.evalArgs_plain ?_);exact bE hA λus s2 ⟨vs,H2,I2,r2,q2⟩=>hm Z s2 σ H2 x vs v us Q I2 r1 r2 q2
end
def Lh (X:Cx) (id:String) (r:V->List V->Hp->VK->Prop):Prop:=
 ∀(Z:List (ci×Obj)) (s:cr) (σ:St) (H:Hp) (x:V) (xs:List V) (v:bv) (us:List bv) (Q:VK),Inv X Z σ H s->RelV x v->Vals xs us->r x xs H Q->
  db (dL X.prog X.w) X.A (call (.builtin id) (v::us)) (EP X Z σ Q) X.xe s
def Vals.one:∀{x:V}{us:List bv},Vals [x] us->∃u,us=[u]/\RelV x u
 | _,_,.cons r .nil=>⟨_,rfl,r⟩
def Vals.zero:∀{us:List bv},Vals [] us->us=[]
 | _,.nil=>rfl
def Vals.dropLast (h:Vals xs us):Vals xs.dropLast us.dropLast:=by
 induction h with
 | nil=>exact .nil
 | cons r t ih=>
  cases t with
  | nil=>exact .nil
  | cons q t'=>exact .cons r ih
theorem Vals.rep (h:Vals xs us):∀k:Nat,Vals (Am k xs).flatten (Am k us).flatten
 | 0=>.nil
 | k+1=>by
  rw [BA,BA,B8,B8];exact Vals.append h (Vals.rep h k)
theorem IM (l:List α):l.eraseIdx (l.length-1)=l.dropLast:=by
 induction l with
 | nil=>rfl
 | cons a r ih=>
  cases r with
  | nil=>rfl
  | cons b r=>
   have e:(a::b::r).length-1=((b::r).length-1)+1:=by
    have h1:(a::b::r).length=r.length+2:=rfl;have h2:(b::r).length=r.length+1:=rfl;omega
   rw [e,List.eraseIdx_cons_succ,ih]
   all_goals rfl
theorem foldl_rep (au:List bv):∀(k:Nat) (Å:List bv),
  List.foldl (λx1 x2=>x1++x2) Å.toArray (Am k au.toArray)=(Å++(Am k au).flatten).toArray
 | 0,Å=>by simp
 | k+1,Å=>by
  have e:Å.toArray++au.toArray=(Å++au).toArray:=by simp
  have e2:(Å++au)++(Am k au).flatten=Å++(Am (k+1) au).flatten:=by
   rw [BA,B8,Be]
  rw [<- e2,<- foldl_rep au k (Å++au),<- e,BA,List.foldl_cons]
section
def Inv.HY {f:Array bv->Array bv}{t':Nat} (I:Inv X Z σ H s) (hH:H l=ap (.lst xs))
  (e:s.heap.get? l=ap {cls:=.type "list",data:=.seq au.toArray n}) (hf:f au.toArray=its'.toArray) (hv:Vals ys its') (hz:ys.length<=sizeLine) :
  Inv X Z σ (upd H l (.lst ys)) {s with heap:=s.heap.update l (Bq f),toks:=t'}:=by
 have q:=PySem.IsL.update e f;rw [hf] at q;refine I.write (x:=l) (e:=l) (by rw [hH];exact trivial) (.inl rfl) (λb' u hb hu=>(De s.heap (Bq f) (BL hb)).trans hu) ⟨_,q⟩ ?_;exact⟨hz,its',_,hv,q⟩
def Inv.Xt {t':Nat} (I:Inv X Z σ H s) (hv:Vals ys au) (hz:ys.length<=sizeLine) :
  Inv X Z σ (upd H s.heap.objs.size (.lst ys)) {s with heap:=s.heap.push {cls:=.type "list",data:=.seq au.toArray},toks:=t'}:=
 I.laid (λ_ _ q=>Aj _ q) (Ao _) ⟨hz,au,0,hv,Aq _ rfl⟩
def Inv.fresh (I:Inv X Z σ H s):H s.heap.objs.size=bm:=I.bK.fresh (Ao _)
def Inv.pC (I:Inv X Z σ H s) (hH:H l=ap (.lst xs)):xs.length<=sizeLine/\∃(au:List bv) (n:Nat),Vals xs au/\xs.length=au.length/\s.heap.get? l=ap {cls:=.type "list",data:=.seq au.toArray n}:=by
 obtain⟨z,au,n,r,e⟩:=I.bK l _ hH;exact⟨z,au,n,r,r.length,e⟩
theorem jr (h:n<=sizeLine):Builtin.List.listTooLong n=false:=by
 exact decide_eq_false ∅
end
section
def Sa:V->List V->Hp->VK->Prop:=λx vs H Q=>∃l xs y,x=.ref l/\vs=[y]/\H l=ap (.lst xs)/\xs.length < sizeLine/\Q .aV (upd H l (.lst (xs++[y])))
theorem LV:Lh X "list.append" Sa:=by
 intro Z s σ H x vs v us Q I rx rv h;obtain⟨l,xs,y,rfl,rfl,hH,hz,q⟩:=h;cases rx;obtain⟨u,rfl,ru⟩:=rv.one;obtain⟨z,au,n,r,hl,e⟩:=I.pC hH;refine ul F.slot_list_append ⟨_,e,rfl⟩ F.entry_list_append (F.args_list_append_2 _ _) (PySem.list_append l au.toArray n u (by rw [Ai];omega)) ⟨e,?_⟩;refine⟨.aV,_,I.HY (its':=au++[u]) hH e (by simp) (r.append (.cons ru .nil)) ?_,rfl,q⟩;rw [Af,Fd];omega
def R8:V->List V->Hp->VK->Prop:=λx vs H Q=>∃l b xs zs,x=.ref l/\vs=[.ref b]/\H l=ap (.lst xs)/\H b=ap (.lst zs)/\xs.length+zs.length<=sizeLine/\Q .aV (upd H l (.lst (xs++zs)))
theorem Y0:Lh X "list.extend" R8:=by
 intro Z s σ H x vs v us Q I rx rv h;obtain⟨l,b,xs,zs,rfl,rfl,hH,hB,hz,q⟩:=h;cases rx;obtain⟨u,rfl,ru⟩:=rv.one;cases ru;obtain⟨z,au,n,r,hl,e⟩:=I.pC hH;obtain⟨z2,cK,n2,r2,Mf,e2⟩:=I.pC hB;have hsz:au.toArray.size+cK.toArray.size<=sizeLine:=by rw [Ai,Ai];omega
 have tQ:¬(!au.toArray.isEmpty&&Builtin.List.listTooLong (au.toArray.size+cK.toArray.size))=true:=by
  rw [jr hsz,Ei];exact AV
 refine ul D8 ⟨_,e,rfl⟩ DU (Dz _ _)
  (AutoSeq1.list_extend_list_list_0 l au.toArray n b cK.toArray n2 tQ (by rw [Ai];omega) ∅) ⟨e,e2,?_⟩
 refine⟨.aV,_,I.HY (its':=au++cK) hH e (by simp) (r.append r2) ?_,rfl,q⟩;rw [Af];omega
def aes:V->List V->Hp->VK->Prop:=λx vs H Q=>∃l xs y,x=.ref l/\vs=[]/\H l=ap (.lst xs)/\xs[xs.length-1]?=ap y/\Q y (upd H l (.lst xs.dropLast))
theorem Xn:Lh X "list.pop" aes:=by
 intro Z s σ H x vs v us Q I rx rv h;obtain⟨l,xs,y,rfl,rfl,hH,hy,q⟩:=h;cases rx;have hus:=rv.zero;subst hus;obtain⟨z,au,n,r,hl,e⟩:=I.pC hH;obtain⟨u,hu,ru⟩:=r.get hy;have Tw:au.toArray[au.toArray.size-1]?=ap u:=by
  show au.toArray[au.length-1]?=ap u;rw [<- Cn,<- hl];exact hu
 refine ul F.slot_list_pop ⟨_,e,rfl⟩ F.entry_list_pop (F.args_list_pop_1 _) (MeetsSeq.list_pop_last l au.toArray n u Tw (by rw [Ai];omega)) ⟨e,?_⟩;refine⟨y,_,I.HY (its':=au.dropLast) hH e ?_ r.dropLast ?_,ru,q⟩
 ·rw [Ai,List.eraseIdxIfInBounds_toArray,IM]
 ·rw [List.length_dropLast];omega
def aet:R2:=λx y H Q=>∃l b xs zs,x=.ref l/\y=.ref b/\H l=ap (.lst xs)/\H b=ap (.lst zs)/\xs.length+zs.length<=sizeLine/\∀p,H p=bm->Q (.ref p) (upd H p (.lst (xs++zs)))
theorem Xe:iy X (ss .Add) aet:=by
 intro Z s σ H x y v u Q I rx ry h;obtain⟨l,b,xs,zs,rfl,rfl,hH,hB,hz,q⟩:=h;cases rx;cases ry;obtain⟨z,au,n,r,hl,e⟩:=I.pC hH;obtain⟨z2,cK,n2,r2,Mf,e2⟩:=I.pC hB;refine PySem.P.add_list e e2 ?_ (by rw [Ai,Ai];omega);have ea:au.toArray++cK.toArray=(au++cK).toArray:=by simp
 rw [ea];exact⟨.ref _,_,I.Xt (t':=s.toks) (r.append r2) (by rw [Af];omega),rfl,q _ I.fresh⟩
def aer:R2:=λx y H Q=>∃l k xs,x=.ref l/\y=.int k/\H l=ap (.lst xs)/\-(2 ^ 63)<=k/\k < 2 ^ 63/\xs.length*k.toNat<=sizeLine/\
 ∀p,H p=bm->Q (.ref p) (upd H p (.lst (Am k.toNat xs).flatten))
def len_rep (xs:List α) (k:Nat):(Am k xs).flatten.length=k*xs.length:=by
 induction k with
 | zero=>simp
 | succ k ih=>rw [BA,B8,Af,ih,FJ,Nat.add_comm]
theorem W7:iy X (ss .Mult) aer:=by
 intro Z s σ H x y v u Q I rx ry h;obtain⟨l,k,xs,rfl,rfl,hH,h1,h2,hz,q⟩:=h;cases rx;obtain⟨t,rfl⟩:=ry;obtain⟨z,au,n,r,hl,e⟩:=I.pC hH;have Á:au.toArray.size*k.toNat<=sizeLine:=by rw [Ai,<- hl];exact hz
 have afA:¬au.toArray.size*k.toNat > (2 ^ 63-1) / 8:=by
  have:(sizeLine:Nat)<=(2 ^ 63-1) / 8:=by decide
  omega
 have afu:¬(!Builtin.List.listFitsIndex k)=true:=by
  rw [fitsIndex_both h1 h2];exact AV
 have tQ:¬Builtin.List.listTooLong (au.toArray.size*k.toNat)=true:=by
  rw [jr Á];exact AV
 have TL:List.foldl (λx1 x2=>x1++x2) #[] (Am (if au.toArray.isEmpty=true then 0 else k.toNat) au.toArray)=(Am k.toNat au).flatten.toArray:=by
  have f0:∀m:Nat,List.foldl (λx1 x2=>x1++x2) #[] (Am m au.toArray)=(Am m au).flatten.toArray:=λm=>by
   have:=foldl_rep au m [];exact this
  rw [f0];cases au with
  | nil=>simp
  | cons a r'=>rw [if_neg (by simp)]
 refine wpAny_binaryOp_repeat_ref (T:="list") (U:="int") ⋯ ⟨_,e,rfl⟩ (λs'=>typeIs_int s' k t) noFill_list_mul F.fills_int_mul F.slot_int_rmul repeat_list F.slot_int_index.lookup
  (ul F.slot_int_rmul (typeIs_int s k t) F.entry_int_rmul (F.args_int_rmul_2 _ _) (int___rmul___int_list k t l au.toArray n)
   ⟨e,rfl,⟨_,e,rfl⟩,ul F.slot_list_mul ⟨_,e,rfl⟩ F.entry_list_mul (F.args_list_mul_2 _ _) (AutoListH.list___mul___list_int_3 l au.toArray n k t afu afA tQ) ⟨e,?_⟩⟩)
 rw [TL];exact⟨.ref _,_,I.Xt (t':=s.toks) (r.rep k.toNat) (by rw [len_rep,Nat.mul_comm];exact hz),rfl,q _ I.fresh⟩
end
section
def Lz (au cK:List bv) (a c:Nat):au.toArray.extract 0 a++cK.toArray++au.toArray.extract c au.toArray.size=(au.take a++cK++au.drop c).toArray:=by
 apply EM.mp
 first
  | (
    simp;exact Bv (by simp))
  | simp [Bv]
  | simp
theorem Jp {a c:Nat} (Y9:a<=c) (hc:c<=n):ut (ap (a:Int)) (ap (c:Int)) bm n=((a:Int),(c:Int),1):=by
 simp only [ut,EC];have h1:¬((a:Int) < 0):=by omega
 have h2:¬((c:Int) < 0):=by omega
 congr 1
 ·omega
 ·congr 1;omega
set_option maxRecDepth 100000 in
theorem uR {l b sl:ci}{items new:Array bv}{n n2:Nat}{vl vu:bv}{a c:Nat}{Q:Unit->cr->Prop}
  (e:s.heap.get? l=ap {cls:=.type "list",data:=.seq items n}) (e2:s.heap.get? b=ap {cls:=.type "list",data:=.seq new n2}) (KL:l≠b)
  (hs:s.heap.IsSliceOf sl vl vu .none) (pl:IsPart vl (ap (a:Int))) (pu:IsPart vu (ap (c:Int))) (Y9:a<=c) (hc:c<=items.size)
  (hsz:items.size+new.size<=sizeLine) (h:Q () {s with heap:=s.heap.update l (Bq λxs=>xs.extract 0 a++new++xs.extract c xs.size)}) :
  db (dL prog w) A (Db (.ref l) (.ref sl) (.ref b)) Q E s:=by
 have hl:s.heap.IsList l items:=FT e;have hb:s.heap.IsList b new:=FT e2;obtain⟨os,Gg,Py,KO⟩:=id hs;have Za:s.TypeIs (.ref sl) "slice":=⟨os,Gg,Py⟩;have abh:¬((rawPart bm==u8 0)=true):=AV;have Pq:Builtin.List.listSameRef (.ref l) (.ref b)=false:=by
  unfold Builtin.List.listSameRef;exact beq_eq_false_iff_ne.mpr KL
 have afj:(max (a:Int) (c:Int)).toNat=c:=by omega
 have Io:((λxs:Array bv=>xs.extract 0 a++new++xs.extract c xs.size) items).size<=sizeLine+1:=by
  simp only [Es,Array.size_extract];omega
 unfold Db
 try with_reducible refine Bi ?_
 first | refine Aa (Ah ?_) | skip
 refine Aa (Eo hl.typeIs ⋯ ?_);refine Aa (AZ (name:=Cs "__setitem__") hl.typeIs slot_list_setitem
  (Bl slot_list_setitem hl.typeIs entry_list_setitem ?_ (args_list_setitem _ _ _)))
 show db _ _ (Builtin.List.listSubscript? (.ref sl) >>= _) _ _ s;refine Aa ?_;unfold Builtin.List.listSubscript?;refine Aa (DP Za slice_no_index ?_);simp only [Option.isNone_none,if_true];refine Ah ?_;show db _ _ (typeOf (.ref sl) >>= _) _ _ s;refine Aa (Ct Za ?_)
 first
  | rw [if_neg ⋯]
  | refine PySem.W.KFB.if_not ⋯ ?_
 rw [listSliceParts_eq];refine Aa (Aa (A6 Gg KO (x:=.none) rfl (Aa (Fh .none ?_))));rw [if_neg abh];refine Aa (A6 Gg KO (x:=vl) rfl (Aa (Fh pl ?_)));refine Aa (A6 Gg KO (x:=vu) rfl (Aa (Fh pu (Ah ?_))))
 first
  | simp only [Pq,An,if_false]
  | refine PySem.W.KFB.if_not Pq ?_
  | (
    dsimp only;rw [if_neg (by rw [Pq];exact AV)])
 refine Aa (m:=Builtin.List.listAllItems (.ref b) "must assign iterable to extended slice") ?_;unfold Builtin.List.listAllItems;refine Aa (Ct hb.typeIs ?_)
 first
  | refine PySem.W.KFB.if_so ⋯ ?_
  | rw [if_pos ⋯]
  | simp only [beq_self_eq_true,Bool.true_or,if_true]
 unfold Builtin.List.listItems;refine Aa (BO e2 rfl (Ah ?_));refine Aa (Aa (BO e rfl (Ah ?_)));refine Aa (CH ((sliceIndices_raw (ap (a:Int)) (ap (c:Int)) bm items.size (by simp)).trans (congrArg (pure:Int×Int×Int->Sem (Int×Int×Int)) (Jp Y9 hc))) ?_);show db _ _ (if ((1:Int)==1)=true then _ else _) _ _ s;rw [if_pos ⋯];refine Aa (CS ?_)
 first
  | simp only [jr hsz,An,if_false]
  | refine PySem.W.KFB.if_not (jr hsz) ?_
 first | refine Aa (Ah ?_) | skip
 show db _ _ (updateSeq l (λxs=>xs.extract 0 ((a:Int)).toNat++new++xs.extract (max (a:Int) (c:Int)).toNat xs.size) >>= _) _ _ s;rw [afj,A2];refine Aa (DN (hz:=A4 (BH _ _) hsz) (_hz':=Io) e rfl ?_);refine Aa (DE ?_)
 first
  | exact Aa (Ah (Ah ⟨.none,rfl,Ah h⟩))
  | exact Ah ⟨.none,rfl,Ah h⟩
end
section
theorem LD {sl:ci}{a c:Int}{Q:Unit->cr->Prop} (I:Inv X Z σ H s)
  (hH:H l=ap (.lst xs)) (hB:H b=ap (.lst ys)) (KL:l≠b) (hs:s.heap.IsSliceOf sl vl vu .none) (ra:RelV (.int a) vl) (rc:RelV (.int c) vu) (h0:0<=a) (Y9:a<=c) (hc:c<=xs.length)
  (hz:xs.length+ys.length<=sizeLine) (h:∀s',Inv X Z σ (upd H l (.lst (xs.take a.toNat++ys++xs.drop c.toNat))) s'->Q () s') :
  db (dL X.prog X.w) X.A (Db (.ref l) (.ref sl) (.ref b)) Q X.xe s:=by
 obtain⟨ta,rfl⟩:=ra;obtain⟨tc,rfl⟩:=rc;obtain⟨z,au,n,r,hl,e⟩:=I.pC hH;obtain⟨z2,cK,n2,r2,Mf,e2⟩:=I.pC hB;obtain⟨a',rfl⟩:=EL h0;obtain⟨c',rfl⟩:=EL (Int.le_trans h0 Y9);simp only [A2] at h;refine uR (a:=a') (c:=c') e e2 KL hs (.int _ _) (.int _ _) ∅ (by rw [Ai];omega) (by rw [Ai,Ai];omega) (h _ ?_);refine I.HY (its':=au.take a'++cK++au.drop c') (t':=s.toks) hH e ?_ (Vals.append (Vals.append (r.take _) r2) (r.drop _)) ?_
 ·exact Lz au cK a' c'
 ·rw [Af,Af,Cg,Dv];omega
end
end L2
variable {xs:List (List L2.Key×BV×Ba)}{o:Option L2.V}{v:L2.V}{kvs:List (List L2.Key×L2.V)}{env:PySem.Env}{value:BU}
namespace L2
open PySem PySem.Spec PyProof.Rows
section
variable {κ:Type} [DecidableEq κ]
def iW (kvs:List (κ×V)) (k:κ):Option V:=(kvs.find? λkv=>decide (kv.1=k)).map (·.2)
def putK (kvs:List (κ×V)) (k:κ) (v:V):List (κ×V):=
 if (kvs.any λkv=>decide (kv.1=k))=true then kvs.map (λkv=>if kv.1=k then (kv.1,v) else kv) else kvs++[(k,v)]
def kS {p:κ×V}{r:List (κ×V)}{k:κ} (e:p.1=k):iW (p::r) k=ap p.2:=by simp [iW,BQ,e]
def kT {p:κ×V}{r:List (κ×V)}{k:κ} (e:¬p.1=k):iW (p::r) k=iW r k:=by simp [iW,BQ,e]
theorem nB (k:κ):∀kvs:List (κ×V),(kvs.any λkv=>decide (kv.1=k))=(iW kvs k).isSome
 | []=>rfl
 | p::r=>by
  rw [Cz];by_cases e:p.1=k
  ·simp only [kS e,decide_eq_true e,Bool.true_or,Option.isSome_some]
  ·rw [kT e,decide_eq_false e,Bool.false_or];exact nB k r
theorem qd (kvs:List (κ×V)) (k:κ) (v:V):(putK kvs k v).length<=kvs.length+1:=by
 unfold putK
 split
 ·rw [Ag];omega
 ·rw [Af,Ap,Bx];omega
def uF.pI {u:Option bv} (r:uF o u):o.isSome=u.isSome:=by
 cases o with
 | none=>cases u with
  | none=>rfl
  | some _=>exact (show False from r).elim
 | some _=>cases u with
  | none=>exact (show False from r).elim
  | some _=>rfl
def KV.val {kvs:List (κ×V)}{vs:List (κ×bv)} (r:KV kvs vs) (k:κ):uF (iW kvs k) (valueAt vs k):=by
 unfold KV at r
 induction r with
 | nil=>exact Cj
 | @cons p q ps qs h t ih=>
  obtain⟨h1,h2⟩:=h;by_cases e:p.1=k
  ·have e':q.1=k:=h1.symm.trans e;have b:valueAt (q::qs) k=ap q.2:=by simp [valueAt,BQ,e']
   rw [kS e,b];exact h2
  ·have e':¬q.1=k:=λz=>e (h1.trans z);have b:valueAt (q::qs) k=valueAt qs k:=by simp [valueAt,BQ,e']
   rw [kT e,b];exact ih
def KV.any {kvs:List (κ×V)}{vs:List (κ×bv)} (r:KV kvs vs) (k:κ):(kvs.any λkv=>decide (kv.1=k))=vs.any λkv=>decide (kv.1=k):=by
 induction r with
 | nil=>rfl
 | cons h t ih=>rw [Cz,Cz,ih,h.1]
def KV.Wv {kvs:List (κ×V)}{vs:List (κ×bv)} (r:KV kvs vs) (k:κ) (ry:RelV y u) :
  KV (kvs.map λkv=>if kv.1=k then (kv.1,y) else kv) (vs.map λkv=>if kv.1=k then (kv.1,u) else kv):=by
 induction r with
 | nil=>exact .nil
 | @cons p q ps qs h t ih=>
  rw [Az,Az];refine .cons ?_ ih;obtain⟨h1,h2⟩:=h;by_cases e:p.1=k
  ·rw [if_pos e,if_pos (h1.symm.trans e)];exact⟨h1,ry⟩
  ·rw [if_neg e,if_neg (λz=>e (h1.trans z))];exact⟨h1,h2⟩
def KV.put {kvs:List (κ×V)}{vs:List (κ×bv)} (r:KV kvs vs) (k:κ) (ry:RelV y u):KV (putK kvs k y) (stored vs k u):=by
 unfold putK stored;rw [r.any k];by_cases e:(vs.any λkv=>decide (kv.1=k))=true
 ·rw [if_pos e,if_pos e];exact r.Wv k ry
 ·rw [if_neg e,if_neg e];exact Paired.snoc r ⟨rfl,ry⟩
def KV.length {kvs:List (κ×V)}{vs:List (κ×bv)} (r:KV kvs vs):kvs.length=vs.length:=Paired.length r
end
def Ku {k:Key} (r:RelV (kV k) u):(cv P w).is k u=true:=by
 cases k with
 | inl i=>obtain⟨t,e⟩:=(show ∃t,u=D4 i t from r);subst e;exact z9 P w i t
 | inr x=>obtain⟨t,e⟩:=(show ∃t,u=D3 x t from r);subst e;exact zZ P w x t
theorem vR:∀{ks:List Key}{us:List bv},Vals (ks.map kV) us->ItemsAre (cv P w) ks us
 | [],_,r=>by rw [Dl] at r;cases r;exact .nil
 | k::ks,_,r=>by
  rw [Az] at r;cases r with
  | cons h t=>exact .cons (Ku h) (vR t)
abbrev KT (H:Hp):List (List Key×V)->List (List Key×ci×bv)->Prop:=Paired λp q=>p.1=q.1/\H q.2.1=ap (.tup (p.1.map kV))/\RelV p.2 q.2.2
def KT.val (r:KT H kvs xs) (k:List Key):uF (iW kvs k) ((atKey xs k).map (·.2)):=by
 induction r with
 | nil=>exact Cj
 | @cons p q ps qs h t ih=>
  obtain⟨h1,_,h2⟩:=h;by_cases e:p.1=k
  ·have e':q.1=k:=h1.symm.trans e;have b:atKey (q::qs) k=ap q.2:=by simp [atKey,BQ,e']
   rw [kS e,b];exact h2
  ·have e':¬q.1=k:=λz=>e (h1.trans z);have b:atKey (q::qs) k=atKey qs k:=by simp [atKey,BQ,e']
   rw [kT e,b];exact ih
def KT.Wv (r:KT H kvs xs) (k:List Key) (ry:RelV y u) :
  KT H (kvs.map λkv=>if kv.1=k then (kv.1,y) else kv) (xs.map (putAt k u)):=by
 induction r with
 | nil=>exact .nil
 | @cons p q ps qs h t ih=>
  rw [Az,Az];refine .cons ?_ ih;obtain⟨h1,h2,h3⟩:=h;unfold putAt;by_cases e:p.1=k
  ·rw [if_pos e,if_pos (h1.symm.trans e)];exact⟨h1,h2,ry⟩
  ·rw [if_neg e,if_neg (λz=>e (h1.trans z))];exact⟨h1,h2,h3⟩
def KT.put (r:KT H kvs xs) (k:List Key) (hb:H b=ap (.tup (k.map kV))) (ry:RelV y u) :
  KT H (putK kvs k y) (Fa xs k b u):=by
 have e:(kvs.any λkv=>decide (kv.1=k))=(atKey xs k).isSome:=by
  rw [nB,(r.val k).pI,FI]
 unfold putK Fa;rw [e];by_cases q:(atKey xs k).isSome=true
 ·rw [if_pos q,if_pos q];exact r.Wv k ry
 ·rw [if_neg q,if_neg q];exact Paired.snoc r ⟨rfl,hb,ry⟩
def KT.keeps (r:KT H kvs xs) (ht:∀b ys,H b=ap (.tup ys)->H' b=ap (.tup ys)):KT H' kvs xs:=
 Paired.Xp r λ_ _ z=>⟨z.1,ht _ _ z.2.1,z.2.2⟩
section
def U3 {u:HO} (ok:mz P w H h) (e:Rd H a u):bu P w H h a u:=e.ok ok
def uo {kvs:List (Key×V)} (ok:mz P w H h) (e:Rd H a (.dK kvs)):kvs.length<=sizeLine/\(a==tz)=false/\∃vs,KV kvs vs/\h.DictOf (cv P w) a vs:=
 show bu P w H h a (.dK kvs) from U3 ok e
def aca {kvs:List (Key×V)} (ok:mz P w H h) (e:H a=ap (.dK kvs)):kvs.length<=sizeLine/\(a==tz)=false/\∃vs,KV kvs vs/\h.DictOf (cv P w) a vs:=uo ok (.inl e)
def tD {ks:List Key} (ok:mz P w H h) (e:H a=ap (.tup (ks.map kV))):(o0 (cv P w)).is h ks a:=by
 obtain⟨_,au,r,o,h1,h2,n,h3⟩:=(show bu P w H h a (.tup (ks.map kV)) from ok a _ e);exact⟨o,au.toArray,n,h1,h2,h3,by simpa using vR r⟩
def um (ok:mz P w H h) (e:Rd H a (.dT kvs)):kvs.length<=sizeLine/\(a==tz)=false/\
  ∃xs,KT H kvs xs/\h.DictOfH (o0 (cv P w)) a xs:=by
 obtain⟨z,y,xs,r,o,es,ep,h1,h2,h3,h4,h5⟩:=(show bu P w H h a (.dT kvs) from U3 ok e);refine⟨z,y,xs,r,o,es,ep,h1,h2,h3,h4,λx hx=>?_,h5⟩;have all:∀{l:List (List Key×V)}{m:List (List Key×ci×bv)},KT H l m->∀x∈m,(o0 (cv P w)).is h x.1 x.2.1:=by
  intro l m q
  induction q with
  | nil=>intro x hx;exact nomatch hx
  | @cons p q ps qs hq t ih=>
   intro x hx;rcases AA.mp hx with e | hx
   ·subst e;exact tD ok (by rw [<- hq.1];exact hq.2.1)
   ·exact ih x hx
 exact all r x hx
def ab9 (ok:mz P w H h) (e:H a=ap (.dT kvs)):kvs.length<=sizeLine/\(a==tz)=false/\
  ∃xs,KT H kvs xs/\h.DictOfH (o0 (cv P w)) a xs:=um ok (.inl e)
end
def vq (H:Hp) (a:ci) (y:V) (r:Option V):Prop:=
 (∃kvs k,Rd H a (.dK kvs)/\y=kV k/\r=iW kvs k)\/∃kvs k b,Rd H a (.dT kvs)/\y=.ref b/\H b=ap (.tup (k.map kV))/\r=iW kvs k
def Q6 (H:Hp) (a:ci) (y v:V) (H':Hp):Prop:=
 (∃kvs k,H a=ap (.dK kvs)/\y=kV k/\kvs.length < sizeLine/\H'=upd H a (.dK (putK kvs k v)))\/
 ∃kvs k b,H a=ap (.dT kvs)/\y=.ref b/\H b=ap (.tup (k.map kV))/\kvs.length < sizeLine/\H'=upd H a (.dT (putK kvs k v))
theorem vq.k {kvs:List (Key×V)}{k:Key} (e:H a=ap (.dK kvs)):vq H a (kV k) (iW kvs k):=.inl ⟨kvs,k,.inl e,rfl,rfl⟩
theorem Q6.k {kvs:List (Key×V)}{k:Key} (e:H a=ap (.dK kvs)) (hl:kvs.length < sizeLine):Q6 H a (kV k) v (upd H a (.dK (putK kvs k v))):=.inl ⟨kvs,k,e,rfl,hl,rfl⟩
section
variable {r:bv}
def Inv.big (I:Inv X Z σ H s):tz < s.heap.objs.size:=by
 have h:=(I.mod.glob.keeps I.bk).lt;exact Nat.lt_trans ⋯ h
def MV (hu:A.units+1 < nn) (I:Inv X Z σ H s) (g:vq H a y (ap v)) (ry:RelV y u) (h:∀w' s',Inv X Z σ H s'->RelV v w'->Q w' s') :
  db (dL X.prog X.w) A (Fk (.ref a) u) Q E s:=by
 rcases g with⟨kvs,k,e,ey,l⟩ | ⟨kvs,k,b,e,ey,eb,l⟩
 ·subst ey;obtain⟨z,hd,vs,Î,dd⟩:=uo I.bK e;obtain⟨w',hw,iz⟩:=uF.some_of (v:=v) (o:=valueAt vs k) (by rw [l];exact Î.val k);exact wpAny_getItem_of (Ku ry) dd.mapOf hw (h w' _ (I.tok _) iz)
 ·subst ey;cases (show u=AD b from ry);obtain⟨z,hd,xs,Î,dd⟩:=um I.bK e;obtain⟨w',hw,iz⟩:=uF.some_of (v:=v) (o:=(atKey xs k).map (·.2)) (by rw [l];exact Î.val k);obtain⟨p,hp,xU⟩:=Option.map_eq_some_iff.mp hw;refine wpAny_getItem_heap (Ev hu) (tD I.bK eb) dd hp ?_;rw [xU];exact h w' _ (I.tok _) iz
def af2 (hu:A.units+1 < nn) (I:Inv X Z σ H s) (g:vq H a y o) (ry:RelV y u) (h:∀s',Inv X Z σ H s'->Q (.bool o.isSome) s') :
  db (dL X.prog X.w) A (im .In u (.ref a)) Q E s:=by
 rcases g with⟨kvs,k,e,ey,l⟩ | ⟨kvs,k,b,e,ey,eb,l⟩
 ·subst ey;obtain⟨z,hd,vs,Î,dd⟩:=uo I.bK e;refine wpAny_in_of (Ku ry) hd dd.mapOf ?_;rw [<- (Î.val k).pI,<- l];exact h _ (I.tok _)
 ·subst ey;cases (show u=AD b from ry);obtain⟨z,hd,xs,Î,dd⟩:=um I.bK e;refine wpAny_in_heap (Ev hu) (tD I.bK eb) hd dd ?_;have q:=(Î.val k).pI;rw [FI] at q;rw [<- q,<- l];exact h _ (I.tok _)
def K9 {t':Nat}{ob:HO} (I:Inv X Z σ H s) (mu:Mut (H a)) (hs:Cf a s.heap h') (he:∃q,h'.get? a=ap q) (new:bu X.prog X.w (upd H a ob) h' a ob) :
  Inv X Z σ (upd H a ob) {s with heap:=h',toks:=t'}:=
 I.write (x:=a) (e:=a) mu (.inl rfl) (λb q hb z=>(hs.2 b hb).trans z) he new
def Yu {kvs:List (Key×V)}{vs:List (Key×bv)} (z:kvs.length<=sizeLine) (hd:(a==tz)=false) (Î:KV kvs vs) (dd:h'.DictOf (cv P w) a vs) :
  bu P w H' h' a (.dK kvs):=⟨z,hd,vs,Î,dd⟩
theorem MU {Q:Unit->cr->Prop} (hu:A.units+1 < nn) (I:Inv X Z σ H s) (g:Q6 H a y v H') (ry:RelV y u) (rv:RelV v r) (h:∀s',Inv X Z σ H' s'->Q () s') :
  db (dL X.prog X.w) A (Db (.ref a) u r) Q E s:=by
 rcases g with⟨kvs,k,e,ey,l,eH⟩ | ⟨kvs,k,b,e,ey,eb,l,eH⟩
 ·subst ey eH;obtain⟨z,hd,vs,Î,dd⟩:=aca I.bK e;have hz:vs.length<=sizeLine:=by rw [<- Î.length];exact z
  have hl:(putK kvs k v).length<=sizeLine:=by have:=qd kvs k v;omega
  refine wpAny_setItem_pairs (hsz:=hz) (Ku ry) dd λh' đ hs=>h _ ?_;have he:∃q,h'.get? a=ap q:=let ⟨q,_,_,hq,_⟩:=đ;⟨q,hq⟩;exact K9 I (by rw [e];exact Cj) hs he (Yu hl hd (Î.put k rv) đ)
 ·subst ey eH;cases (show u=AD b from ry);obtain⟨z,hd,xs,Î,dd⟩:=ab9 I.bK e;have hz:xs.length<=sizeLine:=by rw [<- Paired.length Î];exact z
  have hl:(putK kvs k v).length<=sizeLine:=by have:=qd kvs k v;omega
  refine wpAny_setItem_heap (hsz:=hz) (Ev hu) (tD I.bK eb) dd λh' đ hs=>h _ ?_;obtain⟨q,es,ep,hq,h2,h3,h4,_,h5⟩:=đ;refine K9 I (by rw [e];exact Cj) hs ⟨q,hq⟩ ⟨hl,hd,_,(Î.put k eb rv).keeps λc ys ec=>?_,q,es,ep,hq,h2,h3,h4,h5⟩;rw [aD (Kp ec e (λz=>nomatch z))];exact ec
end
def YO (i:ga):Prop:=∀ov iv,subscripted i false ov iv=operate [ov,iv] (Fk ov iv)
def RJ {slice:ga}{id:String}
  (hl:FB (.type T) "__getitem__"=pure (ap (.builtin id))) (hs:YO slice)
  (h:db (dL prog w) A (kw value env) (λo s₁=>db (dL prog w) A (kw slice env) (λi s₂=>s₂.TypeIs o T/\db (dL prog w) A (Fk o i) Q E s₂) E s₁) E s) :
  db (dL prog w) A (kw (.Subscript value slice pos) env) Q E s:=by
 refine Subscript_ (BW h (λo s₁ h₁=>BW h₁ (λi s₂ h₂=>?_) λ_ _ x=>x) λ_ _ x=>x);obtain⟨hT,h₂⟩:=h₂;refine Aa ?_;refine Aa (DP hT hl ?_);have fin:db (dL prog w) A (subscripted slice false o i) (λr s₃=>db (dL prog w) A (letTemporaryGo value o r >>= λ_=>pure r) Q E s₃) E s₂:=by
  rw [hs o i];exact wpAny_operating (BW h₂ (λr s₃ h₃=>Aa (wpAny_letTemporaryGo (Ah h₃))) λ_ _ x=>x)
 first
  | exact Ah (Aa fin)
  | exact Aa (Ah (Aa fin))
  | exact Aa fin
def GP (I:Inv X Z σ H s) (g:vq H a y o):s.TypeIs (.ref a) "dict":=by
 rcases g with⟨kvs,k,e,_,_⟩ | ⟨kvs,k,b,e,_,_,_⟩
 ·obtain⟨_,_,vs,_,dd⟩:=uo I.bK e;exact dd.typeIs
 ·obtain⟨_,_,xs,_,dd⟩:=um I.bK e;exact dd.typeIs
def ZS (td ty:TE):TE:=λσ H Q=>td σ H λx H1=>ty σ H1 λy H2=>∃a v,x=.ref a/\vq H2 a y (ap v)/\Q v H2
def aea (ty td:TE):TE:=λσ H Q=>ty σ H λy H1=>td σ H1 λx H2=>∃a o,x=.ref a/\vq H2 a y o/\Q (.bl o.isSome) H2
def Z9 (td ty tv:TE):TS:=λD σ H=>tv σ H λv H1=>td σ H1 λx H2=>ty σ H2 λy H3=>∃a H4,x=.ref a/\Q6 H3 a y v H4/\D.nx σ H4
section
variable {o i:ga}{td ty tv:TE}
def Sr (hu:X.A.units+1 < nn) (ho:PE X o td) (hi:PE X i ty) (hs:YO i):PE X (.Subscript o i pos) (ZS td ty):=by
 intro Z s σ H Q I h;refine RJ PySem.F.slot_dict_getitem.lookup hs (bE (ho Z s σ H _ I h) λu s1 ⟨x,H1,I1,rx,q1⟩=>bE (hi Z s1 σ H1 _ I1 q1) λiv s2 ⟨y,H2,I2,ry,a,v,ex,g,q2⟩=>?_);subst ex;obtain rfl:u=AD a:=rx;exact⟨GP I2 g,MV hu I2 g ry λw' s3 I3 iz=>⟨v,H2,I3,iz,q2⟩⟩
def W5 (hu:X.A.units+1 < nn) (hi:PE X i ty) (ho:PE X o td):PC X .In i o (aea ty td):=by
 intro Z s σ H Q I h;refine bE (hi Z s σ H _ I h) λiv s1 ⟨y,H1,I1,ry,q1⟩=>bE (ho Z s1 σ H1 _ I1 q1) λu s2 ⟨x,H2,I2,rx,a,ov,ex,g,q2⟩=>?_;subst ex;obtain rfl:u=AD a:=rx;exact af2 hu I2 g ry λs3 I3=>⟨.bl ov.isSome,H2,I3,rfl,q2⟩
def Se (hu:X.A.units+1 < nn) (ho:PE X o td) (hi:PE X i ty) (hv:PE X value tv) (hs:lc value (ap (.Subscript o i Ô)) pos.line X.env=pure false) :
  PS X (.Assign [.Subscript o i Ô] value pos) (Z9 td ty tv):=by
 intro Z s σ H D I h;refine wpAny_Assign_Subscript (bE (hv Z s σ H _ I h) λr s1 ⟨v,H1,I1,rv,q1⟩=>bE (ho Z s1 σ H1 _ I1 q1) λu s2 ⟨x,H2,I2,rx,q2⟩=>bE (hi Z s2 σ H2 _ I2 q2) λiv s3 ⟨y,H3,I3,ry,a,H4,ex,g,q3⟩=>?_) hs;subst ex;obtain rfl:u=AD a:=rx;exact MU hu I3 g ry rv λs4 I4=>⟨σ,H4,I4,q3⟩
end
def Qz (h:nw) (hb:tz < h.objs.size):bu P w H (h.push {cls:=.type "dict",data:=.dict #[]}) h.objs.size (.dK []):=
 ⟨Bb _,beq_eq_false_iff_ne.mpr (BL (AM hb)),[],.nil,Heap.DictOf.new h⟩
def Wf:TE:=λ_ H Q=>∀p,H p=bm->Q (.ref p) (upd H p (.dK []))
section
def OE:PE X (.Dict [] [] pos) Wf:=λZ s σ H Q I h=>
 wpAny_Dict_empty ⟨.ref s.heap.objs.size,_,I.laid (a:=s.heap.objs.size) (o:=.dK []) (t':=s.toks) (λ_ _ q=>Aj _ q) (Ao _) (Qz s.heap I.big),rfl,h _ (I.bK.fresh (Ao _))⟩
end
structure M2 (X:Cx) (o:ga) (m:Str) (Â:Pos) (e f:ga) (bS:Pos):Prop where
 base:pc o m X.env (kw o X.env)=kw o X.env
 few:((Gc bS (d5 [e,f] X.env)).all (λx=>!x.1)&&(backToKw bS (keywordEach [] X.env)).all (λx=>x.1.isSome)
  && decide (([e,f]:List ga).length+([]:List Keyword).length+(if ([]:List Keyword).isEmpty then 0 else 1) < 30))=true
 line:(Â.endLine==bS.line)=true
 trees:Gc bS (d5 [e,f] X.env)=[(false,kw e X.env),(false,kw f X.env)]
def IsD (H:Hp) (a:ci):Prop:=(∃kvs,Rd H a (.dK kvs))\/∃kvs,Rd H a (.dT kvs)
end L2
variable {Ñ:List BZ}{XP:(BZ->Option Ba)->FE->Prop}{YP:PySem.World->FE->Prop}{d:PySem.DefRec}
namespace Att
open PySem PySem.W PySem.Calls PyProof.Rows
def qG {P:Params}:∀(ns:List Int) (vs:List bv),WellAll P h vs (ns.map WData.int)->ww vs ns:=by
 intro ns
 induction ns with
 | nil=>
  intro vs w;cases w;exact .nil
 | cons n ns ih=>
  intro vs w;cases w with
  | cons a b=>
   cases a;exact .cons _ _ (ih _ b)
theorem LG {l:OpenLaw} (hn:l.most=ap n) {P:Params}{args:List WData}{Ü:List bv}
  (TH:l.row.toRowW.claim.pre args=true) (Ī:WellAll P h Ü args) :
  ∃a vs ns,Ü=[AD a]/\args=[WData.list (ns.map WData.int)]/\h.get? a=ap {cls:=.type "list",data:=.seq vs.toArray}/\ww vs ns/\ns.length<=n:=by
 have hsh:=(pre_splitW TH).1;have hc:l.pre.holds [] {args:=args}=true:=(pre_splitW TH).2;obtain⟨d,r,rfl,h1,h2⟩:=hasAllW_cons hsh;obtain rfl:=hasAllW_nil h2;obtain⟨xs,rfl,h3⟩:=hasW_list h1;obtain⟨ns,rfl⟩:=items_int h3;have Á:ns.length<=n:=by
  unfold OpenLaw.pre at hc;have h4:(WTm.not (.lt (.lit (.int (n:Int))) (.len (.arg 0)))).holds [] {args:=[.list (ns.map .int)]}=true:=by
   have h4:=(holds_andW hc).1;rw [hn] at h4;exact h4
  have h5:=condW_of h4 (w_not (w_lt w_lit (w_len_list (w_arg rfl))));refine Nat.le_of_not_lt λq=>?_
  first
   | (rw [decide_eq_true q'] at h5;exact absurd h5 ⋯)
   | (simp at h5;omega)
 cases Ī with
 | cons w1 w2=>
  cases w2;cases w1 with
  | list ho afD=>exact⟨_,_,ns,rfl,rfl,ho,qG ns _ afD,Á⟩
def LN (l:OpenLaw) (args:List WData):l.row.toRowW.claim.post args (.bool true) args=true:=
 postW_of (r:=l.row.toRowW) (X:=(true==true))
  (show WShape.has [] (.bool true) .bool=true by first | rfl | decide | simp [WShape.has,WShape.arms,WShape.armsAll])
  (show (WTm.eq .res (.lit (.bool true))).value [] {args:=args,res:=ap (.bool true),after:=args}=ap (.bool (true==true)) from w_eq_bool (w_res rfl) w_lit) rfl
def GV {l:OpenLaw}{q:sK}
  (hn:l.most=ap n) (ô:d.params.defaults=[])
  (call:∀(w:wn) (s₀ s₁:cr) (mg mb:Str->Option bv) (fa:ci) (o:Obj) (pm cd Ç:bv) (a:ci) (vs:List bv) (ns:List Int),
   Ground q Ñ [] XP w s₀ mg mb s₁.heap->YP w s₁.heap->
   s₁.heap.get? fa=ap o->o.data=.func (docDef d.name d.params d.body d.scope pm cd Ç)->s₁.heap.CodeRec cd d.name->mg d.name=ap (.ref fa)->
   s₁.heap.get? a=ap {cls:=.type "list",data:=.seq vs.toArray}->ww vs ns->ns.length<=n->s₁.gens=#[]->
   FS (dL l.prog w) callerA (.call (.ref fa) ⟨[.ref a],[]⟩) (λr s'=>r=.ok (.ret (.bool true))/\OldK s₁.heap s'.heap/\s'.os=s₁.os/\Ge s'.gens) s₁) :
  WalkO q Ñ XP YP l.row.toRowW d [] (λf vs=>F1 f vs):=by
 intro w s₀ s₁ mg mb G Y fa o pm cd Ç dV kV ho hd iY hD hmg hg args Ü as TH ajz hrd Ī hlo;obtain rfl:dV=.none:=Dflts.none hD ô;obtain rfl:kV=.none:=Dflts.noKw hD;obtain⟨a,vs,ns,rfl,rfl,X1,Ó,Á⟩:=LG hn TH Ī;refine enter_call (codeAny_mono (call w s₀ s₁ mg mb fa o pm cd Ç a vs ns G Y ho (fd_plain hd) iY hmg X1 Ó Á hg) λr s' hq=>?_);obtain⟨rfl,h2,h3,h4⟩:=hq;exact⟨.inl ⟨.bool true,.bool true,[],rfl,λ_=>rfl,.bool true,LN l _,λ_=>⟨List.Pairwise.nil,λ_ hm=>(nomatch hm)⟩⟩,h2,h3,h4⟩
end Att
variable {k:Nat}{sp:L2.Sp}
namespace L2
open PySem PySem.Spec PyProof.Rows
theorem oX:∀{vs:List bv}{ns:List Int},ww vs ns->Vals (ns.map V.int) vs
 | _,_,.nil=>.nil
 | _,_,.cons n t h=>.cons ⟨t,rfl⟩ (oX h)
def UJ (H:Hp):Prop:=∀b,H b=bm\/∃o xs,H b=ap (.cT o (.lst xs))
def O8 {K:Ab}{mb:Str->Option bv}{CX:Nx}{fa:ci}{s₁:cr}{vs:List bv}
  (KX:K.In s₁.heap) (ċ:s₁.heap.Ns d4 mg) (hb:s₁.heap.Ns builtinsNs mb) (hbb:∀x:Str,x≠"__name__"->mb x=mo x) (afm:s₁.heap.NoLimit) (hg:s₁.gens=#[])
  (ha:s₁.heap.get? a=ap {cls:=.type "list",data:=.seq vs.toArray}) (hi:ww vs ns) (hl:ns.length<=sizeLine) (hr:dg k callerA)
  (F:∀base:nw,K.In base->base.Ns d4 mg->fH P w K mg base CX k fa fd [x] sp) (abA:∀(s:cr) (u:bv),BindsTo s fd ⟨[u],[]⟩ [(x,u)])
  (TC:∀H:Hp,UJ H->dc K H a (ns.map V.int)->sp [.ref a] H (λv _=>v=.bl true) λ_ _ _=>False)
  (ł:∀H e s',CX [] H s₁ (λ_ _ _=>False) e s'->False) :
  FS (dL P w) callerA (.call (.ref fa) ⟨[.ref a],[]⟩) (λr s'=>r=.ok (.ret (.bool true))/\OldK s₁.heap s'.heap/\s'.os=s₁.os/\Ge s'.gens) s₁:=by
 have rv:=oX hi;have aeI:=hi.length;have Ö:∀H:Hp,UJ H->dc K H a (ns.map V.int)->mz P w H s₁.heap->(∀b,H b≠bm->b=a)->(H a≠bm->K.lookup a=bm)->
   FS (dL P w) callerA (.call (.ref fa) ⟨[.ref a],[]⟩) (λr s'=>r=.ok (.ret (.bool true))/\OldK s₁.heap s'.heap/\s'.os=s₁.os/\Ge s'.gens) s₁:=by
  intro H hO hS bK hA hK;have Lc:∀{b:ci}{o:Obj},s₁.heap.get? b=ap o->H b=bm->(xV s₁.heap H).get? b=ap o:=λe n=>Pw e n;have è:∀{b:ci}{o:Obj}{es:Array DictEntry}{ep:Nat},s₁.heap.get? b=ap o->o.data=.dict es ep->H b=bm:=λ{b o es ep} e d=>by
   cases q:H b with
   | none=>rfl
   | some u=>
    have e':b=a:=hA b (by rw [q];simp);subst e';rw [ha] at e;cases e;have d':Fg vs.toArray _=Data.dict es ep:=d;cases d'
  have ā:∀{b:ci}{m:Str->Option bv},s₁.heap.Ns b m->(xV s₁.heap H).Ns b m:=λ{b m} ⟨o,es,ep,e,d,r⟩=>⟨o,es,ep,Lc e (è e d),d,r⟩;have hKb:K.In (xV s₁.heap H):=λb o e=>Lc (KX b o e) (by
   cases q:H b with
   | none=>rfl
   | some u=>
    have e':b=a:=hA b (by rw [q];simp);subst e';rw [hK (by rw [q];simp)] at e;cases e)
  have hM:Mod K mg (xV s₁.heap H):=⟨hKb,ā ċ,⟨mb,ā hb,hbb⟩,let ⟨mc,h1,h2⟩:=afm;⟨mc,ā h1,h2⟩⟩;have e0:UM P w K mg (xV s₁.heap H) callerA [] s₁ H:=⟨rfl,hM,λb o e=>SK e,Nat.le_of_eq (Mg _ _),trivial,λb hb=>absurd (show b∈([]:List ci) from hb) (by simp),bK,.of_eq hg⟩;refine codeAny_mono ((F _ hKb (ā ċ)).run callerA [] s₁ H ⟨[.ref a],[]⟩ [.ref a] [.ref a] _ _ hr e0 (abA s₁ (.ref a)) (.cons rfl .nil) (TC H hO hS)) λr s' h=>?_;cases r with
  | error e=>exact (ł H e s' h).elim
  | ok fl=>
   cases fl with
   | next=>exact Bs h
   | brk=>exact Bs h
   | cont=>exact Bs h
   | ret u=>
    obtain⟨v,H',os,bare,un,afh,r',q⟩:=h;have q':v=.bl true:=q;subst q';obtain rfl:u=B9 true:=r';refine⟨rfl,OldK.of_keep λb o e=>?_,os,bare⟩;cases q:H b with
    | none=>exact un.keep b o e q (by intro z;exact absurd (show b∈([]:List ci) from z) (by simp)) (by simp)
    | some u=>
     rcases hO b with z | ⟨ob,xs,z⟩
     ·rw [q] at z;cases z
     ·have z2:=un.qN b ob _ z;obtain⟨e1,_⟩:=bK b _ z;obtain⟨e2,_⟩:=afh b _ z2;rw [e] at e1;cases e1;exact e2
 cases hk:K.lookup a with
 | some o=>
  have e:=KX a o hk;rw [ha] at e;cases e;refine Ö (λ_=>bm) (λ_=>.inl rfl) (.inr ⟨_,vs.toArray,_,hk,rfl,rfl,rfl,by rw [Ai,aeI];exact hl,by simpa using rv⟩) (λb u z=>by have z':(bm:Option HO)=ap u:=z;cases z') (λb z=>absurd rfl z) λz=>absurd rfl z
 | none=>
  refine Ö (λb=>if b=a then ap (.cT {cls:=.type "list",data:=.seq vs.toArray} (.lst (ns.map V.int))) else bm) (λb=>?_) (.inl (.inr ⟨{cls:=.type "list",data:=.seq vs.toArray},if_pos rfl⟩)) (λb u z=>?_) (λb z=>?_) λ_=>hk
  ·by_cases hb:b=a
   ·exact .inr ⟨_,_,if_pos hb⟩
   ·exact .inl (if_neg hb)
  ·by_cases hb:b=a
   ·have z':=(if_pos hb).symm.trans z;cases z';subst hb;exact⟨ha,by rw [Ag];exact hl,vs,_,rv,ha⟩
   ·have z':=(if_neg hb).symm.trans z;cases z'
  ·by_cases hb:b=a
   ·exact hb
   ·exact absurd (if_neg hb) z
def Ru {l:E3}{q:sK}{K:Params->Ab}{CX:wn->Nx}{sp:wn->Sp}
  (hn:l.most=ap n) (hn2:n<=sizeLine) (ô:d.params.defaults=[]) (hr:dg k callerA)
  (hY:∀(w:wn) (h:nw),YP w h->(K w.params).In h)
  (F:∀(w:wn) (mg:Str->Option bv) (fa:ci) (h:nw),(K w.params).In h->h.Ns d4 mg->mg d.name=ap (.ref fa)->
   ∃fd:EQ,(∀(s:cr) (u:bv),BindsTo s fd ⟨[u],[]⟩ [(x,u)])/\
    ∀base:nw,(K w.params).In base->base.Ns d4 mg->fH l.prog w (K w.params) mg base (CX w) k fa fd [x] (sp w))
  (TC:∀(w:wn) (H:Hp) (a:ci) (ns:List Int),ns.length<=n->UJ H->dc (K w.params) H a (ns.map V.int)->sp w [.ref a] H (λv _=>v=.bl true) λ_ _ _=>False)
  (ł:∀(w:wn) (H:Hp) (s:cr) (e:bv) (s':cr),CX w [] H s (λ_ _ _=>False) e s'->False) :
  PySem.W.WalkO q Ñ XP YP l.row.toRowW d [] (λf vs=>F1 f vs):=by
 refine Att.GV hn ô λw s₀ s₁ mg mb fa o pm cd Ç a vs ns G Y ho hd iY hmg X1 Ó Á hg=>?_;have KX:=hY w _ Y;obtain⟨fd,hb,hF⟩:=F w mg fa _ KX G.T.g hmg;exact O8 KX G.T.g G.T.b G.T.builtins G.T.nolimit hg X1 Ó (A4 Á hn2) hr hF hb (λH hO hS=>TC w H a ns Á hO hS) λH e s'=>ł w H s₁ e s'
end L2
variable {B:Prop}
namespace L2
open PySem PySem.Spec PyProof.Rows
def gM (s:tt):Arguments:=match s with
 | .FunctionDef _ a _ _ _ _ _ _ _ _=>a
 | _=>{posonlyargs:=[],args:=[],vararg:=bm,kwonlyargs:=[],kw_defaults:=[],kwarg:=bm,defaults:=[]}
def bt (s:tt):List tt:=match s with
 | .FunctionDef _ _ b _ _ _ _ _ _ _=>b
 | _=>[]
def ag (s:tt):lm:=match s with
 | .FunctionDef _ _ _ _ _ _ sc _ _ _=>sc
 | _=>{kind:=.function,names:=[],isGenerator:=false,isCoroutine:=false}
abbrev kN:Nx:=λ_ _ _ _ _ _=>False
abbrev E0:XK:=λ_ _ _=>False
def U8:Passes kN X E0:=λ_ _ _ _ _ _ _ h=>h.elim
structure Rl (K:Ab) (x qual:Str) (st:tt) (f:ci) (fd:EQ):Prop where
 ex:∃(oc:bv) (od:Option ci) (kV Ç pm:bv) (an:Option ci) (cX ct:bv) (Rf:Array (Option bv)),
  fd=B6 x qual (gM st) (bt st) (ag st) .none kV Ç pm an cX ct/\K.lookup f=ap ⟨oc,od,.func fd,Rf⟩/\D5 K cX qual=true
 kp:CO K (.ref f)=true
section
variable {K:Ab}
def Rl.ok {st:tt}{f:ci}{N:List Str} (F:Rl K x qual st f fd) (S:aq N ps (ag st)) (len:∀vs H Q E,sp vs H Q E->vs.length=ps.length)
  (PJ:∀(cX:bv) (A:sn) (outer:List Env) (s:cr) (H:Hp) (vs:List V) (Q:VK) (E:XK),dg k (A.deeper (sB qual (ag st) s.heap.objs.size f cX))->sp vs H Q E->
   ∃t,rN (jG kN P w K mg base N qual (ag st) f cX A outer s H E).y6 (bt st) t/\t {nx:=λ_ H'=>Q .aV H',rt:=Q} (start N vs) H):fH P w K mg base kN (k+1) f fd ps sp:=by
 obtain⟨oc,od,kV,Ç,pm,an,cX,ct,Rf,rfl,lk,iY⟩:=F.ex;refine abL lk iY S len λA outer s H vs Q E hr TC=>?_;obtain⟨t,h,q⟩:=PJ cX A outer s H vs Q E hr TC;exact⟨t,h.y6,q⟩
def Rl.binds {st:tt}{f:ci} (F:Rl K x qual st f fd)
  (h:∀(kV Ç pm:bv) (an:Option ci) (cX ct:bv) (us:List bv),us.length=ps.length->bindArgs (B6 x qual (gM st) (bt st) (ag st) .none kV Ç pm an cX ct) ⟨us,[]⟩=pure (ps.zip us)):Binds K fd ps []:=by
 obtain⟨oc,od,kV,Ç,pm,an,cX,ct,Rf,rfl,lk,iY⟩:=F.ex;exact .all (h kV Ç pm an cX ct)
def Ya {st:tt}{f:ci}{kV:bv} (l:K.lookup f=ap ⟨oc,od,.func (B6 x qual (gM st) (bt st) (ag st) .none kV Ç pm an cX ct),Rf⟩)
  (c:D5 K cX qual=true) (k:CO K (.ref f)=true):Rl K x qual st f (B6 x qual (gM st) (bt st) (ag st) .none kV Ç pm an cX ct):=⟨⟨oc,od,kV,Ç,pm,an,cX,ct,Rf,rfl,l,c⟩,k⟩
end
def vE (h:n<=1000):n < sizeLine:=Nat.lt_of_le_of_lt h ⋯
def uY {A:Prop} (h:B):if false=true then A else B:=by
 exact h
def uX {A:Prop} (h:A):if true=true then A else B:=by
 exact h
def kz (H H':Hp):Prop:=∀b o,H b=ap o->H' b=ap o
def kz.refl (H:Hp):kz H H:=λ_ _ h=>h
end L2
variable {a b:Nat}{H2:L2.Hp}{R:PySem.Result->D1->Prop}{Xs:PySem.Scope}{N':List BZ}{ix:List (Option Nat)}{Ä:BU}{É:List BU}{nK:CB}
namespace L2
open PySem PySem.Spec PyProof.Rows
def lsz {o:Obj} (e:h.get? b=ap o):b < h.objs.size:=Au e
def neN (h:a≠b):a≠b:=h
def ltN (h:a < b):a < b:=h
def VM {c:Nat}{v:Option bv} (q:h.IsCell c v):c < h.objs.size:=q.lt
structure aA (Xs:lm) (N:List Str) (sc:lm) (N':List Str) (ix:List (Option Nat)):Prop where
 kind:sc.kind=.function
 nc:∀y∈sc.names,y.2≠.cell
 loc:∀y∈sc.names,y.2=.local->sc.names.lookup y.1=ap .local
 fr:∀y∈sc.names,y.2=.free->(Xs.names.lookup y.1=ap .cell\/Xs.names.lookup y.1=ap .free)
 nd:N'.Nodup
 len:ix.length=N'.length
 map:((ix.zip N').all λp=>match p.1 with | none=>true | some j=>decide (N[j]?=ap p.2)&&decide (sc.names.lookup p.2=ap .free))=true
def aA.at {N:List Str} (S:aA Xs N sc N' ix) {i:Nat} (h1:ix[i]?=ap (ap j)) (h2:N'[i]?=ap x) :
  N[j]?=ap x/\sc.names.lookup x=ap .free:=by
 have hm:((ap j,x):Option Nat×Str)∈ix.zip N':=by
  refine A7 (i:=i) ?_;rw [List.getElem?_zip_eq_some];exact⟨h1,h2⟩
 have q:=CF.mp S.map _ hm;simp only [AO,decide_eq_true_eq] at q;exact q
def oP (ix:List (Option Nat)) (σ:St):St:=ix.map λo=>match o with | some j=>(σ[j]?).getD bm | none=>bm
def gD (X:Cx) (sc:lm) (N':List Str) (cl:List (Str×ci)) (C:ci) (s2:cr) (H2:Hp) (fp:List ci):Cx where
 prog:=X.prog
 w:=X.w
 K:=X.K
 mg:=X.mg
 base:=X.base
 A:=X.A
 N:=N'
 s₀:=s2
 H₀:=H2
 env:=compEnvC sc cl C X.env
 outer:=X.stack
 stack:=X.stack
 ex:=fp
 calm:=X.calm
 fn:=λ_=>false
 pn:=[]
 xe:=λ_ _=>False
theorem nh:∀(names:List (Str×zn)) (cs:List (Str×ci)),(∀y∈names,y.2=.free->∃c,env.cells.lookup y.1=ap c)->
  ∃cl,(forIn names cs λ(x:Str×zn) (c:List (Str×ci))=>(match x with | (name,kind)=>do
    let c <- if (kind==Bn)=true then do let a <- cellOf env name;pure ((name,a)::c) else pure c
    pure (Cq c):Sem (ForInStep (List (Str×ci)))))=pure cl/\(∀x c,cl.lookup x=ap c->cs.lookup x=ap c\/(env.cells.lookup x=ap c/\(x,Bn)∈names))/\(∀x,((x,Bn)∈names\/(∃c,cs.lookup x=ap c))->∃c,cl.lookup x=ap c)
 | [],cs,_=>⟨cs,rfl,λ_ _ h=>.inl h,λx h=>h.elim (λz=>nomatch z) λz=>z⟩
 | (n,k)::r,cs,h=>by
  by_cases hk:k=.free
  ·subst hk;obtain⟨c,hc⟩:=h (n,.free) BF rfl;obtain⟨cl,e,h1,h2⟩:=nh r ((n,c)::cs) λy hy=>h y (AW _ hy);refine⟨cl,?_,λx d hd=>?_,λx hx=>?_⟩
   ·rw [Ca,<- e];simp only [beq_self_eq_true,if_true,cellOf,hc,pure_bind]
   ·rcases h1 x d hd with z | ⟨z1,z2⟩
    ·rw [Br] at z;by_cases hx:(x==n)=true
     ·rw [hx] at z;have uH:x=n:=eq_of_beq hx;subst uH;cases z;exact .inr ⟨hc,BF⟩
     ·have uH:(x==n)=false:=by simpa using hx
      rw [uH] at z;exact .inl z
    ·exact .inr ⟨z1,AW _ z2⟩
   ·refine h2 x ?_;rcases hx with hx | ⟨d,hd⟩
    ·rcases AA.mp hx with z | z
     ·injection z with z1 _;subst z1;exact .inr ⟨c,by rw [Br];simp⟩
     ·exact .inl z
    ·by_cases hx:(x==n)=true
     ·exact .inr ⟨c,by rw [Br,hx]⟩
     ·have uH:(x==n)=false:=by simpa using hx
      exact .inr ⟨d,by rw [Br,uH];exact hd⟩
  ·obtain⟨cl,e,h1,h2⟩:=nh r cs λy hy=>h y (AW _ hy);refine⟨cl,?_,λx d hd=>?_,λx hx=>?_⟩
   ·have hb:(k==Bn)=false:=by simpa using hk
    rw [Ca,<- e];simp only [hb,An,if_false,pure_bind]
   ·rcases h1 x d hd with z | ⟨z1,z2⟩
    ·exact .inl z
    ·exact .inr ⟨z1,AW _ z2⟩
   ·refine h2 x ?_;rcases hx with hx | hx
    ·rcases AA.mp hx with z | z
     ·injection z with _ z2;exact absurd z2.symm hk
     ·exact .inl z
    ·exact .inr hx
def mN (h:∀y∈sc.names,y.2=.free->∃c,env.cells.lookup y.1=ap c) :
  ∃cl,closureFor sc env=pure cl/\(∀x c,cl.lookup x=ap c->env.cells.lookup x=ap c/\(x,Bn)∈sc.names)/\(∀x,(x,Bn)∈sc.names->∃c,cl.lookup x=ap c):=by
 obtain⟨cl,e,h1,h2⟩:=nh (env:=env) sc.names [] h;refine⟨cl,?_,λx c hc=>(h1 x c hc).resolve_left (λz=>nomatch z),λx hx=>h2 x (.inl hx)⟩;unfold closureFor;have e':(forIn sc.names ([]:List (Str×ci)) λx r=>(match x with | (name,kind)=>if (kind==Bn)=true then do let a <- cellOf env name;pure (Cq ((name,a)::r)) else pure (Cq r):Sem (ForInStep (List (Str×ci)))))=pure cl:=by
  rw [<- e]
  first
   | rfl
   | (
     congr 1;funext x r;obtain⟨n,k⟩:=x;by_cases hk:(k==Bn)=true
     ·simp only [hk,if_true,pure_bind]
     ·simp only [hk,if_false,pure_bind,An])
   | simp only [pure_bind]
 simpa using e'
theorem ib {env:Env}:∀{names:List (Str×zn)}{x:Str},
  (names.map λ(n,k)=>if (k==Bn&&env.scope.kind==.function&&env.kindOf n==ap .cell) then (n,Fw) else (n,k)).lookup x =
   (names.lookup x).map λk=>if (k==Bn&&env.scope.kind==.function&&env.kindOf x==ap .cell) then Fw else k
 | [],_=>rfl
 | (n,k)::r,x=>by
  have ih:=@ib env r x;show List.lookup x ((if (k==Bn&&env.scope.kind==.function&&env.kindOf n==ap .cell)=true then (n,Fw) else (n,k))::_)=_;cases hx:x==n with
  | true=>
   have e:=eq_of_beq hx;subst e;by_cases hc:(k==Bn&&env.scope.kind==.function&&env.kindOf x==ap .cell)=true
   ·rw [if_pos hc,Br,Br,hx];simp only [Cp,hc,if_true]
   ·rw [if_neg hc,Br,Br,hx];simp only [Cp,hc,if_false];simp
  | false=>
   by_cases hc:(k==Bn&&env.scope.kind==.function&&env.kindOf n==ap .cell)=true
   ·rw [if_pos hc,Br,Br,hx];exact ih
   ·rw [if_neg hc,Br,Br,hx];exact ih
def Zo (X:Cx) (É:List ga) (t:TT):Prop:=
 ∀(Z:List (ci×Obj)) (s:cr) (σ:St) (H:Hp) (Q:Bool->Hp->Prop),Inv X Z σ H s->t σ H Q->
  db (dL X.prog X.w) X.A (forIn É true λc r=>if r=true then do let ok <- isTrue c X.env (kw c X.env);pure (Cq ok) else pure (Cq r)) (TP X Z σ Q) X.xe s
def aed:TT:=λ_ H Q=>Q true H
def So:Zo X [] aed:=λZ s σ H Q I h=>by
 exact Ah ⟨H,I,h⟩
def Sn {c:ga}{t:TT} (hc:PT X c t):Zo X [c] t:=λZ s σ H Q I h=>by
 rw [Ca];simp only [if_true,bind_assoc,pure_bind];refine Aa (bE (hc Z s σ H Q I h) λb s1 q=>?_);exact Ah q
def tLc (ix:List (Option Nat)) (wi:TI) (g:TG) (tf:TT) (te:TE):TE:=λσ H Q=>wi σ H λJ H1=>∀D,H1 D=bm->∃W:Nat->Nat->St->List V->Hp->Prop,
 (∃m,W 0 m (oP ix σ) [] (upd H1 D (.lst [])))/\∀i m σ' ys H,W i m σ' ys H->H D=ap (.lst ys)/\
  ((J.stop i H/\Q (.ref D) H)\/(J.go i H/\∀x H',J.UR i H x H'->g x σ' H' λσ2 H2=>tf σ2 H2 λb H3=>
   if b=true then te σ2 H3 λy H4=>H4 D=ap (.lst ys)/\ys.length+1<=sizeLine/\∃m',m' < m/\W (i+1) m' σ2 (ys++[y]) (upd H4 D (.lst (ys++[y]))) else ∃m',m' < m/\W (i+1) m' σ2 ys H3))
def mD {È:ga}{it Å:bv} (I:Nat->cr->Prop)
  (turn:∀n s,I n s->db (dL prog w) A (pyNext it) (λr s₁=>match r with
   | none=>R (.ok .next) s₁
   | some v=>db (dL prog w) A (GE È it v) (λ_ U0=>db (dL prog w) A (wT È env v) (λ_ s₂=>
     db (dL prog w) A (forIn É true λc r=>if r=true then do let ok <- isTrue c env (kw c env);pure (Cq ok) else pure (Cq r)) (λok s₃=>
      if ok=true then db (dL prog w) A (kw Ä env) (λx s₄=>
       db (dL prog w) A (call (.builtin "list.append") [Å,x]) (λ_ s₅=>∃m,m < n/\I m s₅) (λ_ _=>False) s₄) (λ_ _=>False) s₃
      else ∃m,m < n/\I m s₃) (λ_ _=>False) s₂) (λ_ _=>False) U0) (λ_ _=>False) s₁) (λ_ _=>False) s)
  (n:Nat) (h:I n s) :
  FS (dL prog w) A (.compLoop (.ListComp Ä [⟨È,iter,É,0⟩] scope pos) 0 it Å env) R s:=by
 refine codeAny_loop rfl I (λn s hI=>?_) n h;refine wpAny_noted ?_;rw [compTurn_list];refine Aa (Dw (Aa (BW (turn n s hI) (λr s₁ h₁=>?_) λ_ _ h'=>h'.elim)));cases r with
 | none=>exact Ah h₁
 | some v=>
  refine Aa (BW h₁ (λ_ U0 abc=>?_) λ_ _ h'=>h'.elim);refine Aa (BW abc (λ_ s₂ h₂=>Aa (BW h₂ (λok s₃ h₃=>?_) λ_ _ h'=>h'.elim)) λ_ _ h'=>h'.elim);cases ok with
  | false=>exact Ah ⟨rfl,h₃⟩
  | true=>
   have abb:db (dL prog w) A (kw Ä env) (λx s₄=>
       db (dL prog w) A (call (.builtin "list.append") [Å,x]) (λ_ s₅=>∃m,m < n/\I m s₅) (λ_ _=>False) s₄) (λ_ _=>False) s₃:=h₃
   exact Aa (Aa (BW abb (λx s₄ h₄=>Aa (BW h₄ (λ_ s₅ h₅=>Ah (Ah ⟨rfl,h₅⟩)) λ_ _ h'=>h'.elim)) λ_ _ h'=>h'.elim))
section
variable {g:TG}{tf:TT}
structure acw (X:Cx) (Z:List (ci×Obj)) (H:Hp) (C:ci):Prop where
 hn:H C=bm
 hL:C≠X.env.locals
 ab:X.s₀.heap.objs.size<=C
 cl:∀x c,X.env.cells.lookup x=ap c->c≠C
 pn:∀p∈X.pn++Z,p.1≠C
theorem Ks (hc:X.calm=true) (S:aA X.env.scope X.N sc N' ix)
  (hg:∀cl C s2 H2 fp,PG (gD X sc N' cl C s2 H2 fp) tg g) (hf:∀cl C s2 H2 fp,Zo (gD X sc N' cl C s2 H2 fp) É tf) (he:∀cl C s2 H2 fp,PE (gD X sc N' cl C s2 H2 fp) Ä te) {s2:cr}{cl:List (Str×ci)} (tR:∀x c,cl.lookup x=ap c->X.env.cells.lookup x=ap c/\(x,Bn)∈sc.names) (Mh:∀x,(x,Bn)∈sc.names->∃c,cl.lookup x=ap c) {tn:Nat->nw->Prop}{J:It}{Q:VK} (I2:Inv X Z σ H2 s2) (T:Turn X.prog X.w X.K tg J fp it tn) (Lx:tn 0 s2.heap) (f2:∀b∈fp,vo X Z H2 b)
  (hW:∀D,H2 D=bm->∃W:Nat->Nat->St->List V->Hp->Prop,
   (∃m,W 0 m (oP ix σ) [] (upd H2 D (.lst [])))/\∀i m σ' ys H,W i m σ' ys H->H D=ap (.lst ys)/\
    ((J.stop i H/\Q (.ref D) H)\/(J.go i H/\∀x H',J.UR i H x H'->g x σ' H' λσ2 H2=>tf σ2 H2 λb H3=>
     if b=true then te σ2 H3 λy H4=>H4 D=ap (.lst ys)/\ys.length+1<=sizeLine/\∃m',m' < m/\W (i+1) m' σ2 (ys++[y]) (upd H4 D (.lst (ys++[y]))) else ∃m',m' < m/\W (i+1) m' σ2 ys H3)))
  {RR:bv->ci->Result->cr->Prop}{E:bv->cr->Prop}
  (hRR:∀D C m s' H',Inv X Z σ H' s'->Q (.ref D) H'->s'.heap.Ns C m->acw X Z H' C->RR (.ref D) C (.ok .next) s') :
  db (dL X.prog X.w) X.A (newList []) (λÅ s₃=>db (dL X.prog X.w) X.A (newFunctionEnv sc X.env.globals cl [] X.env.qual bm .none (ap X.env)) (λace s₄=>
   FS (dL X.prog X.w) X.A (.compStart (.ListComp Ä [⟨tg,iter,É,0⟩] sc pos) 0 (.ref it) Å {ace with scope:=relabel sc X.env}) (RR Å ace.locals) s₄) E s₃) E s2:=by
 refine Bm (wpAny_newFunctionEnv S.nc (by intro y hy;simp at hy) (λh₁ Iq xT=>?_) S.kind);generalize hH2:s2.heap.push {cls:=.type "list",dict:=bm,data:=.seq ([]:List bv).toArray}=G2 at Iq xT ⊢;have hC:G2.objs.size=s2.heap.objs.size+1:=by rw [<- hH2,CP]
 obtain⟨D,hD⟩:∃D:Nat,s2.heap.objs.size=D:=⟨_,rfl⟩;obtain⟨C,hCC⟩:∃C:Nat,G2.objs.size=C:=⟨_,rfl⟩;simp only [hD,hCC] at Iq xT hC ⊢;have hDC:D≠C:=by omega
 have Ë:∀b o,s2.heap.get? b=ap o->h₁.get? b=ap o:=λb o e=>by
  have hb:=lsz e;exact xT.extBut b o (neN ∅) (Aj _ (hH2▸Aj _ e))
 have abB:h₁.get? D=ap {cls:=.type "list",data:=.seq ([]:List bv).toArray}:=by
  refine xT.extBut D _ hDC (Aj _ ?_);rw [<- hH2,<- hD];exact Aq _ rfl
 have hD2:H2 D=bm:=I2.bK.fresh ∅;have hC2:H2 C=bm:=I2.bK.fresh ∅;obtain⟨W,⟨m0,w0⟩,turn⟩:=hW D hD2;have VL:∀x c,cl.lookup x=ap c->∃v,s2.heap.IsCell c v:=λx c e=>I2.cell x c (tR x c e).1;have af3:∀x c,cl.lookup x=ap c->c < D:=λx c e=>by
  obtain⟨v,q⟩:=VL x c e;have:=VM q;exact ltN ∅
 have ņ:∀b∈fp,b < D:=λb hb=>by
  obtain⟨o,e,_⟩:=T.obj 0 _ Lx b hb;have:=lsz e;exact ltN ∅
 have Yok:(gD X sc N' cl C s2 H2 fp).Ok:=by
  refine⟨I2.ok.mod,S.kind,I2.ok.glob,I2.ok.blt,?_,?_,?_,?_,I2.ok.hd,I2.ok.frames,.inl rfl,?_,I2.bs,?_,?_,?_,I2.stack,I2.JV⟩
  ·show s2.heap.objs.size<=C;omega
  ·intro x y c e1 e2;exact I2.ok.inj x y c (tR x c e1).1 (tR y c e2).1
  ·intro x hx;have uH:(relabel sc X.env).names.lookup x=ap .cell\/(relabel sc X.env).names.lookup x=ap .free:=hx;unfold relabel at uH;rw [ib] at uH;cases q:sc.names.lookup x with
   | none=>rw [q] at uH;simp at uH
   | some k=>
    have hm:=BX q;by_cases hk:k=.free
    ·subst hk;exact Mh x hm
    ·have Č:k≠.cell:=S.nc _ hm;rw [q] at uH;have hb:(k==Bn)=false:=by simpa using hk
     simp only [Cp,hb,Fo,An,if_false] at uH;rcases uH with z | z
     ·exact absurd (Option.some.inj z) Č
     ·exact absurd (Option.some.inj z) hk
  ·intro x c ó;exact absurd ó AV
  ·intro b hb;refine⟨?_,λx c e z=>(f2 b hb).2.2.2.2.1 x c (tR x c e).1 z⟩;show b≠C;have:=ltN (ņ b hb);exact neN ∅
  ·exact A4 I2.ok.VN I2.sz
  ·intro b o e hb;rcases (f2 b hb).2.2.2.1 with z | z
   ·exact I2.ok.OX b o e z
   ·have h1:=lsz (h:=X.base) e;have h2:=I2.ok.VN;omega
  ·intro b hb z;rcases AA.mp (I2.Hw b z) with q | q
   ·exact (f2 b hb).2.1 q
   ·exact (f2 b hb).2.2.1 q
 have un0:Un (Nt X.stack) fp H2 (upd H2 D (.lst [])) s2.heap h₁:=Un.laid Ë ∅ hD2;have afg:mz X.prog X.w (upd H2 D (.lst [])) h₁:=I2.bK.laid Ë ∅ ⟨Bb _,[],0,.nil,abB⟩;have IY:∀tk,Inv (gD X sc N' cl C s2 H2 fp) [] (oP ix σ) (upd H2 D (.lst [])) {s2 with heap:=h₁,toks:=tk}:=λtk=>by
  refine⟨Yok,rfl,I2.bare,un0,⟨_,Iq,λi x v e1 e2 e3=>?_⟩,λx c e=>?_,?_,λx c e=>?_,λp hp=>absurd (show p∈([]:List (ci×Obj)) from hp) (by simp),afg,?_⟩
  ·have nu:N'[i]?=ap x:=e1;unfold oP at e2;rw [Ae] at e2;cases q:ix[i]? with
   | none=>rw [q] at e2;cases e2
   | some o=>
    cases o with
    | none=>rw [q] at e2;cases e2
    | some j=>
     rw [q] at e2;have Ys:(σ[j]?).getD bm=ap v:=Option.some.inj e2;have e4:σ[j]?=ap (ap v):=by
      cases z:σ[j]? with
      | none=>rw [z] at Ys;cases Ys
      | some y=>rw [z] at Ys;exact congrArg ap Ys
     obtain⟨a1,a2⟩:=S.at q nu;have abn:=BX a2;have hk:=S.fr _ abn rfl;obtain⟨m,_,hl⟩:=I2.loc;obtain⟨u,r,l⟩:=hl j x v a1 e4 (.inr hk);refine⟨u,r,.inr ⟨?_,?_⟩⟩
     ·show (relabel sc X.env).names.lookup x=ap .cell\/(relabel sc X.env).names.lookup x=ap .free;unfold relabel;rw [ib,a2];by_cases hb:(X.env.scope.kind==.function&&X.env.kindOf x==ap .cell)=true
      ·left
       simp only [Cp,beq_self_eq_true,Fx,hb,if_true]
      ·right
       simp only [Cp,beq_self_eq_true,Fx,hb,if_false,An]
     ·obtain⟨c,hcx⟩:=Mh x abn;have hcX:=(tR x c hcx).1;refine⟨c,hcx,?_⟩;rcases l with⟨k,_⟩ | ⟨k,c',e',z⟩
      ·have k':X.env.scope.names.lookup x=ap .local:=k;rcases hk with y | y <;> rw [k'] at y <;> cases y
      ·rw [hcX] at e';cases e';obtain⟨o,ho,hd⟩:=z;exact⟨o,Ë _ _ ho,hd⟩
  ·obtain⟨v,o,ho,hd⟩:=VL x c e;exact⟨v,o,Ë _ _ ho,hd⟩
  ·show upd H2 D (.lst []) C=bm;rw [aD (BL hDC)];exact hC2
  ·have j8:=ltN (af3 x c e);show upd H2 D (.lst []) c=bm;rw [aD (neN ∅)];exact I2.kF x c (tR x c e).1
  ·unfold oP;rw [Ag];exact S.len
 have Ņ:∀{zM:List (ci×Obj)}{H':Hp},(∀b∈fp,H' b=bm)->(∀p∈zM,p.1∉fp)->∀b∈fp,vo (gD X sc N' cl C s2 H2 fp) zM H' b:=λhn hp b hb=>by
  refine⟨hn b hb,?_,?_,.inl hb,λx c e z=>(f2 b hb).2.2.2.2.1 x c (tR x c e).1 z,λp ĳ z=>?_⟩
  ·show b≠C;have:=ltN (ņ b hb);exact neN ∅
  ·exact Yok.P8 b hb
  ·have afb:p∈([]:List (ci×Obj))++_:=ĳ;exact hp p afb (z▸hb)
 have ê:∀s₃:cr,s₃={s2 with heap:=h₁,toks:=s2.toks+([]:List (Str×bv)).length}->
   FS (dL X.prog X.w) X.A (.compLoop (.ListComp Ä [⟨tg,iter,É,0⟩] sc pos) 0 (.ref it) (.ref D) (compEnvC sc cl C X.env)) (RR (.ref D) C) s₃:=by
  rintro s₃ rfl;refine mD (λn s'=>∃i σ' ys H',Inv (gD X sc N' cl C s2 H2 fp) [] σ' H' s'/\tn i s'.heap/\(∀b∈fp,H' b=bm)/\W i n σ' ys H') ?_ m0
   ⟨0,_,[],_,IY _,T.keep _ _ _ Lx (λb _ o e=>Ë b o e),λb hb=>by rw [aD (AM (ņ b hb))];exact (f2 b hb).1,w0⟩
  rintro n s3 ⟨i,σ3,ys,H3,I3,Z1,ù,w3⟩;obtain⟨hDl,w3⟩:=turn i n σ3 ys H3 w3;rcases w3 with⟨stop,qn⟩ | ⟨go,step⟩
  ·refine bE (T.done (gD X sc N' cl C s2 H2 fp) rfl rfl rfl hc i [] s3 σ3 H3 _ I3 (Ņ ù (by simp)) Z1 stop) λr s4 ⟨hr,I4⟩=>?_;subst hr;obtain⟨m,hn,_⟩:=I4.loc;refine hRR D C m s4 H3 (I2.acf (ch:=fp) I4.os I4.base I4.bK I4.bare λb hb=>?_) qn hn ?_
   ·obtain⟨a0,a1,a2,a3,a4,a5⟩:=f2 b hb;exact⟨a3,a1,a4,a5⟩
   ·refine⟨I4.free,?_,?_,λx c e z=>?_,λp hp z=>?_⟩
    ·have:=ltN I2.lt;exact neN ∅
    ·have:=I2.sz;omega
    ·obtain⟨v,q⟩:=I2.cell x c e;have:=VM q;exact neN (a:=c) (b:=C) ∅ z
    ·have:=lsz (I2.pin p hp).1;exact neN (a:=p.1) (b:=C) ∅ z
  ·refine bE (T.item (gD X sc N' cl C s2 H2 fp) rfl rfl rfl hc i [] s3 σ3 H3 (λ_ _=>False) I3 (Ņ ù (by simp)) Z1 go) λr s4 ⟨u,hr,h4⟩=>?_;subst hr;refine bE h4 λ_ s5 ⟨x,H5,I5,r5,y5,Wk,ń⟩=>?_;have ň:=I5.pinned (Ņ ń (by simp)) (T.obj _ _ Wk);refine bE (hg _ _ _ _ _ _ s5 σ3 H5 x u _ ň r5 (step x H5 y5)) λ_ s6 ⟨σ6,H6,I6,q6⟩=>?_;refine bE (hf _ _ _ _ _ _ s6 σ6 H6 _ I6 q6) λb s7 ⟨H7,I7,q7⟩=>?_;have Pc:∀{s8:cr}{σ8:St}{H8:Hp},Inv (gD X sc N' cl C s2 H2 fp) ([]++pe fp s5.heap) σ8 H8 s8->tn (i+1) s8.heap/\∀b∈fp,H8 b=bm:=λ{s8 σ8 H8} I8=>by
    refine⟨T.keep _ _ _ Wk λb hb o e=>(I8.pin (b,o) (AN _ (AN _ (jY hb e)))).1,λb hb=>?_⟩;obtain⟨o,e,d⟩:=T.obj _ _ Wk b hb;exact (I8.pin (b,o) (AN _ (AN _ (jY hb e)))).2.1
   cases b with
   | false=>
    have q7':=q7;obtain⟨m',hm,w7⟩:=q7';obtain⟨t7,fr7⟩:=Pc I7;exact⟨m',hm,i+1,σ6,ys,H7,I7.kW,t7,fr7,w7⟩
   | true=>
    refine bE (he _ _ _ _ _ _ s7 σ6 H7 _ I7 q7) λyv s8 ⟨y,H8,I8,r8,hD8,hz8,m',hm,w8⟩=>?_;obtain⟨z,au,k,rv,hl8,e8⟩:=I8.pC hD8;obtain⟨t8,fr8⟩:=Pc I8;refine wpAny_list_append_plain (s:=s8) (items:=au.toArray) (hsz:=by rw [Ai];omega) ⟨_,e8⟩ λh9 hl9 hs9=>?_;obtain⟨k9,e9⟩:=hl9;have hv9:=Vals.append rv (.cons r8 .nil);have I9:Inv (gD X sc N' cl C s2 H2 fp) ([]++pe fp s5.heap) σ6 (upd H8 D (.lst (ys++[y]))) {s8 with heap:=h9,toks:=s8.toks}:=by
     refine I8.write (x:=D) (e:=D) (by rw [hD8];exact trivial) (.inl rfl) (λb u hb hu=>(hs9.2 b hb).trans hu) ⟨_,e9⟩ ?_;refine⟨by rw [Af,Fd];exact hz8,au++[yv],k9,hv9,?_⟩;rw [e9];simp
    obtain⟨t9,fr9⟩:=Pc I9;exact⟨m',hm,i+1,σ6,_,_,I9.kW,t9,fr9,w8⟩
 exact codeAny_compStart_list (ê _ rfl) (T.self _ 0 _ _ _ (T.keep _ _ _ Lx λb _ o e=>Ë b o e) (ê _ rfl))
def aay (hc:X.calm=true) (S:aA X.env.scope X.N sc N' ix) (hi:PI X tg iter wi)
  (hg:∀cl C s2 H2 fp,PG (gD X sc N' cl C s2 H2 fp) tg g) (hf:∀cl C s2 H2 fp,Zo (gD X sc N' cl C s2 H2 fp) É tf) (he:∀cl C s2 H2 fp,PE (gD X sc N' cl C s2 H2 fp) Ä te)
  (hs:wI X iter:=by intro _;rfl):PE X (.ListComp Ä [⟨tg,iter,É,0⟩] sc pos) (tLc ix wi g tf te):=by
 intro Z s σ H Q I h;have Ir:∀y∈sc.names,y.2=.free->∃c,X.env.cells.lookup y.1=ap c:=λy hy hk=>I.ok.has y.1 (S.fr y hy hk);obtain⟨cl,PB,tR,Mh⟩:=mN Ir;refine Ey (use:=bm) rfl hs PB S.kind S.loc (bE (hi Z s σ H _ I h) λv s1 h1=>bE h1 λĄ s2 h2=>?_);obtain⟨it,fp,tn,J,H2,rfl,I2,T,Lx,f2,hW⟩:=h2;refine Ks (RR:=λÅ C=>compPost (dL X.prog X.w) X.A X.xe bm (EP X Z σ Q) Å C) hc S hg hf he tR Mh I2 T Lx f2 hW λD C m s' H' I' q hn F=>?_;refine⟨m,hn,λh' ı=>⟨.ref D,H',?_,rfl,q⟩⟩;exact I'.turned (it:=C) (t':=s'.toks) (λb o hb e=>(ı.2 b hb).trans e) F.hn F.hL (.inr F.ab) F.cl F.pn
def zJ {i:Nat} (hc:X.calm=true) (hN:X.N.Nodup) (Gh:X.N[i]?=ap x) (hx:X.env.scope.names.lookup x=ap .local) (S:aA X.env.scope X.N sc N' ix) (hi:PI X tg iter wi)
  (hg:∀cl C s2 H2 fp,PG (gD X sc N' cl C s2 H2 fp) tg g) (hf:∀cl C s2 H2 fp,Zo (gD X sc N' cl C s2 H2 fp) É tf) (he:∀cl C s2 H2 fp,PE (gD X sc N' cl C s2 H2 fp) Ä te)
  (qH:lc (.ListComp Ä [⟨tg,iter,É,0⟩] sc pos) (ap (.Name x px)) nK.line X.env=pure true:=by rfl)
  (hs:wI X iter:=by intro _;rfl):PS X (.Assign [.Name x px] (.ListComp Ä [⟨tg,iter,É,0⟩] sc pos) nK) (Wh (tLc ix wi g tf te) (dJ i)):=by
 intro Z s σ H D0 I h;rw [exec_Assign_Name_used _ _ _ _ qH];refine Aa (Dw (Aa ?_));show db _ X.A (do let _ <- comprehension (.ListComp Ä [⟨tg,iter,É,0⟩] sc pos) sc X.env _ (newList []) false (kw iter X.env) (ap (wT (.Name x px) X.env))) _ _ s;have Ir:∀y∈sc.names,y.2=.free->∃c,X.env.cells.lookup y.1=ap c:=λy hy hk=>I.ok.has y.1 (S.fr y hy hk);obtain⟨cl,PB,tR,Mh⟩:=mN Ir;refine Aa (BW (Ey (use:=ap (wT (.Name x px) X.env)) (Q:=λ_ s'=>SP X Z D0 .next s') rfl hs PB S.kind S.loc (bE (hi Z s σ H _ I h) λv s1 h1=>bE h1 λĄ s2 h2=>?_)) (λ_ s' hq=>Ah (Ah hq)) λ_ _ e=>e);obtain⟨it,fp,tn,J,H2,rfl,I2,T,Lx,f2,hW⟩:=h2;refine Ks (RR:=λÅ C=>compPost (dL X.prog X.w) X.A X.xe (ap (wT (.Name x px) X.env)) (λ_ s'=>SP X Z D0 .next s') Å C) (Q:=λx H1=>dJ i x σ H1 D0.nx) hc S hg hf he tR Mh I2 T Lx f2 hW λD C m s' H' I' q hn F=>?_;show db _ X.A (wT (.Name x px) X.env (.ref D)) _ _ _;refine wpAny_assign_Name (vC (v:=.ref D) I' hN Gh (.inl hx) rfl (λá I'' İ=>?_) (.inr hx));obtain⟨a,İ,ha⟩:=İ;have haC:C≠a:=by
  rcases ha with z | z
  ·rw [z];exact F.hL
  ·exact BL (F.cl _ _ z)
 refine⟨m,hn.sameBut İ haC,λh' ı=>⟨_,H',?_,q⟩⟩;exact I''.turned (it:=C) (t':=á.toks) (λb o hb e=>(ı.2 b hb).trans e) F.hn F.hL (.inr F.ab) F.cl F.pn
end
end L2
variable {a o b:BU}{tl:L2.TE}
namespace L2
open PySem PySem.Spec PyProof.Rows
section
def qp:bW X (.builtin "isinstance") (λxs H Q=>∃x c t b,xs=[x,.ty c]/\mE X.K H x t/\BE X.K t (.type c)=ap b/\Q (.bl b) H):=by
 intro Z s σ H xs us Q I r h;obtain⟨x,c,t,b,rfl,ty,hk,q⟩:=h;obtain⟨u,w',rfl,ru,iz⟩:=vals2 r;cases (show w'=B3 c from iz);exact L8 I ru ty hk λtk=>⟨.bl b,H,I.tok _,rfl,q⟩
def zU:iy X (im .IsNot) (λx y H Q=>∃i j,x=.bl i/\y=.bl j/\Q (.bl (!(i==j))) H):=by
 intro Z s σ H x y v u Q I rx ry h;obtain⟨i,j,rfl,rfl,q⟩:=h;cases rx;cases ry;exact Ah ⟨.bl (!(i==j)),H,I,by cases i <;> cases j <;> rfl,q⟩
def LR (hu:X.A.units < nn):iy X (im .NotEq) (λx y H Q=>∃p q xs,x=.ref p/\y=.ref q/\dc X.K H p xs/\dc X.K H q []/\Q (.bl (!xs.isEmpty)) H):=by
 intro Z s σ H x y v u Q I rx ry h;obtain⟨p,q,xs,rfl,rfl,hp,hq,k⟩:=h;cases rx;cases ry;obtain⟨au,r,pl,hz⟩:=I.list hp;obtain⟨cK,r2,ä,hz2⟩:=I.list hq;cases r2;cases xs with
 | nil=>
  cases r;refine En (FC (e:=λ_=>true) pl.isList ä.isList rfl hu λj h1=>absurd h1 (by simp)) ?_;exact⟨.bl false,H,I,rfl,k⟩
 | cons y ys=>
  have hl:=r.length;refine En (D6 pl.isList ä.isList (by simp at hl ⊢;intro z;subst z;simp at hl) hu) ?_;exact⟨.bl true,H,I,rfl,k⟩
def GU {bs:List Bool}:∀{us:List bv},Vals (bs.map V.bl) us->us=bs.map B9:=by
 induction bs with
 | nil=>intro us r;rw [Dl] at r;cases r;rfl
 | cons n ns ih=>
  intro us r;cases r with
  | cons r1 r2=>
   cases r1;rw [ih r2];rfl
def Jo (hc:X.calm=true):bW X (.builtin "all") (λxs H Q=>∃(p:ci) (bs:List Bool),xs=[.ref p]/\dc X.K H p (bs.map V.bl)/\Q (.bl (bs.all id)) H):=by
 intro Z s σ H xs us Q I r h;obtain⟨p,bs,rfl,hp,q⟩:=h;obtain⟨u,rfl,ru⟩:=vals1 r;cases ru;obtain⟨au,rv,pl,hz⟩:=I.list hp;have eb:=GU rv;subst eb;have hl:=pl.isList;have j8:p < s.heap.objs.size:=by obtain⟨_,e,_⟩:=hl;exact Au e
 refine call_all_walk (CN hl ?_);refine⟨s.heap.objs.size,[s.heap.objs.size,p],[s.heap.objs.size],(bs.map B9).toArray.size,_,_,λi=>(bs[i]?).getD true,rfl,Walks.list (A:=X.A.in1) (I.ok.hd hc) _ p (AM j8) (bs.map B9).toArray,
  ⟨⟨_,Aq _ rfl,rfl,rfl⟩,hl.push _⟩,λi v s' Q' E' hP hQ=>?_,λh' tk hk=>?_⟩
 ·have PK:(bs.map B9)[i]?=ap v:=by simpa using hP
  rw [Ae] at PK;cases e:bs[i]? with
  | none=>rw [e] at PK;cases PK
  | some b=>
   rw [e] at PK;cases PK;simp only [e,Option.getD_some] at hQ;exact Bt hQ
 ·have e:((Ax (bs.map B9).toArray.size).all λi=>(bs[i]?).getD true)=bs.all id:=by
   rw [Ai,Ag];exact LSm.range_all bs
  rw [e];exact⟨.bl (bs.all id),H,I.kept (LSm.kept_iter hk),rfl,q⟩
def Jn (hc:X.calm=true):bW X (.builtin "any") (λxs H Q=>∃(p:ci) (bs:List Bool),xs=[.ref p]/\dc X.K H p (bs.map V.bl)/\Q (.bl (bs.any id)) H):=by
 intro Z s σ H xs us Q I r h;obtain⟨p,bs,rfl,hp,q⟩:=h;obtain⟨u,rfl,ru⟩:=vals1 r;cases ru;obtain⟨au,rv,pl,hz⟩:=I.list hp;have eb:=GU rv;subst eb;have hl:=pl.isList;have j8:p < s.heap.objs.size:=by obtain⟨_,e,_⟩:=hl;exact Au e
 refine call_any_walk (CN hl ?_);refine⟨s.heap.objs.size,[s.heap.objs.size,p],[s.heap.objs.size],(bs.map B9).toArray.size,_,_,λi=>(bs[i]?).getD false,rfl,Walks.list (A:=X.A.in1) (I.ok.hd hc) _ p (AM j8) (bs.map B9).toArray,
  ⟨⟨_,Aq _ rfl,rfl,rfl⟩,hl.push _⟩,λi v s' Q' E' hP hQ=>?_,λh' tk hk=>?_⟩
 ·have PK:(bs.map B9)[i]?=ap v:=by simpa using hP
  rw [Ae] at PK;cases e:bs[i]? with
  | none=>rw [e] at PK;cases PK
  | some b=>
   rw [e] at PK;cases PK;simp only [e,Option.getD_some] at hQ;exact Bt hQ
 ·have e:((Ax (bs.map B9).toArray.size).any λi=>(bs[i]?).getD false)=bs.any id:=by
   rw [Ai,Ag];exact LSm.range_any bs
  rw [e];exact⟨.bl (bs.any id),H,I.kept (LSm.kept_iter hk),rfl,q⟩
def qD (l:ci) (items:Array bv) (n:Nat) (b:ci) (cz:Array bv) (n2:Nat) (dd:Option ci) (sl:Array (Option bv)) (hs0:¬(!items.isEmpty&&Builtin.List.listTooLong (items.size+cz.size))=true) (Hc:items.size<=sizeLine) (rD:items.size+cz.size<=sizeLine+1) :
  Meets (BT.«list.extend» ⟨[.ref l,.ref b],[]⟩) (λ_ R s=>s.heap.get? l=ap {cls:=.type "list",dict:=bm,data:=.seq items n,slots:=#[]}/\s.heap.get? b=ap {cls:=.type "tuple",dict:=dd,data:=.seq cz n2,slots:=sl}/\R (.ok (.ret AX)) {s with heap:=s.heap.update l (Bq λx=>x++cz),toks:=s.toks}):=
 .of_wp λprog w A R s h=>by
  obtain⟨hp,g,d,tk,os⟩:=s;obtain⟨hl,hb,h⟩:=h;have f1:=ES;have f2:=Dr;have f3:=DM;have f4:=DA;have f5:=DB;have Io:(items++cz).size<=sizeLine+1:=by rw [Es];exact rD
  wp_walk using (DN hl rfl (hz:=Hc) (_hz':=Io)),B4 hl,B4 hb;exact⟨_,rfl,h⟩
def Ol (K:Ab):V->List V->Hp->VK->Prop:=λx vs H Q=>∃l b xs zs,x=.ref l/\vs=[.ref b]/\H l=ap (.lst xs)/\d9 K H b zs/\xs.length+zs.length<=sizeLine/\Q .aV (upd H l (.lst (xs++zs)))
theorem HP:Lh X "list.extend" (Ol X.K):=by
 intro Z s σ H x vs v us Q I rx rv h;obtain⟨l,b,xs,zs,rfl,rfl,hH,hB,hz,q⟩:=h;cases rx;obtain⟨u,rfl,ru⟩:=rv.one;cases ru;obtain⟨z,au,n,r,hl,e⟩:=I.pC hH;obtain⟨cK,r2,⟨⟨cls,dd,data,sl⟩,e2,hc,n2,hd⟩,z2⟩:=I.tuple hB;simp only at hc hd;subst hc hd;have Mf:=r2.length;have hsz:au.toArray.size+cK.toArray.size<=sizeLine:=by rw [Ai,Ai];omega
 have tQ:¬(!au.toArray.isEmpty&&Builtin.List.listTooLong (au.toArray.size+cK.toArray.size))=true:=by
  rw [jr hsz,Ei];exact AV
 refine ul D8 ⟨_,e,rfl⟩ DU (Dz _ _)
  (qD l au.toArray n b cK.toArray n2 dd sl tQ (by rw [Ai];omega) ∅) ⟨e,e2,?_⟩
 refine⟨.aV,_,I.HY (its':=au++cK) hH e (by simp) (r.append r2) ?_,rfl,q⟩;rw [Af];omega
def Its (x:Str):It:=⟨λi _=>i < x.cps.size,λi H v H'=>H'=H/\∃c,x.cps[i]?=ap c/\v=.str ⟨#[c]⟩,λi _=>x.cps.size<=i⟩
def Hl {K:Ab} (it:ci) (x:Str) (t:Tok) (ty:String) (KH:ty="str_ascii_iterator"\/ty="str_iterator"):Turn P w K tg (Its x) [it] it (λi h=>h.IsStrIter it ty x t i/\i<=x.cps.size) where
 mem:=by simp
 obj:=λi h st b hb=>by
  have e:b=it:=by simpa using hb
  subst e;obtain⟨⟨o,e,c,d⟩,_⟩:=st;exact⟨o,e,λv z=>by rw [d] at z;cases z⟩
 keep:=λi h h' st k=>⟨let ⟨o,ho,r⟩:=st.1;⟨o,k it (by simp) o ho,r⟩,st.2⟩
 item:=by
  intro X hP hw hK hc i Z s σ H E I hf st hg;subst hP hw hK;obtain⟨f0,f1,f2,f3,f4,f5⟩:=hf it (by simp);have Vs:i < x.cps.size:=hg;obtain⟨st,_⟩:=st;rcases KH with rfl | rfl
  ·refine wpAny_pyNext_ascii_item st (c:=x.cps[i]) (by simp [Vs]) λh' nr sb=>?_;have I1:Inv X Z σ H {s with heap:=h',toks:=s.toks+1}:=I.turned (λb o hb e=>(sb.2 b hb).trans e) f0 f1 f3 f4 f5;obtain⟨o,e,c,d⟩:=id nr;exact⟨_,rfl,tS (s:={s with heap:=h',toks:=s.toks+1}) e c d ⋯ ⟨.str ⟨#[x.cps[i]]⟩,H,I1,⟨_,rfl⟩,⟨rfl,_,by simp [Vs],rfl⟩,⟨nr,Vs⟩,λb hb=>(hf b hb).1⟩⟩
  ·refine wpAny_pyNext_wide_item st (c:=x.cps[i]) (by simp [Vs]) λh' nr sb=>?_;have I1:Inv X Z σ H {s with heap:=h',toks:=s.toks+1}:=I.turned (λb o hb e=>(sb.2 b hb).trans e) f0 f1 f3 f4 f5;obtain⟨o,e,c,d⟩:=id nr;exact⟨_,rfl,tS (s:={s with heap:=h',toks:=s.toks+1}) e c d ⋯ ⟨.str ⟨#[x.cps[i]]⟩,H,I1,⟨_,rfl⟩,⟨rfl,_,by simp [Vs],rfl⟩,⟨nr,Vs⟩,λb hb=>(hf b hb).1⟩⟩
 done:=by
  intro X hP hw hK hc i Z s σ H E I hf st hg;obtain⟨f0,f1,f2,f3,f4,f5⟩:=hf it (by simp);obtain⟨st,_⟩:=st;have hn:x.cps[i]?=bm:=by
   have Vs:x.cps.size<=i:=hg;simp [Vs]
  rcases KH with rfl | rfl
  ·exact wpAny_pyNext_ascii_end (I.ok.hd hc) st hn λh' eb=>⟨rfl,I.turned (t':=s.toks) (λb o hb e=>eb b o hb e) f0 f1 f3 f4 f5⟩
  ·exact wpAny_pyNext_wide_end (I.ok.hd hc) st hn λh' eb=>⟨rfl,I.turned (t':=s.toks) (λb o hb e=>eb b o hb e) f0 f1 f3 f4 f5⟩
 self:=λ_ _ _ _ _ st h=>by
  obtain⟨st,_⟩:=st;rcases KH with rfl | rfl
  ·exact wpAny_pyIter_striter_ascii st h
  ·exact wpAny_pyIter_striter_wide st h
def aeU (tl:TE):TI:=λσ H R=>tl σ H λx H1=>∃z,x=.str z/\R (Its z) H1
def WU {l:ga} (hl:PE X l tl):PI X tg l (aeU tl):=by
 intro Z s σ H R I h;refine bE (hl Z s σ H _ I h) λv s1 ⟨x,H1,I1,r1,q1⟩=>?_;obtain⟨z,e,q⟩:=q1;subst e;obtain⟨t,rfl⟩:=r1;have fin:∀(ty:String) (KH:ty="str_ascii_iterator"\/ty="str_iterator") (o:Obj),(s1.heap.push o).IsStrIter s1.heap.objs.size ty z t 0->PIE X Z σ tg R (.ref s1.heap.objs.size) {s1 with heap:=s1.heap.push o}:=λty KH o st=>by
  refine⟨s1.heap.objs.size,[s1.heap.objs.size],_,_,H1,rfl,I1.kept (t':=s1.toks) λb o e=>Aj _ e,Hl _ z t ty KH,⟨st,Bb _⟩,λb hb=>?_,q⟩;have e:b=s1.heap.objs.size:=by simpa using hb
  subst e;exact I1.va (Ao _) (I1.bK.fresh (Ao _))
 cases ha:z.cps.all (· < 128)
 ·exact wpAny_pyIter_wide ha (fin _ (.inr rfl) _ ⟨_,Aq _ rfl,rfl,rfl⟩)
 ·exact wpAny_pyIter_ascii ha (fin _ (.inl rfl) _ ⟨_,Aq _ rfl,rfl,rfl⟩)
end
section
variable {CX:Nx}{f:ci}{dvs:List V}{ds:List bv}{E:XK}{t:TA}
def Wg (f:ci) (sp:Sp) (dvs:List V) (E:XK) (ta:TE) (t:TA):TE:=λσ H Q=>ta σ H λx H1=>x=.ref f/\t σ H1 λvs H2=>sp (vs++dvs) H2 Q E
def OI (F:fH X.prog X.w X.K X.mg X.base CX k f fd ps sp) (hr:dg k X.A) (hf:PE X (.Name x p) ta) (hk:CO X.K (.ref f)=true) (hb:Binds X.K fd ps ds) (hd:Vals dvs ds) (hx:Passes CX X E)
  (ha:PA X (e::es) t) (he:gR X e es:=by rfl) (dI:kL X pos es:=by rfl) :
  PE X (.Call (.Name x p) (e::es) [] pos) (Wg f sp dvs E ta t):=by
 intro Z s σ H Q I h;refine BR (bE (hf Z s σ H _ I h) λv s1 ⟨y,H1,I1,r1,ey,q1⟩=>?_);subst ey;cases r1;refine Fz (h₀:=X.base) I.ok.mod.kin hk (bE (ha pos Z s1 σ H1 _ I1 q1) λus s2 ⟨vs,H2,I2,r,q⟩=>⟨I2.uW,?_⟩) he dI;exact N9 F hr hb hd hx I2 r q
end
section
variable {lo hi:ga}{th:TE}
def X9 (to tl th:TE):TG:=λv σ H Q=>to σ H λx H1=>tl σ H1 λi H2=>th σ H2 λj H3=>∃l b xs ys a c,x=.ref l/\v=.ref b/\i=.int a/\j=.int c/\H3 l=ap (.lst xs)/\H3 b=ap (.lst ys)/\l≠b/\0<=a/\a<=c/\c<=xs.length/\xs.length+ys.length<=sizeLine/\
 Q σ (upd H3 l (.lst (xs.take a.toNat++ys++xs.drop c.toNat)))
def OA (ho:PE X o to) (hl:PE X lo tl) (hh:PE X hi th)
  (ha:∀v,wT (.Subscript o (.Slice (ap lo) (ap hi) bm p2) pos) X.env v=(do
   let ov <- r9 [v] (kw o X.env)
   let iv <- r9 [v,ov] (kw (.Slice (ap lo) (ap hi) bm p2) X.env)
   FM pos
   r9 [v,ov,iv] (Db ov iv v)
   release [iv,v,ov] []):=by intro _;rfl):PG X (.Subscript o (.Slice (ap lo) (ap hi) bm p2) pos) (X9 to tl th):=by
 intro Z s σ H v u Q I r h;refine Aa (Bi (bE (ho Z s σ H _ I h) λov s1 ⟨x,H1,I1,r1,q1⟩=>?_));refine Aa (Bi (wpAny_Slice ?_));rw [evalPart_some,evalPart_some,evalPart_none];refine bE (hl Z s1 σ H1 _ I1 q1) λvl s2 ⟨i,H2,I2,r2,q2⟩=>bE (hh Z s2 σ H2 _ I2 q2) λvu s3 ⟨j,H3,I3,r3,q3⟩=>Ah ?_;obtain⟨l,b,xs,ys,a,c,rfl,rfl,rfl,rfl,hH,hB,KL,h0,Y9,hc,hz,q⟩:=q3;cases r;cases r1;have I4:Inv X Z σ H3 {s3 with heap:=s3.heap.push {cls:=.type "slice",data:=.fields #[vl,vu,.none]}}:=I3.kept (t':=s3.toks) λb ob q=>Aj _ q;refine Aa (Dw (Aa (Bi (LD I4 hH hB KL (Heap.IsSliceOf.new ..) r2 r3 h0 Y9 hc hz λs' I'=>?_))));exact wpAny_release ⟨σ,_,I',q⟩
end
end L2
variable {k':Nat}{bS:CB}
namespace L2
open PySem PySem.Spec PyProof.Rows
def oV (l:ci) (H H':Hp):Prop:=∀b u,b≠l->H b=ap u->H' b=ap u
def k8 {p:ci} (h:H p=bm) (o:HO):kz H (upd H p o):=λb u q=>by rw [aD (bQ q h)];exact q
def LH {p:ci} (o:HO):oV p H (upd H p o):=λb u n q=>by rw [aD n];exact q
def lx (H:Hp) (o:HO) (Q:VK):Prop:=∀p H',kz H H'->H' p=ap o->H p=bm->Q (.ref p) H'
def lx.at {o:HO}{Q:VK} (h:lx H o Q) (p:ci) (hp:H p=bm):Q (.ref p) (upd H p o):=h p _ (k8 hp o) aW hp
def zh (H:Hp) (l:ci) (o:HO) (Q:Hp->Prop):Prop:=∀H',oV l H H'->H' l=ap o->Q H'
def zh.at {o:HO}{Q:Hp->Prop} (h:zh H l o Q):Q (upd H l o):=h _ (LH o) aW
def iy.mono {f:bv->bv->Sem bv}{r:R2} (h:iy X f r) (hr:∀x y H Q,r' x y H Q->r x y H Q):iy X f r':=λZ s σ H x y v u Q I rx ry q=>h Z s σ H x y v u Q I rx ry (hr _ _ _ _ q)
def bW.mono {f:bv}{r r':List V->Hp->VK->Prop} (h:bW X f r) (hr:∀xs H Q,r' xs H Q->r xs H Q):bW X f r':=λZ s σ H xs us Q I rx q=>h Z s σ H xs us Q I rx (hr _ _ _ q)
def Lh.mono {id:String}{r r':V->List V->Hp->VK->Prop} (h:Lh X id r) (hr:∀x xs H Q,r' x xs H Q->r x xs H Q):Lh X id r':=λZ s σ H x xs v us Q I rx rv q=>h Z s σ H x xs v us Q I rx rv (hr _ _ _ _ q)
def JH.mono {r r':JG} (h:JH X r) (hr:∀o i v H Q,r' o i v H Q->r o i v H Q):JH X r':=λZ s σ H o i v ov iv u Q I ro ri rv q=>h Z s σ H o i v ov iv u Q I ro ri rv (hr _ _ _ _ _ q)
section
variable {t:TA}
def ZL (t:TA):TE:=λσ H Q=>t σ H λxs H1=>xs.length<=sizeLine/\lx H1 (.tup xs) Q
def ZQ (t:TA):TE:=λσ H Q=>t σ H λxs H1=>xs.length<=sizeLine/\lx H1 (.lst xs) Q
def Sq {x1} (h:PA X es t):PE X (.Tuple es x1 pos) (ZL t):=by
 intro Z s σ H Q I hq;refine wpAny_Tuple_spliced (bE (h pos Z s σ H _ I hq) λus s1 ⟨xs,H1,I1,r,z,q⟩=>⟨by rw [<- r.length];exact z,?_⟩);have hf:=I1.bK.fresh (Ao _);refine⟨.ref s1.heap.objs.size,upd H1 s1.heap.objs.size (.tup xs),I1.laid (t':=s1.toks) (λb u e=>Aj _ e) (Ao _) ?_,rfl,q.at _ hf⟩;exact⟨z,us,r,⟨_,Aq _ rfl,rfl,_,rfl⟩⟩
def Ke (h:PA X es t):PE X (.List es pos) (ZQ t):=by
 intro Z s σ H Q I hq;refine wpAny_List_spliced (bE (h pos Z s σ H _ I hq) λus s1 ⟨xs,H1,I1,r,z,q⟩=>⟨by rw [<- r.length];exact z,?_⟩);have hf:=I1.bK.fresh (Ao _);refine⟨.ref s1.heap.objs.size,upd H1 s1.heap.objs.size (.lst xs),I1.laid (t':=s1.toks) (λb u e=>Aj _ e) (Ao _) ?_,rfl,q.at _ hf⟩;exact⟨z,us,0,r,Aq _ rfl⟩
def We:TE:=λ_ H Q=>lx H (.dK []) Q
def OG:PE X (.Dict [] [] pos) We:=λZ s σ H Q I h=>OE Z s σ H Q I λp hp=>h.at p hp
def U4 (K:Ab):R2:=λx y H Q=>match x with
 | .int i=>∃j,y=.int j/\Q (.int (i+j)) H
 | .str i=>∃j,y=.str j/\i.length+j.length<=sizeLine/\Q (.str (i++j)) H
 | .ref a=>(∃b xs zs,y=.ref b/\H a=ap (.lst xs)/\H b=ap (.lst zs)/\xs.length+zs.length<=sizeLine/\lx H (.lst (xs++zs)) Q)\/U6 K x y H Q
 | _=>False
def SI:iy X (ss .Add) (U4 X.K):=by
 refine ((Xf.or HE).or (Xe.or Kj)).mono λx y H Q h=>?_;cases x with
 | int i=>obtain⟨j,rfl,q⟩:=h;exact .inl (.inl ⟨i,j,rfl,rfl,q⟩)
 | str i=>obtain⟨j,rfl,hl,q⟩:=h;exact .inl (.inr ⟨i,j,rfl,rfl,hl,q⟩)
 | ref a=>
  rcases h with⟨b,xs,zs,rfl,h1,h2,hz,q⟩ | h
  ·exact .inr (.inl ⟨a,b,xs,zs,rfl,rfl,h1,h2,hz,λp hp=>q.at p hp⟩)
  ·exact .inr (.inr h)
 | _=>exact h.elim
def SA:iy X (ss .Mult) (rI wv λi j=>.int (i*j)):=opI λ_ _ _ _ _ _ _ hc q=>mul_int q hc
def Jk:bW X (.type "list") (λxs H Q=>∃p ys,xs=[.ref p]/\(dc X.K H p ys\/d9 X.K H p ys)/\lx H (.lst ys) Q):=yD.mono λxs H Q ⟨p,ys,e,h,q⟩=>⟨p,ys,e,h,λl hl=>q.at l hl⟩
def Om:V->List V->Hp->VK->Prop:=λx vs H Q=>∃l xs y,x=.ref l/\vs=[y]/\H l=ap (.lst xs)/\xs.length < sizeLine/\zh H l (.lst (xs++[y])) (Q .aV)
def sR:Lh X "list.append" Om:=LV.mono λx xs H Q ⟨l,ys,y,e1,e2,h,hz,q⟩=>⟨l,ys,y,e1,e2,h,hz,q.at⟩
def LL (K:Ab):V->List V->Hp->VK->Prop:=λx vs H Q=>∃l b xs zs,x=.ref l/\vs=[.ref b]/\H l=ap (.lst xs)/\d9 K H b zs/\xs.length+zs.length<=sizeLine/\zh H l (.lst (xs++zs)) (Q .aV)
def zY:Lh X "list.extend" (LL X.K):=HP.mono λx xs H Q ⟨l,b,ys,zs,e1,e2,h1,h2,hz,q⟩=>⟨l,b,ys,zs,e1,e2,h1,h2,hz,q.at⟩
def aah:V->List V->Hp->VK->Prop:=λx vs H Q=>∃l xs y,x=.ref l/\vs=[]/\H l=ap (.lst (xs++[y]))/\zh H l (.lst xs) (Q y)
def SW:Lh X "list.pop" aah:=Xn.mono λx xs H Q ⟨l,ys,y,e1,e2,h,q⟩=>⟨l,ys++[y],y,e1,e2,h,by simp,by rw [List.dropLast_concat];exact q.at⟩
def Wz:JG:=λo i v H Q=>∃p xs k j,o=.ref p/\i=.int k/\H p=ap (.lst xs)/\oh xs.length k=ap j/\zh H p (.lst (xs.set j v)) Q
def o6:JH X Wz:=set_list.mono λo i v H Q ⟨p,xs,k,j,e1,e2,h,hj,q⟩=>⟨p,xs,k,j,e1,e2,h,hj,q.at⟩
end
section
variable (K:Ab) (hK:X.K=K) {t:TA}{name:Str}{Y5:String}{r:V->List V->Hp->VK->Prop}
include hK
def Kz:Rk X (rIx K):=hK▸XS
def SH:iy X (ss .Add) (U4 K):=hK▸SI
def WB (K:Ab):List V->Hp->VK->Prop:=λxs H Q=>∃x n,xs=[x]/\acq K x H n/\Q (.int n) H
def wy:bW X (.builtin "len") (WB K):=hK▸QJ
def Oi (K:Ab):List V->Hp->VK->Prop:=λxs H Q=>∃p ys,xs=[.ref p]/\(dc K H p ys\/d9 K H p ys)/\lx H (.lst ys) Q
def Jj:bW X (.type "list") (Oi K):=hK▸Jk
def aas (K:Ab):List V->Hp->VK->Prop:=λxs H Q=>∃(p:ci) (bs:List Bool),xs=[.ref p]/\dc K H p (bs.map V.bl)/\Q (.bl (bs.all id)) H
def M9 (hc:X.calm=true):bW X (.builtin "all") (aas K):=hK▸Jo hc
def aar (K:Ab):List V->Hp->VK->Prop:=λxs H Q=>∃(p:ci) (bs:List Bool),xs=[.ref p]/\dc K H p (bs.map V.bl)/\Q (.bl (bs.any id)) H
def M8 (hc:X.calm=true):bW X (.builtin "any") (aar K):=hK▸Jn hc
def WA (K:Ab):R2:=λx y H Q=>∃p q xs,x=.ref p/\y=.ref q/\dc K H p xs/\dc K H q []/\Q (.bl (!xs.isEmpty)) H
def sI (hu:X.A.units < nn):iy X (im .NotEq) (WA K):=hK▸LR hu
def ad1 (K:Ab) (ta:TE):TT:=λσ H Q=>ta σ H λx H'=>∃k,YK K x H' k/\Q k H'
def vG (ha:PE X a ta) (he:∀Æ,isTrue a X.env Æ=(do let v <- Æ;FM a.pos;r9 [v] (truthy v))):PT X a (ad1 K ta):=hK▸Oq ha he
def Ss (pa:PlainAttrs T) (slot:Slot T name Y5) (KH:typeOf (.builtin Y5)=pure (.type "method_descriptor")) (hm:MtR X Y5 r) (ho:PE X o to)
  (dW:pc o name X.env (kw o X.env)=kw o X.env:=by rfl) (dU:Q8 Â bS:=by rfl):PE X (.Call (.Attribute o name Â) [] [] bS) (ZV K T r to):=hK▸W3 pa slot KH hm ho dW dU
def ph (pa:PlainAttrs T) (slot:Slot T name Y5) (KH:typeOf (.builtin Y5)=pure (.type "method_descriptor")) (hm:MtR X Y5 r) (ho:PE X o to) (ha:PA X (e::es) t)
  (dW:pc o name X.env (kw o X.env)=kw o X.env:=by rfl)
  (m5:VP X bS (e::es):=by rfl)
  (dU:Q8 Â bS:=by rfl) (hs:gR X e es:=by rfl) (eE:kL X bS es:=by rfl) :
  PE X (.Call (.Attribute o name Â) (e::es) [] bS) (tBM K T r to t):=hK▸aaz pa slot KH hm ho ha dW m5 dU hs eE
omit hK
end
structure UO (P:sK) (w:wn) (K:Ab) (mg:Str->Option bv) (base:nw) (x:Str) (k:Nat) (ps:List Str) (sp:Sp) where
 f:ci
 fd:EQ
 ok:fH P w K mg base kN k f fd ps sp
 bi:Binds K fd ps []
 kp:CO K (.ref f)=true
 at':mg x=ap (.ref f)
section
variable {t:TA}
def ZU (sp:Sp) (t:TA):TE:=λσ H Q=>t σ H λvs H1=>sp vs H1 Q E0
def OJ (G:UO X.prog X.w X.K X.mg X.base x k ps sp) (hr:dg k' X.A) (hk:k<=k') (hg:Gl X x) (ha:PA X (e::es) t) (oq:jh x:=by decide)
  (he:gR X e es:=by rfl) (dI:kL X pos es:=by rfl) :
  PE X (.Call (.Name x p) (e::es) [] pos) (ZU sp t):=by
 intro Z s σ H Q I h;refine BR (Kr I hg G.at' ?_ oq);refine Fz (h₀:=X.base) I.ok.mod.kin G.kp (bE (ha pos Z s σ H _ I h) λus s1 ⟨vs,H1,I1,r,q⟩=>⟨I1.uW,?_⟩) he dI;refine N9 (dvs:=[]) (ds:=[]) G.ok (hr.mono hk) G.bi .nil U8 I1 r ?_;rw [C5];exact q
end
section
theorem QQ {xs:List α} (h0:0<=i) (h1:i < xs.length):∃v,cq xs i=ap v/\xs[i.toNat]?=ap v:=by
 have hk:i.toNat < xs.length:=by omega
 have q:=bM (by rw [Ad hk]);have e:((i.toNat:Nat):Int)=i:=by omega
 rw [e] at q;exact⟨_,q,by rw [Ad hk]⟩
def Vc {j:Int} (h1:-18446744073709551616 < i) (h2:i < 18446744073709551616):wv i j:=UP.ok (.inl ⟨h1,h2⟩)
def mul_r {j:Int} (h1:-18446744073709551616 < j) (h2:j < 18446744073709551616):wv i j:=UP.ok (.inr ⟨h1,h2⟩)
end
def a8 (h:n<=1000):n<=sizeLine:=D2 (vE h)
section
variable (K:Ab) (hK:X.K=K)
include hK
def aep:V->Option Int->Option Int->Hp->VK->Prop:=λx lo hi H Q=>∃z,x=.str z/\z.length<=sizeLine/\Q (.str (CV z lo hi)) H
omit hK in
def Wn:SlR X aep:=by
 intro Z s σ H x v vl vu lo hi sl Q I rx hs pl pu h;obtain⟨z,rfl,hz,q⟩:=h;obtain⟨t,rfl⟩:=rx;refine⟨"str",_,F.slot_str_getitem.lookup,typeIs_str _ _ _,?_⟩;obtain⟨os,Gg,Py,KO⟩:=hs;have fin:∀t' k,EP X Z σ Q (.str (CV z lo hi) t') {s with toks:=k}:=λt' k=>⟨.str (CV z lo hi),H,I.tok _,⟨_,rfl⟩,q⟩;cases pl with
 | none=>
  cases pu with
  | none=>exact CC (l:=bm) (u:=bm) (st:=bm) ⟨os,Gg,Py,KO⟩ rfl (Gf ⟨A4 (DY z _ _) hz,fin⟩)
  | int j uj=>exact CC (l:=bm) (u:=ap (j,uj)) (st:=bm) ⟨os,Gg,Py,KO⟩ rfl (Gf ⟨A4 (DY z _ _) hz,fin⟩)
 | int i ui=>
  cases pu with
  | none=>exact CC (l:=ap (i,ui)) (u:=bm) (st:=bm) ⟨os,Gg,Py,KO⟩ rfl (Gf ⟨A4 (DY z _ _) hz,fin⟩)
  | int j uj=>exact CC (l:=ap (i,ui)) (u:=ap (j,uj)) (st:=bm) ⟨os,Gg,Py,KO⟩ rfl (Gf ⟨A4 (DY z _ _) hz,fin⟩)
end
section
variable (K:Ab) (hK:X.K=K)
include hK
def WD (K:Ab):R2:=λx y H Q=>∃p q xs,x=.ref p/\y=.ref q/\dc K H p xs/\dc K H q []/\Q (.bl xs.isEmpty) H
def sJ (hu:X.A.units < nn):iy X (im .Eq) (WD K):=by
 subst hK;intro Z s σ H x y v u Q I rx ry h;obtain⟨p,q,xs,rfl,rfl,hp,hq,k⟩:=h;cases rx;cases ry;obtain⟨au,r,pl,hz⟩:=I.list hp;obtain⟨cK,r2,ä,hz2⟩:=I.list hq;cases r2;cases xs with
 | nil=>
  cases r;refine E4 (FR (e:=λ_=>true) pl.isList ä.isList rfl hu λj h1=>absurd h1 (by simp)) ?_;exact⟨.bl true,H,I,rfl,k⟩
 | cons y ys=>
  have hl:=r.length;refine E4 (Et pl.isList ä.isList (by simp at hl ⊢;intro z;subst z;simp at hl) hu) ?_;exact⟨.bl false,H,I,rfl,k⟩
omit hK
end
end L2
variable {p1:CB}
namespace L2
open PySem PySem.Spec PyProof.Rows
theorem Vals.zE:∀{xs:List V}{us:List bv},Vals xs us->Vals xs.reverse us.reverse
 | _,_,.nil=>.nil
 | _,_,.cons h t=>by rw [Dj,Dj];exact (Vals.zE t).append (.cons h .nil)
def Xu:FB (.type "list_reverseiterator") (Cs "__len__")=pure bm:=by kernel_rfl
def S3:FB (.type "list_reverseiterator") (Cs "__length_hint__")=pure (ap (.builtin "list_reverseiterator.__length_hint__")):=by kernel_rfl
def RO:splitId "list_reverseiterator.__length_hint__"=ap ("list_reverseiterator","__length_hint__"):=by kernel_rfl
def RI:isSubtype (.type "list_reverseiterator") (.type "list_reverseiterator")=pure true:=by kernel_rfl
def Pu {r:ci}{Q:Bool->cr->Prop} (h:s.heap.IsRevIter r l i) (q:Q false s):db (dL prog w) A (Builtin.List.listLengthHint (AD r)) Q E s:=by
 refine Aa (DP h.typeIs Xu ?_);refine Aa (DP h.typeIs S3 ?_);dsimp only;rw [RO];dsimp only;refine Aa (Ds h.typeIs RI ?_);rw [if_neg ⋯];exact Ah q
def uU {r S:ci} (hA:A.handled=bm) (h:s.heap.IsRevIter r l (items.size-1)) (hl:s.heap.IsList l items) (KL:l≠r) (Ł:S≠r) (hSl:S≠l) (hz:items.size<=sizeLine)
  (hS:s.heap.get? S=ap {cls:=B3 "list",data:=Fg #[]})
  (q:∀(h':nw) (tk:Nat) (Å:Array bv) (c:Nat),(∀b o,b≠S->b≠r->s.heap.get? b=ap o->h'.get? b=ap o)->h'.get? S=ap {cls:=B3 "list",data:=Fg Å c}->ItemsOf (λi v=>items[items.size-1-i]?=ap v) Å items.size->R (.ok (.ret .none)) {s with heap:=h',toks:=tk}) :
  db (dL prog w) A.in1 (BT.«list.__init__» {pos:=[AD S,AD r]})
   (λfin s'=>match fin with | F0 f=>R (Except.ok f) s' | Fin.again c'=>c'.quiet=true/\FS (dL prog w) A c' R s') (λe s'=>R (Except.error e) s') s:=by
 unfold BT.«list.__init__»;refine Aa (wpAny_listItems hS rfl ?_);refine Aa ?_;refine DN hS rfl ?_ (by simp) (by simp);refine Aa (DE ?_);have k1:∀b o,b≠S->s.heap.get? b=ap o->(s.heap.update S (Bq λ_=>#[])).get? b=ap o:=λb o hb e=>by rw [De _ _ (BL hb)];exact e
 have hS1:=CJ (Bq λ_=>#[]) hS rfl;generalize s.heap.update S (Bq λ_=>#[])=h1 at k1 hS1 ⊢;have ć:h1.IsRevIter r l (items.size-1):=let ⟨o,e,p⟩:=h;⟨o,k1 _ _ (BL Ł) e,p⟩;have ĸ:h1.IsList l items:=let ⟨o,e,p⟩:=hl;⟨o,k1 _ _ (BL hSl) e,p⟩;unfold Builtin.List.listExtendWith;refine Aa (Ct (T:="list_reverseiterator") ć.typeIs ?_);rw [if_neg (by
  have e1:Builtin.List.listSameRef (AD S) (AD r)=false:=by
   unfold Builtin.List.listSameRef;simpa using Ł
  rw [e1];decide)]
 refine Aa (wpAny_pyIter_revIter ć ?_);refine Aa (Bi (Pu ć ?_));rw [if_neg ⋯];refine Ah ⟨plainId_quiet F.plain_extend_loop _,?_⟩;refine codeAny_extend_loopS (Walks.toS (Walks.listRev (A:=A.in1) hA r l KL items)) hz S (by simp [Ł,hSl]) .none items.size 0 _ #[] _ (Dh _) (Bb _) ⟨Bb _,by simpa using ć,ĸ⟩ hS1 (ItemsOf.nil _) ?_;intro s' Å c mv e io;rw [mv.eq_with];exact q s'.heap s'.toks Å c (λb o n1 n2 e'=>mv.heap b o (by simp [n1,n2]) (k1 b o n1 e')) e io
def vi {r:ci} (hA:A.handled=bm) (h:s.heap.IsRevIter r l (items.size-1)) (hl:s.heap.IsList l items) (KL:l≠r) (hz:items.size<=sizeLine)
  (q:∀(h':nw) (tk:Nat) (Å:Array bv) (c:Nat),(∀b o,b≠r->s.heap.get? b=ap o->h'.get? b=ap o)->h'.get? s.heap.objs.size=ap {cls:=B3 "list",data:=Fg Å c}->ItemsOf (λi v=>items[items.size-1-i]?=ap v) Å items.size->Q (.ref s.heap.objs.size) {s with heap:=h',toks:=tk}) :
  db (dL prog w) A (call (B3 "list") [AD r]) Q E s:=by
 have lr:=let ⟨_,e,_⟩:=h;Au e;have ll:=let ⟨_,e,_⟩:=hl;Au e;refine callType_codes F.called_list (F.typeCall_list_1 _) F.entry_list_init (code_list_new (Q₁:=λv s₁=>v=.ref s.heap.objs.size/\s₁={s with heap:=s.heap.push {cls:=B3 "list",data:=Fg #[]}}) _ ⟨rfl,rfl⟩) ?_;rintro obj s₁ ⟨rfl,rfl⟩;refine⟨⟨_,Aq _ rfl,rfl⟩,F.args_list_init_2 _ _,?_⟩;have kp:∀b o,s.heap.get? b=ap o->(s.heap.push {cls:=B3 "list",data:=Fg #[]}).get? b=ap o:=λb o e=>Aj _ e;refine uU (A:=A.in1) (items:=items) (l:=l) hA (let ⟨o,e,p⟩:=h;⟨o,kp _ _ e,p⟩) (let ⟨o,e,p⟩:=hl;⟨o,kp _ _ e,p⟩) KL (λz=>by rw [z] at lr;exact Bc _ lr) (λz=>by rw [z] at ll;exact Bc _ ll) hz (Aq _ rfl) ?_;intro h' tk Å c k e io;exact⟨rfl,q h' tk Å c (λb o n e'=>k b o (λz=>by rw [z] at e';exact Bc _ (Au e')) n (kp b o e')) e io⟩
def tLR (K:Ab) (te:TE):TE:=λσ H Q=>te σ H λx H1=>∃p ys,x=.ref p/\dc K H1 p ys/\lx H1 (.lst ys.reverse) Q
section
variable (K:Ab) (hK:X.K=K) {q1 q2:Pos}
include hK
theorem HD (hc:X.calm=true) (ļ:Gl X "list") (ķ:X.mg "list"=bm) (Ļ:Gl X "reversed") (Y7:X.mg "reversed"=bm) (he:PE X e te)
  (Hc:d5 [.Call (.Name "reversed" q1) [e] [] q2] X.env=(false,kw (.Call (.Name "reversed" q1) [e] [] q2) X.env)::d5 [] X.env:=by rfl) (rD:gR X e []:=by rfl) :
  PE X (.Call (.Name "list" p1) [.Call (.Name "reversed" q1) [e] [] q2] [] p2) (tLR K te):=by
 intro Z s σ H Q I h;subst hK;refine BR (j5 I ļ ķ boot_list ?_ ⋯ ⋯);refine Bo ?_ Hc rfl;refine Cm ?_;refine BR (j5 I Ļ Y7 boot_reversed ?_ ⋯ ⋯);refine Bo ?_ rD rfl;rw [rD];refine Cm (bE (he Z s σ H _ I h) λu s1 ⟨x,H1,I1,r1,pa,ys,ex,hS,q⟩=>CM ?_);subst ex;cases r1;obtain⟨au,rv,pl,hz⟩:=I1.list hS;have Á:=rv.length;have lp:=let ⟨_,e,_⟩:=pl.isList;Au e;refine call_reversed_list pl.isList ?_;refine CM ?_;have kp:∀b o,s1.heap.get? b=ap o->(s1.heap.push (revObj pa (au.toArray.size-1))).get? b=ap o:=λb o e=>Aj _ e;refine vi (items:=au.toArray) (l:=pa) (r:=s1.heap.objs.size) (I1.ok.hd hc) ⟨_,Aq _ rfl,rfl,rfl⟩ (let ⟨o,e,p⟩:=pl.isList;⟨o,kp _ _ e,p⟩) (λz=>by rw [z] at lp;exact Bc _ lp) (by rw [Ai];omega) ?_;intro h' tk Å c k e io;have kk:∀b o,s1.heap.get? b=ap o->h'.get? b=ap o:=λb o eb=>k b o (λz=>by rw [z] at eb;exact Bc _ (Au eb)) (kp b o eb);have ea:Å=au.reverse.toArray:=by
  obtain⟨z1,z2⟩:=io;apply Array.ext
  ·rw [z1,Ai,Ai,Cd]
  ·intro j h1 h2;have:=z2 j Å[j] (CY h1);rw [Ai] at this;have hj:j < au.length:=by rw [z1,Ai] at h1;exact h1
   rw [Fe] at this;have e3:au.reverse[j]?=ap Å[j]:=by rw [List.getElem?_reverse hj];exact this
   rw [DG];exact (Option.some.inj (((Ad (by rw [Cd];exact hj)).symm.trans e3))).symm
 subst ea;have rD:s1.heap.objs.size<=(s1.heap.push (revObj pa (au.toArray.size-1))).objs.size:=by simp [Heap.push]
 refine⟨.ref _,upd H1 _ (.lst ys.reverse),I1.laid (t':=tk) kk rD ?_,rfl,q.at _ (I1.bK.fresh rD)⟩;exact⟨by rw [Cd];exact hz,au.reverse,c,rv.zE,e⟩
end
end L2
variable {y:BZ}
namespace My
open PySem PySem.Spec PyProof.Rows L2
def Wd (x:Str):Prop:=1<=x.length/\x.length<=8/\∀c∈x.cps.toList,97<=c/\c < 123
def Part (x:Str) (n:Nat):Prop:=x.length<=n/\∀c∈x.cps.toList,97<=c/\c < 123
theorem Part.append {m:Nat} (a:Part x m) (b:Part y n):Part (x++y) (m+n):=by
 refine⟨?_,λc hc=>?_⟩
 ·rw [Dc];have:=a.1;have:=b.1;omega
 ·rw [Str.cps_append,Fv] at hc;rcases AY.mp hc with h | h
  ·exact a.2 c h
  ·exact b.2 c h
theorem uV {d st:Int} (h:st=1\/st=3\/st=5\/st=7\/st=9\/st=11) (hn:n<=26):((Ax n).map λk:Nat=>ap (97+((d+st*(0+(k:Int))) % 26).toNat)).Nodup:=by
 unfold List.Nodup;rw [Er];refine List.Pairwise.imp_of_mem ?_ Dk;intro a b ha hb ö hz;have Ď:=Aw.mp hb;have Io:=Option.some.inj hz;rcases h with rfl | rfl | rfl | rfl | rfl | rfl <;> omega
def nX {g:α->β}{l:List α} (h:(l.map g).Nodup):l.Nodup:=(Er.mp h).imp λh e=>h (congrArg g e)
def Lj (x y:Str) (c:Nat):(x++⟨#[c]⟩++y).cps[x.length]?=ap c:=by
 show ((x.cps++#[c])++y.cps)[x.cps.size]?=ap c;rw [Array.getElem?_append_left (by simp),Array.getElem?_append_right (Ao _)];simp
def H9:∀k:_root_.Fin 26,cq ("abcdefghijklmnopqrstuvwxyz":Str).cps.toList (k.val:Int)=ap (97+k.val):=by decide +kernel
theorem L0 {n:Int} (h0:0<=n) (h1:n < 26):cq ("abcdefghijklmnopqrstuvwxyz":Str).cps.toList n=ap (97+n.toNat):=by
 have e:=H9 ⟨n.toNat,by omega⟩;have e2:((n.toNat:Nat):Int)=n:=by omega
 rw [e2] at e;exact e
def OO {c:Nat} (h0:97<=c) (h1:c < 123):Part ⟨#[c]⟩ 1:=by
 refine⟨Ao _,λd hd=>?_⟩;have:d=c:=by simpa using hd
 subst this;exact⟨h0,h1⟩
inductive Tr where
 | leaf (x:Str)
 | node (l r:Tr)
def Tr.ax:Tr->List Str
 | .leaf x=>[x]
 | .node l r=>l.ax++r.ax
def Tr.size:Tr->Nat
 | .leaf _=>1
 | .node l r=>l.size+r.size+1
def Tr.depth:Tr->Nat
 | .leaf _=>0
 | .node l r=>max l.depth r.depth+1
def Tr.Ws (t:Tr):Prop:=∀x∈t.ax,Wd x
theorem Tr.mZ:∀t:Tr,1<=t.ax.length
 | .leaf _=>Ao _
 | .node l r=>by have:=l.mZ;show 1<=(l.ax++r.ax).length;rw [Af];omega
theorem Tr.oI:∀t:Tr,t.depth < t.ax.length
 | .leaf _=>Du 0
 | .node l r=>by
  have h1:=l.oI;have h2:=r.oI;have h3:=l.mZ;have h4:=r.mZ;show max l.depth r.depth+1 < (l.ax++r.ax).length;rw [Af];omega
theorem Tr.size_eq:∀t:Tr,t.size+1=2*t.ax.length
 | .leaf _=>rfl
 | .node l r=>by
  have h1:=l.size_eq;have h2:=r.size_eq;show l.size+r.size+1+1=2*(l.ax++r.ax).length;rw [Af];omega
def tJ:∀k:_root_.Fin 26,(!(Builtin.Str.occurrences ("abcdefghijklmnopqrstuvwxyz":Str) ⟨#[97+k.val]⟩ 0 ("abcdefghijklmnopqrstuvwxyz":Str).length 1).isEmpty)=true:=by decide +kernel
theorem Il {c:Nat} (h0:97<=c) (h1:c < 123):(!(Builtin.Str.occurrences ("abcdefghijklmnopqrstuvwxyz":Str) ⟨#[c]⟩ 0 ("abcdefghijklmnopqrstuvwxyz":Str).length 1).isEmpty)=true:=by
 have e:=tJ ⟨c-97,by omega⟩;have e2:97+(c-97)=c:=by omega
 simp only [e2] at e;exact e
def sizes (ts:List Tr):Nat:=(ts.map Tr.size).sum
def bX (a b:List Tr):sizes (a++b)=sizes a+sizes b:=by unfold sizes;rw [AU,List.sum_append]
def ft (t:Tr):sizes [t]=t.size:=by simp [sizes]
theorem Tr.size_pos:∀t:Tr,1<=t.size
 | .leaf _=>Ao _
 | .node l r=>by show 1<=l.size+r.size+1;omega
theorem len_sizes:∀ts:List Tr,ts.length<=sizes ts
 | []=>Ao _
 | t::r=>by have:=len_sizes r;have:=t.size_pos;show r.length+1<=t.size+sizes r;omega
def Tr.post:Tr->List Tr
 | .leaf x=>[.leaf x]
 | .node l r=>l.post++r.post++[.node l r]
def Tr.post_len:∀t:Tr,t.post.length=t.size
 | .leaf _=>rfl
 | .node l r=>by show (l.post++r.post++[_]).length=l.size+r.size+1;rw [Af,Af,l.post_len,r.post_len];rfl
def posts (ts:List Tr):List Tr:=(ts.map Tr.post).flatten
def jV (a b:List Tr):posts (a++b)=posts a++posts b:=by unfold posts;rw [AU,List.flatten_append]
def pd (t:Tr):posts [t]=t.post:=by simp [posts]
def LM (t u:Tr):posts [t,u]=t.post++u.post:=by simp [posts]
inductive Ent where
 | word (x:Str)
 | pair (a b:Nat)
def Tr.nd:Tr->Nat->List Ent
 | .leaf x,_=>[.word x]
 | .node l r,o=>l.nd o++r.nd (o+l.size)++[.pair (o+l.size-1) (o+l.size+r.size-1)]
def Tr.bx:∀(t:Tr) (o:Nat),(t.nd o).length=t.size
 | .leaf _,_=>rfl
 | .node l r,o=>by show (l.nd o++r.nd (o+l.size)++[_]).length=l.size+r.size+1;rw [Af,Af,l.bx,r.bx];rfl
def run:List Tr->List Ent->List Nat->Option (List Ent×List Nat)
 | [],À,ls=>ap (À,ls)
 | .leaf x::k,À,ls=>run k (À++[.word x]) (À.length::ls)
 | .node _ _::k,À,b::a::ls=>run k (À++[.pair a b]) (À.length::ls)
 | .node _ _::_,_,_=>bm
theorem su:∀(t:Tr) (k:List Tr) (À:List Ent) (ls:List Nat),run (t.post++k) À ls=run k (À++t.nd À.length) ((À.length+t.size-1)::ls)
 | .leaf x,k,À,ls=>rfl
 | .node l r,k,À,ls=>by
  have e1:(Tr.node l r).post++k=l.post++(r.post++(Tr.node l r::k)):=by show l.post++r.post++[_]++k=_;simp
  rw [e1,su l,su r];have e2:(À++l.nd À.length).length=À.length+l.size:=by rw [Af,l.bx]
  rw [e2];show run k _ _=run k _ _;have e3:(À++l.nd À.length++r.nd (À.length+l.size)).length=À.length+(Tr.node l r).size-1:=by
   rw [Af,Af,l.bx,r.bx];show _=À.length+(l.size+r.size+1)-1;omega
  rw [e3];have e4:À++(Tr.node l r).nd À.length=À++l.nd À.length++r.nd (À.length+l.size)++[.pair (À.length+l.size-1) (À.length+l.size+r.size-1)]:=by
   show À++(l.nd À.length++r.nd (À.length+l.size)++[_])=_;simp
  rw [e4]
def LJ (t:Tr):run t.post [] []=ap (t.nd 0,[t.size-1]):=by
 have:=su t [] [] [];rw [C5] at this;rw [this];show ap ([]++t.nd 0,[0+t.size-1])=_;simp
end My
variable {xs:List L2.V}{x:Ba}{i:Nat}{σ:L2.St}
namespace L2
open PySem PySem.Spec PyProof.Rows
def iJ {t:ci} (h:s.heap.IsTupleIter it t i) (ht:s.heap.IsTuple t items) (hx:items[i]?=ap x)
  (q:∀h':nw,h'.IsTupleIter it t (i+1)->Cf it s.heap h'->Q x {s with heap:=h'}):db (dL prog w) A (Builtin.SmallTypes.nextOf (.ref it)) Q E s:=by
 unfold Builtin.SmallTypes.nextOf;refine Aa (AZ h.typeIs Ck (Bl Ck h.typeIs DZ ?_ (DL _)));obtain⟨o,ho,hc,hd⟩:=id h;obtain⟨ot,ĵ,htc,n,į⟩:=id ht;show db _ _ (field (.ref it) 0 >>= λseq=>_) _ _ s;refine Aa (A6 ho hd rfl ?_);refine Aa (A6 ho hd rfl ?_);refine Aa (BO ĵ į ?_);show db _ _ (match items[i]? with | some x=>(do xz (.ref it) 1 (u8 ((i:Int)+1));ret x) | none=>_) _ _ s;rw [hx];refine Aa (Ea ho hd (show 1 < 2 by decide) ?_);refine Ah ⟨x,rfl,Ah (q _ ⟨_,CJ _ ho (by rw [Fb (C6 hd _)]),by rw [Obj.cls_mapFields];exact hc,by rw [C6 hd];rfl⟩ (Cf.update ..))⟩
def RK {Q:α->cr->Prop} (hA:A.handled=bm)
  (q:∀(h':nw) (e:ci),(∀b o,s.heap.get? b=ap o->h'.get? b=ap o)->(∃o,h'.get? e=ap o/\o.cls=.type "StopIteration")->E (.ref e) {s with heap:=h'}):db (dL prog w) A (Builtin.SmallTypes.stopIteration (α:=α)) Q E s:=by
 refine Aa ?_;refine Aa (CT ?_ (by show 0<=sizeLine;decide));refine Aa (CH (a:=AX) rfl ?_);refine Bm ?_ (sizeOk_excFields ..);unfold raiseNew;refine Aa (wpAny_handled ?_);rw [hA];refine wpAny_throw (q _ _ (λb o e=>Aj _ (Aj _ e)) ⟨_,Aq _ rfl,rfl⟩)
def jt {t:ci} (hA:A.handled=bm) (h:s.heap.IsTupleIter it t i) (ht:s.heap.IsTuple t items) (hx:items[i]?=bm)
  (q:∀(h':nw) (e:ci),FX it s.heap h'->(∃o,h'.get? e=ap o/\o.cls=.type "StopIteration")->E (.ref e) {s with heap:=h'}):db (dL prog w) A (Builtin.SmallTypes.nextOf (.ref it)) Q E s:=by
 unfold Builtin.SmallTypes.nextOf;refine Aa (AZ h.typeIs Ck (Bl Ck h.typeIs DZ ?_ (DL _)));obtain⟨o,ho,hc,hd⟩:=id h;obtain⟨ot,ĵ,htc,n,į⟩:=id ht;show db _ _ (field (.ref it) 0 >>= λseq=>_) _ _ s;refine Aa (A6 ho hd rfl ?_);refine Aa (A6 ho hd rfl ?_);refine Aa (BO ĵ į ?_);show db _ _ (match items[i]? with | some x=>(do xz (.ref it) 1 (u8 ((i:Int)+1));ret x) | none=>(do rule _;xz (.ref it) 0 .none;Builtin.SmallTypes.stopIteration)) _ _ s;rw [hx];refine Aa (CS ?_);refine Aa (Ea ho hd (show 0 < 2 by decide) ?_);refine RK (A:=A.in1) hA λh' e k ex=>q h' e (λb o n eb=>k b o ?_) ex;rw [(Cf.update _ _ _).2 b n];exact eb
def Inv.rX {t':Nat}{ch:List ci}{a:ci}{o:HO} (I:Inv X Z σ H s) (hf:∀b∈ch,vo X Z H b) (k:∀b u,b∉ch->s.heap.get? b=ap u->h'.get? b=ap u)
  (hp:s.heap.objs.size<=a) (new:bu X.prog X.w (upd H a o) h' a o):Inv X Z σ (upd H a o) {s with heap:=h',toks:=t'}:=by
 have hn:=I.bK.fresh hp;have Vb:∀b u,H b=ap u->b∉ch:=λb u e z=>by rw [(hf b z).1] at e;cases e
 have nL:X.env.locals∉ch:=λz=>(hf _ z).2.1 rfl;refine I.step (g':=s.gens) (d':=s.drawn) (ch:=ch) (λb hb=>⟨(hf b hb).2.2.2.1,(hf b hb).2.1,(hf b hb).2.2.2.2.1,(hf b hb).2.2.2.2.2⟩) (λb u _ _ hc e _=>k b u hc e) (λb u _ _ hc e _=>⟨u.slots,k b u hc e⟩)
  (λb u _ e n=>by rw [aD (AM (AB (Au e) hp))];exact n) (λb u hc e=>⟨u,k b u hc e⟩) (λb xs e=>by rw [aD (bQ e hn)];exact e) (λb u xs e=>by rw [aD (bQ e hn)];exact e)
  (λb ps e=>⟨#[],by rw [aD (bQ e hn),e];simp⟩) (λm hm=>?_) (λb u e=>?_) I.bare
 ·obtain⟨o',es,ep,ho,r⟩:=hm;exact⟨o',es,ep,k _ o' nL ho,r⟩
 ·by_cases hb:b=a
  ·subst hb;rw [aW] at e;cases e;exact new
  ·rw [aD hb] at e;refine (I.bK b u e).w6 (λc v hc q=>k c v ?_ q) (λc q=>by rw [aD (bQ q hn)];exact q) λc xs q=>by rw [aD (bQ q hn)];exact q
   rcases hc with z | z
   ·rw [z];exact Vb b u e
   ·exact Vb c _ z
def Inv.wV {t':Nat}{ch:List ci} (I:Inv X Z σ H s) (hf:∀b∈ch,vo X Z H b) (k:∀b u,b∉ch->s.heap.get? b=ap u->h'.get? b=ap u) :
  Inv X Z σ H {s with heap:=h',toks:=t'}:=by
 have Vb:∀b u,H b=ap u->b∉ch:=λb u e z=>by rw [(hf b z).1] at e;cases e
 have nL:X.env.locals∉ch:=λz=>(hf _ z).2.1 rfl;refine I.step (g':=s.gens) (d':=s.drawn) (ch:=ch) (λb hb=>⟨(hf b hb).2.2.2.1,(hf b hb).2.1,(hf b hb).2.2.2.2.1,(hf b hb).2.2.2.2.2⟩) (λb u _ _ hc e _=>k b u hc e) (λb u _ _ hc e _=>⟨u.slots,k b u hc e⟩)
  (λ_ _ _ _ n=>n) (λb u hc e=>⟨u,k b u hc e⟩) (λ_ _ e=>e) (λ_ _ _ e=>e) (λb ps e=>⟨#[],by rw [e];simp⟩) (λm hm=>?_) (λb u e=>?_) I.bare
 ·obtain⟨o',es,ep,ho,r⟩:=hm;exact⟨o',es,ep,k _ o' nL ho,r⟩
 ·refine (I.bK b u e).w6 (λc v hc q=>k c v ?_ q) (λ_ q=>q) λ_ _ q=>q;rcases hc with z | z
  ·rw [z];exact Vb b u e
  ·exact Vb c _ z
def kR (h:Vals xs us):∀{i:Nat}{x:V},xs[i]?=ap x->∃u,us[i]?=ap u/\RelV x u:=by
 induction h with
 | nil=>intro i x e;simp at e
 | cons r t ih=>
  intro i x e;cases i with
  | zero=>simp at e;subst e;exact⟨_,rfl,r⟩
  | succ i=>exact ih (by simpa using e)
end L2
variable {e:BV}{Ë:Ba}{Ï:List BU}{kk:Nat}
namespace L2
open PySem PySem.Spec PyProof.Rows
def qO {E:bv->cr->Prop}{t:ci} (Nr:e≠it) (Ć:t≠e) (Tz:t≠it)
  (hz:IsEnum s.heap e it i Ë) (hi:s.heap.IsTupleIter it t i) (ht:s.heap.IsTuple t items) (hx:items[i]?=ap x)
  (q:∀(h':nw) (tk:Nat),IsEnumOut h' e it (i+1:Nat) x s.heap.objs.size->h'.IsTupleIter it t (i+1)->IsPair h' s.heap.objs.size (.int i s.toks) x->(∀c o,c≠e->c≠it->s.heap.get? c=ap o->h'.get? c=ap o)->Q (.ref s.heap.objs.size) {s with heap:=h',toks:=tk}) :
  db (dL prog w) A (BT.«enumerate.__next__» {pos:=[.ref e]}) (λfin s'=>∃v,fin=F0 (FZ v)/\Q v s') E s:=by
 show db _ _ (field (.ref e) 2 >>= λr=>_) _ _ s;refine Aa (A6 hz rfl rfl ?_);refine Aa (iJ hi ht hx λh1 j1 b1=>?_);have z1:=(b1.2 _ Nr).trans hz;refine Aa (A6 z1 rfl rfl ?_);refine Aa (A6 z1 rfl rfl ?_);refine Aa (wpAny_mkInt ?_);refine Aa (A8 z1 (show 3 < 6 by decide) λh2 z2 b2=>?_);refine Aa (A8 z2 (show 4 < 6 by decide) λh3 z3 b3=>?_);have sz3:=b3.1.trans (b2.1.trans b1.1);have Ì:∀b,b≠e->b≠it->h3.get? b=s.heap.get? b:=λb n1 n2=>(b3.2 b n1).trans ((b2.2 b n1).trans (b1.2 b n2));refine Aa (CT ?_ (by show 2<=sizeLine;decide));have kp:∀b o,h3.get? b=ap o->(h3.push {cls:=.type "tuple",data:=.seq [D4 i s.toks,x].toArray}).get? b=ap o:=λb o e=>Aj _ e;have Xl:(h3.push {cls:=.type "tuple",data:=.seq [D4 i s.toks,x].toArray}).get? h3.objs.size=ap {cls:=.type "tuple",data:=.seq #[.int i s.toks,x]}:=Aq _ rfl;generalize h3.push {cls:=.type "tuple",data:=.seq [D4 i s.toks,x].toArray}=h4 at kp Xl ⊢;have z4:h4.get? e=ap {cls:=.type "enumerate",data:=.fields #[.none,.bool false,.ref it,u8 (i+1),.none,Ë]}:=kp _ _ z3;refine Aa ?_;refine Aa (A6 z4 rfl rfl ?_);refine Ah ?_;refine Aa (CS ?_);refine Aa (A6 z4 rfl rfl ?_);refine Aa (A8 z4 (show 5 < 6 by decide) λh5 z5 b5=>?_);refine Aa ?_;refine Aa (A8 z5 (show 0 < 6 by decide) λh6 z6 b6=>?_);refine A8 z6 (show 1 < 6 by decide) λh7 z7 b7=>?_;refine Aa (DE ?_);have X7:∀b,b≠e->h7.get? b=h4.get? b:=λb n=>(b7.2 b n).trans ((b6.2 b n).trans (b5.2 b n));have ne:s.heap.objs.size≠e:=λz=>by have:=Au hz;rw [<- z] at this;exact Bc _ this
 refine Ah ⟨.ref h3.objs.size,rfl,?_⟩;rw [sz3] at z7 Xl ⊢;refine q h7 _ ?_ ?_ ?_ ?_
 ·exact z7
 ·obtain⟨o,eo,p⟩:=j1;refine⟨o,?_,p⟩;rw [X7 _ (BL Nr)];exact kp _ _ ((b3.2 _ (BL Nr)).trans ((b2.2 _ (BL Nr)).trans eo))
 ·rw [IsPair,X7 _ ne];exact Xl
 ·intro c o n1 n2 ec;rw [X7 _ n1];exact kp _ _ ((Ì _ n1 n2).trans ec)
def uf {t:ci}{Q:PySem.Fin->cr->Prop} (hA:A.handled=bm)
  (hz:IsEnum s.heap e it i Ë) (hi:s.heap.IsTupleIter it t i) (ht:s.heap.IsTuple t items) (hx:items[i]?=bm)
  (q:∀(h':nw) (x:ci),(∀c o,c≠it->s.heap.get? c=ap o->h'.get? c=ap o)->(∃o,h'.get? x=ap o/\o.cls=.type "StopIteration")->E (.ref x) {s with heap:=h'}) :
  db (dL prog w) A (BT.«enumerate.__next__» {pos:=[.ref e]}) Q E s:=by
 show db _ _ (field (.ref e) 2 >>= λr=>_) _ _ s;refine Aa (A6 hz rfl rfl ?_);exact Aa (jt hA hi ht hx λh' x k ex=>q h' x (λc o n e'=>k c o n e') ex)
def nQ {t:ci}{Q:Option bv->cr->Prop} (Nr:e≠it) (Ć:t≠e) (Tz:t≠it)
  (hz:IsEnum s.heap e it i Ë) (hi:s.heap.IsTupleIter it t i) (ht:s.heap.IsTuple t items) (hx:items[i]?=ap x)
  (q:∀(h':nw) (tk:Nat),IsEnumOut h' e it (i+1:Nat) x s.heap.objs.size->h'.IsTupleIter it t (i+1)->IsPair h' s.heap.objs.size (.int i s.toks) x->(∀c o,c≠e->c≠it->s.heap.get? c=ap o->h'.get? c=ap o)->Q (ap (.ref s.heap.objs.size)) {s with heap:=h',toks:=tk}) :
  db (dL prog w) A (pyNext (.ref e)) Q E s:=by
 have ty:s.TypeIs (.ref e) "enumerate":=⟨_,hz,rfl⟩;refine Aa (C3 (AZ ty CK (Bl CK ty EO ?_ (EB _))));exact qO Nr Ć Tz hz hi ht hx λh' tk a b c d=>Ah (q h' tk a b c d)
def o9 {t:ci}{Q:Option bv->cr->Prop} (hA:A.handled=bm)
  (hz:IsEnum s.heap e it i Ë) (hi:s.heap.IsTupleIter it t i) (ht:s.heap.IsTuple t items) (hx:items[i]?=bm)
  (q:∀h':nw,(∀c o,c≠it->s.heap.get? c=ap o->h'.get? c=ap o)->Q bm {s with heap:=h'}) :
  db (dL prog w) A (pyNext (.ref e)) Q E s:=by
 have ty:s.TypeIs (.ref e) "enumerate":=⟨_,hz,rfl⟩;refine Aa (C3 (AZ ty CK (Bl CK ty EO ?_ (EB _))));refine uf (A:=A.in1) hA hz hi ht hx λh' x k ex=>?_;obtain⟨o,eo,hc⟩:=ex;refine Aa (Ds (T:="StopIteration") ⟨o,eo,hc⟩ isSubtype_stop ?_);exact Ah (q h' k)
def qC (t:ci) (items:Array bv):Meets (BT.«enumerate.__new__» {pos:=[.type "enumerate",.ref t]}) (λ_ R s=>s.heap.IsTuple t items/\
  ∀h':nw,IsEnum h' (s.heap.objs.size+1) s.heap.objs.size (0:Nat) .none->h'.IsTupleIter s.heap.objs.size t 0->(∀b o,s.heap.get? b=ap o->h'.get? b=ap o)->R (.ok (.ret (.ref (s.heap.objs.size+1)))) {s with heap:=h'}):=
 .of_wp λprog w A R s h=>by
  obtain⟨h1,q⟩:=h;refine Aa ?_;refine Aa (CH (a:=true) rfl ?_);refine Aa (CH sub_enumerate ?_);refine Ah ?_;refine Aa ?_;refine Aa (wpAny_stack_any λst=>Ah ?_);have fin:db (dL prog w) A.in1 (pyIter (.ref t) >>= λit=>(Builtin.SmallTypes.newRecord (.type "enumerate") (Builtin.SmallTypes.ownedTupleFields++[it,u8 0,.none,.none]) >>= λr=>ret r)) (λfin s'=>∃v,fin=F0 (FZ v)/\R (Except.ok (FZ v)) s') (λe s'=>R (Except.error e) s') s:=by
   refine Aa (C7 h1 ?_);have k1:∀b o,s.heap.get? b=ap o->(s.heap.push {cls:=.type "tuple_iterator",data:=.fields #[.ref t,.int 0 0]}).get? b=ap o:=λb o e=>Aj _ e;have g1:(s.heap.push {cls:=.type "tuple_iterator",data:=.fields #[.ref t,.int 0 0]}).get? s.heap.objs.size=ap {cls:=.type "tuple_iterator",data:=.fields #[.ref t,.int 0 0]}:=Aq _ rfl;have z1:(s.heap.push {cls:=.type "tuple_iterator",data:=.fields #[.ref t,.int 0 0]}).objs.size=s.heap.objs.size+1:=CP ..;generalize s.heap.push {cls:=.type "tuple_iterator",data:=.fields #[.ref t,.int 0 0]}=uZ at k1 g1 z1 ⊢;show db _ _ (newObj (.type "enumerate") (.fields #[.none,.bool false,.ref s.heap.objs.size,u8 0,.none,.none]) >>= λr=>ret r) _ _ _;refine Aa (Bm ?_ (by simp [sizeOk];decide));have g2:(uZ.push {cls:=.type "enumerate",data:=.fields #[.none,.bool false,.ref s.heap.objs.size,u8 0,.none,.none]}).get? uZ.objs.size=ap {cls:=.type "enumerate",data:=.fields #[.none,.bool false,.ref s.heap.objs.size,u8 0,.none,.none]}:=Aq _ rfl;refine Ah ⟨.ref uZ.objs.size,rfl,?_⟩;rw [z1] at g2 ⊢;exact q _ g2 ⟨_,Aj _ g1,rfl,rfl⟩ λb o e=>Aj _ (k1 _ _ e)
  refine wpAny_ite_split (λ_=>?_) (λ_=>?_)
  ·exact Aa (CH (a:=(AD t,bm)) rfl fin)
  ·exact Aa (CH (a:=(AD t,bm)) rfl fin)
def Jl {t:ci} (h1:s.heap.IsTuple t items)
  (q:∀h':nw,IsEnum h' (s.heap.objs.size+1) s.heap.objs.size (0:Nat) .none->h'.IsTupleIter s.heap.objs.size t 0->(∀b o,s.heap.get? b=ap o->h'.get? b=ap o)->Q (.ref (s.heap.objs.size+1)) {s with heap:=h'}) :
  db (dL prog w) A (call (.type "enumerate") [.ref t]) Q E s:=
 callType_new F.called_enumerate ⋯ (F.typeCall_enumerate_1 _) (F.newCall_enumerate_1 _) (λo=>F.args_object_init_2 o _) F.entry_enumerate_new (qC t items) ⟨h1,λh' z i k=>⟨⟨_,z,rfl⟩,q h' z i k⟩⟩
def Ite (K:Ab) (a:ci):It where
 go:=λi H=>∃xs x,d9 K H a xs/\xs[i]?=ap x
 UR:=λi H v H'=>∃p x,v=.ref p/\H p=bm/\H'=upd H p (.tup [.int i,x])/\∀xs,d9 K H a xs->xs[i]?=ap x
 stop:=λi H=>∃xs,d9 K H a xs/\xs.length<=i
theorem Lq {K:Ab}{t:ci} (Nr:e≠it) (Ć:t≠e) (Tz:t≠it):Turn P w K (.Tuple Ï kk pos) (Ite K t) [e,it] e (λi h=>(∃Ë,IsEnum h e it (i:Nat) Ë)/\h.IsTupleIter it t i) where
 mem:=by simp
 obj:=λi h st b hb=>by
  simp only [AA,BI,or_false] at hb;rcases hb with rfl | rfl
  ·obtain⟨⟨_,e⟩,_⟩:=st;exact⟨_,e,λv z=>by cases z⟩
  ·obtain⟨_,⟨o,e,_,d⟩⟩:=st;exact⟨o,e,λv z=>by rw [d] at z;cases z⟩
 keep:=λi h h' st k=>⟨let ⟨o,e'⟩:=st.1;⟨o,k e (by simp) _ e'⟩,let ⟨o,e',p⟩:=st.2;⟨o,k it (by simp) _ e',p⟩⟩
 item:=by
  intro X hP hw hK hc i Z s σ H E I hf st hg;subst hP hw hK;obtain⟨xs,x,hx,gx⟩:=hg;obtain⟨au,rx,tx,_⟩:=I.tuple hx;obtain⟨u,gu,ru⟩:=kR rx gx;obtain⟨⟨Ë,hz⟩,hi⟩:=st;refine nQ Nr Ć Tz hz hi tx (by simpa using gu) λh' tk zo j np k=>?_;refine⟨_,rfl,?_⟩;refine Eb zo λh2 z2 b2=>?_;have le:=Au hz;have li:=let ⟨_,e',_⟩:=hi;Au e';have lt:∀b∈[e,it],b < s.heap.objs.size:=λb hb=>by
   simp only [AA,BI,or_false] at hb;rcases hb with rfl | rfl
   ·exact le
   ·exact li
  have nz:s.heap.objs.size≠e:=λz=>Bc _ (by have:=le;rw [<- z] at this;exact this);have ë:∀b o,b∉[e,it]->s.heap.get? b=ap o->h2.get? b=ap o:=λb o hb e'=>by
   have Io:b≠e:=λq=>hb (by simp [q]);rw [b2.2 b Io];exact k b o Io (λq=>hb (by simp [q])) e'
  have ç:h2.get? s.heap.objs.size=ap {cls:=.type "tuple",data:=.seq #[.int i s.toks,u]}:=(b2.2 _ nz).trans np;have ò:=I.bK.fresh (Ao s.heap.objs.size);refine⟨.ref s.heap.objs.size,upd H s.heap.objs.size (.tup [.int i,x]),I.rX (t':=tk) hf ë (Ao _) ⟨by show 2<=sizeLine;decide,[.int i s.toks,u],.cons ⟨_,rfl⟩ (.cons ru .nil),⟨_,ç,rfl,_,rfl⟩⟩,rfl,⟨_,x,rfl,ò,rfl,λxs' h'=>by rw [I.lT h' hx];exact gx⟩,⟨⟨_,z2⟩,let ⟨o,e',p⟩:=j;⟨o,(b2.2 _ (BL Nr)).trans e',p⟩⟩,λb hb=>?_⟩;rw [aD (AM (lt b hb))];exact (hf b hb).1
 done:=by
  intro X hP hw hK hc i Z s σ H E I hf st hg;subst hP hw hK;obtain⟨xs,hx,hl⟩:=hg;obtain⟨au,rx,tx,_⟩:=I.tuple hx;have el:=rx.length;obtain⟨⟨Ë,hz⟩,hi⟩:=st;refine o9 (I.ok.hd hc) hz hi tx (by simp;omega) λh' k=>⟨rfl,I.wV (t':=s.toks) hf λb o hb e'=>k b o (λz=>hb (by simp [z])) e'⟩
 self:=λA i s Q E st h=>let ⟨_,e'⟩:=st.1;Dg e' h
end L2
namespace My
open PySem PySem.Spec PyProof.Rows L2
def QY (l:List V) (i:Nat):Ent->List V
 | .word _=>l
 | .pair a b=>(l.set a (.int i)).set b (.int i)
def ah:List Ent->Nat->List V->List V
 | [],_,l=>l
 | e::es,i,l=>ah es (i+1) (QY l i e)
theorem yL:∀(es:List Ent) (e:Ent) (i:Nat) (l:List V),ah (es++[e]) i l=QY (ah es i l) (i+es.length) e
 | [],e,i,l=>rfl
 | x::es,e,i,l=>by
  show ah (es++[e]) (i+1) (QY l i x)=QY (ah es (i+1) (QY l i x)) (i+(es.length+1)) e;rw [yL es e];congr 1;omega
def UD (l:List V) (i:Nat) (e:Ent):(QY l i e).length=l.length:=by cases e with
 | word=>rfl
 | pair=>show ((l.set _ _).set _ _).length=_;rw [B1,B1]
theorem Jq:∀(es:List Ent) (i:Nat) (l:List V),(ah es i l).length=l.length
 | [],_,_=>rfl
 | e::es,i,l=>by show (ah es (i+1) (QY l i e)).length=_;rw [Jq es,UD]
end My
namespace L2
open PySem PySem.Spec PyProof.Rows
def aam (K:Ab):V->V->Hp->VK->Prop:=λo i H Q=>∃p xs k x,o=.ref p/\i=.int k/\dc K H p xs/\0<=k/\k < 1000/\xs[k.toNat]?=ap x/\Q x H
theorem PN (K:Ab) (hK:X.K=K):aco X (aam K):=λZ s σ H o i ov iv Q I ro ri h=>by
 obtain⟨p,xs,k,x,rfl,rfl,hp,k0,k1,hx,q⟩:=h;subst hK;cases ro;obtain⟨t,rfl⟩:=ri;obtain⟨au,r,pl,hz⟩:=I.list hp;obtain⟨u,gu,ru⟩:=kR r hx;exact wpAny_getItem_list pl.isList k0 ∅ (by simpa using gu) ⟨x,H,I,ru,q⟩
end L2
variable {x:BZ}
namespace My
open PySem PySem.Spec PyProof.Rows L2
theorem NA {c:Nat} (a:Part x 1) (b:Part y 6) (h0:97<=c) (h1:c < 123):Wd (x++⟨#[c]⟩++y):=by
 have q:=(a.append (OO h0 h1)).append b;refine⟨?_,q.1,q.2⟩;rw [Dc,Dc];show 1<=x.length+1+y.length;omega
end My
namespace L2
open PySem PySem.Spec PyProof.Rows
def Itd (lo:Int) (n:Nat):It:=⟨λi _=>i < n,λi H x H'=>H'=H/\x=.int (lo-i),λi _=>n<=i⟩
theorem zj {K:Ab} (it:ci) (lo:Int) (n:Nat):Turn P w K tg (Itd lo n) [it] it (λi h=>IsRangeIter h it (lo+(i:Nat)*(-1)) ((n:Int)-(i:Nat)) (-1)) where
 mem:=by simp
 obj:=λi h st b hb=>by
  have e:b=it:=by simpa using hb
  subst e;exact⟨_,st,λv z=>by
   have z':=z;cases z'⟩
 keep:=λi h h' st k=>k it (by simp) _ st
 item:=by
  intro X hP hw hK hc i Z s σ H E I hf st hg;subst hP hw hK;obtain⟨f0,f1,f2,f3,f4,f5⟩:=hf it (by simp);have W:=Walks.range (prog:=X.prog) (w:=X.w) (I.ok.hd hc) it lo (-1) n;refine W.item i s _ _ hg st λv h' tk hv nr kk=>?_;obtain⟨t,rfl⟩:=hv;have I1:Inv X Z σ H {s with heap:=h',toks:=tk}:=I.turned (λb o hb e=>kk b o (by simpa using hb) e) f0 f1 f3 f4 f5;refine⟨_,rfl,tS (s:={s with heap:=h',toks:=tk}) (n:="range_iterator") nr rfl rfl ⋯ ⟨.int (lo-i),H,I1,⟨t,?_⟩,⟨rfl,rfl⟩,nr,λb hb=>(hf b hb).1⟩⟩;rw [show lo+(i:Int)*(-1)=lo-i by omega]
 done:=by
  intro X hP hw hK hc i Z s σ H E I hf st hg;obtain⟨f0,f1,f2,f3,f4,f5⟩:=hf it (by simp);exact wpAny_pyNext_range_end (I.ok.hd hc) st (by have:n<=i:=hg;omega) λh' eb=>⟨rfl,I.turned (t':=s.toks) (λb o hb e=>eb b o hb e) f0 f1 f3 f4 f5⟩
 self:=λ_ _ _ _ _ st h=>wpAny_pyIter_rangeiter st h
section
theorem LK {σ:St}{R:It->Hp->Prop}{lo hi:Int}{t u v:Tok}{tk:Nat} (I:Inv X Z σ H s) (h1:-(2 ^ 62)<=lo) (h2:lo < 2 ^ 62) (h3:-(2 ^ 62)<=hi) (h4:hi < 2 ^ 62)
  (q:R (Itd lo (lo-hi).toNat) H):db (dL X.prog X.w) X.A (pyIter (.ref s.heap.objs.size)) (PIE X Z σ tg R) E {s with heap:=s.heap.push {cls:=.type "range",data:=.fields #[.int lo t,.int hi u,.int (-1) v]},toks:=tk}:=by
 refine wpAny_pyIter_range (IsRange.new ..) (PySem.W.small_down h1 h2 h3 h4) ?_;have I1:Inv X Z σ H {s with heap:=s.heap.push {cls:=.type "range",data:=.fields #[.int lo t,.int hi u,.int (-1) v]},toks:=tk}:=I.kept λb o e=>Aj _ e;refine⟨(s.heap.push {cls:=.type "range",data:=.fields #[.int lo t,.int hi u,.int (-1) v]}).objs.size,[(s.heap.push {cls:=.type "range",data:=.fields #[.int lo t,.int hi u,.int (-1) v]}).objs.size],_,_,H,rfl,
  I1.kept (t':=tk) λb o e=>Aj _ e,zj _ lo (lo-hi).toNat,?_,λb hb=>?_,q⟩
 ·have e1:lo+((0:Nat):Int)*(-1)=lo:=by simp
  have e2:(((lo-hi).toNat:Nat):Int)-((0:Nat):Int)=Builtin.Range.rangeSize lo hi (-1):=by rw [PySem.W.rangeSize_down];split <;> omega
  show IsRangeIter _ _ (lo+((0:Nat):Int)*(-1)) ((((lo-hi).toNat:Nat):Int)-((0:Nat):Int)) (-1);rw [e1,e2];exact Aq _ rfl
 ·have e:b=(s.heap.push {cls:=.type "range",data:=.fields #[.int lo t,.int hi u,.int (-1) v]}).objs.size:=by simpa using hb
  subst e;exact I1.va (Ao _) (I1.bK.fresh (Ao _))
def aa9 (ta:TA):TI:=λσ H R=>ta σ H λvs H1=>∃i j:Int,vs=[.int i,.int j,.int (-1)]/\(-(2 ^ 62)<=i/\i < 2 ^ 62/\-(2 ^ 62)<=j/\j < 2 ^ 62)/\R (Itd i (i-j).toNat) H1
def LO {c:ga}{ta:TA} (hg:Gl X "range") (hm:X.mg "range"=bm) (ha:PA X [a,b,c] ta) (hs:d5 [a,b,c] X.env=[(false,kw a X.env),(false,kw b X.env),(false,kw c X.env)]:=by rfl) (rD:d5 [b,c] X.env=[(false,kw b X.env),(false,kw c X.env)]:=by rfl) :
  PI X tg (.Call (.Name "range" p) [a,b,c] [] pos) (aa9 ta):=by
 intro Z s σ H R I h;refine Call_ (j5 I hg hm boot_range (Bo (bE (ha pos Z s σ H _ I h) λus s1 ⟨vs,H1,I1,r1,q1⟩=>?_) (by show d5 _ _=_;rw [hs,rD]) (by rw [rD];rfl)));obtain⟨i,j,e,⟨q1,q2,q3,q4⟩,q⟩:=q1;subst e;cases r1 with
 | cons r rr=>
  cases rr with
  | cons r' rr=>
   cases rr with
   | cons r'' rr=>
    cases rr;obtain⟨t,rfl⟩:=r;obtain⟨t',rfl⟩:=r';obtain⟨t'',rfl⟩:=r'';refine call_range_3 ⋯ (LK I1 q1 q2 q3 q4 q) (.inl ?_);unfold Builtin.divisionGoesByPylong;have e1:decide ((if ((-1:Int)==0)=true then 0 else (-1:Int).natAbs.log2 / 30+1) > 300)=false:=by decide
    simp only [e1,Fo]
end
def acs (K:Ab) (a:ci):It where
 go:=λi H=>∃xs x,dc K H a xs/\xs[i]?=ap x
 UR:=λi H v H'=>∃p x,v=.ref p/\H p=bm/\H'=upd H p (.tup [.int i,x])/\∀xs,dc K H a xs->xs[i]?=ap x
 stop:=λi H=>∃xs,dc K H a xs/\xs.length<=i
theorem Ho {K:Ab}{t:ci} (Nr:e≠it):Turn P w K (.Tuple Ï kk pos) (acs K t) [e,it] e (λi h=>(∃Ë,IsEnum h e it (i:Nat) Ë)/\h.IsListIter it t i) where
 mem:=by simp
 obj:=λi h st b hb=>by
  simp only [AA,BI,or_false] at hb;rcases hb with rfl | rfl
  ·obtain⟨⟨_,e⟩,_⟩:=st;exact⟨_,e,λv z=>by cases z⟩
  ·obtain⟨_,⟨o,e,_,d⟩⟩:=st;exact⟨o,e,λv z=>by rw [d] at z;cases z⟩
 keep:=λi h h' st k=>⟨let ⟨o,e'⟩:=st.1;⟨o,k e (by simp) _ e'⟩,let ⟨o,e',p⟩:=st.2;⟨o,k it (by simp) _ e',p⟩⟩
 item:=by
  intro X hP hw hK hc i Z s σ H E I hf st hg;subst hP hw hK;obtain⟨xs,x,hx,gx⟩:=hg;obtain⟨au,rx,tx,_⟩:=I.list hx;obtain⟨u,gu,ru⟩:=kR rx gx;obtain⟨⟨Ë,hz⟩,hi⟩:=st;refine wpAny_pyNext_enum_item hz hi tx.isList (by simpa using gu) Nr λh' zo j np _ k=>?_;refine⟨_,rfl,?_⟩;refine Eb zo λh2 z2 b2=>?_;have le:=Au hz;have li:=let ⟨_,e',_⟩:=hi;Au e';have lt:∀b∈[e,it],b < s.heap.objs.size:=λb hb=>by
   simp only [AA,BI,or_false] at hb;rcases hb with rfl | rfl
   ·exact le
   ·exact li
  have nz:s.heap.objs.size≠e:=λz=>Bc _ (by have:=le;rw [<- z] at this;exact this);have ë:∀b o,b∉[e,it]->s.heap.get? b=ap o->h2.get? b=ap o:=λb o hb e'=>by
   have Io:b≠e:=λq=>hb (by simp [q]);rw [b2.2 b Io];exact k b o Io (λq=>hb (by simp [q])) e'
  have ç:h2.get? s.heap.objs.size=ap {cls:=.type "tuple",data:=.seq #[.int i s.toks,u]}:=(b2.2 _ nz).trans np;have ò:=I.bK.fresh (Ao s.heap.objs.size);refine⟨.ref s.heap.objs.size,upd H s.heap.objs.size (.tup [.int i,x]),I.rX (t':=s.toks+1) hf ë (Ao _) ⟨by show 2<=sizeLine;decide,[.int i s.toks,u],.cons ⟨_,rfl⟩ (.cons ru .nil),⟨_,ç,rfl,_,rfl⟩⟩,rfl,⟨_,x,rfl,ò,rfl,λxs' h'=>by rw [I.F4 h' hx];exact gx⟩,⟨⟨_,z2⟩,let ⟨o,e',p⟩:=j;⟨o,(b2.2 _ (BL Nr)).trans e',p⟩⟩,λb hb=>?_⟩;rw [aD (AM (lt b hb))];exact (hf b hb).1
 done:=by
  intro X hP hw hK hc i Z s σ H E I hf st hg;subst hP hw hK;obtain⟨xs,hx,hl⟩:=hg;obtain⟨au,rx,tx,_⟩:=I.list hx;have el:=rx.length;obtain⟨⟨Ë,hz⟩,hi⟩:=st;refine wpAny_pyNext_enum_end (I.ok.hd hc) hz hi tx.isList (by simp;omega) λh' k=>⟨rfl,I.wV (t':=s.toks) hf λb o hb e'=>k b o (λz=>hb (by simp [z])) e'⟩
 self:=λA i s Q E st h=>let ⟨_,e'⟩:=st.1;Dg e' h
end L2
namespace My
open PySem PySem.Spec PyProof.Rows L2
def en:Tr->Nat->Nat->Ent
 | .leaf x,_,_=>.word x
 | .node l r,o,j=>if j < l.size then en l o j else if j < l.size+r.size then en r (o+l.size) (j-l.size) else .pair (o+l.size-1) (o+l.size+r.size-1)
def up:Tr->Nat->Nat->List Nat->List Nat
 | .leaf _,o,_,ab=>o::ab
 | .node l r,o,j,ab=>if j < l.size then up l o j ((o+l.size+r.size)::ab) else if j < l.size+r.size then up r (o+l.size) (j-l.size) ((o+l.size+r.size)::ab) else (o+l.size+r.size)::ab
def jd:Tr->Nat->Nat->V->V
 | .leaf _,_,_,p=>p
 | .node l r,o,j,p=>if j < l.size then jd l o j (.int (o+l.size+r.size:Nat)) else if j < l.size+r.size then jd r (o+l.size) (j-l.size) (.int (o+l.size+r.size:Nat)) else p
def be:Tr->Nat->Nat->List Nat
 | .leaf _,o,_=>[o]
 | .node l r,o,j=>if j < l.size then be l o j else if j < l.size+r.size then be r (o+l.size) (j-l.size) else be l o (l.size-1)++be r (o+l.size) (r.size-1)
theorem fj:∀(t:Tr) (o j:Nat),j < t.size->(t.nd o)[j]?=ap (en t o j)
 | .leaf x,o,j,h=>by
  have:j=0:=by have:j < 1:=h;omega
  subst this;rfl
 | .node l r,o,j,h=>by
  have es:(Tr.node l r).size=l.size+r.size+1:=rfl;have hn:(Tr.node l r).nd o=l.nd o++r.nd (o+l.size)++[.pair (o+l.size-1) (o+l.size+r.size-1)]:=rfl;have ln:=l.bx o;have rn:=r.bx (o+l.size);unfold en;by_cases c1:j < l.size
  ·rw [if_pos c1,hn,Be,AE ∅];exact fj l o j c1
  ·rw [if_neg c1];by_cases c2:j < l.size+r.size
   ·rw [if_pos c2,hn,Be,AI ∅,AE ∅,ln];exact fj r _ _ ∅
   ·rw [if_neg c2,hn,AI (by rw [Af];omega),Af,ln,rn];have:j-(l.size+r.size)=0:=by omega
    rw [this];rfl
theorem NG:∀(t:Tr) (o j:Nat) (ab:List Nat),∀x∈up t o j ab,(o<=x/\x < o+t.size)\/x∈ab
 | .leaf _,o,j,ab,x,h=>by
  have es:(Tr.leaf ‹_›).size=1:=rfl;rcases AA.mp h with z | z
  ·left;omega
  ·exact .inr z
 | .node l r,o,j,ab,x,h=>by
  have es:(Tr.node l r).size=l.size+r.size+1:=rfl;unfold up at h
  split at h
  ·rcases NG l _ _ _ _ h with z | z
   ·left;omega
   ·rcases AA.mp z with z | z
    ·left;omega
    ·exact .inr z
  ·split at h
   ·rcases NG r _ _ _ _ h with z | z
    ·left;omega
    ·rcases AA.mp z with z | z
     ·left;omega
     ·exact .inr z
   ·rcases AA.mp h with z | z
    ·left;omega
    ·exact .inr z
theorem QM:∀(t:Tr) (o j:Nat),j < t.size->(∃x,en t o j=.word x/\be t o j=[o+j])\/∃a b,en t o j=.pair (o+a) (o+b)/\a < j/\b < j/\be t o j=be t o a++be t o b
 | .leaf x,o,j,h=>by
  have:j=0:=by have:j < 1:=h;omega
  subst this;exact .inl ⟨x,rfl,rfl⟩
 | .node l r,o,j,h=>by
  have es:(Tr.node l r).size=l.size+r.size+1:=rfl;have lp:=l.size_pos;have rp:=r.size_pos;by_cases c1:j < l.size
  ·have e1:en (.node l r) o j=en l o j:=by rw [en,if_pos c1]
   have e2:∀k,k < l.size->be (.node l r) o k=be l o k:=λk hk=>by rw [be,if_pos hk]
   rw [e1];rcases QM l o j c1 with⟨x,q1,q2⟩ | ⟨a,b,q1,q2,q3,q4⟩
   ·exact .inl ⟨x,q1,by rw [e2 j c1];exact q2⟩
   ·exact .inr ⟨a,b,q1,q2,q3,by rw [e2 j c1,e2 a ∅,e2 b ∅];exact q4⟩
  ·by_cases c2:j < l.size+r.size
   ·have e1:en (.node l r) o j=en r (o+l.size) (j-l.size):=by rw [en,if_neg c1,if_pos c2]
    have e2:∀k,k < r.size->be (.node l r) o (l.size+k)=be r (o+l.size) k:=λk hk=>by
     rw [be,if_neg ∅,if_pos ∅];congr 1;omega
    have ej:j=l.size+(j-l.size):=by omega
    rw [e1];rcases QM r (o+l.size) (j-l.size) ∅ with⟨x,q1,q2⟩ | ⟨a,b,q1,q2,q3,q4⟩
    ·refine .inl ⟨x,q1,?_⟩;rw [ej,e2 _ ∅,q2];congr 1;omega
    ·refine .inr ⟨l.size+a,l.size+b,?_,by omega,by omega,?_⟩
     ·rw [q1,A5,A5]
     ·rw [e2 a ∅,e2 b ∅,ej,e2 _ ∅,q4]
   ·have ej:j=l.size+r.size:=by omega
    refine .inr ⟨l.size-1,l.size+r.size-1,?_,by omega,by omega,?_⟩
    ·rw [en,if_neg c1,if_neg c2];congr 1 <;> omega
    ·rw [be,if_neg c1,if_neg c2,be,if_pos ∅,be,if_neg ∅,if_pos ∅];congr 2;omega
theorem jO:∀(t:Tr) (o j:Nat) (p:V) (ab:List Nat),j < t.size->(j=t.size-1/\jd t o j p=p/\up t o j ab=(o+j)::ab)\/∃a,j < a/\a < t.size/\jd t o j p=.int (o+a:Nat)/\up t o j ab=(o+j)::up t o a ab
 | .leaf x,o,j,p,ab,h=>by
  have:j=0:=by have:j < 1:=h;omega
  subst this;exact .inl ⟨rfl,rfl,rfl⟩
 | .node l r,o,j,p,ab,h=>by
  have es:(Tr.node l r).size=l.size+r.size+1:=rfl;have lp:=l.size_pos;have rp:=r.size_pos;have er:up (.node l r) o (l.size+r.size) ab=(o+l.size+r.size)::ab:=by rw [up,if_neg ∅,if_neg ∅]
  by_cases c1:j < l.size
  ·have e1:jd (.node l r) o j p=jd l o j (.int (o+l.size+r.size:Nat)):=by rw [jd,if_pos c1]
   have e2:∀k,k < l.size->up (.node l r) o k ab=up l o k ((o+l.size+r.size)::ab):=λk hk=>by rw [up,if_pos hk]
   rw [e1,e2 j c1];rcases jO l o j (.int (o+l.size+r.size:Nat)) ((o+l.size+r.size)::ab) c1 with⟨q1,q2,q3⟩ | ⟨a,q1,q2,q3,q4⟩
   ·refine .inr ⟨l.size+r.size,by omega,by omega,by rw [q2,A5],by rw [q3,er]⟩
   ·exact .inr ⟨a,q1,by omega,q3,by rw [q4,e2 a q2]⟩
  ·by_cases c2:j < l.size+r.size
   ·have e1:jd (.node l r) o j p=jd r (o+l.size) (j-l.size) (.int (o+l.size+r.size:Nat)):=by rw [jd,if_neg c1,if_pos c2]
    have e2:∀k,k < r.size->up (.node l r) o (l.size+k) ab=up r (o+l.size) k ((o+l.size+r.size)::ab):=λk hk=>by
     rw [up,if_neg ∅,if_pos ∅];congr 1;omega
    obtain⟨i,rfl⟩:∃i,j=l.size+i:=⟨j-l.size,by omega⟩;have ei:l.size+i-l.size=i:=by omega
    rw [e1,e2 i ∅,ei];rcases jO r (o+l.size) i (.int (o+l.size+r.size:Nat)) ((o+l.size+r.size)::ab) ∅ with⟨q1,q2,q3⟩ | ⟨a,q1,q2,q3,q4⟩
    ·refine .inr ⟨l.size+r.size,by omega,by omega,by rw [q2,A5],by rw [q3,er,A5]⟩
    ·exact .inr ⟨l.size+a,by omega,by omega,by rw [q3,A5],by rw [q4,e2 a q2,A5]⟩
   ·have ej:j=l.size+r.size:=by omega
    refine .inl ⟨by omega,by rw [jd,if_neg c1,if_neg c2],?_⟩;rw [ej,er,A5]
def mO:Tr->Nat->V->List V
 | .leaf _,_,p=>[p]
 | .node l r,o,p=>mO l o (.int (o+l.size+r.size:Nat))++mO r (o+l.size) (.int (o+l.size+r.size:Nat))++[p]
theorem ko:∀(t:Tr) (o:Nat) (p:V),(mO t o p).length=t.size
 | .leaf _,_,_=>rfl
 | .node l r,o,p=>by
  unfold mO;rw [Af,Af,ko l,ko r];rfl
theorem Ld (t:Tr) (o:Nat) (p q:V) (A B:List V):(A++mO t o p++B).set (A.length+t.size-1) q=A++mO t o q++B:=by
 have key:∃I,mO t o p=I++[p]/\mO t o q=I++[q]:=by
  cases t with
  | leaf _=>exact⟨[],rfl,rfl⟩
  | node l r=>exact⟨_,rfl,rfl⟩
 obtain⟨I,e1,e2⟩:=key;have h1:=ko t o p;rw [e1,Af] at h1;have iA:I.length+1=t.size:=h1;rw [e1,e2];have ei:A.length+t.size-1=(A++I).length:=by rw [Af];omega
 rw [ei,show A++(I++[p])++B=(A++I)++p::B by simp,Fc _ _ (Ao _),Cu];simp
theorem QX:∀(es fs:List Ent) (i:Nat) (l:List V),ah (es++fs) i l=ah fs (i+es.length) (ah es i l)
 | [],fs,i,l=>rfl
 | e::es,fs,i,l=>by
  show ah (es++fs) (i+1) (QY l i e)=ah fs (i+(es.length+1)) (ah es (i+1) (QY l i e));rw [QX es fs];congr 1;omega
theorem Jr:∀(t:Tr) (A B:List V),ah (t.nd A.length) A.length (A++Am t.size .aV++B)=A++mO t A.length .aV++B
 | .leaf x,A,B=>rfl
 | .node l r,A,B=>by
  have es:(Tr.node l r).size=l.size+r.size+1:=rfl;have hn:(Tr.node l r).nd A.length=l.nd A.length++r.nd (A.length+l.size)++[.pair (A.length+l.size-1) (A.length+l.size+r.size-1)]:=rfl;have ln:=l.bx A.length;have rn:=r.bx (A.length+l.size);have h1:=Jr l A (Am r.size .aV++([V.aV]++B));have e0:A++Am (Tr.node l r).size V.aV++B=A++Am l.size .aV++(Am r.size .aV++([V.aV]++B)):=by
   rw [es,<- Dm,<- Dm];simp only [Be];rfl
  rw [hn,yL,QX,e0,h1,ln];have la:(A++mO l A.length V.aV).length=A.length+l.size:=by rw [Af,ko]
  have h2:=Jr r (A++mO l A.length V.aV) ([V.aV]++B);rw [la] at h2;have e1:A++mO l A.length V.aV++(Am r.size V.aV++([V.aV]++B))=A++mO l A.length V.aV++Am r.size V.aV++([V.aV]++B):=by simp [Be]
  rw [e1,h2,Af,ln,rn];show ((_:List V).set (A.length+l.size-1) _).set (A.length+l.size+r.size-1) _=_;have s1:=Ld l A.length .aV (.int (A.length+(l.size+r.size):Nat)) A (mO r (A.length+l.size) V.aV++([V.aV]++B));have e2:A++mO l A.length V.aV++mO r (A.length+l.size) V.aV++([V.aV]++B)=A++mO l A.length V.aV++(mO r (A.length+l.size) V.aV++([V.aV]++B)):=by simp [Be]
  rw [e2,s1];have lb:(A++mO l A.length (V.int (A.length+(l.size+r.size):Nat))).length=A.length+l.size:=by rw [Af,ko]
  have s2:=Ld r (A.length+l.size) .aV (.int (A.length+(l.size+r.size):Nat)) (A++mO l A.length (V.int (A.length+(l.size+r.size):Nat))) ([V.aV]++B);rw [lb] at s2;have e3:A++mO l A.length (V.int (A.length+(l.size+r.size):Nat))++(mO r (A.length+l.size) V.aV++([V.aV]++B))=A++mO l A.length (V.int (A.length+(l.size+r.size):Nat))++mO r (A.length+l.size) V.aV++([V.aV]++B):=by simp [Be]
  rw [e3,s2];have e4:mO (.node l r) A.length .aV=mO l A.length (.int (A.length+l.size+r.size:Nat))++mO r (A.length+l.size) (.int (A.length+l.size+r.size:Nat))++[.aV]:=rfl;rw [e4,A5 A.length l.size r.size];simp [Be]
theorem yJ:∀(t:Tr) (o j:Nat) (p:V),j < t.size->(mO t o p)[j]?=ap (jd t o j p)
 | .leaf x,o,j,p,h=>by
  have:j=0:=by have:j < 1:=h;omega
  subst this;rfl
 | .node l r,o,j,p,h=>by
  have es:(Tr.node l r).size=l.size+r.size+1:=rfl;have ln:=ko l o (.int (o+l.size+r.size:Nat));have rn:=ko r (o+l.size) (.int (o+l.size+r.size:Nat));unfold mO jd;by_cases c1:j < l.size
  ·rw [if_pos c1,Be,AE ∅];exact yJ l _ _ _ c1
  ·rw [if_neg c1];by_cases c2:j < l.size+r.size
   ·rw [if_pos c2,Be,AI ∅,AE ∅,ln];exact yJ r _ _ _ ∅
   ·rw [if_neg c2,AI (by rw [Af];omega),Af,ln,rn];have:j-(l.size+r.size)=0:=by omega
    rw [this];rfl
def YH (t:Tr) (h:j < t.size):(ah (t.nd 0) 0 (Am t.size .aV))[j]?=ap (jd t 0 j .aV):=by
 have q:=Jr t [] [];have e:([]:List V)++Am t.size .aV++[]=Am t.size .aV:=by simp
 have e2:([]:List V)++mO t ([]:List V).length .aV++[]=mO t 0 .aV:=by simp
 rw [e,e2] at q;have q':ah (t.nd 0) 0 (Am t.size .aV)=mO t 0 .aV:=q;rw [q'];exact yJ t 0 j .aV h
end My
variable {H1:L2.Hp}{ι:List BV}
namespace PL
section
open PySem PySem.Spec PyProof.Rows L2
variable {K:Ab}
def VQ (K:Ab) (H:Hp) (a:ci) (xs:List V):Prop:=(∃o,H a=ap (.cT o (.lst xs)))\/
  ∃(o:Obj) (au:Array bv) (n:Nat),K.lookup a=ap o/\o.cls=.type "list"/\o.dict=bm/\o.data=.seq au n/\au.size<=sizeLine/\Vals xs au.toList
def VQ.sq {a:ci} (h:VQ K H a xs):dc K H a xs:=h.elim (λh=>.inl (.inr h)) .inr
structure bB (K:Ab) (H H':Hp):Prop where
 t:∀p vs,H p=ap (.tup vs)->H' p=ap (.tup vs)
 z:∀p o u,H p=ap (.cT o u)->H' p=ap (.cT o u)
def bB.f {H H':Hp} (t:bB K H H') (p:ci) (vs:List V) (h:VQ K H p vs):VQ K H' p vs:=h.elim (λ⟨o,h⟩=>.inl ⟨o,t.z _ _ _ h⟩) .inr
def bB.refl (H:Hp):bB K H H:=⟨λ_ _ h=>h,λ_ _ _ h=>h⟩
def bB.trans (a:bB K H H1) (b:bB K H1 H2):bB K H H2:=⟨λp vs h=>b.t p vs (a.t p vs h),λp o w h=>b.z p o w (a.z p o w h)⟩
def _root_.L2.kz.fi (s:kz H H'):bB K H H':=⟨λp vs h=>s _ _ h,λp o u h=>s _ _ h⟩
inductive PV where
 | aV | bl (b:Bool) | int (i:Int) | str (x:Str) | tup (l:List PV) | ref (n:Nat) | ty (n:String) | cl (l:List PV) | dv (ks vs:List PV)
def kP:Key->PV
 | .inl i=>.int i
 | .inr x=>.str x
inductive PO where
 | lst (xs:List PV) | dk (kvs:List (Key×PV)) | dt (kvs:List (List Key×PV)) | opq (φ:List V->Prop)
abbrev PH:=List PO
abbrev y8:=List (Option PV)
mutual
inductive VR (K:Ab) (ι:List ci) (H:Hp):V->PV->Prop
 | aV:VR K ι H .aV .aV
 | bl (b:Bool):VR K ι H (.bl b) (.bl b)
 | int (i:Int):VR K ι H (.int i) (.int i)
 | str (x:Str):VR K ι H (.str x) (.str x)
 | ty (n:String):VR K ι H (.ty n) (.ty n)
 | tup {p:ci}{vs:List V}{l:List PV} (h:H p=ap (.tup vs)) (r:aO K ι H vs l):VR K ι H (.ref p) (.tup l)
 | ref {n:Nat}{a:ci} (h:ι[n]?=ap a):VR K ι H (.ref a) (.ref n)
 | cl {a:ci}{vs:List V}{l:List PV} (h:VQ K H a vs) (r:aO K ι H vs l):VR K ι H (.ref a) (.cl l)
 | dk {a:ci}{o:Obj}{kvs:List (Key×V)}{ks l:List PV} (h:H a=ap (.cT o (.dK kvs))) (e:ks=kvs.map λkv=>kP kv.1) (r:aO K ι H (kvs.map (·.2)) l):VR K ι H (.ref a) (.dv ks l)
 | dt {a:ci}{o:Obj}{kvs:List (List Key×V)}{ks l:List PV} (h:H a=ap (.cT o (.dT kvs))) (e:ks=kvs.map λkv=>.tup (kv.1.map kP)) (r:aO K ι H (kvs.map (·.2)) l):VR K ι H (.ref a) (.dv ks l)
inductive aO (K:Ab) (ι:List ci) (H:Hp):List V->List PV->Prop
 | nil:aO K ι H [] []
 | cons {v:V}{p:PV}{vs:List V}{ps:List PV} (r:VR K ι H v p) (t:aO K ι H vs ps):aO K ι H (v::vs) (p::ps)
end
section
variable {ι':List ci}
mutual
theorem VR.mono (ht:bB K H H') (hi:∀(n:Nat) (a:ci),ι[n]?=ap a->ι'[n]?=ap a):∀{v:V}{p:PV},VR K ι H v p->VR K ι' H' v p
 | _,_,.aV=>.aV
 | _,_,.bl b=>.bl b
 | _,_,.int i=>.int i
 | _,_,.str x=>.str x
 | _,_,.ty n=>.ty n
 | _,_,.tup h r=>.tup (ht.t _ _ h) (aO.mono ht hi r)
 | _,_,.cl h r=>.cl (ht.f _ _ h) (aO.mono ht hi r)
 | _,_,.dk h e r=>.dk (ht.z _ _ _ h) e (aO.mono ht hi r)
 | _,_,.dt h e r=>.dt (ht.z _ _ _ h) e (aO.mono ht hi r)
 | _,_,.ref h=>.ref (hi _ _ h)
theorem aO.mono (ht:bB K H H') (hi:∀(n:Nat) (a:ci),ι[n]?=ap a->ι'[n]?=ap a):∀{vs:List V}{ps:List PV},aO K ι H vs ps->aO K ι' H' vs ps
 | _,_,.nil=>.nil
 | _,_,.cons r t=>.cons (VR.mono ht hi r) (aO.mono ht hi t)
end
theorem aO.length:∀{vs:List V}{ps:List PV},aO K ι H vs ps->vs.length=ps.length
 | _,_,.nil=>rfl
 | _,_,.cons _ t=>by rw [Ap,Ap,aO.length t]
theorem aO.get:∀{vs:List V}{ps:List PV}{i:Nat}{p:PV},aO K ι H vs ps->ps[i]?=ap p->∃v,vs[i]?=ap v/\VR K ι H v p
 | _,_,_,_,.nil,e=>by simp at e
 | _,_,0,_,.cons r _,e=>by simp at e;subst e;exact⟨_,rfl,r⟩
 | _,_,i+1,p,.cons _ t,e=>by
  obtain⟨v,h1,h2⟩:=aO.get (i:=i) (p:=p) t (by simpa using e);exact⟨v,by simpa using h1,h2⟩
theorem aO.abE:∀{vs:List V}{ps:List PV}{i:Nat}{v:V},aO K ι H vs ps->vs[i]?=ap v->∃p,ps[i]?=ap p/\VR K ι H v p
 | _,_,_,_,.nil,e=>by simp at e
 | _,_,0,_,.cons r _,e=>by simp at e;subst e;exact⟨_,rfl,r⟩
 | _,_,i+1,p,.cons _ t,e=>by
  obtain⟨v,h1,h2⟩:=aO.abE (i:=i) (v:=p) t (by simpa using e);exact⟨v,by simpa using h1,h2⟩
theorem aO.set {p:PV} (r:VR K ι H v p):∀{vs:List V}{ps:List PV} (i:Nat),aO K ι H vs ps->aO K ι H (vs.set i v) (ps.set i p)
 | _,_,_,.nil=>.nil
 | _,_,0,.cons _ t=>.cons r t
 | _,_,i+1,.cons q t=>.cons q (aO.set r i t)
theorem aO.append:∀{xs ys:List V}{us ws:List PV},aO K ι H xs us->aO K ι H ys ws->aO K ι H (xs++ys) (us++ws)
 | _,_,_,_,.nil,s=>s
 | _,_,_,_,.cons r t,s=>.cons r (aO.append t s)
theorem aO.take:∀{xs:List V}{us:List PV} (n:Nat),aO K ι H xs us->aO K ι H (xs.take n) (us.take n)
 | _,_,0,_=>.nil
 | _,_,_+1,.nil=>.nil
 | _,_,n+1,.cons r t=>.cons r (aO.take n t)
theorem aO.drop:∀{xs:List V}{us:List PV} (n:Nat),aO K ι H xs us->aO K ι H (xs.drop n) (us.drop n)
 | _,_,0,r=>r
 | _,_,_+1,.nil=>.nil
 | _,_,n+1,.cons _ t=>aO.drop n t
theorem aO.reverse:∀{xs:List V}{us:List PV},aO K ι H xs us->aO K ι H xs.reverse us.reverse
 | _,_,.nil=>.nil
 | _,_,.cons r t=>by rw [Dj,Dj];exact (aO.reverse t).append (.cons r .nil)
def aO.one {p:PV} (r:VR K ι H v p):aO K ι H [v] [p]:=.cons r .nil
end
structure Go (ι ι':List ci) (H H':Hp):Prop where
 ext:∃m,ι'=ι++m
 new:∀a,a∈ι'->a∉ι->H a=bm
 keep:∀a o,a∉ι->H a=ap o->H' a=ap o
def Go.refl (ι:List ci) (H:Hp):Go ι ι H H:=⟨⟨[],by simp⟩,λa h n=>absurd h n,λ_ _ _ h=>h⟩
def OR (K:Ab) (ι:List ci) (H:Hp) (a:ci):PO->Prop
 | .lst xs=>∃vs,H a=ap (.lst vs)/\aO K ι H vs xs
 | .dk kvs=>∃vs:List (Key×V),H a=ap (.dK vs)/\vs.map (·.1)=kvs.map (·.1)/\aO K ι H (vs.map (·.2)) (kvs.map (·.2))
 | .dt kvs=>∃vs:List (List Key×V),H a=ap (.dT vs)/\vs.map (·.1)=kvs.map (·.1)/\aO K ι H (vs.map (·.2)) (kvs.map (·.2))
 | .opq φ=>∃vs,H a=ap (.lst vs)/\φ vs
structure HR (K:Ab) (ι:List ci) (H:Hp) (h:PH):Prop where
 nd:ι.Nodup
 len:ι.length=h.length
 obj:∀(n:Nat) (a:ci) (o:PO),ι[n]?=ap a->h[n]?=ap o->OR K ι H a o
theorem iZ {l:List α}{x y:α} (h:(l++[x])[n]?=ap y):l[n]?=ap y\/(n=l.length/\y=x):=by
 by_cases hn:n < l.length
 ·rw [AE hn] at h;exact .inl h
 ·rw [AI ∅] at h;obtain⟨k,hk⟩:∃k,k=n-l.length:=⟨_,rfl⟩;rw [<- hk] at h;cases k with
  | zero=>simp at h;exact .inr ⟨by omega,h.symm⟩
  | succ k=>simp at h
end
end PL
variable {e:BU}
namespace PL
section
open PySem PySem.Spec PyProof.Rows L2
variable {K:Ab}
abbrev QV:=PV->PH->Prop
structure ME where
 run:y8->PH->QV->Prop
 mono:∀{ps h}{Q Q':QV},(∀v h',Q v h'->Q' v h')->run ps h Q->run ps h Q'
structure MT where
 run:y8->PH->(Bool->PH->Prop)->Prop
 mono:∀{ps h}{Q Q':Bool->PH->Prop},(∀v h',Q v h'->Q' v h')->run ps h Q->run ps h Q'
structure MA where
 run:y8->PH->(List PV->PH->Prop)->Prop
 mono:∀{ps h}{Q Q':List PV->PH->Prop},(∀v h',Q v h'->Q' v h')->run ps h Q->run ps h Q'
structure ML where
 run:y8->PH->(List PV->PH->Prop)->Prop
 mono:∀{ps h}{Q Q':List PV->PH->Prop},(∀v h',Q v h'->Q' v h')->run ps h Q->run ps h Q'
structure Src where
 items:List PV
 ok:PH->Prop
 fz:Bool
structure MI where
 run:y8->PH->(Src->PH->Prop)->Prop
 mono:∀{ps h}{Q Q':Src->PH->Prop},(∀v h',Q v h'->Q' v h')->run ps h Q->run ps h Q'
structure PD where
 nx:y8->PH->Prop
 rt:QV
 bk:y8->PH->Prop
 ct:y8->PH->Prop
structure PD.Le (D D':PD):Prop where
 nx:∀ps h,D.nx ps h->D'.nx ps h
 rt:∀v h,D.rt v h->D'.rt v h
 bk:∀ps h,D.bk ps h->D'.bk ps h
 ct:∀ps h,D.ct ps h->D'.ct ps h
structure MS where
 run:PD->y8->PH->Prop
 mono:∀{D D' ps h},PD.Le D D'->run D ps h->run D' ps h
structure MG where
 run:PV->y8->PH->(y8->PH->Prop)->Prop
 mono:∀{v ps h}{Q Q':y8->PH->Prop},(∀ps h,Q ps h->Q' ps h)->run v ps h Q->run v ps h Q'
def pQ (K:Ab) (ι:List ci) (H:Hp) (Q:VK):QV:=λp h'=>∀ι' v H',Go ι ι' H H'->HR K ι' H' h'->VR K ι' H' v p->Q v H'
def PE.imp {t t':TE} (h:PE X e t) (f:∀σ H Q,t' σ H Q->t σ H Q):PE X e t':=λZ s σ H Q I q=>h Z s σ H Q I (f _ _ _ q)
def PT.imp {t t':TT} (h:PT X e t) (f:∀σ H Q,t' σ H Q->t σ H Q):PT X e t':=λZ s σ H Q I q=>h Z s σ H Q I (f _ _ _ q)
def PW.imp {t t':TT} (h:PW X e t) (f:∀σ H Q,t' σ H Q->t σ H Q):PW X e t':=λw Z s σ H Q I q=>h w Z s σ H Q I (f _ _ _ q)
def PA.imp {e:List ga}{t t':TA} (h:PA X e t) (f:∀σ H Q,t' σ H Q->t σ H Q):PA X e t':=λpos Z s σ H Q I q=>h pos Z s σ H Q I (f _ _ _ q)
def PS.imp {e:tt}{t t':TS} (h:PS X e t) (f:∀D σ H,t' D σ H->t D σ H):PS X e t':=λZ s σ H D I q=>h Z s σ H D I (f _ _ _ q)
def rN.imp {e:List tt}{t t':TS} (h:rN X e t) (f:∀D σ H,t' D σ H->t D σ H):rN X e t':=λZ s σ H D I q=>h Z s σ H D I (f _ _ _ q)
def PG.imp {t t':TG} (h:PG X e t) (f:∀v σ H Q,t' v σ H Q->t v σ H Q):PG X e t':=λZ s σ H v u Q I r q=>h Z s σ H v u Q I r (f _ _ _ _ q)
def PI.imp {t t':TI} (h:PI X tg e t) (f:∀σ H Q,t' σ H Q->t σ H Q):PI X tg e t':=λZ s σ H R I q=>h Z s σ H R I (f _ _ _ q)
section
abbrev P2:=PV->PV->PH->QV->Prop
structure M2 where
 f:P2
 mono:∀{x y h}{Q Q':QV},(∀v h',Q v h'->Q' v h')->f x y h Q->f x y h Q'
def M2.Ok (K:Ab) (r:R2) (m:M2):Prop:=∀{ι H h u v x y Q},HR K ι H h->VR K ι H u x->VR K ι H v y->m.f x y h (pQ K ι H Q)->r u v H Q
end
end
section
open PySem PySem.Spec PyProof.Rows L2
variable {K:Ab}
section
def lF:∀{vs:List V}{l:List PV},aO K ι H vs l->(!l.isEmpty)=!vs.isEmpty
 | _,_,.nil=>rfl
 | _,_,.cons _ _=>rfl
structure MQ where
 run:y8->PH->(Src->PH->Prop)->Prop
 mono:∀{ps h}{Q Q':Src->PH->Prop},(∀v h',Q v h'->Q' v h')->run ps h Q->run ps h Q'
end
end
open PySem PySem.Spec PyProof.Rows L2
section
structure MGs where
 run:List PV->y8->PH->(y8->PH->Prop)->Prop
 mono:∀{v ps h}{Q Q':y8->PH->Prop},(∀ps h,Q ps h->Q' ps h)->run v ps h Q->run v ps h Q'
end
section
variable {K:Ab}
section
structure za where
 f:List PV->PH->QV->Prop
 mono:∀{l h}{Q Q':QV},(∀v h',Q v h'->Q' v h')->f l h Q->f l h Q'
def za.Ok (K:Ab) (r:List V->Hp->VK->Prop) (m:za):Prop:=∀{ι H h vs l Q},HR K ι H h->aO K ι H vs l->m.f l h (pQ K ι H Q)->r vs H Q
end
end
end PL
variable {g':Int->Int->L2.V}{g:Int->Int->PL.PV}
namespace PL
section
open PySem PySem.Spec PyProof.Rows L2
variable {K:Ab}
def aI (g:Int->Int->PV):M2:=⟨λx y h Q=>match x,y with | .int i,.int j=>Q (g i j) h | _,_=>False,λf q=>by
 revert q
 split
 ·exact f _ _
 ·exact λz=>z⟩
def YJ (C:Int->Int->Prop) (g:Int->Int->PV):M2:=⟨λx y h Q=>match x,y with | .int i,.int j=>C i j/\Q (g i j) h | _,_=>False,λf q=>by
 revert q
 split
 ·exact λq=>⟨q.1,f _ _ q.2⟩
 ·exact λz=>z⟩
def GZ (hg:∀ι H i j,VR K ι H (g' i j) (g i j)):M2.Ok K (R7 g') (aI g):=by
 intro ι H h u v x y Q hr hu hv q;unfold aI at q;dsimp only at q;revert q
 split
 ·intro q;cases hu;cases hv;exact⟨_,_,rfl,rfl,q ι _ H (Go.refl _ _) hr (hg _ _ _ _)⟩
 ·exact Bs
def yM {C:Int->Int->Prop} (hg:∀ι H i j,VR K ι H (g' i j) (g i j)):M2.Ok K (rI C g') (YJ C g):=by
 intro ι H h u v x y Q hr hu hv q;unfold YJ at q;dsimp only at q;revert q
 split
 ·intro q;cases hu;cases hv;exact⟨_,_,rfl,rfl,q.1,q.2 ι _ H (Go.refl _ _) hr (hg _ _ _ _)⟩
 ·exact Bs
def pw:=aI λi j=>.int (i-j)
def pz:=YJ wv λi j=>.int (i*j)
def oDiv:=YJ UQ λi j=>.int (i / j)
def oMod:=YJ (λ_ j=>0 < j) λi j=>.int (i % j)
def zV:=YJ Q7 λi j=>.int (i ^ j.toNat)
def oLt:=aI λi j=>.bl (decide (i < j))
def oLe:=aI λi j=>.bl (decide (i<=j))
def oGt:=aI λi j=>.bl (decide (j < i))
def oGe:=aI λi j=>.bl (decide (j<=i))
section
def aO.jX:∀{vs:List V}{l:List PV},aO K ι H vs l->(vs=[]↔l=[])
 | _,_,.nil=>by simp
 | _,_,.cons _ _=>by simp
end
mutual
def PV.dat:PV->Bool
 | .tup l=>vg l
 | .ref _=>false
 | .ty _=>false
 | .cl _=>false
 | .dv _ _=>false
 | _=>true
def vg:List PV->Bool
 | []=>true
 | x::l=>x.dat&&vg l
end
end
section
open PySem PySem.Spec PyProof.Rows L2
variable {K:Ab}
section
def PV.mH:PV->Bool
 | .aV=>true
 | _=>false
def HH:M2:=⟨λx y h Q=>match y with | .aV=>Q (.bl x.mH) h | _=>False,λf q=>by
 revert q
 split
 ·exact f _ _
 ·exact λz=>z⟩
def L9 {x:PV} (h:VR K ι H v x):decide (v=.aV)=x.mH:=by cases h <;> simp [PV.mH]
def SO:M2.Ok K (λx y H Q=>y=.aV/\Q (.bl (decide (x=.aV))) H) HH:=by
 intro ι H h u v x y Q hr hu hv q;cases hv with
 | aV=>exact⟨rfl,q ι _ H (Go.refl _ _) hr (by rw [L9 hu];exact .bl _)⟩
 | _=>exact q.elim
def aey:M2:=⟨λx y h Q=>match x,y with | .bl i,.bl j=>Q (.bl (i==j)) h | _,_=>False,λf q=>by
 revert q
 split
 ·exact f _ _
 ·exact λz=>z⟩
def nT:M2:=⟨λx y h Q=>match x,y with | .bl i,.bl j=>Q (.bl (!(i==j))) h | _,_=>False,λf q=>by
 revert q
 split
 ·exact f _ _
 ·exact λz=>z⟩
def HG:M2.Ok K (λx y H Q=>∃i j,x=.bl i/\y=.bl j/\Q (.bl (!(i==j))) H) nT:=by
 intro ι H h u v x y Q hr hu hv q;cases hu <;> first
  | exact q.elim
  | (cases hv <;> first | exact q.elim | exact⟨_,_,rfl,rfl,q ι _ H (Go.refl _ _) hr (.bl _)⟩)
end
end
end PL
variable {l:List PL.PV}
namespace PL
section
open PySem PySem.Spec PyProof.Rows L2
variable {K:Ab}
section
def Oc {v':V}{w:bv} (h:RelV v w) (h':RelV v' w):v=v':=Option.some.inj (h.abs.symm.trans h'.abs)
end
section
variable {c:ga}
def mIx (a:MQ) (b:ME):ME:=⟨λps h Q=>a.run ps h λS h1=>b.run ps h1 λy h2=>match y with
 | .int k=>S.ok h2/\match cq S.items k with | some v=>Q v h2 | none=>False
 | _=>False,λf q=>a.mono (λ_ _ q=>b.mono (λ_ _ q=>by
  revert q
  split
  ·rintro⟨q0,q⟩;refine⟨q0,?_⟩;revert q
   split
   ·exact f _ _
   ·exact λz=>z
  ·exact λz=>z) q) q⟩
def aO.cq (r:aO K ι H vs l) {k:Int}{p:PV} (e:L2.cq l k=ap p):∃v,L2.cq vs k=ap v/\VR K ι H v p:=by
 unfold L2.cq at e ⊢;rw [r.length];cases z:oh l.length k with
 | none=>rw [z] at e;cases e
 | some j=>
  rw [z] at e;exact r.get e
def OV:M2:=⟨λx y h Q=>match x,y with
 | .str z,.int k=>z.length<=sizeLine/\match L2.cq z.cps.toList k with | some c=>Q (.str ⟨#[c]⟩) h | none=>False
 | _,_=>False,λf q=>by
  revert q
  split
  ·rintro⟨q0,q⟩;refine⟨q0,?_⟩;revert q
   split
   ·exact f _ _
   ·exact λz=>z
  ·exact λz=>z⟩
def SN:M2.Ok K WC OV:=by
 intro ι H h u v x y Q hr hu hv q;unfold OV at q;dsimp only at q;revert q
 split
 ·rename_i z k;rintro⟨q0,q⟩;cases hu;cases hv;cases e:L2.cq z.cps.toList k with
  | none=>rw [e] at q;exact q.elim
  | some c=>rw [e] at q;exact⟨z,k,c,rfl,rfl,q0,e,q ι _ H (Go.refl _ _) hr (.str _)⟩
 ·exact Bs
def cY:za:=⟨λl h Q=>match l with
 | [.str y]=>y.length<=sizeLine/\Q (.int y.length) h
 | [.tup l]=>Q (.int l.length) h
 | [.cl l]=>Q (.int l.length) h
 | [.ref n]=>match h[n]? with
  | some (.lst xs)=>Q (.int xs.length) h
  | _=>False
 | _=>False,λf q=>by
  revert q
  split
  ·exact λq=>⟨q.1,f _ _ q.2⟩
  ·exact f _ _
  ·exact f _ _
  ·split
   ·exact f _ _
   ·exact λz=>z
  ·exact λz=>z⟩
def Ux (K:Ab):za.Ok K (WB K) cY:=by
 intro ι H h vs l Q hr hv q;unfold cY at q;dsimp only at q;revert q
 split
 ·intro q;cases hv with
  | cons x t=>cases t;cases x;exact⟨_,_,rfl,⟨q.1,rfl⟩,q.2 ι _ H (Go.refl _ _) hr (.int _)⟩
 ·intro q;cases hv with
  | cons x t=>
   cases t;cases x with
   | tup e r=>exact⟨_,_,rfl,.inr ⟨_,d9.of e,r.length.symm⟩,q ι _ H (Go.refl _ _) hr (.int _)⟩
 ·intro q;cases hv with
  | cons x t=>
   cases t;cases x with
   | cl e r=>exact⟨_,_,rfl,.inl ⟨_,e.sq,r.length.symm⟩,q ι _ H (Go.refl _ _) hr (.int _)⟩
 ·rename_i n;cases hv with
  | cons x t=>
   cases t;cases x with
   | @ref _ a e=>
   split
   ·rename_i xs hn;intro q;obtain⟨ws,e1,e2⟩:=hr.obj n a _ e hn;exact⟨_,_,rfl,.inl ⟨ws,dc.of e1,e2.length.symm⟩,q ι _ H (Go.refl _ _) hr (.int _)⟩
   ·exact Bs
 ·exact Bs
inductive Kd where
 | str | tup | int | bool
def Kd.name:Kd->String
 | .str=>"str" | .tup=>"tuple" | .int=>"int" | .bool=>"bool"
def Kd.is:Kd->PV->Bool
 | .str,.str _=>true
 | .tup,.tup _=>true
 | .int,.int _=>true
 | .int,.bl _=>true
 | .bool,.bl _=>true
 | _,_=>false
def aak (K:Ab):List V->Hp->VK->Prop:=λxs H Q=>∃x c t b,xs=[x,.ty c]/\(mE K H x t\/(t=.type "tuple"/\∃a vs,x=.ref a/\d9 K H a vs))/\BE K t (.type c)=ap b/\Q (.bl b) H
def M4 (K:Ab) (hK:X.K=K):bW X (.builtin "isinstance") (aak K):=by
 subst hK;intro Z s σ H xs us Q I r h;obtain⟨x,c,t,b,rfl,ty | ⟨rfl,a,vs,rfl,hT⟩,e,q⟩:=h
 ·exact qp Z s σ H _ us Q I r ⟨x,c,t,b,rfl,ty,e,q⟩
 ·obtain⟨u,w,rfl,r1,r2⟩:=vals2 r;cases r1;cases r2;obtain⟨au,_,⟨o,h1,h2,_⟩,_⟩:=I.tuple hT;exact Bk Fy I.uW ⟨o,h1,h2⟩ e (λz=>nomatch z) λtk=>⟨.bl b,H,I.tok _,rfl,q⟩
def rC (K:Ab):(∀k:Kd,BE K (.type "NoneType") (.type k.name)=ap false)/\(∀k:Kd,BE K (.type "list") (.type k.name)=ap false)/\(∀k:Kd,BE K (.type "dict") (.type k.name)=ap false):=
 ⟨λk=>by cases k <;> kernel_rfl,λk=>by cases k <;> kernel_rfl,λk=>by cases k <;> kernel_rfl⟩
def XF (K:Ab) (b:Bool) (k:Kd):BE K (.type "bool") (.type k.name)=ap (k.is (.bl b)):=by cases k <;> kernel_rfl
def Tf (K:Ab) (b:Int) (k:Kd):BE K (.type "int") (.type k.name)=ap (k.is (.int b)):=by cases k <;> kernel_rfl
def Te (K:Ab) (b:Str) (k:Kd):BE K (.type "str") (.type k.name)=ap (k.is (.str b)):=by cases k <;> kernel_rfl
def Td (K:Ab) (b:List PV) (k:Kd):BE K (.type "tuple") (.type k.name)=ap (k.is (.tup b)):=by cases k <;> kernel_rfl
def QP:za:=⟨λl h Q=>match l with | [.int i]=>Q (.int (if i < 0 then -i else i)) h | _=>False,λf q=>by
 revert q
 split
 ·exact f _ _
 ·exact λz=>z⟩
def Uz:za.Ok K (λxs H Q=>∃i,xs=[.int i]/\Q (.int (if i < 0 then -i else i)) H) QP:=by
 intro ι H h vs l Q hr hv q;unfold QP at q;dsimp only at q;revert q
 split
 ·intro q;cases hv with
  | cons x t=>cases t;cases x;exact⟨_,rfl,q ι _ H (Go.refl _ _) hr (.int _)⟩
 ·exact Bs
def uA:za:=⟨λl h Q=>match l with | [.int i]=>Q (.int i) h | [.bl k]=>Q (.int (if k then 1 else 0)) h | _=>False,λf q=>by
 revert q
 split
 ·exact f _ _
 ·exact f _ _
 ·exact λz=>z⟩
def Uy:za.Ok K (λxs H Q=>(∃i,xs=[.int i]/\Q (.int i) H)\/∃k,xs=[.bl k]/\Q (.int (if k then 1 else 0)) H) uA:=by
 intro ι H h vs l Q hr hv q;unfold uA at q;dsimp only at q;revert q
 split
 ·intro q;cases hv with
  | cons x t=>cases t;cases x;exact .inl ⟨_,rfl,q ι _ H (Go.refl _ _) hr (.int _)⟩
 ·intro q;cases hv with
  | cons x t=>cases t;cases x;exact .inr ⟨_,rfl,q ι _ H (Go.refl _ _) hr (.int _)⟩
 ·exact Bs
def QO:za:=⟨λl h Q=>match l with | [.int i,.int j]=>Q (.int (if j > i then j else i)) h | _=>False,λf q=>by
 revert q
 split
 ·exact f _ _
 ·exact λz=>z⟩
def QN:za:=⟨λl h Q=>match l with | [.int i,.int j]=>Q (.int (if j < i then j else i)) h | _=>False,λf q=>by
 revert q
 split
 ·exact f _ _
 ·exact λz=>z⟩
def Uw:za.Ok K (λxs H Q=>∃i j,xs=[.int i,.int j]/\Q (.int (if j > i then j else i)) H) QO:=by
 intro ι H h vs l Q hr hv q;unfold QO at q;dsimp only at q;revert q
 split
 ·intro q;cases hv with
  | cons x t=>cases t with
   | cons y t=>cases t;cases x;cases y;exact⟨_,_,rfl,q ι _ H (Go.refl _ _) hr (.int _)⟩
 ·exact Bs
def Uv:za.Ok K (λxs H Q=>∃i j,xs=[.int i,.int j]/\Q (.int (if j < i then j else i)) H) QN:=by
 intro ι H h vs l Q hr hv q;unfold QN at q;dsimp only at q;revert q
 split
 ·intro q;cases hv with
  | cons x t=>cases t with
   | cons y t=>cases t;cases x;cases y;exact⟨_,_,rfl,q ι _ H (Go.refl _ _) hr (.int _)⟩
 ·exact Bs
end
end
section
open PySem PySem.Spec PyProof.Rows L2
variable {K:Ab}
section
def Og (K:Ab):List V->Hp->VK->Prop:=λxs H Q=>∃p ys,xs=[.ref p]/\((dc K H p ys/\lx H (.tup ys) Q)\/(d9 K H p ys/\Q (.ref p) H))
def MY (K:Ab) (hK:X.K=K):bW X (.type "tuple") (Og K):=by
 subst hK;exact vh.mono λxs H Q ⟨p,ys,e,h⟩=>⟨p,ys,e,h.imp (λ⟨h1,h2⟩=>⟨h1,λl hl=>h2.at l hl⟩) λz=>z⟩
theorem pX:∀{bs:List Bool}{vs:List V},aO K ι H vs (bs.map PV.bl)->vs=bs.map V.bl
 | [],_,h=>by cases h;rfl
 | b::bs,_,h=>by
  cases h with
  | cons x t=>cases x;rw [pX t];rfl
structure MQL where
 run:y8->PH->(Src->PH->Prop)->Prop
 mono:∀{ps h}{Q Q':Src->PH->Prop},(∀v h',Q v h'->Q' v h')->run ps h Q->run ps h Q'
structure MO where
 run:y8->PH->(Option Int->PH->Prop)->Prop
 mono:∀{ps h}{Q Q':Option Int->PH->Prop},(∀v h',Q v h'->Q' v h')->run ps h Q->run ps h Q'
def PO.imp {e:Option ga}{t t':TO} (h:L2.PO X e t) (f:∀σ H Q,t' σ H Q->t σ H Q):L2.PO X e t':=λZ s σ H Q I q=>h Z s σ H Q I (f _ _ _ q)
def kK (xs:List PV) (lo hi:Option Int):List PV:=(xs.drop (HT.d6 xs.length 0 lo)).take (HT.d6 xs.length xs.length hi-HT.d6 xs.length 0 lo)
def aO.cut (r:aO K ι H vs l) (lo hi:Option Int):aO K ι H (yC vs lo hi) (kK l lo hi):=by
 unfold yC kK;rw [r.length];exact (r.drop _).take _
end
end
end PL
variable {e1:BU}{t1:L2.TE}{tp:CB}
namespace PL
section
open PySem PySem.Spec PyProof.Rows L2
variable {K:Ab}
section
variable {c:ga}
def kD (lo:Int) (n:Nat):List PV:=(Ax n).map λ(i:Nat)=>.int (lo+(i:Int))
def jD (lo:Int) (n:Nat):(kD lo n).length=n:=by unfold kD;simp
def pL {lo:Int}{p:PV} (h:(kD lo n)[i]?=ap p):i < n/\p=.int (lo+i):=by
 unfold kD at h;rw [Ae] at h;cases z:(Ax n)[i]? with
 | none=>rw [z] at h;cases h
 | some k=>
  rw [z] at h;obtain⟨h1,h2⟩:=Ak.mp z;simp at h1 h2;subst h2;exact⟨h1,(Option.some.inj h).symm⟩
def mL (lo:Int) (n:Nat):List PV:=(Ax n).map λ(i:Nat)=>.int (lo-(i:Int))
def wu (lo:Int) (n:Nat):(mL lo n).length=n:=by unfold mL;simp
def pV {lo:Int}{p:PV} (h:(mL lo n)[i]?=ap p):i < n/\p=.int (lo-i):=by
 unfold mL at h;rw [Ae] at h;cases z:(Ax n)[i]? with
 | none=>rw [z] at h;cases h
 | some k=>
  rw [z] at h;obtain⟨h1,h2⟩:=Ak.mp z;simp at h1 h2;subst h2;exact⟨h1,(Option.some.inj h).symm⟩
def RQ (i:Int):Prop:=-(2 ^ 62)<=i/\i < 2 ^ 62
def acT (m:MA):MI:=⟨λps h Q=>m.run ps h λl h1=>match l with | [.int j]=>RQ j/\Q ⟨kD 0 j.toNat,λ_=>True,false⟩ h1 | _=>False,λf q=>m.mono (λl h1 q=>by
 revert q
 split
 ·exact λq=>⟨q.1,f _ _ q.2⟩
 ·exact λz=>z) q⟩
def dZ (k:Nat):List PV->List PV
 | []=>[]
 | x::l=>.tup [.int (k:Int),x]::dZ (k+1) l
theorem cU:∀(k:Nat) (l:List PV),(dZ k l).length=l.length
 | _,[]=>rfl
 | k,x::l=>by rw [dZ,Ap,Ap,cU]
theorem gP:∀{k:Nat}{l:List PV}{i:Nat}{p:PV},(dZ k l)[i]?=ap p->∃x,l[i]?=ap x/\p=.tup [.int ((k+i:Nat):Int),x]
 | _,[],_,_,h=>by simp [dZ] at h
 | k,x::l,0,p,h=>by simp [dZ] at h;subst h;exact⟨x,rfl,by simp⟩
 | k,x::l,i+1,p,h=>by
  obtain⟨y,h1,h2⟩:=gP (k:=k+1) (l:=l) (i:=i) (p:=p) (by simpa [dZ] using h);exact⟨y,by simpa using h1,by rw [h2,show k+1+i=k+(i+1) by omega]⟩
def XX (K:Ab) (t1:TE):TI:=λσ H R=>t1 σ H λx H1=>∃a,x=.ref a/\(((∃xs,dc K H1 a xs)/\R (acs K a) H1)\/((∃xs,d9 K H1 a xs)/\R (Ite K a) H1))
def Ox {X:Cx} (K:Ab) (hK:X.K=K) (hg:Gl X "enumerate") (hm:X.mg "enumerate"=bm) (h1:PE X e1 t1)
  (Hc:gR X e1 []:=by rfl):PI X (.Tuple Ï kk tp) (.Call (.Name "enumerate" p1) [e1] [] p2) (XX K t1):=by
 subst hK;intro Z s σ H R I h;refine BR (j5 I hg hm boot_enumerate ?_ ⋯ ⋯);refine Bo ?_ Hc rfl;rw [Hc];refine Cm (bE (h1 Z s σ H _ I h) λu1 s1 ⟨x,H1,I1,r1,a,ex,hh⟩=>CM ?_);subst ex;cases r1;have d1:s1.heap.objs.size+1≠s1.heap.objs.size:=Nat.succ_ne_self _;rcases hh with⟨⟨xs,hx⟩,q⟩ | ⟨⟨xs,hx⟩,q⟩
 ·obtain⟨au,rx,tx,_⟩:=I1.list hx;refine call_enumerate_list tx.isList λh' ze hi _ k=>?_;refine Dg ze ?_;refine⟨_,_,_,_,H1,rfl,I1.kept (t':=s1.toks) k,Ho d1,⟨⟨_,ze⟩,hi⟩,λc hc=>?_,q⟩;have Ù:s1.heap.objs.size<=c:=by
   simp only [AA,BI,or_false] at hc;rcases hc with rfl | rfl
   ·exact BH _ _
   ·exact Ao _
  exact I1.va Ù (I1.bK.fresh Ù)
 ·obtain⟨au,rx,tx,_⟩:=I1.tuple hx;have l1:=let ⟨_,e,_⟩:=tx;Au e;refine Jl tx λh' ze hi k=>?_;refine Dg ze ?_;refine⟨_,_,_,_,H1,rfl,I1.kept (t':=s1.toks) k,Lq d1 (AM (AB l1 (BH _ 1))) (AM l1),⟨⟨_,ze⟩,hi⟩,λc hc=>?_,q⟩;have Ù:s1.heap.objs.size<=c:=by
   simp only [AA,BI,or_false] at hc;rcases hc with rfl | rfl
   ·exact BH _ _
   ·exact Ao _
  exact I1.va Ù (I1.bK.fresh Ù)
def gE:List PV->List PV->List PV
 | x::l,y::m=>.tup [x,y]::gE l m
 | _,_=>[]
theorem nv:∀{l m:List PV}{i:Nat}{p:PV},(gE l m)[i]?=ap p->∃x y,l[i]?=ap x/\m[i]?=ap y/\p=.tup [x,y]
 | [],m,i,p,h=>by simp [gE] at h
 | x::l,[],i,p,h=>by simp [gE] at h
 | x::l,y::m,0,p,h=>by simp [gE] at h;subst h;exact⟨x,y,rfl,rfl,rfl⟩
 | x::l,y::m,i+1,p,h=>by
  obtain⟨u,w,h1,h2,h3⟩:=nv (l:=l) (m:=m) (i:=i) (p:=p) (by simpa [gE] using h);exact⟨u,w,by simpa using h1,by simpa using h2,h3⟩
end
end
section
open PySem PySem.Spec PyProof.Rows L2
variable {K:Ab}
section
def Vn:M2:=aI λi j=>.int (i+j)
def aa5 {g:Int->Int->Int}:M2.Ok K (ipI g) (aI λi j=>.int (g i j)):=by
 intro ι H h u v x y Q hr hu hv q;unfold aI at q;dsimp only at q;revert q
 split
 ·intro q;cases hu;cases hv;exact⟨_,_,rfl,rfl,q ι _ H (Go.refl _ _) hr (.int _)⟩
 ·exact Bs
end
end
end PL
variable {p3 p4:CB}
namespace PL
open PySem PySem.Spec PyProof.Rows L2
section
variable {K:Ab}
section
structure JC (X:Cx) (K:Ab) (op:CmpOp) (b:ga) (m:M2):Prop where
 p:∃r,iy X (im op) r/\M2.Ok K r m
 k:lw op b=false
def Kx:JC X K .Lt b oLt:=⟨⟨_,aaE,GZ λ_ _ _ _=>.bl _⟩,lq _⟩
def Ky:JC X K .LtE b oLe:=⟨⟨_,aaF,GZ λ_ _ _ _=>.bl _⟩,lq _⟩
def Vm:JC X K .Gt b oGt:=⟨⟨_,aaG,GZ λ_ _ _ _=>.bl _⟩,lq _⟩
def aa3:JC X K .GtE b oGe:=⟨⟨_,aaH,GZ λ_ _ _ _=>.bl _⟩,lq _⟩
def xQ:JC X K .Is b HH:=⟨⟨_,Xb,SO⟩,lq _⟩
def vQ:JC X K .IsNot b nT:=⟨⟨_,zU,HG⟩,lq _⟩
def aiG:M2:=⟨λx y h Q=>match x,y with | .str i,.str j=>Q (.bl (decide (i.cps.toList < j.cps.toList))) h | _,_=>False,λf q=>by
 revert q
 split
 ·exact f _ _
 ·exact λz=>z⟩
def SQ:M2:=⟨λx y h Q=>match x,y with | .str i,.str j=>Q (.bl (!(Builtin.Str.occurrences j i 0 j.length 1).isEmpty)) h | _,_=>False,λf q=>by
 revert q
 split
 ·exact f _ _
 ·exact λz=>z⟩
def XQ (hk:lw .In b=false):JC X K .In b SQ:=⟨⟨_,LS,by
 intro ι H h u v x y Q hr hu hv q;unfold SQ at q;dsimp only at q;revert q
 split
 ·intro q;cases hu;cases hv;exact⟨_,_,rfl,rfl,q ι _ H (Go.refl _ _) hr (.bl _)⟩
 ·exact Bs⟩,hk⟩
end
end
theorem GR:∀{l:List PV},vg l=true↔∀x∈l,x.dat=true
 | []=>by simp [vg]
 | x::l=>by rw [vg,AO,GR];simp
section
variable {K:Ab}
section
variable {c:ga}
def Qm (h:aO K ι H vs l):vs.isEmpty=l.isEmpty:=by cases h <;> rfl
def aO.rep (h:aO K ι H vs l):∀k:Nat,aO K ι H (Am k vs).flatten (Am k l).flatten
 | 0=>.nil
 | k+1=>by
  rw [BA,BA,B8,B8];exact h.append (h.rep k)
def Oh:V->List V->Hp->VK->Prop:=λx vs H Q=>∃(l:ci) (ns:List Int) (k:Int),x=.ref l/\vs=[.int k]/\H l=ap (.lst (ns.map V.int))/\k∈ns/\zh H l (.lst ((ns.erase k).map V.int)) (Q .aV)
theorem ints_get:∀{us:List bv}{ns:List Int},ww us ns->∀(i:Nat) (hi:i < us.length),∃n t,ns[i]?=ap n/\us[i]=.int n t
 | _,_,.nil,i,hi=>by simp at hi
 | _,_,.cons _ _ r,i,hi=>by
  cases i with
  | zero=>exact⟨_,_,rfl,rfl⟩
  | succ i=>exact ints_get r i (by simpa using hi)
theorem Pn {k:Int}:∀{ns:List Int}{m:Nat},ns[m]?=ap k->ns.idxOf k<=m
 | [],m,h=>by simp at h
 | a::ns,0,h=>by
  have:a=k:=by simpa using h
  subst this;simp
 | a::ns,m+1,h=>by
  have:=Pn (ns:=ns) (m:=m) (by simpa using h);rw [List.idxOf_cons];by_cases c:a=k
  ·have:(a==k)=true:=by simpa using c
   rw [this];exact Bb _
  ·have c2:(a==k)=false:=by simpa using c
   rw [c2];exact Nat.succ_le_succ this
theorem wj (f:α->β):∀(l:List α) (j:Nat),(l.eraseIdx j).map f=(l.map f).eraseIdx j
 | [],_=>rfl
 | a::l,0=>rfl
 | a::l,j+1=>by
  show f a::(l.eraseIdx j).map f=f a::(l.map f).eraseIdx j;rw [wj f l j]
def isK (k:Int):bv->Bool
 | .int a _=>a==k
 | _=>false
def uM (r:Vals vs us):∀j,Vals (vs.eraseIdx j) (us.eraseIdx j):=by
 induction r with
 | nil=>intro j;exact .nil
 | cons h r ih=>
  intro j;cases j with
  | zero=>exact r
  | succ j=>exact .cons h (ih j)
theorem HN:Lh X "list.remove" Oh:=by
 intro Z s σ H x vs v us Q I rx rv h;obtain⟨l,ns,k,rfl,rfl,hH,hk,q⟩:=h;cases rx;obtain⟨u,rfl,ru⟩:=rv.one;obtain⟨t,rfl⟩:=ru;obtain⟨z,au,n,r,hl,e⟩:=I.pC hH;have hi:=intsAre_of r;have Á:ns.length=au.length:=by rw [Ag] at hl;omega
 have hj:=BS hk;have hej:ns.erase k=ns.eraseIdx (ns.idxOf k):=by rw [List.erase_eq_eraseIdx_of_idxOf rfl]
 refine ul F.slot_list_remove ⟨_,e,rfl⟩ F.entry_list_remove (F.args_list_remove_2 _ _) (MeetsSeq.list_remove l au.toArray n (.int k t) (isK k) (λy hy=>?_) (ns.idxOf k) (by rw [Ai];omega) ?_ (λm hm j8=>?_) (by rw [Ai];omega)) ⟨e,?_⟩
 ·have Tw:y∈au:=by simpa using hy
  obtain⟨i,ð⟩:=CU Tw;obtain⟨h1,h2⟩:=Ak.mp ð;obtain⟨n',t',g1,g2⟩:=ints_get hi i h1;rw [<- h2,g2];exact MeetsSeq.EqGives.int _ _ _ _
 ·have h1:ns.idxOf k < au.length:=by omega
  obtain⟨n',t',g1,g2⟩:=ints_get hi (ns.idxOf k) h1;have g3:ns[ns.idxOf k]?=ap k:=by rw [Ad hj,List.getElem_idxOf hj]
  rw [g3] at g1;cases g1;rw [DG,g2];simp [isK]
 ·have h1:m < au.length:=by rw [Ai] at hm;exact hm
  obtain⟨n',t',g1,g2⟩:=ints_get hi m h1;rw [DG,g2];have:n'≠k:=λz=>by
   subst z;have:=Pn g1;omega
  simp [isK,this]
 ·refine⟨.aV,_,I.HY (its':=au.eraseIdx (ns.idxOf k)) (ys:=(ns.erase k).map V.int) hH e (by simp [Array.toList_eraseIdxIfInBounds,<- EM]) ?_ ?_,rfl,q.at⟩
  ·rw [hej,wj];exact uM r _
  ·rw [hej,Ag,List.length_eraseIdx]
   split <;> omega
theorem mi:∀{ns:List Int}{vs:List V},aO K ι H vs (ns.map PV.int)->vs=ns.map V.int
 | [],_,h=>by cases h;rfl
 | b::bs,_,h=>by
  cases h with
  | cons x t=>cases x;rw [mi t];rfl
theorem oo (ι:List ci) (H:Hp):∀ns:List Int,aO K ι H (ns.map V.int) (ns.map PV.int)
 | []=>.nil
 | n::ns=>.cons (.int n) (oo ι H ns)
def Wy (K:Ab):List V->Hp->VK->Prop:=λxs H Q=>∃(p:ci) (ns:List Int),xs=[.ref p]/\dc K H p (ns.map V.int)/\ns.length < 64/\∀ms:List Int,ms.Perm ns->ms.Pairwise (·<=·)->lx H (.lst (ms.map V.int)) Q
theorem Ji (K:Ab) (hK:X.K=K):bW X (.builtin "sorted") (Wy K):=by
 subst hK;intro Z s σ H xs us Q I r h;obtain⟨p,ns,rfl,hq,ø,q⟩:=h;obtain⟨u,rfl,rx⟩:=vals1 r;cases rx;obtain⟨au,r',pl,hz⟩:=I.list hq;have hi:=intsAre_of r';have hl:=r'.length;rw [Ag] at hl hz;refine PyProof.Rows.sorted_ints pl.isList hi ∅ λout ms a1 a2 a3=>?_;obtain⟨e,he⟩:=sortedAll_at s.heap au out;refine⟨.ref (s.heap.objs.size+1),_,I.laid (t':=s.toks) (λ_ _=>sortedAll_old) (Fj _) (show bu X.prog X.w _ _ _ (.lst (ms.map V.int)) from⟨?_,out.toList,e,oX a1,?_⟩),rfl,(q ms a2 a3).at _ (I.bK.fresh (Fj _))⟩
 ·rw [Ag,a2.length_eq];exact hz
 ·rw [Array.toArray_toList];exact he
end
end
end PL
variable {xs:Array Ba}{a:BV}{o:FU}
namespace L2
open PySem PySem.Spec PyProof.Rows
def m7 {name:Str}{Q:Option bv->cr->Prop}
  (hx:s.heap.get? a=ap o) (hc:o.cls=.type "list") (jE:o.data=.seq xs k) (hd:o.dict=bm) (abm:FB (.type "list") name=pure bm) (abl:(["__module__","__name__","__qualname__","__doc__","__annotations__"]:List Str).contains name=false) (hA:A.handled=bm)
  (h:∀h' tk e,Heap.NewExcOf s.heap h' e "AttributeError"->Q bm {s with heap:=h',toks:=tk}) (hsz:name.length+100<=sizeLine:=by size_fits) :
  db (dL prog w) A (getAttr? (.ref a) name) Q E s:=by
 obtain⟨c,dct,dat,sl⟩:=o;simp only at hc jE hd;subst hc jE hd;obtain⟨hp,g,d,tk,os⟩:=s;have hT:∀û,(⟨hp,g,d,û,os⟩:cr).TypeIs (.ref a) "list":=λ_=>⟨_,hx,rfl⟩;have f1:=sub_AttributeError;have f3:=C2.lookup;have f4:=C2.bind (.ref a);have f5:=am_list_getattr_none
 repeat (any_goals (first | assumption | exact hT _ | ((with_reducible show db _ _ (call (Value.builtin "list.__getattribute__") _ _) _ _ _);refine ul C2 (hT _) am_entry_list_getattribute (F.args_list_getattribute_2 _ _) (meets_getattribute_miss_list a xs k sl name _ abm abl hsz) ⟨hx,hA,λh' û e uH=>?_⟩) | wp_step))
 obtain⟨t',u',he⟩:=uH.there;unfold getattributeRaised
 repeat (any_goals (first | assumption | wp_step))
 exact h _ _ _ uH.of
end L2
variable {b d:BV}{v:Ba}
namespace L2
open PySem PySem.Spec PyProof.Rows
def iQ:entryFor table "dict.update.loop"=ap BT.«dict.update.loop»:=entryFor_of_fast (by kernel_rfl)
def iI:plainId "dict.update.loop"=true:=by decide +kernel
section
variable {K:Type} [DecidableEq K] {knd:KeyKind prog w K}
def yX (knd:KeyKind prog w K) (h:nw) (it d:ci) (v:bv) (x:List K×ci×bv):Prop:=
 ∃pa o n,v=.ref pa/\pa≠it/\pa≠d/\x.2.1≠it/\x.2.1≠d/\h.get? pa=ap o/\o.cls=.type "tuple"/\o.data=.seq #[.ref x.2.1,x.2.2] n/\(o0 knd).is h x.1 x.2.1
def wW {k:List K} (x:(o0 knd).is h k b) (kp:∀o,h.get? b=ap o->h'.get? b=ap o):(o0 knd).is h' k b:=by
 obtain⟨o,au,n,h1,h2⟩:=x;exact⟨o,au,n,kp _ h1,h2⟩
def yX.keep {x:List K×ci×bv} (p:yX knd h it d v x) (kp:∀b o,b≠it->b≠d->h.get? b=ap o->h'.get? b=ap o):yX knd h' it d v x:=by
 obtain⟨pa,o,n,e,n1,n2,n3,n4,h1,h2,h3,h4⟩:=p;exact⟨pa,o,n,e,n1,n2,n3,n4,kp _ _ n1 n2 h1,h2,h3,wW h4 λo q=>kp _ _ n3 n4 q⟩
def yz {xs:List (List K×ci×bv)} (m:h.DictOfH (o0 knd) d xs) (hd:d≠it) (hx:∀x∈xs,x.2.1≠it) (kp:∀b o,b≠it->h.get? b=ap o->h'.get? b=ap o):h'.DictOfH (o0 knd) d xs:=by
 obtain⟨o,es,ep,ho,hc,ľ,he,his,hn⟩:=m;exact⟨o,es,ep,kp _ _ hd ho,hc,ľ,he,λx q=>wW (his x q) λo z=>kp _ _ (hx x q) z,hn⟩
def zp {xs:List (List K×ci×bv)}{k:List K} (hx:∀x∈xs,x.2.1≠it) (hb:b≠it):∀x∈Fa xs k b v,x.2.1≠it:=by
 intro x q;unfold Fa at q
 split at q
 ·obtain⟨y,hy,rfl⟩:=Ar.mp q;have e:(putAt k v y).2.1=y.2.1:=by unfold putAt;split <;> rfl
  rw [e];exact hx y hy
 ·rcases AY.mp q with q | q
  ·exact hx x q
  ·rw [A3.mp q];exact hb
def zq {xs:List (List K×ci×bv)}{k:List K}:(Fa xs k b v).length<=xs.length+1:=by
 unfold Fa
 split <;> simp
theorem zg (hA:A.handled=bm) (hu:A.units+1 < nn) {l:ci} (hz:items.size+items.size<=sizeLine) (Ľ:d≠it) (hli:l≠it) (hld:l≠d) :
  ∀(k i:Nat) (ys xs:List (List K×ci×bv)) (s:cr),items.size-i=k->i<=items.size->ys.length=items.size-i->xs.length<=i->s.heap.IsListIter it l i->s.heap.IsList l items->s.heap.DictOfH (o0 knd) d xs->(∀x∈xs,x.2.1≠it)->
   (∀j x,ys[j]?=ap x->∃v,items[i+j]?=ap v/\yX knd s.heap it d v x)->
   (∀h' tk,h'.DictOfH (o0 knd) d (ys.foldl (λa y=>Fa a y.1 y.2.1 y.2.2) xs)->(∀b o,b≠it->b≠d->s.heap.get? b=ap o->h'.get? b=ap o)->R (.ok (.ret .none)) {s with heap:=h',toks:=tk})->
   FS (dL prog w) A (.builtin "dict.update.loop" ⟨[.ref d,.ref it,u8 i,.none],[]⟩) R s:=by
 intro k
 induction k with
 | zero=>
  intro i ys xs s hk hi hy Ĩ Õ hl hd hx hp q;have e0:ys=[]:=DH ∅;subst e0;refine codeAny_builtin iQ ?_;refine Aa (wpAny_pyNext_list_end (A:=A.in1) hA Õ hl (by rw [EZ];omega) λh' ex=>?_);have kp:=ex;exact Aa (Ah (Ah (q h' s.toks (yz hd Ľ hx kp) λb o n1 _ e=>kp b o n1 e)))
 | succ k ih=>
  intro i ys xs s hk hi hy Ĩ Õ hl hd hx hp q
  match ys,hy,hp,q with
  | [],hy,_,_=>exact absurd hy (by simp only [Bx];omega)
  | y::ys,hy,hp,q=>
  obtain⟨v,hv,pa⟩:=hp 0 y rfl;refine codeAny_builtin iQ ?_;refine Aa (wpAny_pyNext_list_item Õ hl (by simpa using hv) λh1 afr sb=>?_);have Tc:∀b o,b≠it->s.heap.get? b=ap o->h1.get? b=ap o:=λb o hb e=>(sb.2 b hb).trans e;have pa1:=pa.keep λb o n1 _ e=>Tc b o n1 e;have õ:=yz hd Ľ hx Tc;have ĸ:h1.IsList l items:=let ⟨o,e,p⟩:=hl;⟨o,Tc _ _ hli e,p⟩;obtain⟨p,o,n,rfl,n1,n2,n3,n4,g1,g2,g3,g4⟩:=pa1;refine Aa (Bi (Aa (wpAny_tryCatch ?_)));refine Aa (Ct (T:="tuple") ⟨_,g1,g2⟩ ?_);refine Aa (BO g1 g3 (Ah ?_));refine Bi (wpAny_dictSet_heap (knd:=o0 knd) (Ev hu) g4 õ (λh2 Í sb2=>?_) ∅);have Ģ:∀b o,b≠d->h1.get? b=ap o->h2.get? b=ap o:=λb o hb e=>(sb2.2 b hb).trans e;refine Ah ⟨plainId_quiet iI _,?_⟩;have kp:∀b o,b≠it->b≠d->s.heap.get? b=ap o->h2.get? b=ap o:=λb o a1 a2 e=>Ģ _ _ a2 (Tc _ _ a1 e);refine ih (i+1) ys (Fa xs y.1 y.2.1 y.2.2) _ ∅ ∅ (by rw [Ap] at hy;omega) (A4 zq ∅) ?_ ?_ Í (zp hx n3) (λj x hj=>?_) (λh' tk dd k3=>?_)
  ·obtain⟨o',e1,e2⟩:=afr;exact⟨o',Ģ _ _ (BL Ľ) e1,e2⟩
  ·obtain⟨o',e1,e2⟩:=ĸ;exact⟨o',Ģ _ _ hld e1,e2⟩
  ·obtain⟨v',h3,h4⟩:=hp (j+1) x hj;exact⟨v',by rw [show i+1+j=i+(j+1) by omega];exact h3,h4.keep kp⟩
  ·exact q h' tk dd λb o a1 a2 e=>k3 b o a1 a2 (kp b o a1 a2 e)
end
def xG:FB (.type "list") (Cs "keys")=pure bm:=am_miss_of_fast (by decide +kernel)
section
variable {K:Type} [DecidableEq K] {knd:KeyKind prog w K}
theorem qS {l:ci}{ys:List (List K×ci×bv)} (hA:A.handled=bm) (hu:A.units+2 < nn) (ho:s.heap.get? l=ap o) (hc:o.cls=.type "list") (jE:o.data=.seq items n) (hd:o.dict=bm)
  (hz:items.size+items.size<=sizeLine) (hy:ys.length=items.size)
  (hp:∀(j:Nat) (x:List K×ci×bv),ys[j]?=ap x->∃(pa:ci) (op:Obj) (m:Nat),items[j]?=ap (AD pa)/\s.heap.get? pa=ap op/\op.cls=.type "tuple"/\op.data=.seq #[AD x.2.1,x.2.2] m/\(o0 knd).is s.heap x.1 x.2.1)
  (q:∀h' tk,(∀b o,s.heap.get? b=ap o->h'.get? b=ap o)->h'.DictOfH (o0 knd) s.heap.objs.size (ys.foldl (λa y=>Fa a y.1 y.2.1 y.2.2) [])->Q (.ref s.heap.objs.size) {s with heap:=h',toks:=tk}) :
  db (dL prog w) A (call (.type "dict") [.ref l]) Q E s:=by
 refine callType_codes (Q₁:=λobj s₁=>obj=.ref s.heap.objs.size/\s₁={s with heap:=s.heap.push {cls:=.type "dict",data:=.dict #[]}}) F.kt_called_dict (F.kt_typeCall_dict_1 _) F.entry_dict_init (kt_code_dict_new _ ⟨rfl,rfl⟩) ?_;rintro obj s₁ ⟨rfl,rfl⟩;have ă:∀b o,s.heap.get? b=ap o->(s.heap.push {cls:=.type "dict",data:=.dict #[]}).get? b=ap o:=λb o e=>Aj _ e;have TL:(s.heap.push {cls:=.type "dict",data:=.dict #[]}).DictOf knd s.heap.objs.size []:=Heap.DictOf.new s.heap;have abk:(s.heap.push {cls:=.type "dict",data:=.dict #[]}).DictOfH (o0 knd) s.heap.objs.size []:=⟨_,#[],0,Aq _ rfl,⟨rfl,rfl,rfl⟩,rfl,rfl,λx hx=>absurd hx (BI),Fm⟩;have ls:∀b o,s.heap.get? b=ap o->b≠s.heap.objs.size:=λb o e z=>by subst z;exact Bc _ (Au e)
 refine⟨TL.typeIs,F.args_dict_init_2 _ _,?_⟩;refine Aa ?_;refine Aa (wpAny_notOrdered_dict TL.typeIs ?_);refine Ah ?_;refine Aa (Ct (T:="list") ⟨_,ă _ _ ho,hc⟩ ?_);refine Aa (m7 (ă _ _ ho) hc jE hd xG (by decide +kernel) hA (λh1 tk e nx=>?_) ⋯);refine Aa (CS (Aa ?_));refine CN (items:=items) ⟨_,nx.keeps _ _ (ă _ _ ho),hc,n,jE⟩ ?_;have hsz:=Au (nx.keeps _ _ (Aq s.heap rfl));have Tc:∀b o,s.heap.get? b=ap o->(h1.push {cls:=.type "list_iterator",data:=.fields #[.ref l,.int 0 0]}).get? b=ap o:=λb o e=>Aj _ (nx.keeps _ _ (ă _ _ e));have ni:∀b o,s.heap.get? b=ap o->b≠h1.objs.size:=λb o e z=>by
  have h3:=Au e;subst z;exact Bc _ (Nat.lt_trans h3 hsz)
 refine Ah ⟨plainId_quiet iI _,?_⟩;refine zg (A:=A.in1) (knd:=knd) hA (by show A.units+1+1 < _;omega) (items:=items) (d:=s.heap.objs.size) (it:=h1.objs.size) (l:=l) hz (AM hsz) (ni _ _ ho) (ls _ _ ho) items.size 0 ys [] _ (Dh _) (Bb _) (by rw [hy];rfl) (Ao _)
  ⟨_,Aq _ rfl,rfl,rfl⟩ ⟨_,Tc _ _ ho,hc,n,jE⟩ ?_ (λx hx=>nomatch hx) (λj x hj=>?_) (λh' û dd kp=>?_)
 ·refine yz (it:=h1.objs.size) abk (AM hsz) (λx hx=>nomatch hx) λb o _ e=>Aj _ (nx.keeps _ _ e)
 ·obtain⟨pa,op,m,e1,e2,e3,e4,e5⟩:=hp j x hj;have kb:∃ob,s.heap.get? x.2.1=ap ob:=let ⟨ob,_,_,z,_⟩:=e5;⟨ob,z⟩;obtain⟨ob,eb⟩:=kb;exact⟨.ref pa,by rw [AG];exact e1,pa,op,m,rfl,ni _ _ e2,ls _ _ e2,ni _ _ eb,ls _ _ eb,Tc _ _ e2,e3,e4,wW e5 λo z=>Tc _ _ z⟩
 ·exact⟨rfl,q h' û (λb o e=>kp b o (ni _ _ e) (ls _ _ e) (Tc _ _ e)) dd⟩
end
structure Pz where
 pa:ci
 k:List Key
 b:ci
 v:V
def Pz.At (H:Hp) (z:Pz):Prop:=H z.pa=ap (.tup [.ref z.b,z.v])/\H z.b=ap (.tup (z.k.map kV))
def WE (K:Ab):List V->Hp->VK->Prop:=λxs H Q=>∃(p:ci) (zs:List Pz),xs=[.ref p]/\dc K H p (zs.map λz=>.ref z.pa)/\(∀z∈zs,z.At H)/\(zs.map (·.k)).Nodup/\zs.length<=1000/\lx H (.dT (zs.map λz=>(z.k,z.v))) Q
theorem qi {K:Type} [DecidableEq K]:∀(ys xs:List (K×ci×bv)),((xs++ys).map (·.1)).Nodup->ys.foldl (λa y=>Fa a y.1 y.2.1 y.2.2) xs=xs++ys
 | [],xs,_=>by simp
 | y::ys,xs,h=>by
  have hn:atKey xs y.1=bm:=by
   cases e:atKey xs y.1 with
   | none=>rfl
   | some p=>
    exfalso;rw [AU,Az] at h;have h2:=(Cv.mp h).2.2;have hm:y.1∈xs.map (·.1):=by
     by_cases hc:y.1∈xs.map (·.1)
     ·exact hc
     ·rw [atKey_none_of_get (λj q hj=>?_)] at e
      ·cases e
      ·exact hc (Ar.mpr ⟨_,A7 hj,rfl⟩)
    exact h2 _ hm _ BF rfl
  rw [List.foldl_cons,storedH_new hn,qi ys (xs++[(y.1,y.2.1,y.2.2)]) (by simpa using h)];simp
section
theorem Jm (K:Ab) (hK:X.K=K) (hc:X.calm=true) (hu:X.A.units+2 < nn):bW X (.type "dict") (WE K):=by
 subst hK;intro Z s σ H xs us Q I r h;obtain⟨p,zs,rfl,hq,hz,hn,hl,q⟩:=h;obtain⟨u,rfl,rx⟩:=vals1 r;cases rx;obtain⟨au,rv,pl,hsz⟩:=I.list hq;obtain⟨o,n,ho,Ri,hd,jE⟩:=pl;have ú:∀(zs:List Pz) (au:List bv),(∀z∈zs,z.At H)->Vals (zs.map λz=>V.ref z.pa) au->∃ys:List (List Key×ci×bv),ys.map (·.1)=zs.map (·.k)/\KT H (zs.map λz=>(z.k,z.v)) ys/\
   ∀(j:Nat) (x:List Key×ci×bv),ys[j]?=ap x->∃(pa:ci) (op:Obj) (m:Nat),au[j]?=ap (AD pa)/\s.heap.get? pa=ap op/\op.cls=.type "tuple"/\op.data=.seq #[AD x.2.1,x.2.2] m/\(o0 (cv X.prog X.w)).is s.heap x.1 x.2.1:=by
  intro zs
  induction zs with
  | nil=>intro au _ _;exact⟨[],rfl,.nil,λj x h=>by simp at h⟩
  | cons z zs ih=>
   intro au ha hv;cases hv with
   | @cons _ u _ us ru rus=>
   cases ru;obtain⟨ys,e1,e2,e3⟩:=ih us (λy hy=>ha y (AW _ hy)) rus;obtain⟨a1,a2⟩:=ha z BF;obtain⟨_,its',r',op,h1,h2,m,h3⟩:=(show bu X.prog X.w H s.heap z.pa (.tup [.ref z.b,z.v]) from I.bK _ _ a1);obtain⟨w,rfl,iz⟩:∃w,its'=[AD z.b,w]/\RelV z.v w:=by
    cases r' with
    | cons q1 q2=>cases q1;cases q2 with
     | cons q3 q4=>cases q4;exact⟨_,rfl,q3⟩
   refine⟨(z.k,z.b,w)::ys,by rw [Az,Az,e1],.cons ⟨rfl,a2,iz⟩ e2,λj x hj=>?_⟩;cases j with
   | zero=>
    cases hj;exact⟨z.pa,op,m,rfl,h1,h2,h3,tD I.bK a2⟩
   | succ j=>exact e3 j x hj
 obtain⟨ys,e1,e2,e3⟩:=ú zs au hz rv;have Á:=rv.length;rw [Ag] at Á;have ą:ys.length=zs.length:=by have:=congrArg B2 e1;simpa using this
 have hs:(1000:Nat)+1000<=sizeLine:=by decide
 refine qS (knd:=cv X.prog X.w) (items:=au.toArray) (ys:=ys) (I.ok.hd hc) hu ho Ri jE hd (by rw [Ai];omega) (by rw [Ai];omega) (λj x hj=>?_) (λh' tk kp dd=>?_)
 ·obtain⟨pa,op,m,g1,g2⟩:=e3 j x hj;exact⟨pa,op,m,by rw [Fe];exact g1,g2⟩
 ·rw [qi ys [] (by rw [List.nil_append,e1];exact hn),List.nil_append] at dd;obtain⟨od,es,ep,Ĉ,h2,h3,h4,_,h5⟩:=dd;have afC:=beq_eq_false_iff_ne.mpr (BL (AM I.big));have fr:=I.bK.fresh (Ao s.heap.objs.size);refine⟨.ref s.heap.objs.size,_,I.laid (t':=tk) kp (Ao _) (show bu X.prog X.w (upd H s.heap.objs.size (.dT (zs.map λz=>(z.k,z.v)))) h' _ (.dT _) from⟨?_,afC,ys,?_,od,es,ep,Ĉ,h2,h3,h4,h5⟩),rfl,q.at _ fr⟩
  ·rw [Ag];exact A4 hl ⋯
  ·refine e2.keeps λc xs ec=>?_;rw [aD (λz=>by subst z;rw [fr] at ec;cases ec)];exact ec
end
end L2
variable {es:Array PySem.DictEntry}{ep:Nat}
namespace L2
open PySem PySem.Spec PyProof.Rows
section
def UH (h:nw) (d:ci) (es:Array DictEntry) (ep:Nat):Prop:=∃o,h.get? d=ap o/\o.ExactDict/\o.data=.dict es ep
theorem OY {Q:Option bv->cr->Prop} (Õ:s.heap.IsKeyIter it d i es.size ep) (hm:UH s.heap d es ep) (hi:i < es.size)
  (q:∀h',h'.IsKeyIter it d (i+1) es.size ep->Cf it s.heap h'->Q (ap es[i].key) {s with heap:=h'}):db (dL prog w) A (pyNext (.ref it)) Q E s:=by
 have ty:=Õ.typeIs;obtain⟨o,ho,hc,hd⟩:=id Õ;obtain⟨od,TK,-,Px⟩:=hm;have abr:(s.heap.update it (Obj.mapFields (·.setIfInBounds 1 (u8 ((i:Int)+1))))).IsKeyIter it d (i+1) es.size ep:=⟨_,CJ _ ho (Fb (C6 hd _)),(Obj.cls_mapFields ..).trans hc,by rw [C6 hd];simp [u8]⟩;refine Aa (C3 (AZ (name:=Cs "__next__") ty BP (Bl BP ty Dy ?_ (Dq _))));refine Aa (Ah (Aa (Aa ?_)))
 first | refine Aa (B7 ty (Ah ?_)) | refine Aa (Cw ty (Ah ?_))
 refine Aa (wpAny_fieldsOf ho hd ?_);show db _ _ (if (AD d==AX)=true then _ else _) _ _ s;rw [if_neg (λz:(AD d==AX)=true=>AV z)];refine Aa (Ah (Aa (Ep TK Px ?_)));rw [if_neg (by simp)];refine Aa (Ah (Aa (E5 TK Px ?_)));rw [if_neg (by simp)];refine Ah ?_;have i0:¬((i:Int) < 0):=by omega
 simp only [i0,if_false,A2,CY hi];refine Aa ?_
 first | refine Aa (B7 ty (Ah ?_)) | refine Aa (Cw ty (Ah ?_))
 refine Aa (wpAny_isOneOf_keyiter ty ?_);show db _ _ (xz (.ref it) 1 (u8 ((i:Int)+1)) >>= _) _ _ s;refine Aa (Ea ho hd (by simp) (Aa (Bi (Aa (wpAny_isOneOf_keyiter (s:={s with heap:=s.heap.update it (Obj.mapFields (·.setIfInBounds 1 (u8 ((i:Int)+1))))}) abr.typeIs ?_)))));exact Ah (Ah ⟨_,rfl,Ah (q _ abr (Cf.update ..))⟩)
theorem Ub {Q:Option bv->cr->Prop} (hh:A.handled=bm) (Õ:s.heap.IsKeyIter it d i es.size ep) (hm:UH s.heap d es ep) (hi:es.size<=i)
  (q:∀h',FX it s.heap h'->Q bm {s with heap:=h'}):db (dL prog w) A (pyNext (.ref it)) Q E s:=by
 have ty:=Õ.typeIs;obtain⟨o,ho,hc,hd⟩:=id Õ;obtain⟨od,TK,-,Px⟩:=hm;refine Aa (C3 (AZ (name:=Cs "__next__") ty BP (Bl BP ty Dy ?_ (Dq _))));refine Aa (Ah (Aa (Aa ?_)))
 first | refine Aa (B7 ty (Ah ?_)) | refine Aa (Cw ty (Ah ?_))
 refine Aa (wpAny_fieldsOf ho hd ?_);show db _ _ (if (AD d==AX)=true then _ else _) _ _ s;rw [if_neg (λz:(AD d==AX)=true=>AV z)];refine Aa (Ah (Aa (Ep TK Px ?_)));rw [if_neg (by simp)];refine Aa (Ah (Aa (E5 TK Px ?_)));rw [if_neg (by simp)];refine Ah ?_;have i0:¬((i:Int) < 0):=by omega
 simp only [i0,if_false,A2,EZ hi];refine Aa ?_
 first | refine Aa (B7 ty (Ah ?_)) | refine Aa (Cw ty (Ah ?_))
 show db _ _ (xz (.ref it) 0 .none >>= _) _ _ s;refine Aa (Ea ho hd (by simp) ?_);refine Aa ?_;refine Aa (Bm (Aa (m:=firstArgMember _ _) (CH (a:=AX) (by first | rfl | (simp only [firstArgMember];rfl)) (Bm ?_ (by size_fits)))) (by size_fits));unfold raiseNew;refine Aa (wpAny_handled ?_);rw [show A.in1.handled=bm from hh];refine Aa (Ah (wpAny_throw ?_));refine Aa (Ds (T:="StopIteration") (b:=true) ⟨_,Aq _ rfl,rfl⟩ isSubtype_stop ?_);exact Ah (q _ (((Cf.update ..).extBut.push _).push _))
def Pj (hs:(d==tz)=false) (hm:UH s.heap d es ep)
  (q:Q (.ref s.heap.objs.size) {s with heap:=s.heap.push {cls:=.type "dict_keyiterator",data:=.fields #[.ref d,.int 0 0,.int es.size 0,.int ep 0]}}):db (dL prog w) A (pyIter (.ref d)) Q E s:=by
 obtain⟨od,TK,hx,Px⟩:=hm;have ty:s.TypeIs (.ref d) "dict":=⟨_,TK,hx.1⟩;refine wpAny_pyIter_slot ty F.slot_dict_iter (Bl F.slot_dict_iter ty F.entry_dict_iter ?_ (F.args_dict_iter_1 _));refine Aa ?_;refine Aa (wpAny_notOrdered_dict ty ?_);refine Ah ?_;show db _ _ (Builtin.Dict.showsAll d >>= _) _ _ s;unfold Builtin.Dict.showsAll;rw [if_neg (by rw [hs];exact AV)];refine Aa (Ah (Aa (Ep TK Px (Aa (E5 TK Px ?_)))));exact Aa (Bm (Ah ⟨_,rfl,"dict_keyiterator",_,⟨_,Aq _ rfl,rfl⟩,BP.lookup,q⟩))
end
end L2
variable {u:L2.HO}
namespace L2
open PySem PySem.Spec PyProof.Rows
section
variable {σ:St}
def Inv.freeze (I:Inv X Z σ H s) (e:H a=ap (.dT kvs)):∃o,Inv X Z σ (upd H a (.cT o (.dT kvs))) s:=by
 obtain⟨z,hs,xs,r,o,es,ep,h1,h2,h3,h4,h5⟩:=(show bu X.prog X.w H s.heap a (.dT kvs) from I.bK a _ e);refine⟨o,?_⟩;have q:=I.write (x:=a) (e:=a) (o:=.cT o (.dT kvs)) (h':=s.heap) (t':=s.toks) (by rw [e];exact Cj) (.inl rfl) (λb u _ z=>z) ⟨o,h1⟩
  ⟨h1,z,hs,xs,KT.keeps r λb ys eb=>by rw [aD (Kp eb e (λz=>nomatch z))];exact eb,o,es,ep,h1,h2,h3,h4,h5⟩
 exact q
def Inv.ZH (I:Inv X Z σ H s) (e:H a=ap (.cT o u)) (h0:∀o u,X.H₀ a≠ap (.cT o u)) (hu:bu X.prog X.w (upd H a u) s.heap a u) (bK:mz X.prog X.w (upd H a u) s.heap):Inv X Z σ (upd H a u) s:=by
 have ne:∀b v,H b=v->v≠ap (.cT o u)->b≠a:=λb v q n z=>by subst z;exact n (q.symm.trans e)
 refine⟨I.ok,I.os,I.bare,⟨I.base.keep,I.base.slot,λb ob q n hx=>?_,I.base.there,λb xs q=>?_,λb ob xs q=>?_,λb ps q=>?_⟩,I.loc,I.cell,?_,λx c q=>?_,λp hp=>?_,bK,I.len⟩
 ·have:=I.base.free b ob q n hx;rw [aD (ne b _ this (by simp))];exact this
 ·have:=I.base.eQ b xs q;rw [aD (ne b _ this (by simp))];exact this
 ·have:=I.base.qN b ob xs q;have hb:b≠a:=λz=>by subst z;exact h0 _ _ q
  rw [aD hb];exact this
 ·obtain⟨m,this⟩:=I.base.wY b ps q;exact⟨m,by rw [aD (ne b _ this (by simp))];exact this⟩
 ·rw [aD (ne _ _ I.free (by simp))];exact I.free
 ·rw [aD (ne _ _ (I.kF x c q) (by simp))];exact I.kF x c q
 ·obtain⟨p1,p2,p3⟩:=I.pin p hp;exact⟨p1,by rw [aD (ne _ _ p2 (by simp))];exact p2,p3⟩
end
def acu (a:ci) (o:Obj):It:=
 ⟨λi H=>∃kvs,H a=ap (.cT o (.dT kvs))/\i < kvs.length,λi H x H'=>H'=H/\∀kvs,H a=ap (.cT o (.dT kvs))->∃b k v,x=.ref b/\kvs[i]?=ap (k,v)/\H b=ap (.tup (k.map kV)),λi H=>∃kvs,H a=ap (.cT o (.dT kvs))/\kvs.length<=i⟩
theorem PU (x:bu P w H h a (.cT o (.dT kvs))) (hd:o.data=.dict es ep) :
  UH h a es ep/\es.size=kvs.length/\∀(i:Nat) (hi:i < es.size),∃b k v,es[i].key=.ref b/\kvs[i]?=ap (k,v)/\H b=ap (.tup (k.map kV)):=by
 obtain⟨e,z,hs,xs,r,o',ď,Đ,h1,h2,h3,h4,h5⟩:=x;rw [e] at h1;cases h1;rw [hd] at h3;cases h3;have hl:es.size=xs.length:=by have:=congrArg B2 h4;simpa using this
 refine⟨⟨o,e,h2,hd⟩,hl.trans (Paired.length r).symm,λi hi=>?_⟩;have hx:xs[i]?=ap (xs[i]'∅):=Ad _;have pg:∀{l:List (List Key×V)}{m:List (List Key×ci×bv)}{i:Nat}{q:List Key×ci×bv},KT H l m->m[i]?=ap q->∃v,l[i]?=ap (q.1,v)/\H q.2.1=ap (.tup (q.1.map kV)):=by
  intro l m i q t
  induction t generalizing i with
  | nil=>intro h;simp at h
  | @cons p q' ps qs hq t ih=>
   intro h;cases i with
   | zero=>
    cases h;obtain⟨p1,p2⟩:=p;have e1:=hq.1;subst e1;exact⟨p2,rfl,hq.2.1⟩
   | succ i=>exact ih (by simpa using h)
 obtain⟨v,g1,g2⟩:=pg r hx;refine⟨_,_,v,?_,g1,g2⟩;have:es[i]=entryOfKey (o0 (cv P w)) (xs[i]'∅):=by
  have h6:es.toList[i]?=ap (entryOfKey (o0 (cv P w)) (xs[i]'∅)):=by rw [h4,Ae,hx];rfl
  rw [Cn,CY hi] at h6;exact Option.some.inj h6
 rw [this];rfl
theorem Lr {K:Ab} (a it:ci) (o:Obj) (hd:o.data=.dict es ep):Turn P w K tg (acu a o) [it] it (λi h=>h.IsKeyIter it a i es.size ep) where
 mem:=by simp
 obj:=λi h st b hb=>by
  have e:b=it:=by simpa using hb
  subst e;obtain⟨o,e,c,d⟩:=st;exact⟨o,e,λv z=>by rw [d] at z;cases z⟩
 keep:=λi h h' st k=>st.at λo e=>k it (by simp) o e
 item:=by
  intro X hP hw hK hc i Z s σ H E I hf st hg;subst hP hw hK;obtain⟨kvs,hq,hx⟩:=hg;obtain⟨Ĝ,hl,ky⟩:=PU (I.bK a _ hq) hd;obtain⟨b,k,v,k1,k2,k3⟩:=ky i ∅;obtain⟨f0,f1,f2,f3,f4,f5⟩:=hf it (by simp);refine OY st Ĝ ∅ λh' nr sb=>?_;have I1:Inv X Z σ H {s with heap:=h'}:=I.turned (t':=s.toks) (λb o hb e=>(sb.2 b hb).trans e) f0 f1 f3 f4 f5;obtain⟨oi,e,c,d⟩:=id nr;refine⟨_,rfl,tS (s:={s with heap:=h'}) e c d ⋯ ⟨.ref b,H,I1,k1,⟨rfl,λaiZ Ĉ=>?_⟩,nr,λb hb=>(hf b hb).1⟩⟩;rw [hq] at Ĉ;cases Ĉ;exact⟨b,k,v,rfl,k2,k3⟩
 done:=by
  intro X hP hw hK hc i Z s σ H E I hf st hg;obtain⟨kvs,hq,hx⟩:=hg;obtain⟨Ĝ,hl,ky⟩:=PU (I.bK a _ hq) hd;obtain⟨f0,f1,f2,f3,f4,f5⟩:=hf it (by simp);exact Ub (I.ok.hd hc) st Ĝ ∅ λh' eb=>⟨rfl,I.turned (t':=s.toks) (λb o hb e=>eb b o hb e) f0 f1 f3 f4 f5⟩
 self:=λ_ _ _ _ _ st h=>wpAny_pyIter_keyiter st h
def XY (tl:TE):TI:=λσ H R=>tl σ H λx H1=>∃a o kvs,x=.ref a/\H1 a=ap (.cT o (.dT kvs))/\R (acu a o) H1
def Oy {l:ga} (hl:PE X l tl):PI X tg l (XY tl):=by
 intro Z s σ H R I h;refine bE (hl Z s σ H _ I h) λv s1 ⟨x,H1,I1,r1,q1⟩=>?_;obtain⟨a,o,kvs,e,hq,q⟩:=q1;subst e;cases r1;obtain⟨eo,z,hs,xs,r,o',es,ep,h1,h2,h3,h4,h5⟩:=(show bu X.prog X.w H1 s1.heap a (.cT o (.dT kvs)) from I1.bK a _ hq);rw [eo] at h1;cases h1;refine Pj hs ⟨o,eo,h2,h3⟩ ?_;refine⟨s1.heap.objs.size,[s1.heap.objs.size],_,_,H1,rfl,I1.kept (t':=s1.toks) λb o e=>Aj _ e,Lr a _ o h3,⟨_,Aq _ rfl,rfl,rfl⟩,λb hb=>?_,q⟩;have e:b=s1.heap.objs.size:=by simpa using hb
 subst e;exact I1.va (Ao _) (I1.bK.fresh (Ao _))
end L2
variable {v:PL.PV}{φ:List L2.V->Prop}
noncomputable section
namespace FL
section
open PySem PySem.Spec PyProof.Rows L2 PL
variable {K:Ab}
structure W (α:Type) where
 run:(α->Prop)->Prop
 mono:∀{Q Q':α->Prop},(∀a,Q a->Q' a)->run Q->run Q'
namespace W
variable {α β γ:Type}
def ext' {a b:W α} (h:∀Q,a.run Q↔b.run Q):a=b:=by
 cases a;cases b;congr;funext Q;exact propext (h Q)
noncomputable def ret (a:α):W α:=⟨λQ=>Q a,λh q=>h _ q⟩
noncomputable def bind (w:W α) (k:α->W β):W β:=⟨λQ=>w.run λa=>(k a).run Q,λh q=>w.mono (λa q=>(k a).mono h q) q⟩
def fail:W α:=⟨λ_=>False,λ_ q=>q⟩
def fD (p:Prop) (w:W α):W α:=⟨λQ=>p/\w.run Q,λh q=>⟨q.1,w.mono h q.2⟩⟩
def any (p:α->Prop):W α:=⟨λQ=>∀a,p a->Q a,λh q a pa=>h a (q a pa)⟩
def OT:Option α->W α
 | some a=>ret a
 | none=>fail
@[simp] theorem ai (a:α) (k:α->W β):bind (ret a) k=k a:=(rfl)
@[simp] theorem bind_assoc (w:W α) (f:α->W β) (g:β->W γ):bind (bind w f) g=bind w λa=>bind (f a) g:=(rfl)
@[simp] theorem acj (w:W α):bind w ret=w:=(rfl)
@[simp] theorem Zg (k:α->W β):bind fail k=fail:=(rfl)
@[simp] theorem aj (a:α) (Q:α->Prop):(ret a).run Q=Q a:=(rfl)
@[simp] theorem run_bind (w:W α) (k:α->W β) (Q:β->Prop):(bind w k).run Q=w.run λa=>(k a).run Q:=(rfl)
@[simp] theorem aad (Q:α->Prop):(fail:W α).run Q=False:=(rfl)
@[simp] theorem acG (p Q:α->Prop):(any p).run Q=∀a,p a->Q a:=(rfl)
@[simp] theorem R1 (p:Prop) (w:W α) (Q:α->Prop):(fD p w).run Q=(p/\w.run Q):=(rfl)
@[simp] theorem QG (p:Prop) (w:W α) (k:α->W β):bind (fD p w) k=fD p (bind w k):=(rfl)
def az {p:Prop}{w:W α} (h:p):fD p w=w:=ext' λQ=>⟨λq=>q.2,λq=>⟨h,q⟩⟩
@[simp] theorem acd {w:W α}:fD True w=w:=az trivial
@[simp] theorem aB (a:α):OT (ap a)=ret a:=(rfl)
@[simp] theorem aaM:OT (bm:Option α)=fail:=(rfl)
end W
inductive SL where
 | val (v:PV) | adr (b:ci) | ol (q:Option ci) (l:List PV) | rk (bs:List ci) (ls:List (List PV)) | od (kvs:List (Key×PV)) | ot (kvs:List (List Key×PV)) | kM (φ:List V->Prop)
abbrev bG:=List (Option SL)
def SL.own:SL->Bool
 | .val _=>false
 | .adr _=>false
 | _=>true
def SL.inn:SL->List ci
 | .rk bs _=>bs
 | _=>[]
def SL.has (s:SL) (x a:ci):Prop:=a=x\/a∈s.inn
def iV (K:Ab) (H:Hp) (a:ci):SL->Prop
 | .val _=>False
 | .adr b=>a=b
 | .rk bs ls=>H a=ap (.lst (bs.map V.ref))/\a∉bs/\bs.Nodup/\bs.length=ls.length/\∀(j:Nat) (b:ci) (l:List PV),bs[j]?=ap b->ls[j]?=ap l->∃ws,H b=ap (.lst ws)/\aO K [] H ws l
 | .ol q l=>(∀b,q=ap b->a=b)/\∃vs,H a=ap (.lst vs)/\aO K [] H vs l
 | .od kvs=>∃vs:List (Key×V),H a=ap (.dK vs)/\vs.map (·.1)=kvs.map (·.1)/\aO K [] H (vs.map (·.2)) (kvs.map (·.2))
 | .ot kvs=>∃vs:List (List Key×V),H a=ap (.dT vs)/\vs.map (·.1)=kvs.map (·.1)/\aO K [] H (vs.map (·.2)) (kvs.map (·.2))
 | .kM φ=>∃vs,H a=ap (.lst vs)/\φ vs
def wH (K:Ab) (H:Hp) (u:V) (s:SL):Prop:=(∃v,s=.val v/\VR K [] H u v)\/∃a,u=.ref a/\iV K H a s
def dH (σ:L2.St) (fs:bG) (a:ci):Prop:=∃(i:Nat) (s:SL) (x:ci),fs[i]?=ap (ap s)/\s.own=true/\σ[i]?=ap (ap (.ref x))/\s.has x a
def fe (σ:L2.St) (fs:bG) (φ:List V->Prop) (a:ci):Prop:=∃i:Nat,fs[i]?=ap (ap (.kM φ))/\σ[i]?=ap (ap (.ref a))
structure aX (K:Ab) (H:Hp) (σ:L2.St) (fs:bG):Prop where
 len:σ.length=fs.length
 at':∀(i:Nat) (s:SL),fs[i]?=ap (ap s)->∃u,σ[i]?=ap (ap u)/\wH K H u s
 nd:∀(i j:Nat) (s t:SL) (x y a:ci),fs[i]?=ap (ap s)->fs[j]?=ap (ap t)->s.own=true->t.own=true->σ[i]?=ap (ap (.ref x))->σ[j]?=ap (ap (.ref y))->s.has x a->t.has y a->i=j
structure cM (σ:L2.St) (fs:bG) (H:Hp) (σ':L2.St) (bT:bG) (H':Hp):Prop where
 keep:∀a o,H a=ap o->¬dH σ fs a->H' a=ap o/\¬dH σ' bT a
 there:∀a,H' a=bm->H a=bm
 pk:∀a φ,fe σ fs φ a->fe σ' bT φ a\/(¬dH σ' bT a/\∃vs,H' a=ap (.lst vs)/\φ vs)
structure di (σ:L2.St) (fs:bG) (H H':Hp):Prop where
 keep:∀a o,H a=ap o->(∀φ,¬fe σ fs φ a)->H' a=ap o
 there:∀a,H' a=bm->H a=bm
section
variable {σ σ' σ1 σ2:L2.St}{fs bT TV dP:bG}{H H' H1 H2:Hp}
def fe.xv (p:fe σ fs φ a):dH σ fs a:=let ⟨i,e1,e2⟩:=p;⟨i,_,_,e1,rfl,e2,.inl rfl⟩
def di.refl:di σ fs H H:=⟨λ_ _ h _=>h,λ_ h=>h⟩
def di.trans (a:di σ fs H H1) (b:di σ fs H1 H2):di σ fs H H2:=⟨λx o h n=>b.keep x o (a.keep x o h n) n,λx h=>a.there x (b.there x h)⟩
def di.f (g:di σ fs H H'):cM σ fs H σ fs H':=⟨λa o h n=>⟨g.keep a o h λφ p=>n p.xv,n⟩,g.there,λa φ p=>.inl p⟩
def di.qf (g:di σ fs H H') {o:HO} (h:H a=ap o) (n:¬dH σ fs a):H' a=ap o:=g.keep a o h λφ p=>n p.xv
def di.same (h:kz H H'):di σ fs H H':=⟨λa o e _=>h a o e,λa e=>(by
 cases z:H a with
 | none=>rfl
 | some o=>rw [h a o z] at e;cases e)⟩
def iV.ex {c:ci}{s:SL} (h:iV K H a s) (ho:s.own=true) (hc:s.has a c):∃o,H c=ap o/\(∀vs,o≠.tup vs)/\∀ob u,o≠.cT ob u:=by
 cases s with
 | val _=>exact h.elim
 | adr _=>cases ho
 | ol q l=>obtain⟨_,vs,e,_⟩:=h;rcases hc with rfl | hc;exact⟨_,e,by simp,by simp⟩;cases hc
 | rk bs ls=>
  obtain⟨e,_,_,hl,hb⟩:=h;rcases hc with rfl | hc
  ·exact⟨_,e,by simp,by simp⟩
  ·obtain⟨j,hj⟩:=CU (show c∈bs from hc);have h1:=(Ak.mp hj).1;obtain⟨ws,e,_⟩:=hb j c _ hj (Ad (by rw [<- hl];exact h1));exact⟨_,e,by simp,by simp⟩
 | od l=>obtain⟨vs,e,_⟩:=h;rcases hc with rfl | hc;exact⟨_,e,by simp,by simp⟩;cases hc
 | ot l=>obtain⟨vs,e,_⟩:=h;rcases hc with rfl | hc;exact⟨_,e,by simp,by simp⟩;cases hc
 | kM l=>obtain⟨vs,e,_⟩:=h;rcases hc with rfl | hc;exact⟨_,e,by simp,by simp⟩;cases hc
def aX.ownAt (s:aX K H σ fs) {t:SL} (h1:fs[i]?=ap (ap t)) (h2:t.own=true) (h3:σ[i]?=ap (ap (.ref a))):iV K H a t:=by
 obtain⟨u,e,r⟩:=s.at' i t h1;rw [h3] at e;cases e;rcases r with⟨v,rfl,_⟩ | ⟨b,e,r⟩
 ·cases h2
 ·cases e;exact r
def aX.xv (s:aX K H σ fs) (h:dH σ fs a):∃o,H a=ap o/\(∀vs,o≠.tup vs)/\∀ob u,o≠.cT ob u:=by
 obtain⟨i,t,x,h1,h2,h3,h4⟩:=h;exact (s.ownAt h1 h2 h3).ex h2 h4
def aX.noOwn (s:aX K H σ fs) (h:H a=bm):¬dH σ fs a:=λz=>by
 obtain⟨o,e,_⟩:=s.xv z;rw [h] at e;cases e
def aX.Xj (s:aX K H σ fs) (h:H a=ap (.tup vs)):¬dH σ fs a:=λz=>by
 obtain⟨o,e,n,_⟩:=s.xv z;rw [h] at e;cases e;exact n vs rfl
def aX.Xk (s:aX K H σ fs) (h:H a=ap (.cT ob u)):¬dH σ fs a:=λz=>by
 obtain⟨o,e,_,n⟩:=s.xv z;rw [h] at e;cases e;exact n ob u rfl
def cM.refl:cM σ fs H σ fs H:=⟨λ_ _ h n=>⟨h,n⟩,λ_ h=>h,λ_ _ h=>.inl h⟩
def cM.trans (a:cM σ fs H σ1 TV H1) (b:cM σ1 TV H1 σ2 dP H2):cM σ fs H σ2 dP H2:=
 ⟨λx o h n=>let ⟨h1,n1⟩:=a.keep x o h n;b.keep x o h1 n1,λx h=>a.there x (b.there x h),λx φ h=>(a.pk x φ h).elim (b.pk x φ) λ⟨n,vs,e,p⟩=>.inr (let ⟨h1,n1⟩:=b.keep x _ e n;⟨n1,vs,h1,p⟩)⟩
def cM.eQ (g:cM σ fs H σ' bT H') (s:aX K H σ fs):bB K H H':=
 ⟨λa vs h=>(g.keep a _ h (s.Xj h)).1,λa o u h=>(g.keep a _ h (s.Xk h)).1⟩
def VR.tk {u:V} (t:bB K H H') (r:VR K [] H u v):VR K [] H' u v:=r.mono t λ_ _ e=>e
def aO.tk {u:List V}{v:List PV} (t:bB K H H') (r:aO K [] H u v):aO K [] H' u v:=r.mono t λ_ _ e=>e
def cM.vr (g:cM σ fs H σ' bT H') (s:aX K H σ fs) {u:V} (r:VR K [] H u v):VR K [] H' u v:=VR.tk (g.eQ s) r
def di.eQ (g:di σ fs H H') (s:aX K H σ fs):bB K H H':=g.f.eQ s
def di.vr (g:di σ fs H H') (s:aX K H σ fs) {u:V} (r:VR K [] H u v):VR K [] H' u v:=VR.tk (g.eQ s) r
def di.Nn (g:di σ fs H H') (s:aX K H σ fs) {u:List V}{v:List PV} (r:aO K [] H u v):aO K [] H' u v:=aO.tk (g.eQ s) r
def iV.mono {s:SL} (t:bB K H H') (e:∀c o,s.own=true->s.has a c->H c=ap o->H' c=ap o) (h:iV K H a s):iV K H' a s:=by
 cases s with
 | val _=>exact h
 | adr _=>exact h
 | ol _ l=>obtain⟨z,vs,q,r⟩:=h;exact⟨z,vs,e _ _ rfl (.inl rfl) q,aO.tk t r⟩
 | rk bs ls=>
  obtain⟨z,h1,h2,h3,h4⟩:=h;refine⟨e _ _ rfl (.inl rfl) z,h1,h2,h3,λj b l hb hl=>?_⟩;obtain⟨ws,q,r⟩:=h4 j b l hb hl;exact⟨ws,e _ _ rfl (.inr (A7 hb)) q,aO.tk t r⟩
 | od l=>obtain⟨vs,q,k,r⟩:=h;exact⟨vs,e _ _ rfl (.inl rfl) q,k,aO.tk t r⟩
 | ot l=>obtain⟨vs,q,k,r⟩:=h;exact⟨vs,e _ _ rfl (.inl rfl) q,k,aO.tk t r⟩
 | kM φ=>obtain⟨vs,q,k⟩:=h;exact⟨vs,e _ _ rfl (.inl rfl) q,k⟩
def wH.mono {u:V}{s:SL} (t:bB K H H') (e:∀x a o,u=.ref x->s.own=true->s.has x a->H a=ap o->H' a=ap o) (h:wH K H u s):wH K H' u s:=by
 rcases h with⟨v,q,r⟩ | ⟨a,q,r⟩
 ·exact .inl ⟨v,q,VR.tk t r⟩
 ·exact .inr ⟨a,q,r.mono t (λc o z y w=>e a c o q z y w)⟩
def aX.same (s:aX K H σ fs) (h:kz H H'):aX K H' σ fs:=⟨s.len,λi t e=>let ⟨u,h1,h2⟩:=s.at' i t e;⟨u,h1,h2.mono h.fi (λ_ a o _ _ _ z=>h a o z)⟩,s.nd⟩
def cM.same (h:kz H H') (s:aX K H σ fs):cM σ fs H σ fs H':=⟨λa o e n=>⟨h a o e,n⟩,λa e=>(by
 cases z:H a with
 | none=>rfl
 | some o=>rw [h a o z] at e;cases e),λa φ p=>.inl p⟩
inductive jK:bG->bG->Prop
 | nil:jK [] []
 | drop {s:Option SL}{a b:bG} (h:jK a b):jK (s::a) (bm::b)
 | keep {s:Option SL}{a b:bG} (h:jK a b):jK (s::a) (s::b)
theorem jK.at {a b:bG} (h:jK a b):∀(i:Nat) (s:SL),b[i]?=ap (ap s)->a[i]?=ap (ap s):=by
 induction h with
 | nil=>intro i s e;simp at e
 | drop h ih=>intro i s e;cases i with | zero=>simp at e | succ i=>simp at e ⊢;exact ih i s e
 | keep h ih=>intro i s e;cases i with | zero=>simpa using e | succ i=>simp at e ⊢;exact ih i s e
theorem jK.length {a b:bG} (h:jK a b):a.length=b.length:=by induction h <;> simp_all
theorem jK.refl:∀a:bG,jK a a
 | []=>.nil
 | _::a=>.keep (jK.refl a)
def aX.le (s:aX K H σ fs) (h:jK fs bT):aX K H σ bT:=⟨s.len.trans h.length,λi t e=>s.at' i t (h.at i t e),λi j t u x y a e1 e2=>s.nd i j t u x y a (h.at i t e1) (h.at j u e2)⟩
def dH.le (h:jK fs bT) (o:dH σ bT a):dH σ fs a:=let ⟨i,t,x,e1,e2,e3⟩:=o;⟨i,t,x,h.at i t e1,e2,e3⟩
def cM.le (s:aX K H σ fs) (h:jK fs bT):cM σ fs H σ bT H:=⟨λa o e n=>⟨e,λz=>n (z.le h)⟩,λ_ e=>e,λa φ p=>by
 obtain⟨i,e1,e2⟩:=p;by_cases c:dH σ bT a
 ·obtain⟨j,t,x,c1,c2,c3,c4⟩:=c;have ij:=s.nd i j _ t a x a e1 (h.at j t c1) rfl c2 e2 c3 (.inl rfl) c4;subst ij;have:=h.at i t c1;rw [e1] at this;cases this;exact .inl ⟨i,c1,e2⟩
 ·obtain⟨vs,q,r⟩:=s.ownAt e1 rfl e2;exact .inr ⟨c,vs,q,r⟩⟩
def bo {l:List (Option α)}{x y:α} (h:(l.set i (ap x))[j]?=ap (ap y)):(j=i/\y=x)\/(j≠i/\l[j]?=ap (ap y)):=by
 by_cases c:j=i
 ·subst c;rw [List.getElem?_set] at h;simp at h;exact .inl ⟨rfl,h.2.symm⟩
 ·rw [Bd (λz=>c z.symm)] at h;exact .inr ⟨c,h⟩
def cF {l:List α}{x:α} (h:i < l.length):(l.set i x)[i]?=ap x:=by rw [List.getElem?_set];simp [h]
def aL {l:List α}{x:α} (h:j≠i):(l.set i x)[j]?=l[j]?:=Bd (λz=>h z.symm)
def aX.put (s:aX K H σ fs) {u:V}{t:SL} (hr:wH K H u t) (hf:∀x a,u=.ref x->t.own=true->t.has x a->∀(j:Nat) (w:SL) (y:ci),j≠i->fs[j]?=ap (ap w)->w.own=true->σ[j]?=ap (ap (.ref y))->¬w.has y a):aX K H (σ.set i (ap u)) (fs.set i (ap t)):=by
 refine⟨by simp [s.len],λj w e=>?_,λj k w x b1 b2 a e1 e2 o1 o2 q1 q2 z1 z2=>?_⟩
 ·rcases bo e with⟨rfl,rfl⟩ | ⟨n,e⟩
  ·have hl:j < σ.length:=by
    have:=(Ak.mp e).1;rw [B1] at this;rw [s.len];exact this
   exact⟨u,cF hl,hr⟩
  ·obtain⟨v,h1,h2⟩:=s.at' j w e;exact⟨v,by rw [aL n];exact h1,h2⟩
 ·rcases bo e1 with⟨y1,y2⟩ | ⟨n1,f1⟩ <;> rcases bo e2 with⟨y3,y4⟩ | ⟨n2,f2⟩
  ·exact y1.trans y3.symm
  ·subst y1;subst y2;rw [aL n2] at q2;have hl:j < σ.length:=by have:=(Ak.mp q1).1;simpa using this
   rw [cF hl] at q1;cases q1;exact absurd z2 (hf _ a rfl o1 z1 k x b2 n2 f2 o2 q2)
  ·subst y3;subst y4;rw [aL n1] at q1;have hl:k < σ.length:=by have:=(Ak.mp q2).1;simpa using this
   rw [cF hl] at q2;cases q2;exact absurd z1 (hf _ a rfl o2 z2 j w b1 n1 f1 o1 q1)
  ·rw [aL n1] at q1;rw [aL n2] at q2;exact s.nd j k w x b1 b2 a f1 f2 o1 o2 q1 q2 z1 z2
def aX.eR (s:aX K H σ fs) {u:V} (hr:VR K [] H u v) (i:Nat):aX K H (σ.set i (ap u)) (fs.set i (ap (.val v))):=s.put (.inl ⟨v,rfl,hr⟩) λ_ _ _ z=>by cases z
def zT {u:V}{t:SL} (o:dH (σ.set i (ap u)) (fs.set i (ap t)) a) (hl:σ.length=fs.length):dH σ fs a\/∃x,u=.ref x/\t.own=true/\t.has x a:=by
 obtain⟨j,w,x,e1,e2,e3,e4⟩:=o;rcases bo e1 with⟨rfl,rfl⟩ | ⟨n,e1⟩
 ·have h2:j < σ.length:=by have:=(Ak.mp e3).1;simpa using this
  rw [cF h2] at e3;cases e3;exact .inr ⟨x,rfl,e2,e4⟩
 ·rw [aL n] at e3;exact .inl ⟨j,w,x,e1,e2,e3,e4⟩
def Ka (s:aX K H σ fs) {u:V}{t:SL} (p:fe σ fs φ a) (hu:∀x,u=.ref x->t.own=true->t.has x a->t=.kM φ):fe (σ.set i (ap u)) (fs.set i (ap t)) φ a\/¬dH (σ.set i (ap u)) (fs.set i (ap t)) a:=by
 obtain⟨j,e1,e2⟩:=p;by_cases c:j=i
 ·subst c;by_cases c2:∃x,u=.ref x/\t.own=true/\t.has x a
  ·obtain⟨x,c3,c4,c5⟩:=c2;have hl:=(Ak.mp e2).1;have Mf:=(Ak.mp e1).1;have et:=hu x c3 c4 c5;subst et;rcases c5 with rfl | c5
   ·exact .inl ⟨j,by rw [cF Mf],by rw [cF hl,c3]⟩
   ·cases c5
  ·refine .inr λo=>?_;obtain⟨k,w,y,q1,q2,q3,q4⟩:=o;rcases bo q1 with⟨rfl,rfl⟩ | ⟨n,q1⟩
   ·have hl:=(Ak.mp e2).1;rw [cF hl] at q3;cases q3;exact c2 ⟨y,rfl,q2,q4⟩
   ·rw [aL n] at q3;exact n (s.nd k j w _ y a a q1 e1 q2 rfl q3 e2 q4 (.inl rfl))
 ·exact .inl ⟨j,by rw [aL c];exact e1,by rw [aL c];exact e2⟩
def cM.eR (s:aX K H σ fs) (u:V) (v:PV) (i:Nat):cM σ fs H (σ.set i (ap u)) (fs.set i (ap (.val v))) H:=
 ⟨λa o e n=>⟨e,λz=>(zT z s.len).elim n λ⟨_,_,z,_⟩=>by cases z⟩,λ_ e=>e,λa φ p=>(Ka s p (λ_ _ z=>by cases z)).imp id λn=>⟨n,by
  obtain⟨j,e1,e2⟩:=p;obtain⟨vs,q,r⟩:=s.ownAt e1 rfl e2;exact⟨vs,q,r⟩⟩⟩
def aX.Oo (s:aX K H σ fs) {t:SL} (hr:iV K H a t) (hn:∀c,t.has a c->¬dH σ fs c) (i:Nat):aX K H (σ.set i (ap (.ref a))) (fs.set i (ap t)):=s.put (.inr ⟨a,rfl,hr⟩) λx c e _ hc j w y n e1 e2 e3 z=>by
 cases e;exact hn c hc ⟨j,w,y,e1,e2,e3,z⟩
def xW {t:SL} (hi:t.inn=[]) {c:ci} (h:t.has a c):c=a:=by
 rcases h with h | h
 ·exact h
 ·rw [hi] at h;cases h
def aX.sE (s:aX K H σ fs) {t:SL} (hr:iV K H a t) (hn:¬dH σ fs a) (i:Nat) (hi:t.inn=[]:=by rfl):aX K H (σ.set i (ap (.ref a))) (fs.set i (ap t)):=s.Oo hr (λc hc=>by rw [xW hi hc];exact hn) i
def cM.Oo (s:aX K H1 σ fs) (g:cM σ fs H σ fs H1) {t:SL} (hn:∀c,t.has a c->¬dH σ fs c) (h0:∀c,t.has a c->H c=bm) (i:Nat):cM σ fs H (σ.set i (ap (.ref a))) (fs.set i (ap t)) H1:=by
 refine⟨λb o e n=>⟨(g.keep b o e n).1,λz=>(zT z s.len).elim n λ⟨x,z,_,y⟩=>?_⟩,g.there,λb φ p=>?_⟩
 ·cases z;rw [h0 b y] at e;cases e
 ·obtain⟨j,e1,e2⟩:=p;obtain⟨vs,q,r⟩:=s.ownAt e1 rfl e2;refine (Ka (t:=t) s ⟨j,e1,e2⟩ (λx z o y=>?_)).imp id λn=>⟨n,vs,q,r⟩;cases z;exact absurd ⟨j,_,_,e1,rfl,e2,.inl rfl⟩ (hn b y)
def cM.sE (s:aX K H1 σ fs) (g:cM σ fs H σ fs H1) {t:SL} (hn:¬dH σ fs a) (h0:H a=bm) (i:Nat) (hi:t.inn=[]:=by rfl):cM σ fs H (σ.set i (ap (.ref a))) (fs.set i (ap t)) H1:=cM.Oo s g (λc hc=>by rw [xW hi hc];exact hn) (λc hc=>by rw [xW hi hc];exact h0) i
def qb (s:aX K H σ fs) {t t':SL}{c:ci} (e1:fs[i]?=ap (ap t)) (o:t.own=true) (np:∀φ,t≠.kM φ) (e2:σ[i]?=ap (ap (.ref a))) (hc:t.has a c) (Ri:t'.has a c) (u0:∀b,t'.has a b->t.has a b) (o':t'.own=true) (sx:oV c H H') (ht:bB K H H'->iV K H' a t'):aX K H' σ (fs.set i (ap t'))/\cM σ fs H σ (fs.set i (ap t')) H':=by
 have oa:=s.ownAt e1 o e2;obtain⟨ob,q,n1,n2⟩:=oa.ex o hc;have tk:bB K H H':=⟨λb vs z=>sx b _ (λy=>by subst y;rw [q] at z;cases z;exact n1 _ rfl) z,λb o u z=>sx b _ (λy=>by subst y;rw [q] at z;cases z;exact n2 _ _ rfl) z⟩;have YZ:=ht tk;have hi:i < fs.length:=(Ak.mp e1).1;have Sw:∀b,dH σ (fs.set i (ap t')) b->dH σ fs b:=λb z=>by
  obtain⟨j,w,x,z1,z2,z3,z4⟩:=z;rcases bo z1 with⟨rfl,rfl⟩ | ⟨n,z1⟩
  ·rw [e2] at z3;cases z3;exact⟨j,t,a,e1,o,e2,u0 b z4⟩
  ·exact⟨j,w,x,z1,z2,z3,z4⟩
 refine⟨⟨by simp [s.len],λj w e=>?_,λj k w x b1 b2 b z1 z2 o1 o2 q1 q2 y1 y2=>?_⟩,⟨λb ob e n=>⟨sx b ob (λz=>by subst z;exact n ⟨i,t,a,e1,o,e2,hc⟩) e,λz=>n (Sw b z)⟩,λb e=>?_,λb φ p=>?_⟩⟩
 ·rcases bo e with⟨rfl,rfl⟩ | ⟨n,e⟩
  ·exact⟨_,e2,.inr ⟨a,rfl,YZ⟩⟩
  ·obtain⟨u,h1,h2⟩:=s.at' j w e;refine⟨u,h1,h2.mono tk (λx b ob eb ow hb z=>sx b ob (λy=>?_) z)⟩;subst y;subst eb;exact n (s.nd j i w t x a b e e1 ow o h1 e2 hb hc)
 ·have f:∀{j:Nat}{w:SL}{y:ci},(fs.set i (ap t'))[j]?=ap (ap w)->w.own=true->σ[j]?=ap (ap (.ref y))->w.has y b->∃w',fs[j]?=ap (ap w')/\w'.own=true/\w'.has y b:=λ{j w y} z ow qy hy=>by
   rcases bo z with⟨rfl,rfl⟩ | ⟨n,z⟩
   ·rw [e2] at qy;cases qy;exact⟨t,e1,o,u0 b hy⟩
   ·exact⟨w,z,ow,hy⟩
  obtain⟨w',a1,a2,a3⟩:=f z1 o1 q1 y1;obtain⟨x',c1,c2,c3⟩:=f z2 o2 q2 y2;exact s.nd j k w' x' b1 b2 b a1 c1 a2 c2 q1 q2 a3 c3
 ·cases z:H b with
  | none=>rfl
  | some ob=>
   by_cases cc:b=c
   ·subst cc;obtain⟨o2,y,_⟩:=YZ.ex o' Ri;rw [e] at y;cases y
   ·rw [sx b ob cc z] at e;cases e
 ·obtain⟨j,p1,p2⟩:=p;have ji:j≠i:=λz=>by subst z;rw [e1] at p1;cases p1;exact np φ rfl
  exact .inl ⟨j,by rw [aL ji];exact p1,p2⟩
def mU (s:aX K H σ fs) {t t':SL} (e1:fs[i]?=ap (ap t)) (o:t.own=true) (np:∀φ,t≠.kM φ) (e2:σ[i]?=ap (ap (.ref a))) (sx:oV a H H') (ht:bB K H H'->iV K H' a t') (hi:t'.inn=t.inn:=by rfl) (o':t'.own=true:=by rfl):aX K H' σ (fs.set i (ap t'))/\cM σ fs H σ (fs.set i (ap t')) H':=
 qb s e1 o np e2 (.inl rfl) (.inl rfl) (λb h=>by unfold SL.has at h ⊢;rw [hi] at h;exact h) o' sx ht
end
end
end FL
open FL.W renaming bind→am,ret→bd,run_bind→ce,aj→ev,ai→f8,az→pr,aB→sw,ext'→wS
local macro_rules | `($a\$b)=>`(am (bd $a) $b)
variable {u:L2.V}{b:BU}{fs bT:FL.bG}{es:List BU}{σ':L2.St}{wa wb wc:FL.W PL.PV}{wl:FL.W (List PL.PV)}
namespace FL
section
open PySem PySem.Spec PyProof.Rows L2 PL
variable {K:Ab}
def fE (K:Ab) (fs:bG) (w:W PV):TE:=λσ H Q=>aX K H σ fs/\w.run λv=>∀u H',di σ fs H H'->aX K H' σ fs->VR K [] H' u v->Q u H'
def fT (K:Ab) (fs:bG) (w:W Bool):TT:=λσ H Q=>aX K H σ fs/\w.run λb=>∀H',di σ fs H H'->aX K H' σ fs->Q b H'
def fO (K:Ab) (fs:bG) (w:W (Option Int)):TO:=λσ H Q=>aX K H σ fs/\w.run λb=>∀H',di σ fs H H'->aX K H' σ fs->Q b H'
def fL (K:Ab) (fs:bG) (w:W (List PV)):TE:=λσ H Q=>aX K H σ fs/\w.run λl=>∀a vs H',di σ fs H H'->aX K H' σ fs->H a=bm->H' a=ap (.lst vs)->aO K [] H' vs l->Q (.ref a) H'
def YM (K:Ab) (H:Hp) (u:V) (l:List PV):Prop:=∃a vs,u=.ref a/\(VQ K H a vs\/H a=ap (.tup vs))/\aO K [] H vs l
def UG (K:Ab) (σ:L2.St) (fs:bG) (H:Hp) (u:V) (l:List PV):Prop:=YM K H u l\/∃a,u=.ref a/\((¬dH σ fs a/\∃vs,H a=ap (.lst vs)/\aO K [] H vs l)\/∃(i:Nat) (q:Option ci),fs[i]?=ap (ap (.ol q l))/\σ[i]?=ap (ap (.ref a)))
def fQ (K:Ab) (fs:bG) (w:W (List PV)):TE:=λσ H Q=>aX K H σ fs/\w.run λl=>∀u H',di σ fs H H'->aX K H' σ fs->UG K σ fs H' u l->Q u H'
def fI (K:Ab) (fs:bG) (w:W (List PV)):TE:=λσ H Q=>aX K H σ fs/\w.run λl=>∀u H',di σ fs H H'->aX K H' σ fs->YM K H' u l->Q u H'
inductive AK where
 | v | p (φ:List V->Prop) | f (a:ci)
inductive gm (K:Ab) (σ:L2.St) (fs:bG) (H:Hp):List V->List AK->List PV->Prop
 | nil:gm K σ fs H [] [] []
 | v {u:V}{x:PV}{vs:List V}{ks:List AK}{l:List PV} (r:VR K [] H u x) (t:gm K σ fs H vs ks l):gm K σ fs H (u::vs) (.v::ks) (x::l)
 | p {a:ci}{φ:List V->Prop}{vs:List V}{ks:List AK}{l:List PV} (r:fe σ fs φ a) (t:gm K σ fs H vs ks l):gm K σ fs H (.ref a::vs) (.p φ::ks) l
 | f {a:ci}{vs:List V}{ks:List AK}{l:List PV} (t:gm K σ fs H vs ks l):gm K σ fs H (.ref a::vs) (.f a::ks) l
def fA (K:Ab) (fs:bG) (ks:List AK) (w:W (List PV)):TA:=λσ H Q=>aX K H σ fs/\w.run λl=>∀vs H',di σ fs H H'->aX K H' σ fs->gm K σ fs H' vs ks l->Q vs H'
structure EF (X:Cx) (K:Ab) (fs:bG) (e:ga) (w:W PV):Prop where p:PE X e (fE K fs w)
structure LF (X:Cx) (K:Ab) (fs:bG) (e:ga) (w:W (List PV)):Prop where p:PE X e (fL K fs w)
structure QF (X:Cx) (K:Ab) (fs:bG) (e:ga) (w:W (List PV)):Prop where p:PE X e (fQ K fs w)
structure IF (X:Cx) (K:Ab) (fs:bG) (e:ga) (w:W (List PV)):Prop where p:PE X e (fI K fs w)
structure TF (X:Cx) (K:Ab) (fs:bG) (e:ga) (w:W Bool):Prop where p:PT X e (fT K fs w)
structure qV (X:Cx) (K:Ab) (fs:bG) (e:ga) (w:W Bool):Prop where p:PW X e (fT K fs w)
structure OF (X:Cx) (K:Ab) (fs:bG) (e:Option ga) (w:W (Option Int)):Prop where p:L2.PO X e (fO K fs w)
structure AF (X:Cx) (K:Ab) (fs:bG) (es:List ga) (ks:List AK) {R:Type} (B:(List PV->W R)->W R):Prop where
 p:∃w:W (List PV),PA X es (fA K fs ks w)/\∀k,B k=am w k
section
def YM.tk (t:bB K H H') (h:YM K H u l):YM K H' u l:=by
 obtain⟨a,vs,e,q,r⟩:=h;exact⟨a,vs,e,q.imp (t.f _ _) (t.t _ _),aO.tk t r⟩
def UG.go (h:UG K σ fs H u l) (s:aX K H σ fs) (g:di σ fs H H'):UG K σ fs H' u l:=by
 rcases h with h | ⟨a,e,⟨n,vs,q,r⟩ | q⟩
 ·exact .inl (h.tk (g.eQ s))
 ·exact .inr ⟨a,e,.inl ⟨n,vs,(g.qf q n),g.Nn s r⟩⟩
 ·exact .inr ⟨a,e,.inr q⟩
def UG.sq (h:UG K σ fs H u l) (s:aX K H σ fs):∃a vs,u=.ref a/\(dc K H a vs\/d9 K H a vs)/\aO K [] H vs l:=by
 rcases h with⟨a,vs,e,q,r⟩ | ⟨a,e,⟨n,vs,q,r⟩ | ⟨i,_,q1,q2⟩⟩
 ·exact⟨a,vs,e,q.elim (λq=>.inl q.sq) λq=>.inr (d9.of q),r⟩
 ·exact⟨a,vs,e,.inl (dc.of q),r⟩
 ·obtain⟨_,vs,q,r⟩:=s.ownAt q1 rfl q2;exact⟨a,vs,e,.inl (dc.of q),r⟩
end
section
variable {a c o:ga}{rest:List ga}{w:W PV}
def ae (i:Nat) (hs:fs[i]?=ap (ap (.val v)):=by rfl) (hN:X.N[i]?=ap x:=by rfl) (hv:yN X.env.scope x:=by first | exact CI rfl | exact Cy (CI rfl) | exact Cy (Cy rfl)) (hd:jh x:=by decide) (iY:y9 x:=by decide):EF X K fs (.Name x pos) (.ret v):=
 ⟨PE.imp (dz hN hv hd iY) λσ H Q ⟨sr,q⟩=>by
  obtain⟨u,e1,r⟩:=sr.at' i _ hs;rcases r with⟨w,e,r⟩ | ⟨a,_,r⟩
  ·cases e;exact⟨u,e1,q u H .refl sr r⟩
  ·exact r.elim⟩
def Zh {v:V}{p:PV} (hv:∀H,VR K [] H v p) (h:PE X e (tC v)):EF X K fs e (.ret p):=⟨PE.imp h λσ H Q ⟨sr,q⟩=>q v H .refl sr (hv _)⟩
def ao {i j}:EF X K fs (.Constant (.int i) j pos) (.ret (.int i)):=Zh (λ_=>.int i) WZ
def lO {b j}:EF X K fs (.Constant (.bool b) j pos) (.ret (.bl b)):=Zh (λ_=>.bl b) aaA
def ug {j}:EF X K fs (.Constant .none j pos) (.ret .aV):=Zh (λ_=>.aV) WY
def ir {x j}:EF X K fs (.Constant (.str x) j pos) (.ret (.str x)):=Zh (λ_=>.str x) WV
def yn {i:Int}{t:Tok} (hm:X.mg x=ap (.int i t)) (hg:Gl X x) (hd:jh x:=by decide):EF X K fs (.Name x pos) (.ret (.int i)):=Zh (λ_=>.int i) (rf hg hm ⟨_,rfl⟩ hd)
def uh {i:Str}{t:Tok} (hm:X.mg x=ap (.str i t)) (hg:Gl X x) (hd:jh x:=by decide):EF X K fs (.Name x pos) (.ret (.str i)):=Zh (λ_=>.str i) (rf hg hm ⟨_,rfl⟩ hd)
def of2 (m:M2) (x y:PV):W PV:=⟨λQ=>m.f x y [] λz h=>h=[]/\Q z,λf q=>m.mono (λ_ _ q=>⟨q.1,f _ q.2⟩) q⟩
def hr0 (H:Hp):HR K [] H []:=⟨Fm,rfl,λn a o e _=>by simp at e⟩
def pq0 {Q:VK}{z:PV}{h:PH} (sr:aX K H σ fs) (q:h=[]/\∀u H',di σ fs H H'->aX K H' σ fs->VR K [] H' u z->Q u H'):pQ K [] H Q z h:=λι' v H' g r x=>by
 obtain⟨e,q⟩:=q;subst e;have:ι'=[]:=DH r.len;subst this;have sm:kz H H':=λa o z=>g.keep a o (by simp) z;exact q v H' (di.same sm) (sr.same sm) x
def xA {r:R2}{m:M2} (hm:M2.Ok K r m) {Q:VK}{v:V}{x y:PV} (sr:aX K H σ fs) (hu:VR K [] H u x) (hv:VR K [] H v y) (q:(of2 m x y).run λz=>∀u H',di σ fs H H'->aX K H' σ fs->VR K [] H' u z->Q u H'):r u v H Q:=
 hm (hr0 H) hu hv (m.mono (λz h q=>pq0 sr q) q)
def KW {r:R2}{m:M2} (hm:M2.Ok K r m):∀σ H Q,fE K fs (.bind wa λx=>.bind wb λy=>of2 m x y) σ H Q->UX r (fE K fs wa) (fE K fs wb) σ H Q:=λσ H Q ⟨sr,q⟩=>
 ⟨sr,wa.mono (λx q1 u1 H1 g1 s1 v1=>⟨s1,wb.mono (λy q2 u2 H2 g2 s2 v2=>xA hm s2 (g2.vr s1 v1) v2 ((of2 m x y).mono (λz q u3 H3 g3 s3 v3=>q u3 H3 ((g1.trans g2).trans g3) s3 v3) q2)) q1⟩) q⟩
def Qp {op:Operator}{r:R2}{m:M2} (ho:iy X (ss op) r) (hm:M2.Ok K r m) (ha:EF X K fs a wa) (hb:EF X K fs b wb):EF X K fs (.BinOp a op b pos) (.bind wa λx=>.bind wb λy=>of2 m x y):=⟨PE.imp (Kc ho ha.p hb.p) (KW hm)⟩
def oE (ha:EF X K fs a wa) (hb:EF X K fs b wb):EF X K fs (.BinOp a .Sub b pos) (.bind wa λx=>.bind wb λy=>of2 pw x y):=Qp W6 (GZ λ_ _ _ _=>.int _) ha hb
def qj (ha:EF X K fs a wa) (hb:EF X K fs b wb):EF X K fs (.BinOp a .Mult b pos) (.bind wa λx=>.bind wb λy=>of2 pz x y):=Qp SA (yM λ_ _ _ _=>.int _) ha hb
def VG (ha:EF X K fs a wa) (hb:EF X K fs b wb):EF X K fs (.BinOp a .FloorDiv b pos) (.bind wa λx=>.bind wb λy=>of2 oDiv x y):=Qp SD (yM λ_ _ _ _=>.int _) ha hb
def oG (ha:EF X K fs a wa) (hb:EF X K fs b wb):EF X K fs (.BinOp a .Mod b pos) (.bind wa λx=>.bind wb λy=>of2 oMod x y):=Qp Xa (yM λ_ _ _ _=>.int _) ha hb
def Qn (ha:EF X K fs a wa) (hb:EF X K fs b wb):EF X K fs (.BinOp a .Pow b pos) (.bind wa λx=>.bind wb λy=>of2 zV x y):=Qp W8 (yM λ_ _ _ _=>.int _) ha hb
def nZ:PV->W PV
 | .int i=>.ret (.int (-i))
 | _=>.fail
def kH (ha:EF X K fs a wa):EF X K fs (.UnaryOp .USub a pos) (.bind wa nZ):=⟨PE.imp (aaw V4 ha.p) λσ H Q ⟨sr,q⟩=>⟨sr,wa.mono (λx q1 u1 H1 g1 s1 v1=>by
 cases v1 with
 | int i=>exact⟨_,rfl,q1 _ H1 g1 s1 (.int _)⟩
 | _=>exact q1.elim) q⟩⟩
def Zl:PV->W Bool
 | .bl b=>.ret b
 | _=>.fail
def iT {m:M2} (hc:JC X K op b m) (ha:EF X K fs a wa) (hb:EF X K fs b wb):EF X K fs (.Compare a [op] [b] pos) (.bind wa λx=>.bind wb λy=>of2 m x y):=let ⟨_,h1,h2⟩:=hc.p;⟨PE.imp (rg h1 ha.p hb.p hc.k) (KW h2)⟩
def T4 {w:W PV}:∀σ H Q,fT K fs (.bind w Zl) σ H Q->(fE K fs w) σ H λx H'=>∃k,x=.bl k/\Q k H':=λσ H Q ⟨sr,q⟩=>⟨sr,w.mono (λx q1 u1 H1 g1 s1 v1=>by
 cases v1 with
 | bl b=>exact⟨b,rfl,q1 H1 g1 s1⟩
 | _=>exact q1.elim) q⟩
def dr {m:M2} (hc:JC X K op b m) (ha:EF X K fs a wa) (hb:EF X K fs b wb):TF X K fs (.Compare a [op] [b] pos) (.bind wa λx=>.bind wb λy=>.bind (of2 m x y) Zl):=let ⟨_,h1,h2⟩:=hc.p
 ⟨PT.imp (q9 h1 ha.p hb.p hc.k) λσ H Q q=>KW h2 σ H _ (T4 (w:=.bind wa λx=>.bind wb λy=>of2 m x y) σ H Q q)⟩
def lP (z:PV) (w:W PV):W PV:=match z with
 | .bl true=>w
 | .bl false=>.ret (.bl false)
 | _=>.fail
def Gy {r:R2}{m m':M2} (hm:M2.Ok K r m) (hm':M2.Ok K r' m'):∀σ H Q,fE K fs (.bind wa λx=>.bind wb λy=>.bind (of2 m x y) λz=>lP z (.bind wc λw=>of2 m' y w)) σ H Q->Hu r r' (fE K fs wa) (fE K fs wb) (fE K fs wc) σ H Q:=λσ H Q ⟨sr,q⟩=>
 ⟨sr,wa.mono (λx q1 u1 H1 g1 s1 v1=>⟨s1,wb.mono (λy q2 u2 H2 g2 s2 v2=>xA hm s2 (g2.vr s1 v1) v2 ((of2 m x y).mono (λz q3 u3 H3 g3 s3 v3=>by
  have gg:=(g1.trans g2).trans g3;cases v3 with
  | bl k=>
   cases k with
   | true=>exact⟨true,rfl,by rw [if_pos rfl];exact⟨s3,wc.mono (λw q4 u4 H4 g4 s4 v4=>xA hm' s4 ((g3.trans g4).vr s2 v2) v4 ((of2 m' y w).mono (λz q u5 H5 g5 s5 v5=>q u5 H5 ((gg.trans g4).trans g5) s5 v5) q4)) q3⟩⟩
   | false=>exact⟨false,rfl,by rw [if_neg AV];exact q3 _ H3 gg s3 (.bl _)⟩
  | _=>exact q3.elim) q2)) q1⟩) q⟩
def Ug {m m':M2} (hc:JC X K op b m) (Ri:JC X K Nq c m') (ha:EF X K fs a wa) (hb:EF X K fs b wb) (hd:EF X K fs c wc) (hk:lastMarks [op,Nq] [b,c]=false:=by with_unfolding_all rfl):EF X K fs (.Compare a [op,Nq] [b,c] pos) (.bind wa λx=>.bind wb λy=>.bind (of2 m x y) λz=>lP z (.bind wc λw=>of2 m' y w)):=
 let ⟨_,h1,h2⟩:=hc.p;let ⟨_,h3,h4⟩:=Ri.p;⟨PE.imp (OH h1 h3 ha.p hb.p hd.p hk) (Gy h2 h4)⟩
def RG {m m':M2} (hc:JC X K op b m) (Ri:JC X K Nq c m') (ha:EF X K fs a wa) (hb:EF X K fs b wb) (hd:EF X K fs c wc) (hk:lastMarks [op,Nq] [b,c]=false:=by with_unfolding_all rfl):TF X K fs (.Compare a [op,Nq] [b,c] pos) (.bind wa λx=>.bind wb λy=>.bind (of2 m x y) λz=>.bind (lP z (.bind wc λw=>of2 m' y w)) Zl):=
 let ⟨_,h1,h2⟩:=hc.p;let ⟨_,h3,h4⟩:=Ri.p;⟨PT.imp (Ot h1 h3 ha.p hb.p hd.p hk) λσ H Q q=>Gy h2 h4 σ H _ (T4 (w:=.bind wa λx=>.bind wb λy=>.bind (of2 m x y) λz=>lP z (.bind wc λw=>of2 m' y w)) σ H Q q)⟩
def Nb (x:PV) (w:W PV):W PV:=match x with
 | .bl true=>w
 | .bl false=>.ret (.bl false)
 | _=>.fail
def orW (x:PV) (w:W PV):W PV:=match x with
 | .bl true=>.ret (.bl true)
 | .bl false=>w
 | _=>.fail
def SU:PV->W PV
 | .bl b=>.ret (.bl (!b))
 | _=>.fail
def mK (ha:EF X K fs a wa) (hb:EF X K fs (.BoolOp .And (b::rest) pos) wb):EF X K fs (.BoolOp .And (a::b::rest) pos) (.bind wa λx=>Nb x wb):=⟨PE.imp (W4 ha.p hb.p) λσ H Q ⟨sr,q⟩=>⟨sr,wa.mono (λx q1 u1 H1 g1 s1 v1=>by
 cases v1 with
 | bl k=>
  cases k with
  | true=>exact⟨true,rfl,by rw [if_pos rfl];exact⟨s1,wb.mono (λ_ q u H' g s v=>q u H' (g1.trans g) s v) q1⟩⟩
  | false=>exact⟨false,rfl,by rw [if_neg AV];exact q1 _ H1 g1 s1 (.bl _)⟩
 | _=>exact q1.elim) q⟩⟩
def ab0 (ha:EF X K fs a wa) (hb:EF X K fs (.BoolOp .Or (b::rest) pos) wb):EF X K fs (.BoolOp .Or (a::b::rest) pos) (.bind wa λx=>orW x wb):=⟨PE.imp (aax ha.p hb.p) λσ H Q ⟨sr,q⟩=>⟨sr,wa.mono (λx q1 u1 H1 g1 s1 v1=>by
 cases v1 with
 | bl k=>
  cases k with
  | true=>exact⟨true,rfl,by rw [if_pos rfl];exact q1 _ H1 g1 s1 (.bl _)⟩
  | false=>exact⟨false,rfl,by rw [if_neg AV];exact⟨s1,wb.mono (λ_ q u H' g s v=>q u H' (g1.trans g) s v) q1⟩⟩
 | _=>exact q1.elim) q⟩⟩
def mJ {op} (h:EF X K fs a wa):EF X K fs (.BoolOp op [a] pos) wa:=⟨WW h.p⟩
def VE (ha:EF X K fs a wa):EF X K fs (.UnaryOp .Not a pos) (.bind wa SU):=⟨PE.imp (WX ha.p) λσ H Q ⟨sr,q⟩=>⟨sr,wa.mono (λx q1 u1 H1 g1 s1 v1=>by
 cases v1 with
 | bl k=>exact⟨_,rfl,q1 _ H1 g1 s1 (.bl _)⟩
 | _=>exact q1.elim) q⟩⟩
variable {ta tb tc:W Bool}
def iD (h:TF X K fs a ta):qV X K fs (.BoolOp .And [a] pos) ta:=⟨Sb h.p⟩
def jQ (h:TF X K fs a ta):qV X K fs (.BoolOp .Or [a] pos) ta:=⟨WI h.p⟩
def kX (ha:TF X K fs a ta) (hb:qV X K fs (.BoolOp .And (b::rest) pos) tb):qV X K fs (.BoolOp .And (a::b::rest) pos) (.bind ta λk=>if k=true then tb else .ret false):=⟨PW.imp (WJ ha.p hb.p) λσ H Q ⟨sr,q⟩=>⟨sr,ta.mono (λk q1 H1 g1 s1=>by
 cases k with
 | true=>exact uX ⟨s1,tb.mono (λ_ q H' g s=>q H' (g1.trans g) s) q1⟩
 | false=>exact uY (q1 H1 g1 s1)) q⟩⟩
def nG (ha:TF X K fs a ta) (hb:qV X K fs (.BoolOp .Or (b::rest) pos) tb):qV X K fs (.BoolOp .Or (a::b::rest) pos) (.bind ta λk=>if k=true then .ret true else tb):=⟨PW.imp (aat ha.p hb.p) λσ H Q ⟨sr,q⟩=>⟨sr,ta.mono (λk q1 H1 g1 s1=>by
 cases k with
 | true=>exact uX (q1 H1 g1 s1)
 | false=>exact uY ⟨s1,tb.mono (λ_ q H' g s=>q H' (g1.trans g) s) q1⟩) q⟩⟩
def qV.t (h:qV X K fs a ta):TF X K fs a ta:=⟨PW.pt h.p⟩
def iE (ha:TF X K fs a ta):TF X K fs (.UnaryOp .Not a pos) (.bind ta λk=>.ret (!k)):=⟨PT.imp (WM ha.p) λσ H Q ⟨sr,q⟩=>⟨sr,q⟩⟩
def IZ (hc:TF X K fs c tc) (ha:EF X K fs a wa) (hb:EF X K fs b wb):EF X K fs (.IfExp c a b pos) (.bind tc λk=>if k=true then wa else wb):=⟨PE.imp (zO hc.p ha.p hb.p) λσ H Q ⟨sr,q⟩=>⟨sr,tc.mono (λk q1 H1 g1 s1=>by
 cases k with
 | true=>exact uX ⟨s1,wa.mono (λ_ q u H' g s v=>q u H' (g1.trans g) s v) q1⟩
 | false=>exact uY ⟨s1,wb.mono (λ_ q u H' g s v=>q u H' (g1.trans g) s v) q1⟩) q⟩⟩
def aaY {la lb:W (List PV)} (hc:TF X K fs c tc) (ha:LF X K fs a la) (hb:LF X K fs b lb):LF X K fs (.IfExp c a b pos) (.bind tc λk=>if k=true then la else lb):=⟨PE.imp (zO hc.p ha.p hb.p) λσ H Q ⟨sr,q⟩=>⟨sr,tc.mono (λk q1 H1 g1 s1=>by
 cases k with
 | true=>exact uX ⟨s1,la.mono (λ_ q a vs H' g s n e v=>q a vs H' (g1.trans g) s (g1.there a n) e v) q1⟩
 | false=>exact uY ⟨s1,lb.mono (λ_ q a vs H' g s n e v=>q a vs H' (g1.trans g) s (g1.there a n) e v) q1⟩) q⟩⟩
def cI:PV->W Bool
 | .aV=>.ret false
 | .bl b=>.ret b
 | .int i=>.ret (i != 0)
 | .str y=>.fD (y.length<=sizeLine) (.ret ((y.length:Int) != 0))
 | .tup l=>.ret (!l.isEmpty)
 | .cl l=>.ret (!l.isEmpty)
 | _=>.fail
def bH (hK:X.K=K) (ha:EF X K fs a wa) (he:∀Æ,isTrue a X.env Æ=(do let v <- Æ;FM a.pos;r9 [v] (truthy v))):TF X K fs a (.bind wa cI):=⟨PT.imp (vG K hK ha.p he) λσ H Q ⟨sr,q⟩=>⟨sr,wa.mono (λx q1 u1 H1 g1 s1 v1=>by
 cases v1 with
 | aV=>exact⟨false,rfl,q1 H1 g1 s1⟩
 | bl b=>exact⟨b,rfl,q1 H1 g1 s1⟩
 | int i=>exact⟨_,rfl,q1 H1 g1 s1⟩
 | str y=>exact⟨_,⟨q1.1,rfl⟩,q1.2 H1 g1 s1⟩
 | ty _=>exact q1.elim
 | dk _ _ _=>exact q1.elim
 | dt _ _ _=>exact q1.elim
 | ref _=>exact q1.elim
 | @tup p vs l e rs=>
  refine⟨!vs.isEmpty,.inr (.inl ⟨_,d9.of e,rfl⟩),?_⟩;rw [<- lF rs];exact q1 H1 g1 s1
 | @cl p vs l e rs=>
  refine⟨!vs.isEmpty,.inl ⟨_,e.sq,rfl⟩,?_⟩;rw [<- lF rs];exact q1 H1 g1 s1) q⟩⟩
def NL (hK:X.K=K) (ha:QF X K fs a wl) (he:∀Æ,isTrue a X.env Æ=(do let v <- Æ;FM a.pos;r9 [v] (truthy v))):TF X K fs a (.bind wl λl=>.ret (!l.isEmpty)):=⟨PT.imp (vG K hK ha.p he) λσ H Q ⟨sr,q⟩=>⟨sr,wl.mono (λl q1 u1 H1 g1 s1 v1=>by
 obtain⟨b,vs,rfl,h,rs⟩:=v1.sq s1;refine⟨!vs.isEmpty,?_,?_⟩
 ·exact h.elim (λh=>.inl ⟨_,h,rfl⟩) λh=>.inr (.inl ⟨_,h,rfl⟩)
 ·rw [<- lF rs];exact q1 H1 g1 s1) q⟩⟩
variable {R:Type}{ks:List AK}{B:(List PV->W R)->W R}
def ak:AF X K fs [] [] (R:=R) (λk=>k []):=⟨.ret [],PA.imp cy λσ H Q ⟨sr,q⟩=>q [] H .refl sr .nil,λk=>rfl⟩
def af (ha:EF X K fs e w) (hr:AF X K fs es ks B) (hs:gR X e es:=by rfl):AF X K fs (e::es) (.v::ks) (λk=>.bind w λx=>B λl=>k (x::l)):=by
 obtain⟨wr,hp,hB⟩:=hr.p;refine⟨.bind w λx=>.bind wr λl=>.ret (x::l),PA.imp (bc ha.p hp hs) λσ H Q ⟨sr,q⟩=>?_,λk=>?_⟩
 ·exact⟨sr,w.mono (λx q1 u1 H1 g1 s1 v1=>⟨s1,wr.mono (λl q2 vs H2 g2 s2 v2=>q2 _ H2 (g1.trans g2) s2 (.v (g2.vr s1 v1) v2)) q1⟩) q⟩
 ·have:(λx=>B λl=>k (x::l))=λx=>am wr λl=>k (x::l):=funext λx=>hB _;rw [this];rfl
def bU (i:Nat) (hr:AF X K fs es ks B) (hs:fs[i]?=ap (ap (.kM φ)):=by rfl) (hN:X.N[i]?=ap x:=by rfl) (hv:yN X.env.scope x:=by first | exact CI rfl | exact Cy (CI rfl) | exact Cy (Cy rfl)) (hd:jh x:=by decide) (iY:y9 x:=by decide)
  (qI:d5 (.Name x pos::es) X.env=(false,kw (.Name x pos) X.env)::d5 es X.env:=by rfl):AF X K fs (.Name x pos::es) (.p φ::ks) B:=by
 obtain⟨wr,hp,hB⟩:=hr.p;refine⟨wr,PA.imp (bc (dz hN hv hd iY) hp qI) λσ H Q ⟨sr,q⟩=>?_,hB⟩;obtain⟨u,e1,r⟩:=sr.at' i _ hs;rcases r with⟨v,e,_⟩ | ⟨a,e,r⟩
 ·cases e
 ·subst e;exact⟨_,e1,sr,wr.mono (λl q2 vs H2 g2 s2 v2=>q2 _ H2 g2 s2 (.p ⟨i,hs,e1⟩ v2)) q⟩
theorem gm.Nn:∀{vs:List V}{n:Nat}{l:List PV},gm K σ fs H vs (Am n .v) l->aO K [] H vs l/\l.length=n
 | _,0,_,.nil=>⟨.nil,rfl⟩
 | _,n+1,_,.v r t=>⟨.cons r (gm.Nn t).1,by rw [Ap,(gm.Nn t).2]⟩
def abY {x1}{B:(List PV->W PV)->W PV} (h:AF X K fs es (Am n .v) B) (hn:n<=1000:=by decide):EF X K fs (.Tuple es x1 pos) (B λl=>.ret (.tup l)):=by
 obtain⟨w,hp,hB⟩:=h.p;rw [hB];refine⟨PE.imp (Sq hp) λσ H Q ⟨sr,q⟩=>⟨sr,w.mono (λl q1 vs H1 g1 s1 v1=>?_) q⟩⟩;obtain⟨v2,hl⟩:=v1.Nn;refine⟨by rw [v2.length,hl];exact a8 hn,λp H2 s2 e2 n2=>?_⟩;exact q1 _ H2 (g1.trans (di.same s2)) (s1.same s2) (.tup e2 (aO.tk s2.fi v2))
def Vh {B:(List PV->W (List PV))->W (List PV)} (h:AF X K fs es (Am n .v) B) (hn:n<=1000:=by decide):LF X K fs (.List es pos) (B λl=>.ret l):=by
 obtain⟨w,hp,hB⟩:=h.p;rw [hB];refine⟨PE.imp (Ke hp) λσ H Q ⟨sr,q⟩=>⟨sr,w.mono (λl q1 vs H1 g1 s1 v1=>?_) q⟩⟩;obtain⟨v2,hl⟩:=v1.Nn;refine⟨by rw [v2.length,hl];exact a8 hn,λp H2 s2 e2 n2=>?_⟩;exact q1 _ _ H2 (g1.trans (di.same s2)) (s1.same s2) (g1.there p n2) e2 (aO.tk s2.fi v2)
end
end
end FL
namespace L2
open PySem PySem.Spec PyProof.Rows
def Inv.rE {σ:St} (I:Inv X Z σ H s) (e:H a=ap (.lst vs)):∃o,Inv X Z σ (upd H a (.cT o (.lst vs))) s:=by
 obtain⟨z,au,n,r,h1⟩:=(show bu X.prog X.w H s.heap a (.lst vs) from I.bK a _ e);exact⟨_,I.write (x:=a) (e:=a) (o:=.cT _ (.lst vs)) (h':=s.heap) (t':=s.toks) (by rw [e];exact Cj) (.inl rfl) (λb u _ z=>z) ⟨_,h1⟩ ⟨h1,z,au,n,r,h1⟩⟩
def vT (ok:mz P w H h) (e:H a=ap (.cT o (.lst vs))):mz P w (upd H a (.lst vs)) h:=λb u q=>by
 have ne:∀c v,H c=ap v->v≠.cT o (.lst vs)->upd H a (.lst vs) c=ap v:=λc v z n=>by
  rw [aD (λy=>by subst y;rw [e] at z;cases z;exact n rfl)];exact z
 by_cases hb:b=a
 ·subst hb;rw [aW] at q;cases q;exact bu.w6 (ok b _ e).2 (λ_ _ _ z=>z) (λc z=>ne c _ z (by simp)) λc xs z=>ne c _ z (by simp)
 ·rw [aD hb] at q;exact bu.w6 (ok b _ q) (λ_ _ _ z=>z) (λc z=>ne c _ z (by simp)) λc xs z=>ne c _ z (by simp)
end L2
variable {o:BU}{m:PL.za}{ks:List FL.AK}{B:(List PL.PV->FL.W PL.PV)->FL.W PL.PV}{q0:Option BV}
namespace FL
section
open PySem PySem.Spec PyProof.Rows L2 PL
variable {K:Ab}
section
def lU (o':HO) (e:H a=ap (.lst vs)):bB K H (upd H a o'):=⟨λb ws q=>by rw [aD (Kp q e (by intro z;cases z))];exact q,λb o u q=>by rw [aD (Kp q e (by intro z;cases z))];exact q⟩
def aX.side (s:aX K H σ fs) (n:¬dH σ fs a) (e:H a=ap (.lst vs)) (o':HO):aX K (upd H a o') σ fs:=⟨s.len,λi t q=>by
 obtain⟨u,h1,h2⟩:=s.at' i t q;exact⟨u,h1,h2.mono (lU o' e) (λx b o eb ow hb z=>by subst eb;rw [aD (λy:b=a=>n ⟨i,t,x,q,ow,h1,y▸hb⟩)];exact z)⟩,s.nd⟩
def di.side (g:di σ fs H H1) (h0:H a=bm) (o':HO):di σ fs H (upd H1 a o'):=⟨λb o e n=>by rw [aD (bQ e h0)];exact g.keep b o e n,λb e=>by
 by_cases c:b=a
 ·subst c;exact h0
 ·rw [aD c] at e;exact g.there b e⟩
end
section
variable {a:ga}{w:W PV}
def qk (h:LF X K fs e wl):EF X K fs e (.bind wl λl=>.ret (.cl l)):=⟨λZ s σ H Q I ⟨sr,q⟩=>by
 refine bE (h.p Z s σ H (λu H1=>∃a vs l,u=.ref a/\di σ fs H H1/\aX K H1 σ fs/\H a=bm/\H1 a=ap (.lst vs)/\aO K [] H1 vs l/\∀u H',di σ fs H H'->aX K H' σ fs->VR K [] H' u (.cl l)->Q u H') I ⟨sr,wl.mono (λl q1 a vs H1 g1 s1 n e v=>⟨a,vs,l,rfl,g1,s1,n,e,v,q1⟩) q⟩) λu s1 ⟨v,H1,I1,r1,a,vs,l,e,g1,R0,n,ea,vr,q1⟩=>?_;subst e;obtain⟨ob,I2⟩:=I1.rE ea;exact⟨.ref a,_,I2,r1,q1 _ _ (g1.side n _) (R0.side (λz=>sr.noOwn n z) ea _) (.cl (.inl ⟨ob,aW⟩) (aO.tk (lU _ ea) vr))⟩⟩
def aw:PV->W (List PV)
 | .tup l=>.ret l
 | .cl l=>.ret l
 | _=>.fail
def br (h:EF X K fs e w):IF X K fs e (.bind w aw):=⟨PE.imp h.p λσ H Q ⟨sr,q⟩=>⟨sr,w.mono (λx q1 u1 H1 g1 s1 v1=>by
 cases v1 with
 | tup e r=>exact q1 _ H1 g1 s1 ⟨_,_,rfl,.inr e,r⟩
 | cl e r=>exact q1 _ H1 g1 s1 ⟨_,_,rfl,.inl e,r⟩
 | _=>exact q1.elim) q⟩⟩
def tN (h:LF X K fs e wl):IF X K fs e wl:=br (qk h)
theorem IF.q (h:IF X K fs e wl):QF X K fs e wl:=⟨PE.imp h.p λσ H Q ⟨sr,q⟩=>⟨sr,wl.mono (λl q1 u1 H1 g1 s1 v1=>q1 u1 H1 g1 s1 (.inl v1)) q⟩⟩
def ar (h:EF X K fs e w):QF X K fs e (.bind w aw):=(br h).q
def dw (h:LF X K fs e wl):QF X K fs e wl:=⟨PE.imp h.p λσ H Q ⟨sr,q⟩=>⟨sr,wl.mono (λl q1 a vs H1 g1 s1 n e v=>q1 _ H1 g1 s1 (.inr ⟨a,rfl,.inl ⟨sr.noOwn n,vs,e,v⟩⟩)) q⟩⟩
def cn (i:Nat) (hs:fs[i]?=ap (ap (.ol q0 l)):=by rfl) (hN:X.N[i]?=ap x:=by rfl) (hv:yN X.env.scope x:=by first | exact CI rfl | exact Cy (CI rfl) | exact Cy (Cy rfl)) (hd:jh x:=by decide) (iY:y9 x:=by decide):QF X K fs (.Name x pos) (.ret l):=
 ⟨PE.imp (dz hN hv hd iY) λσ H Q ⟨sr,q⟩=>by
  obtain⟨u,e1,r⟩:=sr.at' i _ hs;rcases r with⟨w,e,r⟩ | ⟨a,e,r⟩
  ·cases e
  ·subst e;exact⟨_,e1,q _ H .refl sr (.inr ⟨a,rfl,.inr ⟨i,q0,hs,e1⟩⟩)⟩⟩
def KA (l:List PV):PV->W PV
 | .int i=>.OT (cq l i)
 | _=>.fail
def aE (hK:X.K=K) (ha:QF X K fs a wl) (hb:EF X K fs b wb) (hs:rM b:=by exact λ_ _=>rfl):EF X K fs (.Subscript a b pos) (.bind wl λl=>.bind wb λy=>KA l y):=⟨PE.imp (OD (Kz K hK) ha.p hb.p hs) λσ H Q ⟨sr,q⟩=>⟨sr,wl.mono (λl q1 u1 H1 g1 s1 v1=>⟨s1,wb.mono (λy q2 u2 H2 g2 s2 v2=>by
 cases v2 with
 | int i=>
  have q2:(W.OT (cq l i)).run _:=q2;cases z:cq l i with
  | none=>rw [z] at q2;exact q2.elim
  | some x=>
   rw [z] at q2;obtain⟨ad,vs,rfl,h,rs⟩:=(v1.go s1 g2).sq s2;obtain⟨v,e1,e2⟩:=aO.cq rs z;have q3:=q2 v H2 (g1.trans g2) s2 e2;exact h.elim (λh=>.inl ⟨ad,vs,i,v,rfl,rfl,h,e1,q3⟩) λh=>.inr (.inl ⟨ad,vs,i,v,rfl,rfl,h,e1,q3⟩)
 | _=>exact q2.elim) q1⟩) q⟩⟩
def ab5 (ha:EF X K fs a wa) (hb:EF X K fs b wb) (hs:rM b):EF X K fs (.Subscript a b pos) (.bind wa λx=>.bind wb λy=>of2 OV x y):=⟨PE.imp (OD Ph ha.p hb.p hs) (KW SN)⟩
def qc (m:za) (l:List PV):W PV:=⟨λQ=>m.f l [] λz h=>h=[]/\Q z,λf q=>m.mono (λ_ _ q=>⟨q.1,f _ q.2⟩) q⟩
section
variable {id:String}{r:List V->Hp->VK->Prop}
def OU (hm:za.Ok K r m) {Q:VK}{us:List V} (sr:aX K H σ fs) (hu:aO K [] H us l) (q:(qc m l).run λz=>∀u H',di σ fs H H'->aX K H' σ fs->VR K [] H' u z->Q u H'):r us H Q:=hm (hr0 H) hu (m.mono (λz h q=>pq0 sr q) q)
def rH (hc:bW X (.builtin id) r) (hB:za.Ok K r m) (hg:Gl X x) (hm:X.mg x=bm) (hv:mo x=ap (.builtin id)) (ha:AF X K fs (e::es) (Am n .v) B) (hn:x≠"__name__":=by decide) (oq:jh x:=by decide)
  (he:gR X e es:=by rfl) (dI:kL X pos es:=by rfl):EF X K fs (.Call (.Name x p) (e::es) [] pos) (B (qc m)):=by
 obtain⟨w,hp,Ń⟩:=ha.p;rw [Ń];exact⟨PE.imp (eT hc hg hm hv hp hn oq he dI) λσ H Q ⟨sr,q⟩=>⟨sr,w.mono (λl q1 vs H1 g1 s1 v1=>OU hB s1 v1.Nn.1 ((qc m l).mono (λz q u H' g s v=>q u H' (g1.trans g) s v) q1)) q⟩⟩
def Qw (hc:bW X (.type id) r) (hB:za.Ok K r m) (hg:Gl X x) (hm:X.mg x=bm) (hv:mo x=ap (.type id)) (ha:AF X K fs (e::es) (Am n .v) B) (hn:x≠"__name__":=by decide) (oq:jh x:=by decide)
  (he:gR X e es:=by rfl) (dI:kL X pos es:=by rfl):EF X K fs (.Call (.Name x p) (e::es) [] pos) (B (qc m)):=by
 obtain⟨w,hp,Ń⟩:=ha.p;rw [Ń];exact⟨PE.imp (lW hc hg hm hv hp hn oq he dI) λσ H Q ⟨sr,q⟩=>⟨sr,w.mono (λl q1 vs H1 g1 s1 v1=>OU hB s1 v1.Nn.1 ((qc m l).mono (λz q u H' g s v=>q u H' (g1.trans g) s v) q1)) q⟩⟩
def CQ (K:Ab) (r:List V->Hp->VK->Prop) (m:List PV->W PV):Prop:=∀{fs:bG}{σ:L2.St}{H:Hp}{Q:VK}{u:V}{l:List PV},aX K H σ fs->UG K σ fs H u l->((m l).run λz=>∀u H',di σ fs H H'->aX K H' σ fs->VR K [] H' u z->Q u H')->r [u] H Q
def CL (K:Ab) (r:List V->Hp->VK->Prop) (m:List PV->W (List PV)):Prop:=∀{fs:bG}{σ:L2.St}{H:Hp}{Q:VK}{u:V}{l:List PV},aX K H σ fs->UG K σ fs H u l->((m l).run λz=>∀a vs H',di σ fs H H'->aX K H' σ fs->H a=bm->H' a=ap (.lst vs)->aO K [] H' vs z->Q (.ref a) H')->r [u] H Q
def Qx {m:List PV->W PV} (hc:bW X (.builtin id) r) (hB:CQ K r m) (hg:Gl X x) (hm:X.mg x=bm) (hv:mo x=ap (.builtin id)) (ha:QF X K fs e wl) (hn:x≠"__name__":=by decide) (oq:jh x:=by decide)
  (he:gR X e []:=by rfl) (dI:kL X pos []:=by rfl):EF X K fs (.Call (.Name x p) [e] [] pos) (.bind wl m):=⟨PE.imp (eT hc hg hm hv (bc ha.p cy he) hn oq he dI) λσ H Q ⟨sr,q⟩=>⟨sr,wl.mono (λl q1 u H1 g1 s1 v1=>hB s1 v1 ((m l).mono (λz q u H' g s v=>q u H' (g1.trans g) s v) q1)) q⟩⟩
def MM {m:List PV->W PV} (hc:bW X (.type id) r) (hB:CQ K r m) (hg:Gl X x) (hm:X.mg x=bm) (hv:mo x=ap (.type id)) (ha:QF X K fs e wl) (hn:x≠"__name__":=by decide) (oq:jh x:=by decide)
  (he:gR X e []:=by rfl) (dI:kL X pos []:=by rfl):EF X K fs (.Call (.Name x p) [e] [] pos) (.bind wl m):=⟨PE.imp (lW hc hg hm hv (bc ha.p cy he) hn oq he dI) λσ H Q ⟨sr,q⟩=>⟨sr,wl.mono (λl q1 u H1 g1 s1 v1=>hB s1 v1 ((m l).mono (λz q u H' g s v=>q u H' (g1.trans g) s v) q1)) q⟩⟩
def acV {m:List PV->W (List PV)} (hc:bW X (.builtin id) r) (hB:CL K r m) (hg:Gl X x) (hm:X.mg x=bm) (hv:mo x=ap (.builtin id)) (ha:QF X K fs e wl) (hn:x≠"__name__":=by decide) (oq:jh x:=by decide)
  (he:gR X e []:=by rfl) (dI:kL X pos []:=by rfl):LF X K fs (.Call (.Name x p) [e] [] pos) (.bind wl m):=⟨PE.imp (eT hc hg hm hv (bc ha.p cy he) hn oq he dI) λσ H Q ⟨sr,q⟩=>⟨sr,wl.mono (λl q1 u H1 g1 s1 v1=>hB s1 v1 ((m l).mono (λz q a vs H' g s n e v=>q a vs H' (g1.trans g) s (g1.there a n) e v) q1)) q⟩⟩
def Pa {m:List PV->W (List PV)} (hc:bW X (.type id) r) (hB:CL K r m) (hg:Gl X x) (hm:X.mg x=bm) (hv:mo x=ap (.type id)) (ha:QF X K fs e wl) (hn:x≠"__name__":=by decide) (oq:jh x:=by decide)
  (he:gR X e []:=by rfl) (dI:kL X pos []:=by rfl):LF X K fs (.Call (.Name x p) [e] [] pos) (.bind wl m):=⟨PE.imp (lW hc hg hm hv (bc ha.p cy he) hn oq he dI) λσ H Q ⟨sr,q⟩=>⟨sr,wl.mono (λl q1 u H1 g1 s1 v1=>hB s1 v1 ((m l).mono (λz q a vs H' g s n e v=>q a vs H' (g1.trans g) s (g1.there a n) e v) q1)) q⟩⟩
end
def pG (l:List PV):W PV:=.ret (.int l.length)
def S5 (K:Ab):CQ K (WB K) pG:=λ{fs σ H Q u l} s v q=>by
 obtain⟨a,vs,rfl,h,rs⟩:=v.sq s;refine⟨_,vs.length,rfl,?_,?_⟩
 ·exact h.elim (λh=>.inl ⟨_,h,rfl⟩) λh=>.inr ⟨_,h,rfl⟩
 ·rw [rs.length];exact q _ H .refl s (.int _)
def jR (l:List PV):W PV:=.ret (.tup l)
def Rz (K:Ab):CQ K (Og K) jR:=λ{fs σ H Q u l} s v q=>by
 have fresh:∀{a:ci}{vs:List V},dc K H a vs->aO K [] H vs l->Og K [.ref a] H Q:=λ{a vs} h rs=>⟨a,vs,rfl,.inl ⟨h,λp H2 s2 e2 n2=>q _ H2 (di.same s2) (s.same s2) (.tup e2 (aO.tk s2.fi rs))⟩⟩;rcases v with⟨a,vs,rfl,h | h,rs⟩ | ⟨a,rfl,⟨n,vs,h,rs⟩ | ⟨i,_,q1,q2⟩⟩
 ·exact fresh h.sq rs
 ·exact⟨a,vs,rfl,.inr ⟨d9.of h,q _ H .refl s (.tup h rs)⟩⟩
 ·exact fresh (dc.of h) rs
 ·obtain⟨_,vs,h,rs⟩:=s.ownAt q1 rfl q2;exact fresh (dc.of h) rs
end
end
end FL
variable {R:Type}{m:List PL.PV->FL.W PL.PV}
namespace FL
section
open PySem PySem.Spec PyProof.Rows L2 PL
variable {K:Ab}
def yW (vs:List V) (ks:List AK) (φ:List V->Prop) (a:ci):Prop:=∃i:Nat,ks[i]?=ap (.p φ)/\vs[i]?=ap (.ref a)
structure GoC (vs:List V) (ks:List AK) (H H':Hp):Prop where
 keep:∀a o,H a=ap o->(∀φ,¬yW vs ks φ a)->H' a=ap o
 there:∀a,H' a=bm->H a=bm
 WR:∀a φ,yW vs ks φ a->∃ws,H' a=ap (.lst ws)/\φ ws
inductive jg (K:Ab) (H:Hp):List V->List AK->List PV->Prop
 | nil:jg K H [] [] []
 | v {u:V}{x:PV}{vs:List V}{ks:List AK}{l:List PV} (r:VR K [] H u x) (t:jg K H vs ks l):jg K H (u::vs) (.v::ks) (x::l)
 | p {a:ci}{φ:List V->Prop}{ws vs:List V}{ks:List AK}{l:List PV} (e:H a=ap (.lst ws)) (r:φ ws) (t:jg K H vs ks l):jg K H (.ref a::vs) (.p φ::ks) l
 | f {a:ci}{vs:List V}{ks:List AK}{l:List PV} (t:jg K H vs ks l):jg K H (.ref a::vs) (.f a::ks) l
def eJ (K:Ab) (ks:List AK) (m:List PV->W PV):Sp:=λvs H Q _=>∃l,jg K H vs ks l/\(m l).run λv=>∀u H',GoC vs ks H H'->VR K [] H' u v->Q u H'
def fo (K:Ab) (ks:List AK) (m:List PV->W (List PV)):Sp:=λvs H Q _=>∃l,jg K H vs ks l/\(m l).run λz=>∀a ws H',GoC vs ks H H'->H a=bm->H' a=ap (.lst ws)->aO K [] H' ws z->Q (.ref a) H'
def Rm (R:Type):Nat->Type
 | 0=>W R
 | n+1=>PV->Rm R n
def ck:(n:Nat)->Rm R n->List PV->W R
 | 0,m,[]=>m
 | n+1,m,x::l=>ck n (m x) l
 | 0,_,_::_=>.fail
 | _+1,_,[]=>.fail
section
def gm.kM (h:gm K σ fs H vs ks l) (p:yW vs ks φ a):fe σ fs φ a:=by
 obtain⟨i,e1,e2⟩:=p
 induction h generalizing i with
 | nil=>simp at e1
 | v r t ih=>cases i with | zero=>simp at e1 | succ i=>exact ih i (by simpa using e1) (by simpa using e2)
 | p r t ih=>
  cases i with
  | zero=>simp at e1 e2;subst e1;subst e2;exact r
  | succ i=>exact ih i (by simpa using e1) (by simpa using e2)
 | f t ih=>cases i with | zero=>simp at e1 | succ i=>exact ih i (by simpa using e1) (by simpa using e2)
def gm.c (h:gm K σ fs H vs ks l) (s:aX K H σ fs):jg K H vs ks l:=by
 induction h with
 | nil=>exact .nil
 | v r t ih=>exact .v r ih
 | p r t ih=>
  obtain⟨i,e1,e2⟩:=r;obtain⟨ws,q,x⟩:=s.ownAt e1 rfl e2;exact .p q x ih
 | f t ih=>exact .f ih
def GoC.caller (g:GoC vs ks H H') (h:gm K σ fs H vs ks l) (s:aX K H σ fs):aX K H' σ fs/\di σ fs H H':=by
 have gf:di σ fs H H':=⟨λa o e n=>g.keep a o e λφ p=>n φ (h.kM p),g.there⟩;have tk:=gf.eQ s;refine⟨⟨s.len,λi t e=>?_,s.nd⟩,gf⟩;obtain⟨u,h1,h2⟩:=s.at' i t e;refine⟨u,h1,?_⟩;rcases h2 with⟨v,q,r⟩ | ⟨a,q,r⟩
 ·exact .inl ⟨v,q,VR.tk tk r⟩
 ·subst q;refine .inr ⟨a,rfl,?_⟩;by_cases c:(∃φ,yW vs ks φ a)/\t.own=true
  ·obtain⟨⟨φ,p⟩,ow⟩:=c;obtain⟨j,e1,e2⟩:=h.kM p;have ij:=s.nd i j t _ a a a e e1 ow rfl h1 e2 (.inl rfl) (.inl rfl);subst ij;rw [e] at e1;cases e1;exact g.WR a φ p
  ·refine r.mono tk (λb o ow hb z=>g.keep b o z λφ p=>?_);obtain⟨j,e1,e2⟩:=h.kM p;have ij:=s.nd i j t _ a b b e e1 ow rfl h1 e2 hb (.inl rfl);subst ij;rw [h1] at e2;cases e2;exact c ⟨⟨φ,p⟩,ow⟩
end
section
def Yr (G:UO X.prog X.w X.K X.mg X.base x k ps (eJ K ks m)) (hr:dg k' X.A) (hk:k<=k') (hg:Gl X x) (ha:AF X K fs (e::es) ks B) (oq:jh x:=by decide)
  (he:gR X e es:=by rfl) (dI:kL X pos es:=by rfl):EF X K fs (.Call (.Name x p) (e::es) [] pos) (B m):=by
 obtain⟨w,hp,hB⟩:=ha.p;rw [hB];exact⟨PE.imp (OJ G hr hk hg hp oq he dI) λσ H Q ⟨sr,q⟩=>⟨sr,w.mono (λl q1 vs H1 g1 s1 v1=>⟨l,v1.c s1,(m l).mono (λz q2 u H2 g2 r2=>let ⟨s2,g3⟩:=g2.caller v1 s1;q2 u H2 (g1.trans g3) s2 r2) q1⟩) q⟩⟩
def Xy {m:List PV->W (List PV)}{B:(List PV->W (List PV))->W (List PV)} (G:UO X.prog X.w X.K X.mg X.base x k ps (fo K ks m)) (hr:dg k' X.A) (hk:k<=k') (hg:Gl X x) (ha:AF X K fs (e::es) ks B) (oq:jh x:=by decide)
  (he:gR X e es:=by rfl) (dI:kL X pos es:=by rfl):LF X K fs (.Call (.Name x p) (e::es) [] pos) (B m):=by
 obtain⟨w,hp,hB⟩:=ha.p;rw [hB];exact⟨PE.imp (OJ G hr hk hg hp oq he dI) λσ H Q ⟨sr,q⟩=>⟨sr,w.mono (λl q1 vs H1 g1 s1 v1=>⟨l,v1.c s1,(m l).mono (λz q2 a ws H2 g2 n2 e2 r2=>let ⟨s2,g3⟩:=g2.caller v1 s1;q2 a ws H2 (g1.trans g3) s2 (g1.there a n2) e2 r2) q1⟩) q⟩⟩
end
end
end FL
variable {x:Bool}{T:Type}{p':CB}
namespace FL
section
open PySem PySem.Spec PyProof.Rows L2 PL
variable {K:Ab}
inductive End where
 | nx (fs:bG) | nc (fs:bG) | ct (fs:bG) | rt (v:PV) | rl (l:List PV) | bk (fs:bG) | ro (v:PV) (a:ci) (l:List PV)
def yY (σ:L2.St) (fs:bG) (H:Hp) (a:ci):Prop:=H a=bm\/∃(i:Nat) (s:SL) (x:ci),fs[i]?=ap (ap s)/\s.own=true/\(∀φ,s≠.kM φ)/\σ[i]?=ap (ap (.ref x))/\s.has x a
def bV (K:Ab) (x:Bool) (σ:L2.St) (fs:bG) (H:Hp) (D:Ends):End->Prop
 | .nx bT=>x=false->∀σ' H',cM σ fs H σ' bT H'->aX K H' σ' bT->D.nx σ' H'
 | .nc bT=>∀σ' H',cM σ fs H σ' bT H'->aX K H' σ' bT->(x=false->D.nx σ' H')/\D.ct σ' H'
 | .ct bT=>∀σ' H',cM σ fs H σ' bT H'->aX K H' σ' bT->D.ct σ' H'
 | .bk bT=>∀σ' H',cM σ fs H σ' bT H'->aX K H' σ' bT->D.bk σ' H'
 | .rt v=>∀u σ' bT H',cM σ fs H σ' bT H'->aX K H' σ' bT->VR K [] H' u v->D.rt u H'
 | .ro v a l=>∀u σ' bT H',cM σ fs H σ' bT H'->aX K H' σ' bT->(∃i:Nat,bT[i]?=ap (ap (.ol (ap a) l)))->VR K [] H' u v->D.rt u H'
 | .rl l=>∀a ws σ' bT H',cM σ fs H σ' bT H'->aX K H' σ' bT->yY σ fs H a->H' a=ap (.lst ws)->aO K [] H' ws l->D.rt (.ref a) H'
def fS (K:Ab) (x:Bool) (fs:bG) (w:W T) (out:T->End):TS:=λD σ H=>aX K H σ fs/\w.run λt=>bV K x σ fs H D (out t)
structure SF (X:Cx) (K:Ab) (x:Bool) (fs:bG) (Rb:List tt) {T:Type} (w:W T) (out:T->End):Prop where p:rN X Rb (fS K x fs w out)
section
variable {σ1:L2.St}{TV:bG}
def yY.go (g:cM σ fs H σ1 TV H1) (s:aX K H σ fs) (s1:aX K H1 σ1 TV) (h:yY σ1 TV H1 a):yY σ fs H a:=by
 rcases h with h | ⟨i,t,x,e1,e2,np,e3,e4⟩
 ·exact .inl (g.there a h)
 ·cases z:H a with
  | none=>exact .inl z
  | some o=>
   by_cases c:dH σ fs a
   ·obtain⟨j,t',y,c1,c2,c3,c4⟩:=c;by_cases d:∃φ,t'=.kM φ
    ·obtain⟨φ,rfl⟩:=d;rcases c4 with rfl | c4
     ·rcases g.pk a φ ⟨j,c1,c3⟩ with⟨k,k1,k2⟩ | ⟨n,_⟩
      ·have:=s1.nd i k t _ x a a e1 k1 e2 rfl e3 k2 e4 (.inl rfl);subst this;rw [e1] at k1;cases k1;exact absurd rfl (np φ)
      ·exact absurd ⟨i,t,x,e1,e2,e3,e4⟩ n
     ·cases c4
    ·exact .inr ⟨j,t',y,c1,c2,λφ e=>d ⟨φ,e⟩,c3,c4⟩
   ·exact absurd ⟨i,t,x,e1,e2,e3,e4⟩ (g.keep a o z c).2
def bV.go (g:cM σ fs H σ1 TV H1) (s:aX K H σ fs) (s1:aX K H1 σ1 TV) {E:End} (h:bV K x σ fs H D E):bV K x σ1 TV H1 D E:=by
 cases E with
 | nx bT=>exact λhx σ' H' g' s'=>h hx σ' H' (g.trans g') s'
 | nc bT=>exact λσ' H' g' s'=>h σ' H' (g.trans g') s'
 | bk bT=>exact λσ' H' g' s'=>h σ' H' (g.trans g') s'
 | ct bT=>exact λσ' H' g' s'=>h σ' H' (g.trans g') s'
 | rt v=>exact λu σ' bT H' g' s' r=>h u σ' bT H' (g.trans g') s' r
 | ro v a l=>exact λu σ' bT H' g' s' o r=>h u σ' bT H' (g.trans g') s' o r
 | rl l=>exact λa ws σ' bT H' g' s' f e r=>h a ws σ' bT H' (g.trans g') s' (f.go g s s1) e r
def bV.exit {D':Ends} (h1:D'.rt=D.rt) (h2:D'.ct=D.ct) (h3:D'.bk=D.bk) {E:End} (h:bV K x σ fs H D E):bV K true σ fs H D' E:=by
 cases E with
 | nx bT=>exact λhx=>nomatch hx
 | nc bT=>exact λσ' H' g' s'=>⟨λhx=>(nomatch hx),h2▸(h σ' H' g' s').2⟩
 | bk bT=>exact λσ' H' g' s'=>h3▸h σ' H' g' s'
 | ct bT=>exact λσ' H' g' s'=>h2▸h σ' H' g' s'
 | rt v=>exact λu σ' bT H' g' s' r=>h1▸h u σ' bT H' g' s' r
 | ro v a l=>exact λu σ' bT H' g' s' o r=>h1▸h u σ' bT H' g' s' o r
 | rl l=>exact λa ws σ' bT H' g' s' f e r=>h1▸h a ws σ' bT H' g' s' f e r
end
section
variable {X:Cx}{a b c e o:ga}{pos p:Pos}{fs bT:bG}{st:tt}{Rb rest sa sb:List tt}{T T1:Type}{w wk:W T}{out:T->End}{we:W PV}{wl:W (List PV)}{x:Bool}
def End.KG:End->Prop
 | .rt _=>True
 | .rl _=>True
 | .ro _ _ _=>True
 | _=>False
def bV.aaD {D':Ends}{y:Bool}{E:End} (ho:E.KG) (e:D'.rt=D.rt) (h:bV K x σ fs H D E):bV K y σ fs H D' E:=by
 cases E with
 | rt v=>exact λu σ' bT H' g s r=>e▸h u σ' bT H' g s r
 | rl v=>exact λa ws σ' bT H' g s f ea r=>e▸h a ws σ' bT H' g s f ea r
 | ro v a l=>exact λu σ' bT H' g s o r=>e▸h u σ' bT H' g s o r
 | _=>exact ho.elim
def zi (X:Cx) (K:Ab) (x:Bool) (rest:List tt) {T:Type} (out:T->End):TS:=λD σ H=>∃bT w',SF X K x bT rest w' out/\fS K x bT w' out D σ H
def R4:rN X rest (zi X K x rest out):=λZ s σ H D I ⟨bT,w',h,q⟩=>h.p Z s σ H D I q
def OZ:rN X rest Wc:=λ_ _ _ _ _ _ h=>h.elim
def SF.step {t:TS} (h:PS X st t) (hq:∀D σ H,fS K x fs w out D σ H->t {D with nx:=zi X K x rest out D} σ H):SF X K x fs (st::rest) w out:=⟨rN.imp (zH h R4) λD σ H q=>hq D σ H q⟩
def SF.last {t:TS} (h:PS X st t) (hq:∀D σ H,fS K x fs w out D σ H->t {D with nx:=λ_ _=>False} σ H):SF X K x fs (st::rest) w out:=⟨rN.imp (zH h OZ) λD σ H q=>hq D σ H q⟩
def SF.nil {t:T} (h:out t=.nx bT) (hl:jK fs bT):SF X K false fs [] (.ret t) out:=⟨rN.imp xk λD σ H ⟨sr,q⟩=>by
 have q:bV K false σ fs H D (out t):=q;rw [h] at q;exact q rfl σ H (cM.le sr hl) (sr.le hl)⟩
def SF.gw {t:T} (h:out t=.nc bT) (hl:jK fs bT):SF X K false fs [] (.ret t) out:=⟨rN.imp xk λD σ H ⟨sr,q⟩=>by
 have q:bV K false σ fs H D (out t):=q;rw [h] at q;exact (q σ H (cM.le sr hl) (sr.le hl)).1 rfl⟩
def SF.cont {t:T} (h:out t=.nc bT\/out t=.ct bT) (hl:jK fs bT):SF X K x fs (.Continue pos::rest) (.ret t) out:=SF.last zK λD σ H ⟨sr,q⟩=>by
 have q:bV K x σ fs H D (out t):=q;rcases h with h | h
 ·rw [h] at q;exact (q σ H (cM.le sr hl) (sr.le hl)).2
 ·rw [h] at q;exact q σ H (cM.le sr hl) (sr.le hl)
def SF.ret {k:PV->T} (he:EF X K fs e we) (h:∀v,out (k v)=.rt v):SF X K x fs (.Return (ap e) pos::rest) (.bind we λv=>.ret (k v)) out:=SF.last (xl he.p) λD σ H ⟨sr,q⟩=>⟨sr,we.mono (λv q1 u H1 g1 s1 v1=>by
 have q1:bV K x σ fs H D (out (k v)):=q1;rw [h] at q1;exact q1 u σ fs H1 g1.f s1 v1) q⟩
def SF.bO {out:PV->End} (he:EF X K fs e we) (h:∀v,out v=.rt v):SF X K x fs (.Return (ap e) pos::rest) we out:=SF.ret (k:=λv=>v) he h
def SF.aen {k:List PV->T} (he:LF X K fs e wl) (h:∀l,out (k l)=.rl l):SF X K x fs (.Return (ap e) pos::rest) (.bind wl λl=>.ret (k l)) out:=SF.last (xl he.p) λD σ H ⟨sr,q⟩=>⟨sr,wl.mono (λl q1 a ws H1 g1 s1 n e v1=>by
 have q1:bV K x σ fs H D (out (k l)):=q1;rw [h] at q1;exact q1 a ws σ fs H1 g1.f s1 (.inl n) e v1) q⟩
def SF.iG {out:List PV->End} (he:LF X K fs e wl) (h:∀v,out v=.rl v):SF X K x fs (.Return (ap e) pos::rest) wl out:=SF.aen (k:=λv=>v) he h
def SF.Ob (i:Nat) {t:T} (hs:fs[i]?=ap (ap (.ol q0 l))) (h:out t=.rl l) (hN:X.N[i]?=ap y:=by rfl) (hv:yN X.env.scope y:=by first | exact CI rfl | exact Cy (CI rfl) | exact Cy (Cy rfl)) (hd:jh y:=by decide) (iY:y9 y:=by decide):SF X K x fs (.Return (ap (.Name y p)) pos::rest) (.ret t) out:=SF.last (xl (dz hN hv hd iY)) λD σ H ⟨sr,q⟩=>by
 have q:bV K x σ fs H D (out t):=q;rw [h] at q;obtain⟨u,e1,r⟩:=sr.at' i _ hs;rcases r with⟨v,e,_⟩ | ⟨a,e,r⟩
 ·cases e
 ·subst e;obtain⟨_,ws,q1,q2⟩:=r;exact⟨_,e1,q a ws σ fs H .refl sr (.inr ⟨i,_,_,hs,rfl,by simp,e1,.inl rfl⟩) q1 q2⟩
def SF.aae (i:Nat) {ad:ci}{k:PV->T} (hs:fs[i]?=ap (ap (.ol (ap ad) l))) (he:EF X K fs e we) (h:∀v,out (k v)=.ro v ad l):SF X K x fs (.Return (ap e) pos::rest) (.bind we λv=>.ret (k v)) out:=SF.last (xl he.p) λD σ H ⟨sr,q⟩=>⟨sr,we.mono (λv q1 u H1 g1 s1 v1=>by
 have q1:bV K x σ fs H D (out (k v)):=q1;rw [h] at q1;exact q1 u σ fs H1 g1.f s1 ⟨i,hs⟩ v1) q⟩
def SF.expr {k:PV->W T} (he:EF X K fs e we) (hr:∀v,SF X K x fs rest (k v) out) (hs:lc e bm pos.line X.env=pure false:=by rfl):SF X K x fs (.Expr e pos::rest) (.bind we k) out:=SF.step (nR he.p hs) λD σ H ⟨sr,q⟩=>
 ⟨sr,we.mono (λv q1 u H1 g1 s1 v1=>⟨fs,k v,hr v,s1,(k v).mono (λt q2=>q2.go g1.f sr s1) q1⟩) q⟩
def SF.set {k:PV->W T} (hN:X.N.Nodup) (hi:X.N[i]?=ap y) (hx:Loc X.env.scope y) (he:EF X K fs e we) (hr:∀v,SF X K x (fs.set i (ap (.val v))) rest (k v) out) (hs:lc e (ap (.Name y p')) pos.line X.env=pure false:=by rfl)
  (hf:Nw X y:=by first | exact .inl rfl | exact .inr rfl | assumption):SF X K x fs (.Assign [.Name y p'] e pos::rest) (.bind we k) out:=SF.step (sF hN hi hx he.p hs hf) λD σ H ⟨sr,q⟩=>
 ⟨sr,we.mono (λv q1 u H1 g1 s1 v1=>⟨_,k v,hr v,s1.eR v1 i,(k v).mono (λt q2=>q2.go (g1.f.trans (cM.eR s1 u v i)) sr (s1.eR v1 i)) q1⟩) q⟩
def SF.aek {k:List PV->W T} (hN:X.N.Nodup) (hi:X.N[i]?=ap y) (hx:Loc X.env.scope y) (he:LF X K fs e wl) (hr:∀l,SF X K x (fs.set i (ap (.ol bm l))) rest (k l) out) (hs:lc e (ap (.Name y p')) pos.line X.env=pure false:=by rfl)
  (hf:Nw X y:=by first | exact .inl rfl | exact .inr rfl | assumption):SF X K x fs (.Assign [.Name y p'] e pos::rest) (.bind wl k) out:=SF.step (sF hN hi hx he.p hs hf) λD σ H ⟨sr,q⟩=>by
 refine⟨sr,wl.mono (λl q1 a ws H1 g1 s1 n e v1=>?_) q⟩;have no:=sr.noOwn n;have s2:=s1.sE (t:=.ol bm l) ⟨by simp,ws,e,v1⟩ no i;exact⟨_,k l,hr l,s2,(k l).mono (λt q2=>q2.go (cM.sE s1 g1.f no n i) sr s2) q1⟩
def SF.cT (i:Nat) {q0:Option ci}{l:List PV} (hs:fs[i]?=ap (ap (.ol q0 l))) (hr:SF X K x (fs.set i (ap (.val (.cl l)))) Rb w out):SF X K x fs Rb w out:=⟨λZ s σ H D I ⟨sr,q⟩=>by
 obtain⟨u,e1,r⟩:=sr.at' i _ hs;rcases r with⟨v,e,_⟩ | ⟨a,e,_,ws,q1,q2⟩
 ·cases e
 ·subst e;obtain⟨ob,I2⟩:=I.rE q1;have tk:=lU (K:=K) (.cT ob (.lst ws)) q1;have sS:σ.set i (ap (.ref a))=σ:=A1 λj=>by
   by_cases c:j=i
   ·subst c;rw [cF ((Ak.mp e1).1),e1]
   ·rw [aL c]
  have ow:∀b,dH σ (fs.set i (ap (.val (.cl l)))) b->dH σ fs b:=λb z=>by
   obtain⟨j,t,x,z1,z2,z3,z4⟩:=z;rcases bo z1 with⟨rfl,rfl⟩ | ⟨n,z1⟩
   ·cases z2
   ·exact⟨j,t,x,z1,z2,z3,z4⟩
  have na:¬dH σ (fs.set i (ap (.val (.cl l)))) a:=λz=>by
   obtain⟨j,t,x,z1,z2,z3,z4⟩:=z;rcases bo z1 with⟨rfl,rfl⟩ | ⟨n,z1⟩
   ·cases z2
   ·exact n (sr.nd j i t _ x a a z1 hs z2 rfl z3 e1 z4 (.inl rfl))
  have s2:aX K (upd H a (.cT ob (.lst ws))) σ (fs.set i (ap (.val (.cl l)))):=by
   refine⟨by simp [sr.len],λj t z=>?_,λj k t u b1 b2 b z1 z2 o1 o2=>?_⟩
   ·rcases bo z with⟨rfl,rfl⟩ | ⟨n,z⟩
    ·exact⟨_,e1,.inl ⟨_,rfl,.cl (.inl ⟨ob,aW⟩) (aO.tk tk q2)⟩⟩
    ·obtain⟨u,h1,h2⟩:=sr.at' j t z;exact⟨u,h1,h2.mono tk (λx b o eb ow hb zz=>by
      subst eb;rw [aD (λy=>by subst y;exact n (sr.nd j i t _ x b b z hs ow rfl h1 e1 hb (.inl rfl)))];exact zz)⟩
   ·rcases bo z1 with⟨rfl,rfl⟩ | ⟨n1,z1⟩
    ·cases o1
    ·rcases bo z2 with⟨rfl,rfl⟩ | ⟨n2,z2⟩
     ·cases o2
     ·exact sr.nd j k t u b1 b2 b z1 z2 o1 o2
  have g2:cM σ fs H σ (fs.set i (ap (.val (.cl l)))) (upd H a (.cT ob (.lst ws))):=by
   refine⟨λb o z n=>⟨?_,λy=>n (ow b y)⟩,λb z=>?_,λb φ z=>?_⟩
   ·rw [aD (λy=>by subst y;exact n ⟨i,_,_,hs,rfl,e1,.inl rfl⟩)];exact z
   ·by_cases c:b=a
    ·subst c;rw [aW] at z;cases z
    ·rw [aD c] at z;exact z
   ·obtain⟨j,z1,z2⟩:=z;have:j≠i:=λy=>by subst y;rw [hs] at z1;cases z1
    exact .inl ⟨j,by rw [aL this];exact z1,z2⟩
  exact hr.p Z s σ _ D I2 ⟨s2,w.mono (λt q3=>q3.go g2 sr s2) q⟩⟩
variable {tc:W Bool}
def SF.Y4 (hc:TF X K fs c tc) (ha:SF X K x fs sa w out) (hb:SF X K x fs sb wk out):SF X K x fs [.If c sa sb pos] (.bind tc λb=>if b=true then w else wk) out:=⟨rN.imp (Sd (Ou hc.p ha.p hb.p)) λD σ H ⟨sr,q⟩=>⟨sr,tc.mono (λk q1 H1 g1 s1=>by
 cases k with
 | true=>exact uX ⟨s1,w.mono (λt q2=>q2.go g1.f sr s1) q1⟩
 | false=>exact uY ⟨s1,wk.mono (λt q2=>q2.go g1.f sr s1) q1⟩) q⟩⟩
def SF.y7 (hc:TF X K fs c tc) (ha:SF X K true fs sa w out) (hb:SF X K x fs rest wk out):SF X K x fs (.If c sa [] pos::rest) (.bind tc λb=>if b=true then w else wk) out:=SF.step (Ou hc.p ha.p xk) λD σ H ⟨sr,q⟩=>⟨sr,tc.mono (λk q1 H1 g1 s1=>by
 cases k with
 | true=>exact uX ⟨s1,w.mono (λt q2=>bV.exit (D:=D) (D':={D with nx:=zi X K x rest out D}) rfl rfl rfl (q2.go g1.f sr s1)) q1⟩
 | false=>exact uY ⟨fs,wk,hb,s1,wk.mono (λt q2=>q2.go g1.f sr s1) q1⟩) q⟩
def YT (X:Cx) (K:Ab) (x:Bool) (rest:List tt) {T:Type} (w:W T) (out:T->End):End->Prop
 | .nx bT=>SF X K x bT rest w out
 | .nc bT=>False
 | .bk bT=>∃t,w=.ret t/\out t=.bk bT
 | .ct bT=>∃t,w=.ret t/\(out t=.ct bT\/out t=.nc bT)
 | .rt v=>∃t,w=.ret t/\out t=.rt v
 | .rl l=>∃t,w=.ret t/\out t=.rl l
 | .ro v a l=>∃t,w=.ret t/\out t=.ro v a l
def YT.r {E:End} (sr:aX K H σ fs) (h:YT X K x rest w out E) (q:w.run λt=>bV K x σ fs H D (out t)):bV K false σ fs H {D with nx:=zi X K x rest out D} E:=by
 cases E with
 | nx bT=>exact λ_ σ' H' g' s'=>⟨bT,w,h,s',w.mono (λt q2=>q2.go g' sr s') q⟩
 | nc bT=>exact h.elim
 | bk bT=>
  obtain⟨t,rfl,h⟩:=h;have q:bV K x σ fs H D (out t):=q;rw [h] at q;exact q
 | ct bT=>
  obtain⟨t,rfl,h⟩:=h;have q:bV K x σ fs H D (out t):=q;rcases h with h | h
  ·rw [h] at q;exact q
  ·rw [h] at q;exact λσ' H' g s=>(q σ' H' g s).2
 | rt v=>
  obtain⟨t,rfl,h⟩:=h;have q:bV K x σ fs H D (out t):=q;rw [h] at q;exact q
 | rl v=>
  obtain⟨t,rfl,h⟩:=h;have q:bV K x σ fs H D (out t):=q;rw [h] at q;exact q
 | ro v a l=>
  obtain⟨t,rfl,h⟩:=h;have q:bV K x σ fs H D (out t):=q;rw [h] at q;exact q
variable {w1 w2:W T1}{out1:T1->End}{k:T1->W T}
def SF.ifS (hc:TF X K fs c tc) (ha:SF X K false fs sa w1 out1) (hb:SF X K false fs sb w2 out1) (hr:∀t,YT X K x rest (k t) out (out1 t)):SF X K x fs (.If c sa sb pos::rest) (.bind tc λb=>.bind (if b=true then w1 else w2) k) out:=SF.step (Ou hc.p ha.p hb.p) λD σ H ⟨sr,q⟩=>⟨sr,tc.mono (λb q1 H1 g1 s1=>by
 have fin:∀t,(k t).run (λt=>bV K x σ fs H D (out t))->bV K false σ fs H {D with nx:=zi X K x rest out D} (out1 t):=λt q=>(hr t).r sr q;cases b with
 | true=>exact uX ⟨s1,w1.mono (λt q2=>(fin t q2).go g1.f sr s1) q1⟩
 | false=>exact uY ⟨s1,w2.mono (λt q2=>(fin t q2).go g1.f sr s1) q1⟩) q⟩
end
end
end FL
variable {is:List Nat}
namespace FL
section
open PySem PySem.Spec PyProof.Rows L2 PL
variable {K:Ab}
def JF (K:Ab) (H:Hp) (J:It) (l:List PV):Prop:=l.length<=sizeLine/\∀H',bB K H H'->(∀(i:Nat) (p:PV),l[i]?=ap p->J.go i H'/\∀x H2,J.UR i H' x H2->kz H' H2/\VR K [] H2 x p)/\J.stop l.length H'
def JF.tk {J:It} (t:bB K H H') (h:JF K H J l):JF K H' J l:=⟨h.1,λH2 t2=>h.2 H2 (bB.trans t t2)⟩
def fIt (K:Ab) (fs:bG) (w:W (List PV)):TI:=λσ H R=>aX K H σ fs/\w.run λl=>∀J H',di σ fs H H'->aX K H' σ fs->JF K H' J l->R J H'
structure qW (X:Cx) (K:Ab) (fs:bG) (tg e:ga) (w:W (List PV)):Prop where p:PI X tg e (fIt K fs w)
section
variable {a c:ga}{w:W PV}
def UK {ad:ci} (h:VQ K H ad vs) (r:aO K [] H vs l) (hz:l.length<=sizeLine):JF K H (Itl K ad) l:=⟨hz,λH' t=>by
 have e1:=(t.f _ _ h).sq;have e2:=aO.tk t r;refine⟨λi p hp=>?_,vs,e1,by rw [e2.length];exact Ao _⟩;obtain⟨v,h3,h4⟩:=e2.get hp;refine⟨⟨vs,v,e1,h3⟩,λx H3 y=>?_⟩;obtain⟨rfl,y⟩:=y;have:=y vs e1;rw [h3] at this;cases this;exact⟨kz.refl _,h4⟩⟩
def YR {ad:ci} (h:H ad=ap (.tup vs)) (r:aO K [] H vs l) (hz:l.length<=sizeLine):JF K H (Itt K ad) l:=⟨hz,λH' t=>by
 have e1:=d9.of (K:=K) (t.t _ _ h);have e2:=aO.tk t r;refine⟨λi p hp=>?_,vs,e1,by rw [e2.length];exact Ao _⟩;obtain⟨v,h3,h4⟩:=e2.get hp;refine⟨⟨vs,v,e1,h3⟩,λx H3 y=>?_⟩;obtain⟨rfl,y⟩:=y;have:=y vs e1;rw [h3] at this;cases this;exact⟨kz.refl _,h4⟩⟩
def bq (hK:X.K=K) (h:IF X K fs e wl):qW X K fs tg e wl:=⟨by
 subst hK;intro Z s σ H R I ⟨sr,q⟩;refine bE (h.p Z s σ H (λu H1=>∃l,YM X.K H1 u l/\∀J,JF X.K H1 J l->R J H1) I ⟨sr,wl.mono (λl q1 u H1 g1 s1 v1=>⟨l,v1,λJ j=>q1 J H1 g1 s1 j⟩) q⟩) λv s1 ⟨x,H1,I1,r1,l,⟨ad,vs,e,hh,rs⟩,q1⟩=>?_;subst e;cases r1;rcases hh with hh | hh
 ·obtain⟨au,rv,pl,hz⟩:=I1.list hh.sq;refine CN pl.isList ?_;refine⟨s1.heap.objs.size,[s1.heap.objs.size],_,_,H1,rfl,I1.kept (t':=s1.toks) λb o e=>Aj _ e,Lo ad _,⟨_,Aq _ rfl,rfl,rfl⟩,λb hb=>?_,q1 _ (UK hh rs (by rw [<- rs.length];exact hz))⟩;have e:b=s1.heap.objs.size:=by simpa using hb
  subst e;exact I1.va (Ao _) (I1.bK.fresh (Ao _))
 ·obtain⟨au,rv,pl,hz⟩:=I1.tuple (d9.of hh);refine C7 (show s1.heap.IsTuple ad au.toArray from pl) ?_;refine⟨s1.heap.objs.size,[s1.heap.objs.size],_,_,H1,rfl,I1.kept (t':=s1.toks) λb o e=>Aj _ e,rT ad _,⟨_,Aq _ rfl,rfl,rfl⟩,λb hb=>?_,q1 _ (YR hh rs (by rw [<- rs.length];exact hz))⟩;have e:b=s1.heap.objs.size:=by simpa using hb
  subst e;exact I1.va (Ao _) (I1.bK.fresh (Ao _))⟩
def okN (i j:Int):Prop:=-(2 ^ 62)<=i/\i < 2 ^ 62/\-(2 ^ 62)<=j/\j < 2 ^ 62/\(j-i).toNat<=sizeLine
def lg:PV->W (List PV)
 | .int j=>.fD (okN 0 j) (.ret (kD 0 j.toNat))
 | _=>.fail
def J6:PV->PV->PV->W (List PV)
 | .int i,.int j,.int k=>.fD (k = -1/\okN j i) (.ret (mL i (i-j).toNat))
 | _,_,_=>.fail
def YS (lo:Int) (n:Nat) (hz:n<=sizeLine):JF K H (Itr lo n) (kD lo n):=⟨by rw [jD];exact hz,λH' t=>⟨λi p hp=>by
  obtain⟨h1,rfl⟩:=pL hp;refine⟨h1,λx H2 y=>?_⟩;obtain⟨rfl,rfl⟩:=y;exact⟨kz.refl _,.int _⟩,by show n<=(kD lo n).length;rw [jD];exact Ao _⟩⟩
theorem gH (hg:Gl X "range") (hm:X.mg "range"=bm) (ha:EF X K fs a wa) (hs:d5 [a] X.env=[(false,kw a X.env)]:=by rfl):qW X K fs tg (.Call (.Name "range" p) [a] [] pos) (.bind wa lg):=
 ⟨PI.imp (LP hg hm (bc ha.p cy hs) hs) λσ H R ⟨sr,q⟩=>⟨sr,wa.mono (λx q1 u1 H1 g1 s1 v1=>by
  cases v1 with
  | int j=>exact⟨_,rfl,q1.1.2.2.1,q1.1.2.2.2.1,q1.2 _ H1 g1 s1 (YS _ _ (by have:=q1.1.2.2.2.2;omega))⟩
  | _=>exact q1.elim) q⟩⟩
def KD (hg:Gl X "range") (hm:X.mg "range"=bm) (ha:EF X K fs a wa) (hb:EF X K fs b wb) (hc:EF X K fs c wc) (hs:d5 [a,b,c] X.env=[(false,kw a X.env),(false,kw b X.env),(false,kw c X.env)]:=by rfl) (rD:d5 [b,c] X.env=[(false,kw b X.env),(false,kw c X.env)]:=by rfl) (hs3:d5 [c] X.env=[(false,kw c X.env)]:=by rfl):qW X K fs tg (.Call (.Name "range" p) [a,b,c] [] pos) (.bind wa λx=>.bind wb λy=>.bind wc λz=>J6 x y z):=
 ⟨PI.imp (LO hg hm (bc ha.p (bc hb.p (bc hc.p cy hs3) (by show d5 _ _=_;rw [rD,hs3])) (by show d5 _ _=_;rw [hs,rD])) hs rD) λσ H R ⟨sr,q⟩=>⟨sr,wa.mono (λx q1 u1 H1 g1 s1 v1=>⟨s1,wb.mono (λy q2 u2 H2 g2 s2 v2=>⟨s2,wc.mono (λz q3 u3 H3 g3 s3 v3=>by
  cases v1 with
  | int i=>
   cases v2 with
   | int j=>
    cases v3 with
    | int k=>
     obtain⟨⟨rfl,k1,k2,k3,k4,k5⟩,q3⟩:=q3;refine⟨_,_,rfl,⟨k3,k4,k1,k2⟩,q3 _ H3 ((g1.trans g2).trans g3) s3 ⟨by rw [wu];exact k5,λH' t=>⟨λi p hp=>?_,?_⟩⟩⟩
     ·obtain⟨h1,rfl⟩:=pV hp;refine⟨h1,λx H2 y=>?_⟩;obtain⟨rfl,rfl⟩:=y;exact⟨kz.refl _,.int _⟩
     ·exact Nat.le_of_eq (wu _ _).symm
    | _=>exact q3.elim
   | _=>exact q3.elim
  | _=>exact q3.elim) q2⟩) q1⟩) q⟩⟩
def Hz:PV->W (List PV)
 | .str z=>.fD (z.cps.size<=sizeLine) (.ret (z.cps.toList.map λc=>.str ⟨#[c]⟩))
 | _=>.fail
def XU (h:EF X K fs e w):qW X K fs tg e (.bind w Hz):=⟨PI.imp (WU h.p) λσ H R ⟨sr,q⟩=>⟨sr,w.mono (λx q1 u1 H1 g1 s1 v1=>by
 cases v1 with
 | str z=>
  refine⟨z,rfl,q1.2 _ H1 g1 s1 ⟨by simpa using q1.1,λH' t=>⟨λi p hp=>?_,?_⟩⟩⟩
  ·rw [Ae] at hp;cases e:z.cps.toList[i]? with
   | none=>rw [e] at hp;cases hp
   | some c=>
    rw [e] at hp;have ep:=(Option.some.inj hp).symm;subst ep;have hi:=(Ak.mp e).1;have Gh:i < z.cps.size:=by simpa using hi
    refine⟨Gh,λx H2 y=>?_⟩;obtain⟨rfl,d,hd,rfl⟩:=y;have:z.cps[i]?=ap c:=by simpa using e
    rw [this] at hd;cases hd;exact⟨kz.refl _,.str _⟩
  ·show z.cps.size<=_;simp
 | _=>exact q1.elim) q⟩⟩
def oj (hK:X.K=K) (hg:Gl X "enumerate") (hm:X.mg "enumerate"=bm) (h:IF X K fs e wl) (Hc:gR X e []:=by rfl):qW X K fs (.Tuple Ï kk tp) (.Call (.Name "enumerate" p1) [e] [] p2) (.bind wl λl=>.fD (l.length<=sizeLine) (.ret (dZ 0 l))):=
 ⟨PI.imp (Ox K hK hg hm h.p Hc) λσ H R ⟨sr,q⟩=>⟨sr,wl.mono (λl q1 u1 H1 g1 s1 v1=>by
  obtain⟨ad,vs,rfl,hh,rs⟩:=v1;have yl:∀{H':Hp}{i:Nat}{x v:V}{y:PV}{pp:ci},H' pp=bm->VR K [] H' v y->kz H' (upd H' pp (.tup [.int (i:Int),v]))/\VR K [] (upd H' pp (.tup [.int (i:Int),v])) (.ref pp) (.tup [.int ((0+i:Nat):Int),y]):=λ{H' i x v y pp} hn h4=>
   have sm:=k8 hn (.tup [.int (i:Int),v])
   ⟨sm,.tup aW (.cons (by rw [AG];exact .int _) (.cons (VR.tk sm.fi h4) .nil))⟩
  refine⟨ad,rfl,?_⟩;rcases hh with hh | hh
  ·refine .inl ⟨⟨vs,hh.sq⟩,q1.2 _ H1 g1 s1 ⟨by rw [cU];exact q1.1,λH' t=>⟨λi p hp=>?_,vs,(t.f _ _ hh).sq,by rw [rs.length,cU];exact Ao _⟩⟩⟩;obtain⟨y,hy,rfl⟩:=gP hp;obtain⟨v,h3,h4⟩:=(aO.tk t rs).get hy;refine⟨⟨vs,v,(t.f _ _ hh).sq,h3⟩,λx H3 z=>?_⟩;obtain⟨pp,x0,rfl,hn,rfl,hz⟩:=z;have:=hz vs (t.f _ _ hh).sq;rw [h3] at this;cases this;exact yl (x:=.aV) hn h4
  ·refine .inr ⟨⟨vs,d9.of hh⟩,q1.2 _ H1 g1 s1 ⟨by rw [cU];exact q1.1,λH' t=>⟨λi p hp=>?_,vs,d9.of (t.t _ _ hh),by rw [rs.length,cU];exact Ao _⟩⟩⟩;obtain⟨y,hy,rfl⟩:=gP hp;obtain⟨v,h3,h4⟩:=(aO.tk t rs).get hy;refine⟨⟨vs,v,d9.of (t.t _ _ hh),h3⟩,λx H3 z=>?_⟩;obtain⟨pp,x0,rfl,hn,rfl,hz⟩:=z;have:=hz vs (d9.of (t.t _ _ hh));rw [h3] at this;cases this;exact yl (x:=.aV) hn h4) q⟩⟩
end
def so:List Nat->List V->L2.St->L2.St
 | i::is,u::us,σ=>so is us (σ.set i (ap u))
 | _,_,σ=>σ
def fG (K:Ab) (fs:bG) (is:List Nat) (wt:PV->W T) (dP:T->bG):TG:=λv σ H Q=>∃p,aX K H σ fs/\VR K [] H v p/\(wt p).run λt=>∀us,cM σ fs H (so is us σ) (dP t) H->aX K H (so is us σ) (dP t)->Q (so is us σ) H
structure GF (X:Cx) (K:Ab) (fs:bG) (tg:ga) (is:List Nat) {T:Type} (wt:PV->W T) (dP:T->bG):Prop where p:PG X tg (fG K fs is wt dP)
def oY:PV->W (PV×PV)
 | .tup [a,b]=>.ret (a,b)
 | _=>.fail
def un3:PV->W (PV×PV×PV)
 | .tup [a,b,c]=>.ret (a,b,c)
 | _=>.fail
def un4:PV->W (PV×PV×PV×PV)
 | .tup [a,b,c,d]=>.ret (a,b,c,d)
 | _=>.fail
section
def X8 (h:PG X tg (dJ i)):GF X K fs tg [i] .ret (λp=>fs.set i (ap (.val p))):=⟨PG.imp h λv σ H Q ⟨p,sr,r,q⟩=>q [v] (cM.eR sr v p i) (sr.eR r i)⟩
def Ms (hK:X.K=K) (h:PG X tg (TR X.K 2 (mI (dJ i) (mI (dJ j) TU)))):GF X K fs tg [i,j] oY (λt=>(fs.set i (ap (.val t.1))).set j (ap (.val t.2))):=⟨PG.imp h λv σ H Q ⟨p,sr,r,q⟩=>by
 unfold oY at q
 split at q
 ·cases r with
  | tup e rs=>
   cases rs with
   | cons ra t=>
   cases t with
   | cons rb t=>
   cases t;have s1:=sr.eR ra i;exact⟨_,_,rfl,d9.of e,rfl,_,_,rfl,_,_,rfl,rfl,q [_,_] ((cM.eR sr _ _ i).trans (cM.eR s1 _ _ j)) (s1.eR rb j)⟩
 ·exact q.elim⟩
def g_3 (hK:X.K=K) (h:PG X tg (TR X.K 3 (mI (dJ i) (mI (dJ j) (mI (dJ k) TU))))):GF X K fs tg [i,j,k] un3 (λt=>((fs.set i (ap (.val t.1))).set j (ap (.val t.2.1))).set k (ap (.val t.2.2))):=⟨PG.imp h λv σ H Q ⟨p,sr,r,q⟩=>by
 unfold un3 at q
 split at q
 ·cases r with
  | tup e rs=>
   cases rs with
   | cons ra t=>
   cases t with
   | cons rb t=>
   cases t with
   | cons rc t=>
   cases t;have s1:=sr.eR ra i;have s2:=s1.eR rb j;exact⟨_,_,rfl,d9.of e,rfl,_,_,rfl,_,_,rfl,_,_,rfl,rfl,q [_,_,_] (((cM.eR sr _ _ i).trans (cM.eR s1 _ _ j)).trans (cM.eR s2 _ _ k)) (s2.eR rc k)⟩
 ·exact q.elim⟩
def g_4 {l:Nat} (hK:X.K=K) (h:PG X tg (TR X.K 4 (mI (dJ i) (mI (dJ j) (mI (dJ k) (mI (dJ l) TU)))))):GF X K fs tg [i,j,k,l] un4 (λt=>(((fs.set i (ap (.val t.1))).set j (ap (.val t.2.1))).set k (ap (.val t.2.2.1))).set l (ap (.val t.2.2.2))):=⟨PG.imp h λv σ H Q ⟨p,sr,r,q⟩=>by
 unfold un4 at q
 split at q
 ·cases r with
  | tup e rs=>
   cases rs with
   | cons ra t=>
   cases t with
   | cons rb t=>
   cases t with
   | cons rc t=>
   cases t with
   | cons rd t=>
   cases t;have s1:=sr.eR ra i;have s2:=s1.eR rb j;have s3:=s2.eR rc k;exact⟨_,_,rfl,d9.of e,rfl,_,_,rfl,_,_,rfl,_,_,rfl,_,_,rfl,rfl,q [_,_,_,_] ((((cM.eR sr _ _ i).trans (cM.eR s1 _ _ j)).trans (cM.eR s2 _ _ k)).trans (cM.eR s3 _ _ l)) (s3.eR rd l)⟩
 ·exact q.elim⟩
end
section
variable {S T:Type}
def dY:List PV->S->(PV->S->W S)->W S
 | [],s,_=>.ret s
 | x::r,s,f=>.bind (f x s) λs'=>dY r s' f
inductive Lp (S T:Type) where
 | go (s:S) | out (t:T)
def oz:List PV->S->(PV->S->W (Lp S T))->W (Lp S T)
 | [],s,_=>.ret (.go s)
 | x::r,s,f=>.bind (f x s) λo=>match o with
  | .go s'=>oz r s' f
  | .out t=>.ret (.out t)
def Iw (k:S->W T) (inj:R->T):Lp S R->W T
 | .go s=>k s
 | .out r=>.ret (inj r)
@[simp] theorem afJ (k:S->W T) (inj:R->T) (s:S):Iw k inj (.go s)=k s:=(rfl)
@[simp] theorem ade (k:S->W T) (inj:R->T) (r:R):Iw k inj (.out r)=.ret (inj r):=(rfl)
def lpE (hd:S->bG) (out:R->End):Lp S R->End
 | .go s=>.nc (hd s)
 | .out r=>out r
def mR (c:S->W Bool) (b:S->W S):Nat->S->W S
 | 0,_=>.fail
 | n+1,s=>.bind (c s) λk=>if k=true then .bind (b s) (mR c b n) else .ret s
def kQ (c:S->W Bool) (b:S->W S) (s:S):W S:=⟨λQ=>∃n,(mR c b n s).run Q,λh ⟨n,q⟩=>⟨n,(mR c b n s).mono h q⟩⟩
def jN (c:S->W Bool) (b:S->W (Lp S T)):Nat->S->W (Lp S T)
 | 0,_=>.fail
 | n+1,s=>.bind (c s) λk=>if k=true then .bind (b s) (λo=>match o with
  | .go s'=>jN c b n s'
  | .out t=>.ret (.out t)) else .ret (.go s)
def rS (c:S->W Bool) (b:S->W (Lp S T)) (s:S):W (Lp S T):=⟨λQ=>∃n,(jN c b n s).run Q,λh ⟨n,q⟩=>⟨n,(jN c b n s).mono h q⟩⟩
end
section
variable {c:ga}{rest:List tt}{S T T2:Type}{hd:S->bG}{s0:S}{wt:PV->W T2}{dP:S->T2->bG}{k:S->W T}{out:T->End}{R:Type}{inj:R->T}
theorem SF.for {f:PV->S->W S}{wb:T2->S->W S} (hp:Da (dL X.prog X.w) X.A X.env X.xe) (hc:X.calm=true) (hi:qW X K fs tg iter wl) (hl:jK fs (hd s0)) (hg:∀s,GF X K (hd s) tg is wt (dP s)) (hf:∀p s,f p s=.bind (wt p) λt=>wb t s)
  (hb:∀s t,SF X K false (dP s t) body (wb t s) λs'=>.nc (hd s')) (hr:∀s,SF X K x (hd s) rest (k s) out) (hs:wI X iter:=by intro _;rfl) :
  SF X K x fs (.For tg iter body [] pos::rest) (.bind wl λl=>.bind (dY l s0 f) k) out:=by
 refine SF.step (Ov (g:=λv σ H Q=>∃s,fG K (hd s) is wt (dP s) v σ H Q) (tb:=λD σ H=>∃s t,fS K false (dP s t) (wb t s) (λs'=>.nc (hd s')) D σ H) hp hc hi.p (λZ s σ H v u Q I r ⟨s1,q⟩=>(hg s1).p Z s σ H v u Q I r q) (λZ s σ H D I ⟨s1,t1,q⟩=>(hb s1 t1).p Z s σ H D I q) hs) λD σ H ⟨sr,q⟩=>?_;refine⟨sr,wl.mono (λl q1 J H1 g1 s1 jf=>?_) q⟩;refine⟨λi m σ' H'=>∃s,aX K H' σ' (hd s)/\cM σ fs H σ' (hd s) H'/\JF K H' J l/\m=l.length-i/\i<=l.length/\(dY (l.drop i) s f).run λs'=>(k s').run λt=>bV K x σ fs H D (out t),⟨l.length,s0,s1.le hl,g1.f.trans (cM.le s1 hl),jf,by simp,Bb _,by simpa using q1⟩,?_⟩;rintro i m σ2 H2 ⟨s,s2,g2,Th,rfl,hi,q2⟩;obtain⟨j1,j2⟩:=Th.2 H2 (bB.refl H2);by_cases j8:i < l.length
 ·obtain⟨go,yl⟩:=j1 i _ (Ad j8);have ed:=Bu j8;rw [ed] at q2;refine .inr ⟨go,λσ3 H3=>∃s',aX K H3 σ3 (hd s')/\cM σ fs H σ3 (hd s') H3/\JF K H3 J l/\(dY (l.drop (i+1)) s' f).run λs'=>(k s').run λt=>bV K x σ fs H D (out t),λσ3 H3 ⟨s',a1,a2,a3,a4⟩=>⟨l.length-(i+1),by omega,s',a1,a2,a3,rfl,j8,a4⟩,λv H3 y=>?_⟩;obtain⟨sm,vx⟩:=yl v H3 y;have q2:(f l[i] s).run λs'=>(dY (l.drop (i+1)) s' f).run λs'=>(k s').run λt=>bV K x σ fs H D (out t):=q2;rw [hf] at q2;have s3:=s2.same sm;have g3:=g2.trans (cM.same sm s2);refine⟨s,_,s3,vx,(wt l[i]).mono (λt q4 us g4 s4=>?_) q2⟩;refine⟨s,t,s4,(wb t s).mono (λs' q5 σ5 H5 g5 s5=>?_) q4⟩;have fin:∃s',aX K H5 σ5 (hd s')/\cM σ fs H σ5 (hd s') H5/\JF K H5 J l/\(dY (l.drop (i+1)) s' f).run λs'=>(k s').run λt=>bV K x σ fs H D (out t):=⟨s',s5,(g3.trans g4).trans g5,Th.tk (bB.trans sm.fi (bB.trans (g4.eQ s3) (g5.eQ s4))),q5⟩;exact⟨λ_=>fin,fin⟩
 ·have e:i=l.length:=by omega
  subst e;rw [EK] at q2;exact .inl ⟨j2,hd s,k s,hr s,s2,(k s).mono (λt q3=>q3.go g2 sr s2) q2⟩
theorem SF.oz {f:PV->S->W (Lp S R)}{wb:T2->S->W (Lp S R)} (hp:Da (dL X.prog X.w) X.A X.env X.xe) (hc:X.calm=true) (hi:qW X K fs tg iter wl) (hl:jK fs (hd s0)) (hg:∀s,GF X K (hd s) tg is wt (dP s)) (hf:∀p s,f p s=.bind (wt p) λt=>wb t s)
  (ho:∀t,(out (inj t)).KG)
  (hb:∀s t,SF X K false (dP s t) body (wb t s) (lpE hd λr=>out (inj r))) (hr:∀s,SF X K x (hd s) rest (k s) out) (hs:wI X iter:=by intro _;rfl) :
  SF X K x fs (.For tg iter body [] pos::rest) (.bind wl λl=>.bind (FL.oz l s0 f) (Iw k inj)) out:=by
 refine SF.step (Ov (g:=λv σ H Q=>∃s,fG K (hd s) is wt (dP s) v σ H Q) (tb:=λD σ H=>∃s t,fS K false (dP s t) (wb t s) (lpE hd λr=>out (inj r)) D σ H) hp hc hi.p (λZ s σ H v u Q I r ⟨s1,q⟩=>(hg s1).p Z s σ H v u Q I r q) (λZ s σ H D I ⟨s1,t1,q⟩=>(hb s1 t1).p Z s σ H D I q) hs) λD σ H ⟨sr,q⟩=>?_;refine⟨sr,wl.mono (λl q1 J H1 g1 s1 jf=>?_) q⟩;have lo:∀(D':Ends) (y:Bool) (t:R),D'.rt=D.rt->bV K x σ fs H D (out (inj t))->bV K y σ fs H D' (out (inj t)):=λD' y t e h=>bV.aaD (ho t) e h;refine⟨λi m σ' H'=>∃s,aX K H' σ' (hd s)/\cM σ fs H σ' (hd s) H'/\JF K H' J l/\m=l.length-i/\i<=l.length/\(FL.oz (l.drop i) s f).run λo=>(Iw k inj o).run λt=>bV K x σ fs H D (out t),⟨l.length,s0,s1.le hl,g1.f.trans (cM.le s1 hl),jf,by simp,Bb _,by simpa using q1⟩,?_⟩;rintro i m σ2 H2 ⟨s,s2,g2,Th,rfl,hi,q2⟩;obtain⟨j1,j2⟩:=Th.2 H2 (bB.refl H2);by_cases j8:i < l.length
 ·obtain⟨go,yl⟩:=j1 i _ (Ad j8);have ed:=Bu j8;rw [ed] at q2;refine .inr ⟨go,λσ3 H3=>∃s',aX K H3 σ3 (hd s')/\cM σ fs H σ3 (hd s') H3/\JF K H3 J l/\(FL.oz (l.drop (i+1)) s' f).run λo=>(Iw k inj o).run λt=>bV K x σ fs H D (out t),λσ3 H3 ⟨s',a1,a2,a3,a4⟩=>⟨l.length-(i+1),by omega,s',a1,a2,a3,rfl,j8,a4⟩,λv H3 y=>?_⟩;obtain⟨sm,vx⟩:=yl v H3 y;have q2:(f l[i] s).run λo=>(match o with | .go s'=>FL.oz (l.drop (i+1)) s' f | .out t=>bd (.out t)).run λo=>(Iw k inj o).run λt=>bV K x σ fs H D (out t):=q2;rw [hf] at q2;have s3:=s2.same sm;have g3:=g2.trans (cM.same sm s2);refine⟨s,_,s3,vx,(wt l[i]).mono (λt q4 us g4 s4=>?_) q2⟩;refine⟨s,t,s4,(wb t s).mono (λo q5=>?_) q4⟩;cases o with
  | out t5=>
   refine bV.go (g3.trans g4) sr s4 (lo _ false t5 ?_ q5);rfl
  | go s'=>
   intro σ5 H5 g5 s5;have fin:∃s',aX K H5 σ5 (hd s')/\cM σ fs H σ5 (hd s') H5/\JF K H5 J l/\(FL.oz (l.drop (i+1)) s' f).run λo=>(Iw k inj o).run λt=>bV K x σ fs H D (out t):=⟨s',s5,(g3.trans g4).trans g5,Th.tk (bB.trans sm.fi (bB.trans (g4.eQ s3) (g5.eQ s4))),q5⟩;exact⟨λ_=>fin,fin⟩
 ·have e:i=l.length:=by omega
  subst e;rw [EK] at q2;exact .inl ⟨j2,hd s,k s,hr s,s2,(k s).mono (λt q3=>q3.go g2 sr s2) q2⟩
def SF.zd {cw:S->W Bool}{b:S->W S} (hp:Da (dL X.prog X.w) X.A X.env X.xe) (hl:jK fs (hd s0)) (hc:∀s,TF X K (hd s) c (cw s)) (hb:∀s,SF X K false (hd s) body (b s) λs'=>.nc (hd s')) (hr:∀s,SF X K x (hd s) rest (k s) out) :
  SF X K x fs (.While c body [] pos::rest) (.bind (kQ cw b s0) k) out:=by
 refine SF.step (zI (tc:=λσ H Q=>∃s,fT K (hd s) (cw s) σ H Q) (tb:=λD σ H=>∃s,fS K false (hd s) (b s) (λs'=>.nc (hd s')) D σ H) hp (λZ s σ H Q I ⟨s1,q⟩=>(hc s1).p Z s σ H Q I q) (λZ s σ H D I ⟨s1,q⟩=>(hb s1).p Z s σ H D I q)) λD σ H ⟨sr,n,q⟩=>?_;refine⟨λm σ' H'=>∃s,aX K H' σ' (hd s)/\cM σ fs H σ' (hd s) H'/\(mR cw b m s).run λs'=>(k s').run λt=>bV K x σ fs H D (out t),⟨n,s0,sr.le hl,cM.le sr hl,q⟩,?_⟩;rintro m σ1 H1 ⟨s,s1,g1,q1⟩;cases m with
 | zero=>exact q1.elim
 | succ m=>
  refine⟨s,s1,(cw s).mono (λkk q2 H2 g2 s2=>?_) q1⟩;cases kk with
  | false=>
   refine uY ?_;exact⟨hd s,k s,hr s,s2,(k s).mono (λt q3=>q3.go (g1.trans g2.f) sr s2) q2⟩
  | true=>
   refine uX ?_;refine⟨λσ3 H3=>∃s,aX K H3 σ3 (hd s)/\cM σ fs H σ3 (hd s) H3/\(mR cw b m s).run λs'=>(k s').run λt=>bV K x σ fs H D (out t),λσ3 H3 a=>⟨m,Du m,a⟩,s,s2,(b s).mono (λs' q5 σ5 H5 g5 s5=>?_) q2⟩;have fin:∃s,aX K H5 σ5 (hd s)/\cM σ fs H σ5 (hd s) H5/\(mR cw b m s).run λs'=>(k s').run λt=>bV K x σ fs H D (out t):=⟨s',s5,(g1.trans g2.f).trans g5,q5⟩;exact⟨λ_=>fin,fin⟩
def SF.rS {cw:S->W Bool}{b:S->W (Lp S R)} (hp:Da (dL X.prog X.w) X.A X.env X.xe) (hl:jK fs (hd s0)) (hc:∀s,TF X K (hd s) c (cw s)) (ho:∀t,(out (inj t)).KG)
  (hb:∀s,SF X K false (hd s) body (b s) (lpE hd λr=>out (inj r))) (hr:∀s,SF X K x (hd s) rest (k s) out) :
  SF X K x fs (.While c body [] pos::rest) (.bind (FL.rS cw b s0) (Iw k inj)) out:=by
 refine SF.step (zI (tc:=λσ H Q=>∃s,fT K (hd s) (cw s) σ H Q) (tb:=λD σ H=>∃s,fS K false (hd s) (b s) (lpE hd λr=>out (inj r)) D σ H) hp (λZ s σ H Q I ⟨s1,q⟩=>(hc s1).p Z s σ H Q I q) (λZ s σ H D I ⟨s1,q⟩=>(hb s1).p Z s σ H D I q)) λD σ H ⟨sr,n,q⟩=>?_;have lo:∀(D':Ends) (y:Bool) (t:R),D'.rt=D.rt->bV K x σ fs H D (out (inj t))->bV K y σ fs H D' (out (inj t)):=λD' y t e h=>bV.aaD (ho t) e h;refine⟨λm σ' H'=>∃s,aX K H' σ' (hd s)/\cM σ fs H σ' (hd s) H'/\(jN cw b m s).run λo=>(Iw k inj o).run λt=>bV K x σ fs H D (out t),⟨n,s0,sr.le hl,cM.le sr hl,q⟩,?_⟩;rintro m σ1 H1 ⟨s,s1,g1,q1⟩;cases m with
 | zero=>exact q1.elim
 | succ m=>
  refine⟨s,s1,(cw s).mono (λkk q2 H2 g2 s2=>?_) q1⟩;cases kk with
  | false=>
   refine uY ?_;exact⟨hd s,k s,hr s,s2,(k s).mono (λt q3=>q3.go (g1.trans g2.f) sr s2) q2⟩
  | true=>
   refine uX ?_;refine⟨λσ3 H3=>∃s,aX K H3 σ3 (hd s)/\cM σ fs H σ3 (hd s) H3/\(jN cw b m s).run λo=>(Iw k inj o).run λt=>bV K x σ fs H D (out t),λσ3 H3 a=>⟨m,Du m,a⟩,s,s2,(b s).mono (λo q5=>?_) q2⟩;cases o with
   | out t5=>
    refine bV.go (g1.trans g2.f) sr s2 (lo _ false t5 ?_ q5);rfl
   | go s'=>
    intro σ5 H5 g5 s5;have fin:∃s,aX K H5 σ5 (hd s)/\cM σ fs H σ5 (hd s) H5/\(jN cw b m s).run λo=>(Iw k inj o).run λt=>bV K x σ fs H D (out t):=⟨s',s5,(g1.trans g2.f).trans g5,q5⟩;exact⟨λ_=>fin,fin⟩
end
end
end FL
variable {f:PL.PV->FL.W (Option PL.PV)}{nt:FL.bG}
namespace FL
section
open PySem PySem.Spec PyProof.Rows L2 PL
variable {K:Ab}
def kJ:List PV->(PV->W (Option PV))->W (List PV)
 | [],_=>.ret []
 | x::r,f=>.bind (f x) λo=>.bind (kJ r f) λl=>.ret (o.toList++l)
def mapW:List PV->(PV->W PV)->W (List PV)
 | [],_=>.ret []
 | x::r,f=>.bind (f x) λy=>.bind (mapW r f) λl=>.ret (y::l)
theorem xD (f:PV->W PV):∀l,mapW l f=kJ l λp=>.bind (f p) λv=>.ret (ap v)
 | []=>rfl
 | x::r=>by
  show am (f x) (λy=>am (mapW r f) λl=>bd (y::l))=am (f x) λy=>am (kJ r _) λl=>bd (y::l);rw [xD f r]
def cj (ix:List (Option Nat)) (fs:bG):bG:=ix.map λo=>match o with | some j=>(fs[j]?).getD bm | none=>bm
section
def oQ {s:SL} (h:(cj ix fs)[i]?=ap (ap s)):∃j,ix[i]?=ap (ap j)/\fs[j]?=ap (ap s):=by
 unfold cj at h;rw [Ae] at h;cases q:ix[i]? with
 | none=>rw [q] at h;cases h
 | some o=>
  rw [q] at h;cases o with
  | none=>cases h
  | some j=>
   refine⟨j,rfl,?_⟩;have h:(fs[j]?).getD bm=ap s:=Option.some.inj h;cases z:fs[j]? with
   | none=>rw [z] at h;cases h
   | some y=>rw [z] at h;exact congrArg ap h
def my (h:ix[i]?=ap (ap j)) (e:σ[j]?=ap (ap u)):(oP ix σ)[i]?=ap (ap u):=by
 unfold oP;rw [Ae,h];show ap ((σ[j]?).getD bm)=_;rw [e];rfl
def aX.gD (s:aX K H σ fs) (inj:∀i i' j:Nat,ix[i]?=ap (ap j)->ix[i']?=ap (ap j)->i=i'):aX K H (oP ix σ) (cj ix fs):=by
 refine⟨by unfold oP cj;simp,λi t e=>?_,λi i' t u x y a e1 e2 o1 o2 q1 q2 z1 z2=>?_⟩
 ·obtain⟨j,h1,h2⟩:=oQ e;obtain⟨u,h3,h4⟩:=s.at' j t h2;exact⟨u,my h1 h3,h4⟩
 ·obtain⟨j,h1,h2⟩:=oQ e1;obtain⟨j',iA,uI⟩:=oQ e2;obtain⟨u1,h3,_⟩:=s.at' j t h2;obtain⟨u2,Iu,_⟩:=s.at' j' u uI;rw [my h1 h3] at q1;rw [my iA Iu] at q2;cases q1;cases q2;have:=s.nd j j' t u x y a h2 uI o1 o2 h3 Iu z1 z2;subst this;exact inj i i' j h1 iA
structure UL (ix:List (Option Nat)) (σ:L2.St) (fs:bG) (σ':L2.St) (bT:bG):Prop where
 own:∀(i:Nat) (t:SL),bT[i]?=ap (ap t)->t.own=true->∃j,ix[i]?=ap (ap j)/\fs[j]?=ap (ap t)/\σ'[i]?=σ[j]?
def UL.xv (h:UL ix σ fs σ' bT) (o:dH σ' bT a):dH σ fs a:=by
 obtain⟨i,t,x,e1,e2,e3,e4⟩:=o;obtain⟨j,h1,h2,h3⟩:=h.own i t e1 e2;exact⟨j,t,x,h2,e2,h3▸e3,e4⟩
def UL.kM (h:UL ix σ fs σ' bT) (o:fe σ' bT φ a):fe σ fs φ a:=by
 obtain⟨i,e1,e3⟩:=o;obtain⟨j,h1,h2,h3⟩:=h.own i _ e1 rfl;exact⟨j,h2,h3▸e3⟩
def UL.out (h:UL ix σ fs σ' bT) (s:aX K H1 σ fs) (g:di σ' bT H1 H2) (s2:aX K H2 σ' bT):aX K H2 σ fs/\di σ fs H1 H2:=by
 have gf:di σ fs H1 H2:=⟨λa o e n=>g.keep a o e λφ z=>n φ (h.kM z),g.there⟩;refine⟨⟨s.len,λj t e=>?_,s.nd⟩,gf⟩;obtain⟨u,h1,h2⟩:=s.at' j t e;refine⟨u,h1,?_⟩;have tk:=gf.eQ s;rcases h2 with⟨v,q,r⟩ | ⟨a,q,r⟩
 ·exact .inl ⟨v,q,VR.tk tk r⟩
 ·subst q;refine .inr ⟨a,rfl,?_⟩;by_cases c:∃b,t.own=true/\t.has a b/\dH σ' bT b
  ·obtain⟨b,ow,hb,i,t',x,c1,c2,c3,c4⟩:=c;obtain⟨j',k1,k2,k3⟩:=h.own i t' c1 c2;have jj:=s.nd j j' t t' a x b e k2 ow c2 h1 (k3▸c3) hb c4;subst jj;rw [e] at k2;cases k2;exact s2.ownAt c1 c2 (k3.trans h1)
  ·exact r.mono tk (λb o ow hb z=>g.qf z λy=>c ⟨b,ow,hb,y⟩)
theorem sk:∀{is:List Nat}{us:List V}{σ:L2.St}{i:Nat},i∉is->(so is us σ)[i]?=σ[i]?
 | [],us,σ,i,_=>by cases us <;> rfl
 | j::is,[],σ,i,_=>rfl
 | j::is,u::us,σ,i,h=>by
  rw [so,sk (λz=>h (AW _ z))];exact aL (λz=>h (by rw [z];exact BF))
end
section
variable {T2:Type}{wt:PV->W T2}{dP:T2->bG}{tf:T2->W Bool}{te:T2->W PV}
structure FF (X:Cx) (K:Ab) (fs:bG) (É:List ga) (w:W Bool):Prop where p:Zo X É (fT K fs w)
def P0:FF X K fs [] (.ret true):=⟨λZ s σ H Q I ⟨sr,q⟩=>So Z s σ H Q I (q H .refl sr)⟩
def yf {c:ga}{w:W Bool} (h:TF X K fs c w):FF X K fs [c] w:=⟨Sn h.p⟩
def vn (is:List Nat) (nt:bG) (dP:T2->bG):Prop:=∀t,(dP t).length=nt.length/\∀(i:Nat) (s:SL),(dP t)[i]?=ap (ap s)->(i∈is/\s.own=false)\/(i∉is/\nt[i]?=ap (ap s))
theorem P7 (S:aA X.env.scope X.N sc N' ix) (hb:nt=cj ix fs) (hf:∀p,f p=.bind (wt p) λt=>.bind (tf t) λk=>if k=true then .bind (te t) λv=>.ret (ap v) else .ret bm) (hl:vn is nt dP) (hr:∀t,jK (dP t) nt) (u0:∀j∈is,ix[j]?=ap bm) :
  ∀σ H Q,fL K fs (.bind wl λl=>kJ l f) σ H Q->tLc ix (fIt K fs wl) (λv σ H Q=>fG K nt is wt dP v σ H Q) (λσ H Q=>∃t,fT K (dP t) (tf t) σ H Q) (λσ H Q=>∃t,fE K (dP t) (te t) σ H Q) σ H Q:=by
 subst hb;rintro σ H Q ⟨sr,q⟩;refine⟨sr,wl.mono (λl q1 J H1 g1 s1 jf D hD=>?_) q⟩;have inj:∀i i' j:Nat,ix[i]?=ap (ap j)->ix[i']?=ap (ap j)->i=i':=λi i' j h1 h2=>by
  have hi:i < N'.length:=by rw [<- S.len];exact (Ak.mp h1).1
  have Gh:i' < N'.length:=by rw [<- S.len];exact (Ak.mp h2).1
  have e1:=(S.at h1 (Ad hi)).1;have e2:=(S.at h2 (Ad Gh)).1;rw [e1] at e2;exact (EI S.nd).mp (Option.some.inj e2)
 have nD:=s1.noOwn hD;refine⟨λi m σ' ys H'=>∃Å,aX K H' σ fs/\di σ fs H H'/\aX K H' σ' (cj ix fs)/\UL ix σ fs σ' (cj ix fs)/\JF K H' J l/\H' D=ap (.lst ys)/\aO K [] H' ys Å/\Å.length<=i/\m=l.length-i/\i<=l.length/\
  (kJ (l.drop i) f).run λr=>∀a vs H',di σ fs H H'->aX K H' σ fs->H a=bm->H' a=ap (.lst vs)->aO K [] H' vs (Å++r)->Q (.ref a) H',⟨l.length,[],?_⟩,?_⟩
 ·have sm:=k8 hD (.lst []);refine⟨s1.same sm,g1.trans (di.same sm),(s1.same sm).gD inj,⟨λi t e o=>?_⟩,jf.tk sm.fi,aW,.nil,Bb _,by simp,Bb _,by simpa using q1⟩;obtain⟨j,h1,h2⟩:=oQ e;obtain⟨u,h3,_⟩:=s1.at' j t h2;exact⟨j,h1,h2,by rw [my h1 h3,h3]⟩
 rintro i m σ2 ys H2 ⟨Å,sO,gO,s2,inn,Th,hy,vy,abB,rfl,hi,q2⟩;refine⟨hy,?_⟩;obtain⟨j1,j2⟩:=Th.2 H2 (bB.refl H2);by_cases j8:i < l.length
 ·obtain⟨go,yl⟩:=j1 i _ (Ad j8);have ed:=Bu j8;rw [ed] at q2;refine .inr ⟨go,λv H3 y=>?_⟩;obtain⟨sm,vx⟩:=yl v H3 y;have q2:(f l[i]).run λo=>(kJ (l.drop (i+1)) f).run λr=>∀a vs H',di σ fs H H'->aX K H' σ fs->H a=bm->H' a=ap (.lst vs)->aO K [] H' vs (Å++(o.toList++r))->Q (.ref a) H':=q2;rw [hf] at q2;have s3:=s2.same sm;have sO3:=sO.same sm;have gO3:=gO.trans (di.same sm);have hy3:=sm _ _ hy;have vy3:=aO.tk sm.fi vy;have jf3:=Th.tk sm.fi;refine⟨_,s3,vx,(wt l[i]).mono (λt q4 us g4 s4=>?_) q2⟩;have Tt:UL ix σ fs (so is us σ2) (dP t):=⟨λj u e o=>by
   rcases (hl t).2 j u e with⟨_,z⟩ | ⟨n,z⟩
   ·rw [z] at o;cases o
   ·obtain⟨j',k1,k2,k3⟩:=inn.own j u z o;exact⟨j',k1,k2,by rw [sk n];exact k3⟩⟩
  refine⟨t,s4,(tf t).mono (λkk q5 H5 g5 s5=>?_) q4⟩;obtain⟨sO5,afM⟩:=Tt.out sO3 g5 s5;have gO5:=gO3.trans afM;have tk5:=g5.eQ s4;have nD4:¬dH (so is us σ2) (dP t) D:=λz=>nD (Tt.xv z);have hy5:=g5.qf hy3 nD4;have vy5:=aO.tk tk5 vy3;have jf5:=jf3.tk (g5.eQ s4);have Ê:∀{H6:Hp},aX K H6 (so is us σ2) (dP t)->aX K H6 (so is us σ2) (cj ix fs)/\UL ix σ fs (so is us σ2) (cj ix fs):=λ{H6} z=>⟨z.le (hr t),⟨λj u e o=>Tt.own j u ((hr t).at j u e) o⟩⟩;cases kk with
  | false=>
   refine uY ⟨l.length-(i+1),by omega,Å,sO5,gO5,(Ê s5).1,(Ê s5).2,jf5,hy5,vy5,by omega,rfl,j8,?_⟩;exact q5
  | true=>
   refine uX ⟨t,s5,(te t).mono (λv6 q6 u6 H6 g6 s6 v6'=>?_) q5⟩;obtain⟨sO6,afL⟩:=Tt.out sO5 g6 s6;have gO6:=gO5.trans afL;have tk6:=g6.eQ s5;have í:=g6.qf hy5 nD4;have vy6:=aO.tk tk6 vy5;have tkD:=lU (K:=K) (.lst (ys++[u6])) í;have hD0:=g1.there D hD;refine⟨í,by rw [vy6.length];have:=Th.1;omega,l.length-(i+1),by omega,Å++[v6],sO6.side nD í _,gO6.side hD0 _,((Ê s6).1).side (λz=>nD ((Ê s6).2.xv z)) í _,(Ê s6).2,(jf5.tk (g6.eQ s5)).tk (lU _ í),aW,aO.tk tkD (vy6.append (.cons v6' .nil)),by rw [Af];simp;omega,rfl,j8,?_⟩;refine (kJ (l.drop (i+1)) f).mono (λr q7 a vs H7 g7 s7 n e v7=>q7 a vs H7 g7 s7 n e ?_) q6;simpa using v7
 ·have e:i=l.length:=by omega
  subst e;rw [EK] at q2;exact .inl ⟨j2,q2 D ys H2 gO sO (g1.there D hD) hy (by simpa using vy)⟩
end
end
end FL
namespace L2
open PySem PySem.Spec PyProof.Rows
def qE (l:ci) (items:Array bv) (n:Nat) (b:ci) (cz:Array bv) (n2:Nat) (sl:Array (Option bv)) (hc0:¬(!items.isEmpty&&Builtin.List.listTooLong (items.size+cz.size))=true) (hc1:items.size<=sizeLine) (rD:items.size+cz.size<=sizeLine+1) :
  Meets (BT.«list.extend» ⟨[.ref l,.ref b],[]⟩) (λ_ R s=>s.heap.get? l=ap {cls:=.type "list",dict:=bm,data:=.seq items n,slots:=#[]}/\s.heap.get? b=ap {cls:=.type "list",dict:=bm,data:=.seq cz n2,slots:=sl}/\R (.ok (.ret AX)) {s with heap:=s.heap.update l (Bq λx=>x++cz),toks:=s.toks}):=
 .of_wp λprog w A R s h=>by
  obtain⟨hp,g,d,tk,os⟩:=s;obtain⟨hl,hb,h⟩:=h;have f1:=ES;have f2:=Dr;have f3:=DM;have f4:=DA;have f5:=DB;have Io:(items++cz).size<=sizeLine+1:=by rw [Es];exact rD
  wp_walk using (DN hl rfl (hz:=hc1) (_hz':=Io)),B4 hl,B4 hb;exact⟨_,rfl,h⟩
def aan (K:Ab):V->List V->Hp->VK->Prop:=λx vs H Q=>∃l b xs zs,x=.ref l/\vs=[.ref b]/\H l=ap (.lst xs)/\(dc K H b zs\/d9 K H b zs)/\xs.length+zs.length<=sizeLine/\zh H l (.lst (xs++zs)) (Q .aV)
theorem SY (K:Ab) (hK:X.K=K):Lh X "list.extend" (aan K):=by
 subst hK;intro Z s σ H x vs v us Q I rx rv h;obtain⟨l,b,xs,zs,rfl,rfl,hH,hB | hB,hz,q⟩:=h
 ·cases rx;obtain⟨u,rfl,ru⟩:=rv.one;cases ru;obtain⟨z,au,n,r,hl,e⟩:=I.pC hH;obtain⟨cK,r2,⟨⟨cls,dd,data,sl⟩,n2,e2,hc,hd,jE⟩,z2⟩:=I.list hB;simp only at hc hd jE;subst hc hd jE;have Mf:=r2.length;have hsz:au.toArray.size+cK.toArray.size<=sizeLine:=by rw [Ai,Ai];omega
  have tQ:¬(!au.toArray.isEmpty&&Builtin.List.listTooLong (au.toArray.size+cK.toArray.size))=true:=by
   rw [jr hsz,Ei];exact AV
  refine ul D8 ⟨_,e,rfl⟩ DU (Dz _ _)
   (qE l au.toArray n b cK.toArray n2 sl tQ (by rw [Ai];omega) ∅) ⟨e,e2,?_⟩
  refine⟨.aV,_,I.HY (its':=au++cK) hH e (by simp) (r.append r2) ?_,rfl,q.at⟩;rw [Af];omega
 ·exact zY Z s σ H _ _ v us Q I rx rv ⟨l,b,xs,zs,rfl,rfl,hH,hB,hz,q⟩
end L2
variable {wi we:FL.W PL.PV}{z:BZ}{ei:BU}
namespace FL
section
open PySem PySem.Spec PyProof.Rows L2 PL
variable {K:Ab}
section
variable {T2:Type}{wt:PV->W T2}{dP:T2->bG}{tf:T2->W Bool}{te:T2->W PV}
def Xx (hc:X.calm=true) (S:aA X.env.scope X.N sc N' ix) (hi:qW X K fs tg iter wl) (hg:∀cl C s2 H2 fp,GF (gD X sc N' cl C s2 H2 fp) K (cj ix fs) tg is wt dP) (ñ:∀cl C s2 H2 fp t,FF (gD X sc N' cl C s2 H2 fp) K (dP t) É (tf t)) (he:∀cl C s2 H2 fp t,EF (gD X sc N' cl C s2 H2 fp) K (dP t) Ä (te t))
  (hf:∀p,f p=.bind (wt p) λt=>.bind (tf t) λk=>if k=true then .bind (te t) λv=>.ret (ap v) else .ret bm) (hl:vn is (cj ix fs) dP/\∀t,jK (dP t) (cj ix fs)) (u0:∀j∈is,ix[j]?=ap bm) (hs:wI X iter:=by intro _;rfl) :
  LF X K fs (.ListComp Ä [⟨tg,iter,É,0⟩] sc pos) (.bind wl λl=>kJ l f):=
 ⟨PE.imp (aay hc S hi.p (λcl C s2 H2 fp=>(hg cl C s2 H2 fp).p) (λcl C s2 H2 fp Z s σ H Q I ⟨t,q⟩=>(ñ cl C s2 H2 fp t).p Z s σ H Q I q) (λcl C s2 H2 fp Z s σ H Q I ⟨t,q⟩=>(he cl C s2 H2 fp t).p Z s σ H Q I q) hs) (P7 S rfl hf hl.1 hl.2 u0)⟩
def Vg {f:PV->W PV} (hc:X.calm=true) (S:aA X.env.scope X.N sc N' ix) (hi:qW X K fs tg iter wl) (hg:∀cl C s2 H2 fp,GF (gD X sc N' cl C s2 H2 fp) K (cj ix fs) tg is wt dP) (he:∀cl C s2 H2 fp t,EF (gD X sc N' cl C s2 H2 fp) K (dP t) Ä (te t))
  (hf:∀p,f p=.bind (wt p) te) (hl:vn is (cj ix fs) dP/\∀t,jK (dP t) (cj ix fs)) (u0:∀j∈is,ix[j]?=ap bm) (hs:wI X iter:=by intro _;rfl) :
  LF X K fs (.ListComp Ä [⟨tg,iter,[],0⟩] sc pos) (.bind wl λl=>mapW l f):=by
 have:(λl=>mapW l f)=λl=>kJ l λp=>.bind (wt p) λt=>.bind (.ret true) λk=>if k=true then .bind (te t) λv=>.ret (ap v) else .ret bm:=funext λl=>by
  rw [xD];congr 1;funext p;rw [hf];rfl
 rw [this];exact Xx (tf:=λ_=>.ret true) hc S hi hg (λ_ _ _ _ _ _=>P0) he (λp=>rfl) hl u0 hs
def SF.U2 {rest:List tt}{out:T->End}{k:List PV->W T} (hc:X.calm=true) (hN:X.N.Nodup) (Gh:X.N[i]?=ap y) (hx:X.env.scope.names.lookup y=ap .local) (S:aA X.env.scope X.N sc N' ix) (hi:qW X K fs tg iter wl) (hg:∀cl C s2 H2 fp,GF (gD X sc N' cl C s2 H2 fp) K (cj ix fs) tg is wt dP) (ñ:∀cl C s2 H2 fp t,FF (gD X sc N' cl C s2 H2 fp) K (dP t) É (tf t)) (he:∀cl C s2 H2 fp t,EF (gD X sc N' cl C s2 H2 fp) K (dP t) Ä (te t))
  (hf:∀p,f p=.bind (wt p) λt=>.bind (tf t) λk=>if k=true then .bind (te t) λv=>.ret (ap v) else .ret bm) (hl:vn is (cj ix fs) dP/\∀t,jK (dP t) (cj ix fs)) (u0:∀j∈is,ix[j]?=ap bm) (hr:∀l,SF X K x (fs.set i (ap (.ol bm l))) rest (k l) out)
  (qH:lc (.ListComp Ä [⟨tg,iter,É,0⟩] sc pos) (ap (.Name y px)) nK.line X.env=pure true:=by rfl) (hs:wI X iter:=by intro _;rfl) :
  SF X K x fs (.Assign [.Name y px] (.ListComp Ä [⟨tg,iter,É,0⟩] sc pos) nK::rest) (.bind (.bind wl λl=>kJ l f) k) out:=
 SF.step (zJ hc hN Gh hx S hi.p (λcl C s2 H2 fp=>(hg cl C s2 H2 fp).p) (λcl C s2 H2 fp Z s σ H Q I ⟨t,q⟩=>(ñ cl C s2 H2 fp t).p Z s σ H Q I q) (λcl C s2 H2 fp Z s σ H Q I ⟨t,q⟩=>(he cl C s2 H2 fp t).p Z s σ H Q I q) qH hs) λD σ H ⟨sr,q⟩=>
  P7 (K:=K) S rfl hf hl.1 hl.2 u0 σ H _ ⟨sr,(am wl λl=>kJ l f).mono (λl q1 a ws H1 g1 s1 n e v1=>by
   have no:=sr.noOwn n;have s2:=s1.sE (t:=.ol bm l) ⟨by simp,ws,e,v1⟩ no i;exact⟨_,k l,hr l,s2,(k l).mono (λt q2=>q2.go (cM.sE s1 g1.f no n i) sr s2) q1⟩) q⟩
theorem xJ:∀{l:bG}{i:Nat} (s:Option SL),l[i]?=ap bm->jK (l.set i s) l
 | [],_,_,h=>by simp at h
 | x::l,0,s,h=>by
  simp at h;subst h;exact .drop (jK.refl l)
 | x::l,i+1,s,h=>by
  rw [List.set_cons_succ];exact .keep (xJ s (by simpa using h))
def jK.trans {a b c:bG} (h1:jK a b) (h2:jK b c):jK a c:=by
 induction h1 generalizing c with
 | nil=>exact h2
 | drop h ih=>cases h2 with | drop h2=>exact .drop (ih h2) | keep h2=>exact .drop (ih h2)
 | keep h ih=>cases h2 with | drop h2=>exact .drop (ih h2) | keep h2=>exact .keep (ih h2)
def tm {l:bG}{is:List Nat} (hl:l.length=nt.length/\∀(j:Nat) (s:SL),l[j]?=ap (ap s)->(j∈is/\s.own=false)\/(j∉is/\nt[j]?=ap (ap s))) (hi:nt[i]?=ap bm) :
  (l.set i (ap (.val v))).length=nt.length/\∀(j:Nat) (s:SL),(l.set i (ap (.val v)))[j]?=ap (ap s)->(j∈is++[i]/\s.own=false)\/(j∉is++[i]/\nt[j]?=ap (ap s)):=by
 refine⟨by rw [B1];exact hl.1,λj s e=>?_⟩;rcases bo e with⟨rfl,rfl⟩ | ⟨n,e⟩
 ·exact .inl ⟨by simp,rfl⟩
 ·rcases hl.2 j s e with⟨h1,h2⟩ | ⟨h1,h2⟩
  ·exact .inl ⟨by simp [h1],h2⟩
  ·exact .inr ⟨by simp [h1,n],h2⟩
def Ve (nt:bG):nt.length=nt.length/\∀(j:Nat) (s:SL),nt[j]?=ap (ap s)->(j∈([]:List Nat)/\s.own=false)\/(j∉([]:List Nat)/\nt[j]?=ap (ap s)):=⟨rfl,λj s e=>.inr ⟨by simp,e⟩⟩
def O7 (hi:nt[i]?=ap bm):vn [i] nt (λp=>nt.set i (ap (.val p)))/\∀t,jK (nt.set i (ap (.val t))) nt:=⟨λt=>tm (is:=[]) (Ve nt) hi,λt=>xJ _ hi⟩
def N7 {l:bG}{s:Option SL} (h:l[j]?=ap bm) (n:j≠i):(l.set i s)[j]?=ap bm:=by rw [aL n];exact h
def Ie (hi:nt[i]?=ap bm) (hj:nt[j]?=ap bm) (n:j≠i):vn [i,j] nt (λt:PV×PV=>(nt.set i (ap (.val t.1))).set j (ap (.val t.2)))/\∀t:PV×PV,jK ((nt.set i (ap (.val t.1))).set j (ap (.val t.2))) nt:=
 ⟨λt=>tm (is:=[i]) (tm (is:=[]) (Ve nt) hi) hj,λt=>(xJ _ (N7 hj n)).trans (xJ _ hi)⟩
end
section
variable {rest:List tt}{T:Type}{out:T->End}
def dj (sr:aX K H σ fs) (hs:fs[i]?=ap (ap (.ol q0 l))):∃a ws,σ[i]?=ap (ap (.ref a))/\H a=ap (.lst ws)/\aO K [] H ws l:=by
 obtain⟨u,e1,r⟩:=sr.at' i _ hs;rcases r with⟨v,e,_⟩ | ⟨a,e,z,ws,q1,q2⟩
 ·cases e
 ·subst e;exact⟨a,ws,e1,q1,q2⟩
def jW {pZ:List V}{l':List PV} (sr:aX K H σ fs) (hs:fs[i]?=ap (ap (.ol q0 l))) (e1:σ[i]?=ap (ap (.ref a))) (sx:oV a H H') (h':H' a=ap (.lst pZ)) (r:aO K [] H pZ l'):aX K H' σ (fs.set i (ap (.ol q0 l')))/\cM σ fs H σ (fs.set i (ap (.ol q0 l'))) H':=
 mU (t':=.ol q0 l') sr hs rfl (by simp) e1 sx λtk=>⟨(sr.ownAt hs rfl e1).1,pZ,h',aO.tk tk r⟩
def kn (l:List PV) (v:PV):W (List PV):=.fD (l.length < sizeLine) (.ret (l++[v]))
theorem SF.append (i:Nat) {k:List PV->W T} (hs:fs[i]?=ap (ap (.ol q0 l))) (hK:X.K=K) (hN:X.N[i]?=ap y) (hv:yN X.env.scope y) (he:EF X K fs e we) (hr:∀l',SF X K x (fs.set i (ap (.ol q0 l'))) rest (k l') out)
  (hd:jh y:=by decide) (iY:y9 y:=by decide) (dW:pc (.Name y p) "append" X.env (kw (.Name y p) X.env)=kw (.Name y p) X.env:=by rfl)
  (m5:VP X bS [e]:=by rfl)
  (dU:Q8 Â bS:=by rfl) (qI:gR X e []:=by rfl) (eE:kL X bS []:=by rfl)
  (qH:lc (.Call (.Attribute (.Name y p) "append" Â) [e] [] bS) bm pos.line X.env=pure false:=by rfl) :
  SF X K x fs (.Expr (.Call (.Attribute (.Name y p) "append" Â) [e] [] bS) pos::rest) (.bind we λv=>.bind (kn l v) k) out:=
 SF.step (nR (ph K hK BC Ew Eu sR (dz hN hv hd iY) (bc he.p cy qI) dW m5 dU qI eE) qH) λD σ H ⟨sr,q⟩=>by
  obtain⟨a,ws,e1,h1,r1⟩:=dj sr hs;refine⟨_,e1,.inl ⟨rfl,_,dc.of h1⟩,sr,we.mono (λv q1 u H1 g1 s1 v1=>?_) q⟩;obtain⟨a',pZ,nu,iA,yZ⟩:=dj s1 hs;rw [e1] at nu;cases nu;refine⟨a,pZ,u,rfl,rfl,iA,by rw [yZ.length];exact q1.1,λH2 sx h2=>?_⟩;obtain⟨s2,g2⟩:=jW s1 hs e1 sx h2 (yZ.append (.one v1));exact⟨_,k _,hr _,s2,(k _).mono (λt q2=>q2.go (g1.f.trans g2) sr s2) q1.2⟩
def t6 (l m:List PV):W (List PV):=.fD (l.length+m.length<=sizeLine) (.ret (l++m))
theorem SF.extend (i:Nat) {k:List PV->W T} (hs:fs[i]?=ap (ap (.ol q0 l))) (hK:X.K=K) (hN:X.N[i]?=ap y) (hv:yN X.env.scope y) (he:QF X K fs e wl) (hr:∀l',SF X K x (fs.set i (ap (.ol q0 l'))) rest (k l') out)
  (hd:jh y:=by decide) (iY:y9 y:=by decide) (dW:pc (.Name y p) "extend" X.env (kw (.Name y p) X.env)=kw (.Name y p) X.env:=by rfl)
  (m5:VP X bS [e]:=by rfl)
  (dU:Q8 Â bS:=by rfl) (qI:gR X e []:=by rfl) (eE:kL X bS []:=by rfl)
  (qH:lc (.Call (.Attribute (.Name y p) "extend" Â) [e] [] bS) bm pos.line X.env=pure false:=by rfl) :
  SF X K x fs (.Expr (.Call (.Attribute (.Name y p) "extend" Â) [e] [] bS) pos::rest) (.bind wl λm=>.bind (t6 l m) k) out:=
 SF.step (nR (ph K hK BC PySem.F.slot_list_extend PySem.F.type_list_extend (SY K hK) (dz hN hv hd iY) (bc he.p cy qI) dW m5 dU qI eE) qH) λD σ H ⟨sr,q⟩=>by
  obtain⟨a,ws,e1,h1,r1⟩:=dj sr hs;refine⟨_,e1,.inl ⟨rfl,_,dc.of h1⟩,sr,wl.mono (λm q1 u H1 g1 s1 v1=>?_) q⟩;obtain⟨a',pZ,nu,iA,yZ⟩:=dj s1 hs;rw [e1] at nu;cases nu;obtain⟨b,zs,rfl,hb,rb⟩:=v1.sq s1;refine⟨a,b,pZ,zs,rfl,rfl,iA,hb,by rw [yZ.length,rb.length];exact q1.1,λH2 sx h2=>?_⟩;obtain⟨s2,g2⟩:=jW s1 hs e1 sx h2 (yZ.append rb);exact⟨_,k _,hr _,s2,(k _).mono (λt q2=>q2.go (g1.f.trans g2) sr s2) q1.2⟩
def uS (l:List PV):W (List PV×PV):=match l.getLast? with
 | some v=>.ret (l.dropLast,v)
 | none=>.fail
def N4 {l:List PV} (h:l.getLast?=ap v):l=l.dropLast++[v]:=by
 rw [List.getLast?_eq_some_iff] at h;obtain⟨ys,rfl⟩:=h;simp
theorem aO.snoc:∀{ws:List V}{l:List PV}{v:PV},aO K [] H ws (l++[v])->∃YV u,ws=YV++[u]/\aO K [] H YV l/\VR K [] H u v
 | _,[],_,.cons r .nil=>⟨[],_,rfl,.nil,r⟩
 | _,x::l,v,.cons r t=>by
  obtain⟨YV,u,rfl,h1,h2⟩:=aO.snoc t;exact⟨_::YV,u,rfl,.cons r h1,h2⟩
def SF.sH (i j:Nat) {k:List PV×PV->W T} (hs:fs[i]?=ap (ap (.ol q0 l))) (Vr:j≠i) (hK:X.K=K) (hN:X.N[i]?=ap y) (hv:yN X.env.scope y) (hNd:X.N.Nodup) (hj:X.N[j]?=ap z) (hx:Loc X.env.scope z) (hr:∀t:List PV×PV,SF X K x ((fs.set i (ap (.ol q0 t.1))).set j (ap (.val t.2))) rest (k t) out)
  (hd:jh y:=by decide) (iY:y9 y:=by decide) (dW:pc (.Name y p) "pop" X.env (kw (.Name y p) X.env)=kw (.Name y p) X.env:=by rfl) (dU:Q8 Â bS:=by rfl)
  (qH:lc (.Call (.Attribute (.Name y p) "pop" Â) [] [] bS) (ap (.Name z p')) pos.line X.env=pure false:=by rfl) (hf:Nw X z:=by first | exact .inl rfl | exact .inr rfl | assumption) :
  SF X K x fs (.Assign [.Name z p'] (.Call (.Attribute (.Name y p) "pop" Â) [] [] bS) pos::rest) (.bind (uS l) k) out:=
 SF.step (sF hNd hj hx (Ss K hK BC PySem.F.slot_list_pop PySem.F.type_list_pop SW (dz hN hv hd iY) dW dU) qH hf) λD σ H ⟨sr,q⟩=>by
  obtain⟨a,ws,e1,h1,r1⟩:=dj sr hs;have q:(uS l).run λt=>(k t).run λt=>bV K x σ fs H D (out t):=q;unfold uS at q;cases hl:l.getLast? with
  | none=>rw [hl] at q;exact q.elim
  | some v=>
   rw [hl] at q;have el:=N4 hl;rw [el] at r1;obtain⟨YV,u,rfl,r0,ru⟩:=aO.snoc r1;refine⟨_,e1,.inl ⟨rfl,_,dc.of h1⟩,a,YV,u,rfl,rfl,h1,λH2 sx h2=>?_⟩;obtain⟨s2,g2⟩:=jW sr hs e1 sx h2 r0;have ru2:VR K [] H2 u v:=g2.vr sr ru;have s3:=s2.eR ru2 j;exact⟨_,k _,hr (l.dropLast,v),s3,(k _).mono (λt q2=>q2.go (g2.trans (cM.eR s2 _ _ j)) sr s3) q⟩
def gq (l:List PV) (i v:PV):W (List PV):=match i with
 | .int k=>match oh l.length k with
  | some j=>.ret (l.set j v)
  | none=>.fail
 | _=>.fail
def SF.HA (i:Nat) {k:List PV->W T} (hs:fs[i]?=ap (ap (.ol q0 l))) (hN:X.N[i]?=ap y) (hv:yN X.env.scope y) (he:EF X K fs e we) (hi:EF X K fs ei wi) (hr:∀l',SF X K x (fs.set i (ap (.ol q0 l'))) rest (k l') out)
  (ha:∀v,wT (.Subscript (.Name y p) ei gn) X.env v=(do
   let ov <- r9 [v] (kw (.Name y p) X.env)
   let iv <- r9 [v,ov] (kw ei X.env)
   FM gn
   r9 [v,ov,iv] (Db ov iv v)
   release [v,ov,iv] []):=by intro _;rfl)
  (hd:jh y:=by decide) (iY:y9 y:=by decide) (î:wE [.Subscript (.Name y p) ei gn] e pos.line X.env=pure false:=by rfl) (hw:wP [.Subscript (.Name y p) ei gn] e X.env=pure bm:=by rfl)
  (h1:(wf [.Subscript (.Name y p) ei gn] X.env).map (·.2)=[wT (.Subscript (.Name y p) ei gn) X.env]:=by rfl) :
  SF X K x fs (.Assign [.Subscript (.Name y p) ei gn] e pos::rest) (.bind we λv=>.bind wi λn=>.bind (gq l n v) k) out:=
 SF.step (xn he.p (Oz (dz hN hv hd iY) hi.p o6 ha) î hw h1) λD σ H ⟨sr,q⟩=>by
  refine⟨sr,we.mono (λv q1 u H1 g1 s1 v1=>?_) q⟩;obtain⟨a,ws,e1,h1,r1⟩:=dj s1 hs;refine⟨_,e1,s1,wi.mono (λn q2 u2 H2 g2 s2 v2=>?_) q1⟩;obtain⟨a',pZ,nu,iA,yZ⟩:=dj s2 hs;rw [e1] at nu;cases nu;cases v2 with
  | int kk=>
   have q2:(match oh l.length kk with | some j=>bd (l.set j v) | none=>W.fail).run _:=q2;cases hj:oh l.length kk with
   | none=>rw [hj] at q2;exact q2.elim
   | some j=>
    rw [hj] at q2;refine⟨a,pZ,kk,j,rfl,rfl,iA,by rw [yZ.length];exact hj,λH3 sx h3=>?_⟩;obtain⟨s3,g3⟩:=jW s2 hs e1 sx h3 (yZ.set (g2.vr s1 v1) j);exact⟨_,k _,hr _,s3,(k _).mono (λt q3=>q3.go ((g1.trans g2).f.trans g3) sr s3) q2⟩
  | _=>exact q2.elim
end
end
end FL
variable {x:BZ}
namespace FL
section
open PySem PySem.Spec PyProof.Rows L2 PL
variable {K:Ab}
def iB:List AK->List PV->bG
 | [],_=>[]
 | .v::ks,x::l=>ap (.val x)::iB ks l
 | .v::_,[]=>[]
 | .p φ::ks,l=>ap (.kM φ)::iB ks l
 | .f a::ks,l=>ap (.adr a)::iB ks l
def jI (ks:List AK) (l:List PV) (n:Nat):bG:=iB ks l++Am (n-ks.length) bm
def jJ (ks:List AK):Prop:=∀i j:Nat,(∃φ,ks[i]?=ap (.p φ))->(∃φ,ks[j]?=ap (.p φ))->i=j
theorem jP:∀{n:Nat}{m:Rm R n}{l:List PV}{Q:R->Prop},(ck n m l).run Q->l.length=n
 | 0,_,[],_,_=>rfl
 | 0,_,_::_,_,h=>h.elim
 | n+1,_,[],_,h=>h.elim
 | n+1,m,x::l,Q,h=>by rw [Ap,jP (n:=n) (m:=m x) h]
section
theorem jg.len (h:jg K H vs ks l):vs.length=ks.length:=by induction h <;> simp_all
def jg.slot (h:jg K H vs ks l):(iB ks l).length=vs.length/\∀(i:Nat) (s:SL),(iB ks l)[i]?=ap (ap s)->∃u,vs[i]?=ap u/\wH K H u s/\(s.own=true->∃φ,s=.kM φ/\ks[i]?=ap (.p φ)):=by
 induction h with
 | nil=>exact⟨rfl,λi s e=>by simp [iB] at e⟩
 | @v u x vs ks l r t ih=>
  refine⟨by simp [iB,ih.1],λi s e=>?_⟩;cases i with
  | zero=>simp [iB] at e;subst e;exact⟨u,rfl,.inl ⟨x,rfl,r⟩,λz=>by cases z⟩
  | succ i=>simp [iB] at e;obtain⟨w,h1,h2,h3⟩:=ih.2 i s e;exact⟨w,by simpa using h1,h2,by simpa using h3⟩
 | @p a φ ws vs ks l e0 r t ih=>
  refine⟨by simp [iB,ih.1],λi s e=>?_⟩;cases i with
  | zero=>simp [iB] at e;subst e;exact⟨_,rfl,.inr ⟨a,rfl,ws,e0,r⟩,λ_=>⟨φ,rfl,rfl⟩⟩
  | succ i=>simp [iB] at e;obtain⟨w,h1,h2,h3⟩:=ih.2 i s e;exact⟨w,by simpa using h1,h2,by simpa using h3⟩
 | @f a vs ks l t ih=>
  refine⟨by simp [iB,ih.1],λi s e=>?_⟩;cases i with
  | zero=>simp [iB] at e;subst e;exact⟨_,rfl,.inr ⟨a,rfl,rfl⟩,λz=>by cases z⟩
  | succ i=>simp [iB] at e;obtain⟨w,h1,h2,h3⟩:=ih.2 i s e;exact⟨w,by simpa using h1,h2,by simpa using h3⟩
def jg.WR (h:jg K H vs ks l) (e:ks[i]?=ap (.p φ)):(iB ks l)[i]?=ap (ap (.kM φ)):=by
 induction h generalizing i with
 | nil=>simp at e
 | v r t ih=>cases i with | zero=>simp at e | succ i=>simp [iB];exact ih (by simpa using e)
 | p e0 r t ih=>cases i with | zero=>simp at e;subst e;rfl | succ i=>simp [iB];exact ih (by simpa using e)
 | f t ih=>cases i with | zero=>simp at e | succ i=>simp [iB];exact ih (by simpa using e)
theorem oS {s:SL} (h:(jI ks l n)[i]?=ap (ap s)):(iB ks l)[i]?=ap (ap s):=by
 unfold jI at h;by_cases c:i < (iB ks l).length
 ·rw [AE c] at h;exact h
 ·rw [AI ∅,BD] at h
  split at h <;> cases h
def lV {N:List Str} (h:vs[i]?=ap u):(L2.start N vs)[i]?=ap (ap u):=by
 unfold L2.start;rw [AE (by rw [Ag];exact (Ak.mp h).1),Ae,h];rfl
def vD {N:List Str} (h:(L2.start N vs)[i]?=ap (ap u)):vs[i]?=ap u:=by
 unfold L2.start at h;by_cases c:i < vs.length
 ·rw [AE (by simpa using c),Ae] at h;cases z:vs[i]? with
  | none=>rw [z] at h;cases h
  | some q=>rw [z] at h;cases h;rfl
 ·rw [AI (by simpa using c),BD] at h
  split at h <;> cases h
def jg.beg (h:jg K H vs ks l) (one:jJ ks) (N:List Str):aX K H (L2.start N vs) (jI ks l N.length):=by
 obtain⟨hl,hs⟩:=h.slot;refine⟨?_,λi s e=>?_,λi j s t x y a e1 e2 o1 o2 q1 q2 z1 z2=>?_⟩
 ·unfold L2.start jI;rw [Af,Af,Ag,hl,Bf,Bf,h.len]
 ·obtain⟨u,h1,h2,_⟩:=hs i s (oS e);exact⟨u,lV h1,h2⟩
 ·obtain⟨_,_,_,h3⟩:=hs i s (oS e1);obtain⟨_,_,_,h4⟩:=hs j t (oS e2);obtain⟨φ,_,k1⟩:=h3 o1;obtain⟨ψ,_,k2⟩:=h4 o2;exact one i j ⟨φ,k1⟩ ⟨ψ,k2⟩
def jg.go (h:jg K H vs ks l) {N:List Str} (g:cM (L2.start N vs) (jI ks l N.length) H σ' bT H') (s':aX K H' σ' bT):GoC vs ks H H':=by
 obtain⟨hl,hs⟩:=h.slot;refine⟨λa o e n=>(g.keep a o e λz=>?_).1,g.there,λa φ p=>?_⟩
 ·obtain⟨i,s,x,e1,e2,e3,e4⟩:=z;obtain⟨u,h1,h2,h3⟩:=hs i s (oS e1);obtain⟨φ,rfl,k⟩:=h3 e2;rcases e4 with rfl | e4
  ·exact n φ ⟨i,k,vD e3⟩
  ·cases e4
 ·obtain⟨i,e1,e2⟩:=p;have e3:=h.WR e1;have hi:=(Ak.mp e3).1;have e4:(jI ks l N.length)[i]?=ap (ap (.kM φ)):=by unfold jI;rw [AE hi];exact e3
  rcases g.pk a φ ⟨i,e4,lV e2⟩ with⟨j,k1,k2⟩ | ⟨_,k⟩
  ·exact s'.ownAt k1 rfl k2
  ·exact k
end
section
variable {st:tt}{f:ci}{N:List Str}
def fnV {m:Rm PV n} (Fn:Rl K x qual st f fd) (S:aq N ps (ag st)) (qJ:ks.length=ps.length) (one:jJ ks)
  (Ã:∀l:List PV,l.length=n->∀(cX:bv) (A:sn) (outer:List Env) (s:cr) (H:Hp) (E:XK),dg k (A.deeper (sB qual (ag st) s.heap.objs.size f cX))->SF (jG kN P w K mg base N qual (ag st) f cX A outer s H E).y6 K false (jI ks l N.length) (bt st) (ck n m l) .rt) :
  fH P w K mg base kN (k+1) f fd ps (eJ K ks (ck n m)):=by
 refine Fn.ok S (λvs H Q E h=>?_) (λcX A outer s H vs Q E hr h=>?_)
 ·obtain⟨l,h,_⟩:=h;rw [h.len];exact qJ
 obtain⟨l,h,q⟩:=h;refine⟨_,(Ã l (jP q) cX A outer s H E hr).p,h.beg one N,(ck n m l).mono (λv q1 u σ' bT H' g s' r=>q1 u H' (h.go g s') r) q⟩
def fnL {m:Rm (List PV) n} (Fn:Rl K x qual st f fd) (S:aq N ps (ag st)) (qJ:ks.length=ps.length) (one:jJ ks)
  (Ã:∀l:List PV,l.length=n->∀(cX:bv) (A:sn) (outer:List Env) (s:cr) (H:Hp) (E:XK),dg k (A.deeper (sB qual (ag st) s.heap.objs.size f cX))->SF (jG kN P w K mg base N qual (ag st) f cX A outer s H E).y6 K false (jI ks l N.length) (bt st) (ck n m l) .rl) :
  fH P w K mg base kN (k+1) f fd ps (fo K ks (ck n m)):=by
 refine Fn.ok S (λvs H Q E h=>?_) (λcX A outer s H vs Q E hr h=>?_)
 ·obtain⟨l,h,_⟩:=h;rw [h.len];exact qJ
 obtain⟨l,h,q⟩:=h;have sr:=h.beg one N;refine⟨_,(Ã l (jP q) cX A outer s H E hr).p,sr,(ck n m l).mono (λz q1 a ws σ' bT H' g s' fr e r=>q1 a ws H' (h.go g s') ?_ e r) q⟩;rcases fr with fr | ⟨i,t,x,e1,e2,np,e3,e4⟩
 ·exact fr
 ·obtain⟨_,_,_,h3⟩:=h.slot.2 i t (oS e1);obtain⟨φ,e,_⟩:=h3 e2;exact absurd e (np φ)
end
def cO:jJ []:=λi j ⟨_,h⟩=>by simp at h
def eL (h:jJ ks):jJ (.v::ks):=λi j ⟨φ,a⟩ ⟨ψ,b⟩=>by
 cases i with
 | zero=>simp at a
 | succ i=>
  cases j with
  | zero=>simp at b
  | succ j=>rw [h i j ⟨φ,by simpa using a⟩ ⟨ψ,by simpa using b⟩]
def lj {fa:ci} (h:jJ ks):jJ (.f fa::ks):=λi j ⟨φ,a⟩ ⟨ψ,b⟩=>by
 cases i with
 | zero=>simp at a
 | succ i=>
  cases j with
  | zero=>simp at b
  | succ j=>rw [h i j ⟨φ,by simpa using a⟩ ⟨ψ,by simpa using b⟩]
def aF:jJ (.p φ::Am n .v):=λi j ⟨χ,a⟩ ⟨ψ,b⟩=>by
 have z:∀{i:Nat}{χ:List V->Prop},(AK.p φ::Am n .v)[i]?=ap (.p χ)->i=0:=λ{i χ} a=>by
  cases i with
  | zero=>rfl
  | succ i=>
   have a:(Am n AK.v)[i]?=ap (.p χ):=by simpa using a
   rw [BD] at a
   split at a <;> simp at a
 rw [z a,z b]
end
end FL
namespace L2
open PySem PySem.Spec PyProof.Rows
def aaq (K:Ab):R2:=λx y H Q=>∃a b xs zs,x=.ref a/\y=.ref b/\dc K H a xs/\dc K H b zs/\xs.length+zs.length<=sizeLine/\lx H (.lst (xs++zs)) Q
theorem SG (K:Ab) (hK:X.K=K):iy X (ss .Add) (aaq K):=by
 subst hK;intro Z s σ H x y v u Q I rx ry h;obtain⟨l,b,xs,zs,rfl,rfl,hH,hB,hz,q⟩:=h;cases rx;cases ry;obtain⟨au,r,⟨⟨cls,dd,data,sl⟩,n,ho,hc,hd,jE⟩,_⟩:=I.list hH;obtain⟨cK,r2,⟨⟨YA,Up,data2,Rc⟩,n2,Me,PF,Í,Vu⟩,_⟩:=I.list hB;simp only at hc hd jE PF Í Vu;subst hc hd jE PF Í Vu;have e:au.toArray++cK.toArray=(au++cK).toArray:=by simp
 have hl:=r.length;have Mf:=r2.length;refine concat_meets ⟨_,ho,rfl⟩ ⟨_,Me,rfl⟩ noFill_list_add seq_list_add PySem.F.slot_list_add PySem.F.entry_list_add (PySem.F.args_list_add_2 _ _) (list_addW l b au.toArray cK.toArray n n2 bm bm sl Rc (by simp;omega)) ⟨ho,Me,?_⟩;rw [e];exact⟨.ref _,_,I.Xt (t':=s.toks) (r.append r2) (by rw [Af];omega),rfl,q.at _ I.fresh⟩
end L2
variable {hi:FL.W (Option Int)}{neg:Bool}
namespace FL
section
open PySem PySem.Spec PyProof.Rows L2 PL
variable {K:Ab}
section
variable {a c:ga}{w:W PV}{wm:W (List PV)}
def ur (l m:List PV):W (List PV):=.fD (l.length+m.length<=sizeLine) (.ret (l++m))
def fQL (K:Ab) (fs:bG) (w:W (List PV)):TE:=λσ H Q=>aX K H σ fs/\w.run λl=>∀u H',di σ fs H H'->aX K H' σ fs->UG K σ fs H' u l->(∀ē,di σ fs H' ē->aX K ē σ fs->∃a vs,u=.ref a/\dc K ē a vs/\aO K [] ē vs l)->Q u H'
structure yV (X:Cx) (K:Ab) (fs:bG) (e:ga) (w:W (List PV)):Prop where p:PE X e (fQL K fs w)
def bP (h:LF X K fs e wl):yV X K fs e wl:=⟨PE.imp h.p λσ H Q ⟨sr,q⟩=>⟨sr,wl.mono (λl q1 a vs H1 g1 s1 n e v=>q1 _ H1 g1 s1 (.inr ⟨a,rfl,.inl ⟨sr.noOwn n,vs,e,v⟩⟩) λH2 g2 s2=>⟨a,vs,rfl,dc.of (g2.qf e (sr.noOwn n)),g2.Nn s1 v⟩) q⟩⟩
def xj (i:Nat) (hs:fs[i]?=ap (ap (.ol q0 l)):=by rfl) (hN:X.N[i]?=ap x:=by rfl) (hv:yN X.env.scope x:=by first | exact CI rfl | exact Cy (CI rfl) | exact Cy (Cy rfl)) (hd:jh x:=by decide) (iY:y9 x:=by decide):yV X K fs (.Name x pos) (.ret l):=
 ⟨PE.imp (dz hN hv hd iY) λσ H Q ⟨sr,q⟩=>by
  obtain⟨a,ws,e1,h1,r1⟩:=dj sr hs;refine⟨_,e1,q _ H .refl sr (.inr ⟨a,rfl,.inr ⟨i,q0,hs,e1⟩⟩) λH2 g2 s2=>?_⟩;obtain⟨a',pZ,nu,iA,yZ⟩:=dj s2 hs;rw [e1] at nu;cases nu;exact⟨a,pZ,rfl,dc.of iA,yZ⟩⟩
def sY:PV->W (List PV)
 | .cl l=>.ret l
 | _=>.fail
def lh (h:EF X K fs e w):yV X K fs e (.bind w sY):=⟨PE.imp h.p λσ H Q ⟨sr,q⟩=>⟨sr,w.mono (λx q1 u1 H1 g1 s1 v1=>by
 cases v1 with
 | cl e r=>exact q1 _ H1 g1 s1 (.inl ⟨_,_,rfl,.inl e,r⟩) λH2 g2 s2=>⟨_,_,rfl,((g2.eQ s1).f _ _ e).sq,g2.Nn s1 r⟩
 | _=>exact q1.elim) q⟩⟩
def qe (hK:X.K=K) (ha:yV X K fs a wl) (hb:yV X K fs b wm):LF X K fs (.BinOp a .Add b pos) (.bind wl λl=>.bind wm λm=>ur l m):=⟨PE.imp (Kc (SG K hK) ha.p hb.p) λσ H Q ⟨sr,q⟩=>⟨sr,wl.mono (λl q1 u1 H1 g1 s1 _ v1=>⟨s1,wm.mono (λm q2 u2 H2 g2 s2 _ v2=>by
 obtain⟨a,vs,rfl,h1,r1⟩:=v1 H2 g2 s2;obtain⟨b,ws,rfl,h2,r2⟩:=v2 H2 .refl s2;refine⟨a,b,vs,ws,rfl,rfl,h1,h2,by rw [r1.length,r2.length];exact q2.1,λp H3 s3 h3 n3=>?_⟩;have gg:=g1.trans g2;exact q2.2 p _ H3 (gg.trans (di.same s3)) (s2.same s3) (gg.there p n3) h3 (aO.tk s3.fi (r1.append r2))) q1⟩) q⟩⟩
def Ko {Q:VK} (g1:di σ fs H H1) (s1:aX K H1 σ fs) (r:aO K [] H1 vs l) (q:∀a vs H',di σ fs H H'->aX K H' σ fs->H a=bm->H' a=ap (.lst vs)->aO K [] H' vs l->Q (.ref a) H'):lx H1 (.lst vs) Q:=λp H2 s2 h2 n2=>q p vs H2 (g1.trans (di.same s2)) (s1.same s2) (g1.there p n2) h2 (aO.tk s2.fi r)
def O5 (K:Ab):CL K (Oi K) .ret:=λ{fs σ H Q u l} s v q=>by
 obtain⟨a,vs,rfl,h,rs⟩:=v.sq s;exact⟨a,vs,rfl,h,Ko .refl s rs q⟩
def Xw (hK:X.K=K) (hg:Gl X "list") (hm:X.mg "list"=bm) (ha:QF X K fs e wl) (he:gR X e []:=by rfl) (dI:kL X pos []:=by rfl):LF X K fs (.Call (.Name "list" p) [e] [] pos) wl:=Pa (m:=.ret) (Jj K hK) (O5 K) hg hm boot_list ha ⋯ ⋯ he dI
def cP (hK:X.K=K) (hg:Gl X "tuple") (hm:X.mg "tuple"=bm) (ha:QF X K fs e wl) (he:gR X e []:=by rfl) (dI:kL X pos []:=by rfl):EF X K fs (.Call (.Name "tuple" p) [e] [] pos) (.bind wl jR):=MM (MY K hK) (Rz K) hg hm boot_tuple ha ⋯ ⋯ he dI
def ng (hK:X.K=K) (hg:Gl X "len") (hm:X.mg "len"=bm) (ha:QF X K fs e wl) (he:gR X e []:=by rfl) (dI:kL X pos []:=by rfl):EF X K fs (.Call (.Name "len" p) [e] [] pos) (.bind wl pG):=Qx (wy K hK) (S5 K) hg hm boot_len ha ⋯ ⋯ he dI
def QZ (ha:EF X K fs e w) (he:d5 [e] X.env=(false,kw e X.env)::d5 [] X.env):AF X K fs [e] (Am 1 .v) (R:=R) (λk=>.bind w λx=>k [x]):=af ha ak he
def cH (hK:X.K=K) (hg:Gl X "len") (hm:X.mg "len"=bm) (ha:EF X K fs e w) (he:gR X e []:=by rfl) (dI:kL X pos []:=by rfl):EF X K fs (.Call (.Name "len" p) [e] [] pos) (.bind w λx=>qc cY [x]):=rH (n:=1) (wy K hK) (Ux K) hg hm boot_len (QZ ha he) ⋯ ⋯ he dI
def ab8 (hg:Gl X "abs") (hm:X.mg "abs"=bm) (ha:EF X K fs e w) (he:gR X e []:=by rfl) (dI:kL X pos []:=by rfl):EF X K fs (.Call (.Name "abs" p) [e] [] pos) (.bind w λx=>qc QP [x]):=rH (n:=1) QK Uz hg hm boot_abs (QZ ha he) ⋯ ⋯ he dI
def rG (hg:Gl X "int") (hm:X.mg "int"=bm) (ha:EF X K fs e w) (he:gR X e []:=by rfl) (dI:kL X pos []:=by rfl):EF X K fs (.Call (.Name "int" p) [e] [] pos) (.bind w λx=>qc uA [x]):=Qw (n:=1) M7 Uy hg hm boot_int (QZ ha he) ⋯ ⋯ he dI
def ab3 (hc:X.calm=true) (hg:Gl X "max") (hm:X.mg "max"=bm) (ha:EF X K fs a wa) (hb:EF X K fs b wb) (he:d5 [a,b] X.env=(false,kw a X.env)::d5 [b] X.env:=by rfl) (X3:gR X b []:=by rfl) (dI:(Gc pos (d5 [b] X.env)).any (·.1)=false:=by rfl):EF X K fs (.Call (.Name "max" p) [a,b] [] pos) (.bind wa λx=>.bind wb λy=>qc QO [x,y]):=rH (n:=2) (M3 hc) Uw hg hm boot_max (af ha (af hb ak X3) he) ⋯ ⋯ he dI
def ab2 (hc:X.calm=true) (hg:Gl X "min") (hm:X.mg "min"=bm) (ha:EF X K fs a wa) (hb:EF X K fs b wb) (he:d5 [a,b] X.env=(false,kw a X.env)::d5 [b] X.env:=by rfl) (X3:gR X b []:=by rfl) (dI:(Gc pos (d5 [b] X.env)).any (·.1)=false:=by rfl):EF X K fs (.Call (.Name "min" p) [a,b] [] pos) (.bind wa λx=>.bind wb λy=>qc QN [x,y]):=rH (n:=2) (MZ hc) Uv hg hm boot_min (af ha (af hb ak X3) he) ⋯ ⋯ he dI
def Vf (hK:X.K=K) (hc:X.calm=true) (ļ:Gl X "list") (ķ:X.mg "list"=bm) (Ļ:Gl X "reversed") (Y7:X.mg "reversed"=bm) (he:yV X K fs e wl)
  (Hc:d5 [.Call (.Name "reversed" p3) [e] [] p4] X.env=(false,kw (.Call (.Name "reversed" p3) [e] [] p4) X.env)::d5 [] X.env:=by rfl) (rD:gR X e []:=by rfl) :
  LF X K fs (.Call (.Name "list" p1) [.Call (.Name "reversed" p3) [e] [] p4] [] p2) (.bind wl λl=>.ret l.reverse):=⟨PE.imp (HD K hK hc ļ ķ Ļ Y7 he.p Hc rD) λσ H Q ⟨sr,q⟩=>⟨sr,wl.mono (λl q1 u1 H1 g1 s1 _ v1=>by
 obtain⟨a,vs,rfl,h1,r1⟩:=v1 H1 .refl s1;exact⟨a,vs,rfl,h1,Ko g1 s1 r1.reverse q1⟩) q⟩⟩
def Zk:List PV->W (List Bool)
 | []=>.ret []
 | .bl b::r=>.bind (Zk r) λl=>.ret (b::l)
 | _=>.fail
theorem yE:∀{l:List PV}{Q:List Bool->Prop},(Zk l).run Q->∃bs:List Bool,l=bs.map PV.bl/\Q bs
 | [],Q,h=>⟨[],rfl,h⟩
 | .bl b::r,Q,h=>by
  obtain⟨bs,e,q⟩:=yE (l:=r) h;exact⟨b::bs,by rw [e];rfl,q⟩
 | .aV::r,Q,h=>h.elim
 | .int _::r,Q,h=>h.elim
 | .str _::r,Q,h=>h.elim
 | .tup _::r,Q,h=>h.elim
 | .ref _::r,Q,h=>h.elim
 | .ty _::r,Q,h=>h.elim
 | .cl _::r,Q,h=>h.elim
@[simp] theorem yF:∀bs:List Bool,Zk (bs.map PV.bl)=.ret bs
 | []=>rfl
 | b::bs=>by
  show am (Zk (bs.map PV.bl)) _=_;rw [yF bs];rfl
def yI (l:List PV):W PV:=.bind (Zk l) λbs=>.ret (.bl (bs.all id))
def QU (l:List PV):W PV:=.bind (Zk l) λbs=>.ret (.bl (bs.any id))
def GH (hK:X.K=K) (hc:X.calm=true) (hg:Gl X "all") (hm:X.mg "all"=bm) (ha:yV X K fs e wl) (he:gR X e []:=by rfl) (dI:kL X pos []:=by rfl):EF X K fs (.Call (.Name "all" p) [e] [] pos) (.bind wl yI):=⟨PE.imp (eT (M9 K hK hc) hg hm boot_all (bc ha.p cy he) ⋯ ⋯ he dI) λσ H Q ⟨sr,q⟩=>⟨sr,wl.mono (λl q1 u1 H1 g1 s1 _ v1=>by
 obtain⟨bs,e,q2⟩:=yE (l:=l) q1;obtain⟨a,vs,rfl,h1,r1⟩:=v1 H1 .refl s1;rw [e] at r1;have:=pX r1;subst this;exact⟨a,bs,rfl,h1,q2 _ H1 g1 s1 (.bl _)⟩) q⟩⟩
def ab7 (hK:X.K=K) (hc:X.calm=true) (hg:Gl X "any") (hm:X.mg "any"=bm) (ha:yV X K fs e wl) (he:gR X e []:=by rfl) (dI:kL X pos []:=by rfl):EF X K fs (.Call (.Name "any" p) [e] [] pos) (.bind wl QU):=⟨PE.imp (eT (M8 K hK hc) hg hm boot_any (bc ha.p cy he) ⋯ ⋯ he dI) λσ H Q ⟨sr,q⟩=>⟨sr,wl.mono (λl q1 u1 H1 g1 s1 _ v1=>by
 obtain⟨bs,e,q2⟩:=yE (l:=l) q1;obtain⟨a,vs,rfl,h1,r1⟩:=v1 H1 .refl s1;rw [e] at r1;have:=pX r1;subst this;exact⟨a,bs,rfl,h1,q2 _ H1 g1 s1 (.bl _)⟩) q⟩⟩
def dC (k:Kd) (x:PV):W PV:=match x with
 | .ref _=>.fail
 | .ty _=>.fail
 | x=>.ret (.bl (k.is x))
def U5 (K:Ab):List V->Hp->VK->Prop:=λxs H Q=>∃x c t b,xs=[x,.ty c]/\(mE K H x t\/(t=.type "tuple"/\∃a vs,x=.ref a/\d9 K H a vs)\/(t=.type "list"/\∃a vs,x=.ref a/\dc K H a vs)\/(t=.type "dict"/\∃a,x=.ref a/\IsD H a))/\BE K t (.type c)=ap b/\Q (.bl b) H
def M5 (hK:X.K=K):bW X (.builtin "isinstance") (U5 K):=by
 subst hK;intro Z s σ H xs us Q I r h;obtain⟨x,c,t,b,rfl,ty | ty | ⟨rfl,a,vs,rfl,hL⟩ | ⟨rfl,a,rfl,hD⟩,e,q⟩:=h
 ·exact qp Z s σ H _ us Q I r ⟨x,c,t,b,rfl,ty,e,q⟩
 ·exact M4 X.K rfl Z s σ H _ us Q I r ⟨x,c,t,b,rfl,.inr ty,e,q⟩
 ·obtain⟨u,w,rfl,r1,r2⟩:=vals2 r;cases r1;cases r2;obtain⟨au,_,⟨o,n,h1,h2,_⟩,_⟩:=I.list hL;exact Bk El I.uW ⟨o,h1,h2⟩ e (λz=>nomatch z) λtk=>⟨.bl b,H,I.tok _,rfl,q⟩
 ·obtain⟨u,w,rfl,r1,r2⟩:=vals2 r;cases r1;cases r2;have:∃o,s.heap.get? a=ap o/\o.cls=.type "dict":=by
   rcases hD with⟨kvs,e⟩ | ⟨kvs,e⟩
   ·obtain⟨_,_,vs,_,o,_,_,h1,h2,_⟩:=uo I.bK e;exact⟨o,h1,h2.1⟩
   ·obtain⟨_,_,xs,_,o,_,_,h1,h2,_⟩:=um I.bK e;exact⟨o,h1,h2.1⟩
  obtain⟨o,h1,h2⟩:=this;exact Bk Em I.uW ⟨o,h1,h2⟩ e (λz=>nomatch z) λtk=>⟨.bl b,H,I.tok _,rfl,q⟩
def cL (hK:X.K=K) (k:Kd) (hg:Gl X "isinstance") (hm:X.mg "isinstance"=bm) (ha:EF X K fs a wa) (hgx:Gl X x) (hmx:X.mg x=bm) (hv:mo x=ap (.type k.name)) (hn:x≠"__name__":=by decide) (hd:jh x:=by decide)
  (he:d5 [a,.Name x p2] X.env=(false,kw a X.env)::d5 [.Name x p2] X.env:=by rfl) (X3:d5 [Expr.Name x p2] X.env=(false,kw (.Name x p2) X.env)::d5 [] X.env:=by rfl)
  (dI:(Gc pos (d5 [Expr.Name x p2] X.env)).any (·.1)=false:=by rfl):EF X K fs (.Call (.Name "isinstance" p) [a,.Name x p2] [] pos) (.bind wa (dC k)):=
 ⟨PE.imp (eT (M5 hK) hg hm boot_isinstance (bc ha.p (bc (Su (v:=.ty k.name) hgx hmx hv rfl hn hd) cy X3) he) ⋯ ⋯ he dI) λσ H Q ⟨sr,q⟩=>⟨sr,wa.mono (λx q1 u1 H1 g1 s1 v1=>by
  have fin:∀{t:bv}{y:PV},mE K H1 u1 t->BE K t (.type k.name)=ap (k.is y)->Q (.bl (k.is y)) H1->U5 K [u1,.ty k.name] H1 Q:=λty e q=>⟨_,_,_,_,rfl,.inl ty,e,q⟩;cases v1 with
  | aV=>exact fin (y:=.aV) .aV (by rw [(rC K).1 k];cases k <;> rfl) (q1 _ H1 g1 s1 (.bl _))
  | bl b=>exact fin (.bl b) (XF K b k) (q1 _ H1 g1 s1 (.bl _))
  | int b=>exact fin (.int b) (Tf K b k) (q1 _ H1 g1 s1 (.bl _))
  | str b=>exact fin (.str b) (Te K b k) (q1 _ H1 g1 s1 (.bl _))
  | ty n=>exact q1.elim
  | ref n=>exact q1.elim
  | @dk a o kvs ks l e k1 r=>exact⟨_,_,_,_,rfl,.inr (.inr (.inr ⟨rfl,_,rfl,.inl ⟨_,.inr ⟨_,e⟩⟩⟩)),(show _=ap (k.is (.dv ks l)) by rw [(rC K).2.2 k];cases k <;> rfl),q1 _ H1 g1 s1 (.bl _)⟩
  | @dt a o kvs ks l e k1 r=>exact⟨_,_,_,_,rfl,.inr (.inr (.inr ⟨rfl,_,rfl,.inr ⟨_,.inr ⟨_,e⟩⟩⟩)),(show _=ap (k.is (.dv ks l)) by rw [(rC K).2.2 k];cases k <;> rfl),q1 _ H1 g1 s1 (.bl _)⟩
  | @cl p vs l e r=>exact⟨_,_,_,_,rfl,.inr (.inr (.inl ⟨rfl,_,_,rfl,e.sq⟩)),(show _=ap (k.is (.cl l)) by rw [(rC K).2.1 k];cases k <;> rfl),q1 _ H1 g1 s1 (.bl _)⟩
  | @tup p vs l e r=>exact⟨_,_,_,_,rfl,.inr (.inl ⟨rfl,_,_,rfl,d9.of e⟩),Td K _ k,q1 _ H1 g1 s1 (.bl _)⟩) q⟩⟩
def zF (l:List PV):PV->W (List PV)
 | .int k=>.fD (-(2 ^ 63)<=k/\k < 2 ^ 63/\l.length*k.toNat<=sizeLine) (.ret (Am k.toNat l).flatten)
 | _=>.fail
def O9 (ha:LF X K fs a wl) (hb:EF X K fs b wb):LF X K fs (.BinOp a .Mult b pos) (.bind wl λl=>.bind wb λy=>zF l y):=⟨PE.imp (Kc W7 ha.p hb.p) λσ H Q ⟨sr,q⟩=>⟨sr,wl.mono (λl q1 a vs H1 g1 s1 n e v=>⟨s1,wb.mono (λy q2 u2 H2 g2 s2 v2=>by
 cases v2 with
 | int k=>
  have no:=sr.noOwn n;have e2:=(g2.qf e no);have r2:=g2.Nn s1 v;refine⟨a,k,vs,rfl,rfl,e2,q2.1.1,q2.1.2.1,by rw [r2.length];exact q2.1.2.2,λp hp=>?_⟩;have sm:=k8 hp (.lst (Am k.toNat vs).flatten);have gg:=g1.trans g2;exact q2.2 p _ _ (gg.trans (di.same sm)) (s2.same sm) (gg.there p hp) aW (aO.tk sm.fi (r2.rep k.toNat))
 | _=>exact q2.elim) q1⟩) q⟩⟩
def part:PV->W (Option Int)
 | .int i=>.ret (ap i)
 | _=>.fail
def mW:OF X K fs bm (.ret bm):=⟨PO.imp Sj λσ H Q ⟨sr,q⟩=>q H .refl sr⟩
def mV (h:EF X K fs e w):OF X K fs (ap e) (.bind w part):=⟨PO.imp (Si h.p) λσ H Q ⟨sr,q⟩=>⟨sr,w.mono (λx q1 u1 H1 g1 s1 v1=>by
 cases v1 with
 | int i=>exact⟨_,rfl,q1 H1 g1 s1⟩
 | _=>exact q1.elim) q⟩⟩
variable {el eh:Option ga}{lo:W (Option Int)}
def Z5 (x:PV) (i j:Option Int):W PV:=match x with
 | .str z=>.fD (z.length<=sizeLine) (.ret (.str (CV z i j)))
 | _=>.fail
def abZ (he:EF X K fs e w) (hl:OF X K fs el lo) (hh:OF X K fs eh hi):EF X K fs (.Subscript e (.Slice el eh bm p2) pos) (.bind w λx=>.bind lo λi=>.bind hi λj=>Z5 x i j):=⟨PE.imp (zN Wn he.p hl.p hh.p) λσ H Q ⟨sr,q⟩=>⟨sr,w.mono (λx q1 u1 H1 g1 s1 v1=>⟨s1,lo.mono (λi q2 H2 g2 s2=>⟨s2,hi.mono (λj q3 H3 g3 s3=>by
 cases v1 with
 | str z=>exact⟨_,rfl,q3.1,q3.2 _ H3 ((g1.trans g2).trans g3) s3 (.str _)⟩
 | _=>exact q3.elim) q2⟩) q1⟩) q⟩⟩
def iP (h:yV X K fs e wl):∀σ H Q,fE K fs (.bind wl λl=>.ret (.bl (if neg then !l.isEmpty else l.isEmpty))) σ H Q->UX (λx y H Q=>∃p q xs,x=.ref p/\y=.ref q/\dc K H p xs/\dc K H q []/\Q (.bl (if neg then !xs.isEmpty else xs.isEmpty)) H) (fQL K fs wl) (fL K fs (.ret [])) σ H Q:=λσ H Q ⟨sr,q⟩=>
 ⟨sr,wl.mono (λl q1 u1 H1 g1 s1 _ v1=>⟨s1,λa2 vs2 H2 g2 s2 n2 e2 r2=>by
  cases r2;obtain⟨a,vs,rfl,h1,r1⟩:=v1 H2 g2 s2;refine⟨a,a2,vs,rfl,rfl,h1,dc.of e2,?_⟩;rw [Qm r1];exact q1 _ H2 (g1.trans g2) s2 (.bl _)⟩) q⟩
def Kt:LF X K fs (.List [] pos) (.ret []):=Vh (n:=0) ak
theorem ab6 (hK:X.K=K) (hu:X.A.units+200 < nn) (h:yV X K fs e wl) (hk:lw .Eq (.List [] p2)=false:=by rfl):EF X K fs (.Compare e [.Eq] [.List [] p2] pos) (.bind wl λl=>.ret (.bl l.isEmpty)):=⟨PE.imp (rg (sJ K hK ∅) h.p Kt.p hk) (iP (neg:=false) h)⟩
theorem ab1 (hK:X.K=K) (hu:X.A.units+200 < nn) (h:yV X K fs e wl) (hk:lw .NotEq (.List [] p2)=false:=by rfl):EF X K fs (.Compare e [.NotEq] [.List [] p2] pos) (.bind wl λl=>.ret (.bl (!l.isEmpty))):=⟨PE.imp (rg (sI K hK ∅) h.p Kt.p hk) (iP (neg:=true) h)⟩
theorem ZJ (hK:X.K=K) (hu:X.A.units+200 < nn) (h:yV X K fs e wl) (hk:lw .Eq (.List [] p2)=false:=by rfl):TF X K fs (.Compare e [.Eq] [.List [] p2] pos) (.bind wl λl=>.ret l.isEmpty):=⟨PT.imp (q9 (sJ K hK ∅) h.p Kt.p hk) λσ H Q q=>iP (neg:=false) h σ H _ (T4 (w:=.bind wl λl=>.ret (.bl l.isEmpty)) σ H Q q)⟩
theorem NM (hK:X.K=K) (hu:X.A.units+200 < nn) (h:yV X K fs e wl) (hk:lw .NotEq (.List [] p2)=false:=by rfl):TF X K fs (.Compare e [.NotEq] [.List [] p2] pos) (.bind wl λl=>.ret (!l.isEmpty)):=⟨PT.imp (q9 (sI K hK ∅) h.p Kt.p hk) λσ H Q q=>iP (neg:=true) h σ H _ (T4 (w:=.bind wl λl=>.ret (.bl (!l.isEmpty))) σ H Q q)⟩
def qg:List PV->W (List Int)
 | []=>.ret []
 | .int i::r=>.bind (qg r) λl=>.ret (i::l)
 | _=>.fail
theorem mj:∀{l:List PV}{Q:List Int->Prop},(qg l).run Q->∃ns:List Int,l=ns.map PV.int/\Q ns
 | [],Q,h=>⟨[],rfl,h⟩
 | .int b::r,Q,h=>by
  obtain⟨bs,e,q⟩:=mj (l:=r) h;exact⟨b::bs,by rw [e];rfl,q⟩
 | .aV::r,Q,h=>h.elim
 | .bl _::r,Q,h=>h.elim
 | .str _::r,Q,h=>h.elim
 | .tup _::r,Q,h=>h.elim
 | .ref _::r,Q,h=>h.elim
 | .ty _::r,Q,h=>h.elim
 | .cl _::r,Q,h=>h.elim
@[simp] theorem ml:∀bs:List Int,qg (bs.map PV.int)=.ret bs
 | []=>rfl
 | b::bs=>by
  show am (qg (bs.map PV.int)) _=_;rw [ml bs];rfl
end
end
end FL
variable {k2:Nat}
namespace FL
section
open PySem PySem.Spec PyProof.Rows L2 PL
variable {K:Ab}
abbrev b2 (m:M2) (wa wb:W PV):W PV:=.bind wa λx=>.bind wb λy=>of2 m x y
abbrev t2 (m:M2) (wa wb:W PV):W Bool:=.bind wa λx=>.bind wb λy=>.bind (of2 m x y) Zl
abbrev c1 (m:za) (w:W PV):W PV:=.bind w λx=>qc m [x]
abbrev bj (wl:W (List PV)) (wb:W PV):W PV:=.bind wl λl=>.bind wb λy=>KA l y
abbrev uO (a b:W Bool):W Bool:=.bind a λk=>if k=true then b else .ret false
abbrev RC (a b:W Bool):W Bool:=.bind a λk=>if k=true then .ret true else b
abbrev nH (a:W Bool):W Bool:=.bind a λk=>.ret (!k)
abbrev dG {α:Type} (t:W Bool) (a b:W α):W α:=.bind t λk=>if k=true then a else b
section
variable {a c:ga}{rest:List tt}{S T T2:Type}{hd:S->bG}{s0:S}{w:W PV}{wt:PV->W T2}{dP:S->T2->bG}{k:S->W T}{out:T->End}{x:Bool}
def SF.ye {f:PV->S->W S} (hp:Da (dL X.prog X.w) X.A X.env X.xe) (hc:X.calm=true) (hi:qW X K fs tg iter wl) (hl:jK fs (hd s0)) (hg:PG X tg (dJ i)) (hb:∀s p,SF X K false ((hd s).set i (ap (.val p))) body (f p s) λs'=>.nc (hd s')) (hr:∀s,SF X K x (hd s) rest (k s) out) (hs:wI X iter:=by intro _;rfl) :
  SF X K x fs (.For tg iter body [] pos::rest) (.bind wl λl=>.bind (dY l s0 f) k) out:=SF.for (wt:=.ret) (wb:=λp s=>f p s) hp hc hi hl (λs=>X8 hg) (λ_ _=>rfl) hb hr hs
def SF.TY {wb:T2->S->W S} (hp:Da (dL X.prog X.w) X.A X.env X.xe) (hc:X.calm=true) (hi:qW X K fs tg iter wl) (hl:jK fs (hd s0)) (hg:∀s,GF X K (hd s) tg is wt (dP s)) (hb:∀s t,SF X K false (dP s t) body (wb t s) λs'=>.nc (hd s')) (hr:∀s,SF X K x (hd s) rest (k s) out) (hs:wI X iter:=by intro _;rfl) :
  SF X K x fs (.For tg iter body [] pos::rest) (.bind wl λl=>.bind (dY l s0 λp s=>.bind (wt p) λt=>wb t s) k) out:=SF.for hp hc hi hl hg (λ_ _=>rfl) hb hr hs
def SF.Vz {inj:R->T}{f:PV->S->W (Lp S R)} (hp:Da (dL X.prog X.w) X.A X.env X.xe) (hc:X.calm=true) (hi:qW X K fs tg iter wl) (hl:jK fs (hd s0)) (hg:PG X tg (dJ i)) (ho:∀t,(out (inj t)).KG) (hb:∀s p,SF X K false ((hd s).set i (ap (.val p))) body (f p s) (lpE hd λr=>out (inj r))) (hr:∀s,SF X K x (hd s) rest (k s) out) (hs:wI X iter:=by intro _;rfl) :
  SF X K x fs (.For tg iter body [] pos::rest) (.bind wl λl=>.bind (FL.oz l s0 f) (Iw k inj)) out:=SF.oz (wt:=.ret) (wb:=λp s=>f p s) hp hc hi hl (λs=>X8 hg) (λ_ _=>rfl) ho hb hr hs
def SF.RV {fs3:T2->bG}{k:T2->W T} (he:EF X K fs e we) (hg:GF X K fs tg is wt fs3) (hr:∀t,SF X K x (fs3 t) rest (k t) out) (hs:wE [tg] e pos.line X.env=pure false:=by rfl) (hw:wP [tg] e X.env=pure bm:=by rfl)
  (h1:(wf [tg] X.env).map (·.2)=[wT tg X.env]:=by rfl):SF X K x fs (.Assign [tg] e pos::rest) (.bind we λv=>.bind (wt v) k) out:=SF.step (xn he.p hg.p hs hw h1) λD σ H ⟨sr,q⟩=>
 ⟨sr,we.mono (λv q1 u H1 g1 s1 v1=>⟨v,s1,v1,(wt v).mono (λt q2 us g2 s2=>⟨_,k t,hr t,s2,(k t).mono (λt' q3=>q3.go (g1.f.trans g2) sr s2) q2⟩) q1⟩) q⟩
def SF.par {WO:Pos}{kt:Nat}{k:PV->PV->W T} (hc:X.calm=true) (hN:X.N.Nodup) (hi:X.N[i]?=ap y) (hj:X.N[j]?=ap z) (Vr:i≠j) (hx:X.env.scope.names.lookup y=ap .local) (hy:X.env.scope.names.lookup z=ap .local)
  (ha:EF X K fs a wa) (hb:EF X K fs b wb) (hr:∀u v,SF X K x ((fs.set i (ap (.val u))).set j (ap (.val v))) rest (k u v) out)
  (hw:wP [.Tuple [.Name y px,.Name z py] kt pt] (.Tuple [a,b] k2 WO) X.env=pure (ap [y,z]):=by rfl) (hs:wE [.Tuple [.Name y px,.Name z py] kt pt] (.Tuple [a,b] k2 WO) pos.line X.env=pure false:=by rfl)
  (he:d5 [a,b] X.env=(false,kw a X.env)::d5 [b] X.env:=by rfl) (X3:gR X b []:=by rfl) :
  SF X K x fs (.Assign [.Tuple [.Name y px,.Name z py] kt pt] (.Tuple [a,b] k2 WO) pos::rest) (.bind wa λu=>.bind wb λv=>k u v) out:=
 SF.step (WQ hc hN hi hj Vr hx hy (bc ha.p (bc hb.p cy X3) he) hw hs) λD σ H ⟨sr,q⟩=>⟨sr,wa.mono (λu q1 u1 H1 g1 s1 v1=>⟨s1,wb.mono (λv q2 u2 H2 g2 s2 v2=>by
  have s3:=s2.eR (g2.vr s1 v1) i;have s4:=s3.eR v2 j;exact⟨_,_,rfl,_,k u v,hr u v,s4,(k u v).mono (λt q3=>q3.go (((g1.trans g2).f.trans (cM.eR s2 _ _ i)).trans (cM.eR s3 _ _ j)) sr s4) q2⟩) q1⟩) q⟩
def sd (v:PV):W PV:=.fD (v.dat=true) (.ret v)
def NJ (l:List PV):W (List PV):=.fD (vg l=true) (.ret l)
mutual
theorem VR.ki {ι:List ci}{H H':Hp} (t:∀p vs,H p=ap (.tup vs)->H' p=ap (.tup vs)):∀{v:V}{q:PV},VR K ι H v q->q.dat=true->VR K [] H' v q
 | _,_,.aV,_=>.aV
 | _,_,.bl b,_=>.bl b
 | _,_,.int i,_=>.int i
 | _,_,.str x,_=>.str x
 | _,_,.ty n,h=>by rw [PV.dat] at h;cases h
 | _,_,.tup e r,h=>.tup (t _ _ e) (aO.ki t r (by rw [PV.dat] at h;exact h))
 | _,_,.cl e r,h=>by rw [PV.dat] at h;cases h
 | _,_,.dk _ _ _,h=>by rw [PV.dat] at h;cases h
 | _,_,.dt _ _ _,h=>by rw [PV.dat] at h;cases h
 | _,_,.ref e,h=>by rw [PV.dat] at h;cases h
theorem aO.ki {ι:List ci}{H H':Hp} (t:∀p vs,H p=ap (.tup vs)->H' p=ap (.tup vs)):∀{v:List V}{q:List PV},aO K ι H v q->vg q=true->aO K [] H' v q
 | _,_,.nil,_=>.nil
 | _,_,.cons r s,h=>by
  rw [vg,AO] at h;exact .cons (VR.ki t r h.1) (aO.ki t s h.2)
end
def bor (I:Inv X Z σ H s) (sr:aX K H σ fs) (hs:fs[i]?=ap (ap (.ol q0 l))):∃a ws ob,Inv X Z σ (upd H a (.cT ob (.lst ws))) s/\aX K (upd H a (.cT ob (.lst ws))) σ (fs.set i (ap (.val (.cl l))))/\
  ∀σ' s' H1,Inv X Z σ' H1 s'->di σ (fs.set i (ap (.val (.cl l)))) (upd H a (.cT ob (.lst ws))) H1->aX K H1 σ (fs.set i (ap (.val (.cl l))))->Inv X Z σ' (upd H1 a (.lst ws)) s'/\di σ fs H (upd H1 a (.lst ws))/\aX K (upd H1 a (.lst ws)) σ fs/\(∀p vs,H1 p=ap (.tup vs)->upd H1 a (.lst ws) p=ap (.tup vs))/\∀p vs,p≠a->H1 p=ap (.lst vs)->upd H1 a (.lst ws) p=ap (.lst vs):=by
 obtain⟨a,ws,e1,h1,r1⟩:=dj sr hs;obtain⟨ob,I2⟩:=I.rE h1;have tk:=lU (K:=K) (.cT ob (.lst ws)) h1;have h0:∀o u,X.H₀ a≠ap (.cT o u):=λo u z=>by
  have:=I.base.qN a o u z;rw [h1] at this;cases this
 refine⟨a,ws,ob,I2,⟨by simp [sr.len],λj t z=>?_,λj k t u b1 b2 b z1 z2 o1 o2=>?_⟩,λσ' s' H1 J g s1=>?_⟩
 ·rcases bo z with⟨rfl,rfl⟩ | ⟨n,z⟩
  ·exact⟨_,e1,.inl ⟨_,rfl,.cl (.inl ⟨ob,aW⟩) (aO.tk tk r1)⟩⟩
  ·obtain⟨u,k1,k2⟩:=sr.at' j t z;exact⟨u,k1,k2.mono tk (λx b o eb ow hb zz=>by
    subst eb;rw [aD (λy=>by subst y;exact n (sr.nd j i t _ x b b z hs ow rfl k1 e1 hb (.inl rfl)))];exact zz)⟩
 ·rcases bo z1 with⟨rfl,rfl⟩ | ⟨n1,z1⟩
  ·cases o1
  ·rcases bo z2 with⟨rfl,rfl⟩ | ⟨n2,z2⟩
   ·cases o2
   ·exact sr.nd j k t u b1 b2 b z1 z2 o1 o2
 ·have pf:∀φ b,fe σ (fs.set i (ap (.val (.cl l)))) φ b->fe σ fs φ b:=λφ b ⟨j,z1,z3⟩=>by
   rcases bo z1 with⟨_,z⟩ | ⟨n,z1⟩
   ·cases z
   ·exact⟨j,z1,z3⟩
  have npa:∀φ,¬fe σ fs φ a:=λφ ⟨j,z1,z3⟩=>by
   have:=sr.nd j i _ _ a a a z1 hs rfl rfl z3 e1 (.inl rfl) (.inl rfl);subst this;rw [hs] at z1;cases z1
  have e2:=g.keep a _ aW λφ p=>npa φ (pf φ a p);have hk:=vT J.bK e2;have ge:di σ fs H (upd H1 a (.lst ws)):=by
   refine⟨λb o z n=>?_,λb z=>?_⟩
   ·by_cases c:b=a
    ·subst c;rw [h1] at z;cases z;exact aW
    ·rw [aD c];exact g.keep b o (by rw [aD c];exact z) λφ p=>n φ (pf φ b p)
   ·by_cases c:b=a
    ·subst c;rw [aW] at z;cases z
    ·rw [aD c] at z;have:=g.there b z;rw [aD c] at this;exact this
  refine⟨J.ZH e2 h0 (hk a _ aW) hk,ge,⟨sr.len,λj t z=>?_,sr.nd⟩,λp vs z=>?_,λp vs n z=>by rw [aD n];exact z⟩
  ·obtain⟨u,k1,k2⟩:=sr.at' j t z;refine⟨u,k1,?_⟩;by_cases c:∃φ,t=.kM φ
   ·obtain⟨φ,rfl⟩:=c;have ji:j≠i:=λy=>by subst y;rw [hs] at z;cases z
    rcases k2 with⟨v,y,_⟩ | ⟨b,rfl,_⟩
    ·cases y
    ·obtain⟨vs,y1,y2⟩:=s1.ownAt (t:=.kM φ) (i:=j) (by rw [aL ji];exact z) rfl k1;refine .inr ⟨b,rfl,vs,?_,y2⟩;rw [aD (λy=>by subst y;exact npa φ ⟨j,z,k1⟩)];exact y1
   ·refine k2.mono (ge.eQ sr) (λx b o eb ow hb zz=>ge.keep b o zz λφ ⟨j',p1,p3⟩=>?_);subst eb;have:=sr.nd j j' t _ x b b z p1 ow rfl k1 p3 hb (.inl rfl);subst this;rw [z] at p1;cases p1;exact c ⟨φ,rfl⟩
  ·rw [aD (λy=>by subst y;rw [e2] at z;cases z)];exact z
def VH (i:Nat) (hs:fs[i]?=ap (ap (.ol q0 l))) (h:EF X K (fs.set i (ap (.val (.cl l)))) e w):EF X K fs e (.bind w sd):=⟨λZ s σ H Q I ⟨sr,q⟩=>by
 obtain⟨a,ws,ob,I2,s2,Ê⟩:=bor I sr hs;refine bE (h.p Z s σ _ (λu H1=>∃v,di σ (fs.set i (ap (.val (.cl l)))) (upd H a (.cT ob (.lst ws))) H1/\aX K H1 σ (fs.set i (ap (.val (.cl l))))/\VR K [] H1 u v/\v.dat=true/\∀u H',di σ fs H H'->aX K H' σ fs->VR K [] H' u v->Q u H') I2 ⟨s2,w.mono (λv q1 u H1 g1 s1 v1=>⟨v,g1,s1,v1,q1.1,q1.2⟩) q⟩) λu s1 ⟨x,H1,I1,r1,v,g1,R0,v1,d,q1⟩=>?_;obtain⟨I3,g3,s3,t3,_⟩:=Ê σ s1 H1 I1 g1 R0;exact⟨x,_,I3,r1,q1 x _ g3 s3 (VR.ki t3 v1 d)⟩⟩
end
end
end FL
variable {G:List Int->Prop}
namespace FL
section
open PySem PySem.Spec PyProof.Rows L2 PL
variable {K:Ab}
def Z2 (K:Ab) (m:List PV->List PV->W (PV×List PV)):Sp:=λvs H Q _=>∃a Q9 ws lo l,vs=.ref a::Q9/\H a=ap (.lst ws)/\aO K [] H ws lo/\aO K [] H Q9 l/\(m lo l).run λt=>∀u pZ H',oV a H H'->(∀b,H' b=bm->H b=bm)->H' a=ap (.lst pZ)->aO K [] H' pZ t.2->VR K [] H' u t.1->Q u H'
section
variable {st:tt}{f:ci}{N:List Str}
def QL (a:ci) (lo l:List PV) (n:Nat):bG:=ap (.ol (ap a) lo)::(l.map λv=>ap (SL.val v))++Am (n-1-l.length) bm
def aO.slot (r:aO K [] H vs l) {s:SL} (h:(l.map λv=>ap (SL.val v))[i]?=ap (ap s)):∃u v,vs[i]?=ap u/\s=.val v/\VR K [] H u v:=by
 rw [Ae] at h;cases e:l[i]? with
 | none=>rw [e] at h;cases h
 | some v=>
  rw [e] at h;obtain⟨u,h1,h2⟩:=r.get e;cases h;exact⟨u,v,h1,rfl,h2⟩
theorem fnO {m:List PV->Rm (PV×List PV) n} (Fn:Rl K x qual st f fd) (S:aq N ps (ag st)) (hn:n+1=ps.length)
  (Ã:∀(a:ci) (lo l:List PV),l.length=n->∀(cX:bv) (A:sn) (outer:List Env) (s:cr) (H:Hp) (E:XK),dg k (A.deeper (sB qual (ag st) s.heap.objs.size f cX))->SF (jG kN P w K mg base N qual (ag st) f cX A outer s H E).y6 K false (QL a lo l N.length) (bt st) (ck n (m lo) l) λt=>.ro t.1 a t.2) :
  fH P w K mg base kN (k+1) f fd ps (Z2 K λlo l=>ck n (m lo) l):=by
 refine Fn.ok S (λvs H Q E h=>?_) (λcX A outer s H vs Q E hr h=>?_)
 ·obtain⟨a,Q9,ws,lo,l,rfl,_,_,r,q⟩:=h;rw [Ap,r.length,jP q];exact hn
 obtain⟨a,Q9,ws,lo,l,rfl,ha,iz,r,q⟩:=h;have hl:=jP q;have hr2:=r.length;have TQ:∀{i:Nat}{s:SL},(QL a lo l N.length)[i]?=ap (ap s)->(i=0/\s=.ol (ap a) lo)\/∃j u v,i=j+1/\Q9[j]?=ap u/\s=.val v/\VR K [] H u v:=λ{i s} e=>by
  unfold QL at e;cases i with
  | zero=>simp at e;exact .inl ⟨rfl,e.symm⟩
  | succ j=>
   rw [List.cons_append,EJ] at e;by_cases c:j < l.length
   ·rw [AE (by simpa using c)] at e;obtain⟨u,v,h1,h2,h3⟩:=aO.slot r e;exact .inr ⟨j,u,v,rfl,h1,h2,h3⟩
   ·rw [AI (by simpa using c),BD] at e
    split at e <;> cases e
 have sr:aX K H (L2.start N (.ref a::Q9)) (QL a lo l N.length):=by
  refine⟨?_,λi s e=>?_,λi j s t x y b e1 e2 o1 o2 q1 q2 _ _=>?_⟩
  ·unfold L2.start QL;rw [Af,Ag,Bf,Af,Ap,Ap,Ag,Bf];omega
  ·rcases TQ e with⟨rfl,rfl⟩ | ⟨j,u,v,rfl,h1,rfl,h3⟩
   ·exact⟨.ref a,lV rfl,.inr ⟨a,rfl,λb z=>Option.some.inj z,ws,ha,iz⟩⟩
   ·exact⟨u,lV (by simpa using h1),.inl ⟨v,rfl,h3⟩⟩
  ·rcases TQ e1 with⟨rfl,rfl⟩ | ⟨j1,u,v,rfl,h1,rfl,h3⟩
   ·rcases TQ e2 with⟨rfl,rfl⟩ | ⟨j1,u,v,rfl,h1,rfl,h3⟩
    ·rfl
    ·cases o2
   ·cases o1
 refine⟨_,(Ã a lo l hl cX A outer s H E hr).p,sr,(ck n (m lo) l).mono (λt q1 u σ' bT H' g s' ho rv=>?_) q⟩;obtain⟨i,e⟩:=ho;obtain⟨u',e',r'⟩:=s'.at' i _ e;rcases r' with⟨v,z,_⟩ | ⟨b,rfl,hb,pZ,h1,h2⟩
 ·cases z
 have hba:=hb a rfl;subst hba;refine q1 u pZ H' (λc o nc e=>(g.keep c o e λz=>?_).1) g.there h1 h2 rv;obtain⟨j,t',x,z1,z2,z3,z4⟩:=z;rcases TQ z1 with⟨rfl,rfl⟩ | ⟨j1,u,v,rfl,_,rfl,_⟩
 ·have:=vD z3;simp at this;rcases z4 with rfl | z4
  ·exact nc this.symm
  ·cases z4
 ·cases z2
def iC (G:List Int->Prop):List V->Prop:=λws=>∃ns:List Int,ws=ns.map V.int/\G ns
def WS {m:List PV->List PV->W (PV×List PV)}{mp:List PV->W PV} (F:fH P w K mg base kN k f fd ps (Z2 K m)) (hm:∀ns l Q,G ns->(mp l).run Q->(m (ns.map PV.int) l).run λt=>Q t.1/\∃Km:List Int,t.2=Km.map PV.int/\G Km) :
  fH P w K mg base kN k f fd ps (eJ K (.p (iC G)::Am n .v) mp):=F.imp λvs H Q E h=>by
 obtain⟨l,ha,q⟩:=h;cases ha with
 | @p a φ ws vs ks l e r t=>
  obtain⟨ns,rfl,hG⟩:=r;have tv:∀{n:Nat}{vs:List V}{l:List PV},jg K H vs (Am n .v) l->aO K [] H vs l:=by
   intro n
   induction n with
   | zero=>intro vs l h;cases h;exact .nil
   | succ n ih=>intro vs l h;cases h with | v r t=>exact .cons r (ih t)
  refine⟨a,vs,ns.map V.int,ns.map PV.int,l,rfl,e,oo _ _ ns,tv t,(m _ _).mono (λt q1 u pZ H' sx hth e' r' rv=>?_) (hm ns l _ hG q)⟩;obtain⟨q1,Km,et,hG'⟩:=q1;rw [et] at r';have:=mi r';subst this;refine q1 u H' ⟨λb o eb nb=>sx b o (λz=>?_) eb,hth,λb φ p=>?_⟩ rv
  ·subst z;exact nb _ ⟨0,rfl,rfl⟩
  ·obtain⟨i,e1,e2⟩:=p;cases i with
   | zero=>simp at e1 e2;subst e1;subst e2;exact⟨_,e',Km,rfl,hG'⟩
   | succ i=>
    simp at e1;rw [BD] at e1
    split at e1 <;> simp at e1
end
section
variable {Rb:List tt}{T:Type}{w:W T}{out:T->End}{x:Bool}
def aau (G:List Int->Prop) (l:List PV) (w:W T):W T:=.fD (∃ns:List Int,l=ns.map PV.int/\G ns) w
def SF.kM (i:Nat) (hs:fs[i]?=ap (ap (.ol bm l))) (hr:SF X K x (fs.set i (ap (.kM (iC G)))) Rb w out):SF X K x fs Rb (aau G l w) out:=⟨λZ s σ H D I ⟨sr,q⟩=>by
 obtain⟨⟨ns,el,hG⟩,q⟩:=q;obtain⟨a,ws,e1,h1,r1⟩:=dj sr hs;subst el;have:=mi r1;subst this;obtain⟨s2,g2⟩:=mU (t':=.kM (iC G)) sr hs rfl (by simp) e1 (λ_ _ _ z=>z:oV a H H) λtk=>⟨_,h1,ns,rfl,hG⟩;exact hr.p Z s σ H D I ⟨s2,w.mono (λt q2=>q2.go g2 sr s2) q⟩⟩
end
end
end FL
variable {W':FL.W PL.PV}
namespace FL
section
open PySem PySem.Spec PyProof.Rows L2 PL
variable {K:Ab}
abbrev chB (m m':M2) (wa wb wc:W PV):W PV:=.bind wa λx=>.bind wb λy=>.bind (of2 m x y) λz=>lP z (.bind wc λw=>of2 m' y w)
abbrev chT (m m':M2) (wa wb wc:W PV):W Bool:=.bind wa λx=>.bind wb λy=>.bind (of2 m x y) λz=>.bind (lP z (.bind wc λw=>of2 m' y w)) Zl
abbrev vj (wa wb:W PV):W PV:=.bind wa λx=>Nb x wb
abbrev orB (wa wb:W PV):W PV:=.bind wa λx=>orW x wb
abbrev Gq (wl:W (List PV)):W PV:=.bind wl λl=>.ret (.cl l)
abbrev Hb (t:W Bool) (w:W PV):W (Option PV):=.bind t λk=>if k=true then .bind w λv=>.ret (ap v) else .ret bm
section
variable {c:ga}{WL:W (List PV)}
def Uh (G:UO X.prog X.w X.K X.mg X.base x k ps (eJ K ks m)) (hr:dg k' X.A) (hk:k<=k') (hg:Gl X x) (ha:AF X K fs (e::es) ks B) (hW:W'=B m) (oq:jh x:=by decide)
  (he:gR X e es:=by rfl) (dI:kL X pos es:=by rfl):EF X K fs (.Call (.Name x p) (e::es) [] pos) W':=hW▸Yr G hr hk hg ha oq he dI
def Ta {m:List PV->W (List PV)}{B:(List PV->W (List PV))->W (List PV)} (G:UO X.prog X.w X.K X.mg X.base x k ps (fo K ks m)) (hr:dg k' X.A) (hk:k<=k') (hg:Gl X x) (ha:AF X K fs (e::es) ks B) (hW:WL=B m) (oq:jh x:=by decide)
  (he:gR X e es:=by rfl) (dI:kL X pos es:=by rfl):LF X K fs (.Call (.Name x p) (e::es) [] pos) WL:=hW▸Xy G hr hk hg ha oq he dI
def aR {x1} (h:AF X K fs es (Am n .v) B) (hW:W'=B λl=>.ret (.tup l)) (hn:n<=1000:=by decide):EF X K fs (.Tuple es x1 pos) W':=hW▸abY h hn
def a9 {B:(List PV->W (List PV))->W (List PV)} (h:AF X K fs es (Am n .v) B) (hW:WL=B λl=>.ret l) (hn:n<=1000:=by decide):LF X K fs (.List es pos) WL:=hW▸Vh h hn
variable {T2:Type}{wt:PV->W T2}{dP:T2->bG}{tf:T2->W Bool}{te:T2->W PV}
def c9 {f:PV->W PV} (hc:X.calm=true) (S:aA X.env.scope X.N sc N' ix) (hi:qW X K fs tg iter wl) (hg:∀cl C s2 H2 fp,PG (gD X sc N' cl C s2 H2 fp) tg (dJ i)) (he:∀cl C s2 H2 fp t,EF (gD X sc N' cl C s2 H2 fp) K ((cj ix fs).set i (ap (.val t))) Ä (f t)) (h0:ix[i]?=ap bm) (hs:wI X iter:=by intro _;rfl) :
  LF X K fs (.ListComp Ä [⟨tg,iter,[],0⟩] sc pos) (.bind wl λl=>mapW l f):=
 have h1:(cj ix fs)[i]?=ap bm:=by unfold cj;rw [Ae,h0];rfl
 Vg hc S hi (λcl C s2 H2 fp=>X8 (hg cl C s2 H2 fp)) he (λ_=>rfl) (O7 h1) (λj hj=>by rw [A3] at hj;subst hj;exact h0) hs
def vO {tf:PV->W Bool}{te:PV->W PV} (hc:X.calm=true) (S:aA X.env.scope X.N sc N' ix) (hi:qW X K fs tg iter wl) (hg:∀cl C s2 H2 fp,PG (gD X sc N' cl C s2 H2 fp) tg (dJ i)) (hf:∀cl C s2 H2 fp t,TF (gD X sc N' cl C s2 H2 fp) K ((cj ix fs).set i (ap (.val t))) c (tf t)) (he:∀cl C s2 H2 fp t,EF (gD X sc N' cl C s2 H2 fp) K ((cj ix fs).set i (ap (.val t))) Ä (te t)) (h0:ix[i]?=ap bm) (hs:wI X iter:=by intro _;rfl) :
  LF X K fs (.ListComp Ä [⟨tg,iter,[c],0⟩] sc pos) (.bind wl λl=>kJ l λp=>Hb (tf p) (te p)):=
 have h1:(cj ix fs)[i]?=ap bm:=by unfold cj;rw [Ae,h0];rfl
 Xx (wt:=.ret) (tf:=tf) (te:=te) hc S hi (λcl C s2 H2 fp=>X8 (hg cl C s2 H2 fp)) (λcl C s2 H2 fp t=>yf (hf cl C s2 H2 fp t)) he (λ_=>rfl) (O7 h1) (λj hj=>by rw [A3] at hj;subst hj;exact h0) hs
def tq (hc:X.calm=true) (S:aA X.env.scope X.N sc N' ix) (hi:qW X K fs tg iter wl) (hg:∀cl C s2 H2 fp,GF (gD X sc N' cl C s2 H2 fp) K (cj ix fs) tg is wt dP) (he:∀cl C s2 H2 fp t,EF (gD X sc N' cl C s2 H2 fp) K (dP t) Ä (te t))
  (hl:vn is (cj ix fs) dP/\∀t,jK (dP t) (cj ix fs)) (u0:∀j∈is,ix[j]?=ap bm) (hs:wI X iter:=by intro _;rfl) :
  LF X K fs (.ListComp Ä [⟨tg,iter,[],0⟩] sc pos) (.bind wl λl=>mapW l λp=>.bind (wt p) te):=Vg hc S hi hg he (λ_=>rfl) hl u0 hs
def Vi (hc:X.calm=true) (S:aA X.env.scope X.N sc N' ix) (hi:qW X K fs tg iter wl) (hg:∀cl C s2 H2 fp,GF (gD X sc N' cl C s2 H2 fp) K (cj ix fs) tg is wt dP) (hf:∀cl C s2 H2 fp t,TF (gD X sc N' cl C s2 H2 fp) K (dP t) c (tf t)) (he:∀cl C s2 H2 fp t,EF (gD X sc N' cl C s2 H2 fp) K (dP t) Ä (te t))
  (hl:vn is (cj ix fs) dP/\∀t,jK (dP t) (cj ix fs)) (u0:∀j∈is,ix[j]?=ap bm) (hs:wI X iter:=by intro _;rfl) :
  LF X K fs (.ListComp Ä [⟨tg,iter,[c],0⟩] sc pos) (.bind wl λl=>kJ l λp=>.bind (wt p) λt=>Hb (tf t) (te t)):=Xx hc S hi hg (λcl C s2 H2 fp t=>yf (hf cl C s2 H2 fp t)) he (λ_=>rfl) hl u0 hs
variable {rest:List tt}{T:Type}{out:T->End}{x0:Bool}{kk:List PV->W T}
def SF.N6 {tf:PV->W Bool}{te:PV->W PV} (hc:X.calm=true) (hN:X.N.Nodup) (Gh:X.N[i]?=ap y) (hx:X.env.scope.names.lookup y=ap .local) (S:aA X.env.scope X.N sc N' ix) (hi:qW X K fs tg iter wl) (hg:∀cl C s2 H2 fp,PG (gD X sc N' cl C s2 H2 fp) tg (dJ j)) (hf:∀cl C s2 H2 fp t,TF (gD X sc N' cl C s2 H2 fp) K ((cj ix fs).set j (ap (.val t))) c (tf t)) (he:∀cl C s2 H2 fp t,EF (gD X sc N' cl C s2 H2 fp) K ((cj ix fs).set j (ap (.val t))) Ä (te t)) (h0:ix[j]?=ap bm) (hr:∀l,SF X K x0 (fs.set i (ap (.ol bm l))) rest (kk l) out)
  (qH:lc (.ListComp Ä [⟨tg,iter,[c],0⟩] sc pos) (ap (.Name y px)) nK.line X.env=pure true:=by rfl) (hs:wI X iter:=by intro _;rfl) :
  SF X K x0 fs (.Assign [.Name y px] (.ListComp Ä [⟨tg,iter,[c],0⟩] sc pos) nK::rest) (.bind (.bind wl λl=>kJ l λp=>Hb (tf p) (te p)) kk) out:=
 have h1:(cj ix fs)[j]?=ap bm:=by unfold cj;rw [Ae,h0];rfl
 SF.U2 (wt:=.ret) (tf:=tf) (te:=te) hc hN Gh hx S hi (λcl C s2 H2 fp=>X8 (hg cl C s2 H2 fp)) (λcl C s2 H2 fp t=>yf (hf cl C s2 H2 fp t)) he (λ_=>rfl) (O7 h1) (λm hj=>by rw [A3] at hj;subst hj;exact h0) hr qH hs
def S2 {wt:PV->W T2}{te:T2->W PV}:(λl=>mapW l λp=>.bind (wt p) te)=λl=>kJ l λp=>.bind (wt p) λt=>.bind (.ret true) λk=>if k=true then .bind (te t) λv=>.ret (ap v) else .ret bm:=funext λl=>by
 rw [xD];rfl
def SF.RU (hc:X.calm=true) (hN:X.N.Nodup) (Gh:X.N[i]?=ap y) (hx:X.env.scope.names.lookup y=ap .local) (S:aA X.env.scope X.N sc N' ix) (hi:qW X K fs tg iter wl) (hg:∀cl C s2 H2 fp,GF (gD X sc N' cl C s2 H2 fp) K (cj ix fs) tg is wt dP) (he:∀cl C s2 H2 fp t,EF (gD X sc N' cl C s2 H2 fp) K (dP t) Ä (te t))
  (hl:vn is (cj ix fs) dP/\∀t,jK (dP t) (cj ix fs)) (u0:∀j∈is,ix[j]?=ap bm) (hr:∀l,SF X K x0 (fs.set i (ap (.ol bm l))) rest (kk l) out)
  (qH:lc (.ListComp Ä [⟨tg,iter,[],0⟩] sc pos) (ap (.Name y px)) nK.line X.env=pure true:=by rfl) (hs:wI X iter:=by intro _;rfl) :
  SF X K x0 fs (.Assign [.Name y px] (.ListComp Ä [⟨tg,iter,[],0⟩] sc pos) nK::rest) (.bind (.bind wl λl=>mapW l λp=>.bind (wt p) te) kk) out:=by
 rw [S2];exact SF.U2 (tf:=λ_=>.ret true) hc hN Gh hx S hi hg (λ_ _ _ _ _ _=>P0) he (λp=>rfl) hl u0 hr qH hs
def SF.nM {f:PV->W PV} (hc:X.calm=true) (hN:X.N.Nodup) (Gh:X.N[i]?=ap y) (hx:X.env.scope.names.lookup y=ap .local) (S:aA X.env.scope X.N sc N' ix) (hi:qW X K fs tg iter wl) (hg:∀cl C s2 H2 fp,PG (gD X sc N' cl C s2 H2 fp) tg (dJ j)) (he:∀cl C s2 H2 fp t,EF (gD X sc N' cl C s2 H2 fp) K ((cj ix fs).set j (ap (.val t))) Ä (f t)) (h0:ix[j]?=ap bm) (hr:∀l,SF X K x0 (fs.set i (ap (.ol bm l))) rest (kk l) out)
  (qH:lc (.ListComp Ä [⟨tg,iter,[],0⟩] sc pos) (ap (.Name y px)) nK.line X.env=pure true:=by rfl) (hs:wI X iter:=by intro _;rfl) :
  SF X K x0 fs (.Assign [.Name y px] (.ListComp Ä [⟨tg,iter,[],0⟩] sc pos) nK::rest) (.bind (.bind wl λl=>mapW l f) kk) out:=
 have h1:(cj ix fs)[j]?=ap bm:=by unfold cj;rw [Ae,h0];rfl
 SF.RU (wt:=.ret) hc hN Gh hx S hi (λcl C s2 H2 fp=>X8 (hg cl C s2 H2 fp)) he (O7 h1) (λm hj=>by rw [A3] at hj;subst hj;exact h0) hr qH hs
end
def vY {f:ci} (h:∀vs H Q E,¬sp vs H Q E):fH P w K mg base kN k f fd ps sp:=⟨λvs H Q E q=>(h _ _ _ _ q).elim,λA outer s H args us vs Q E _ _ _ _ q=>(h _ _ _ _ q).elim⟩
def xb {m:Rm PV n} (h:∀l Q,l.length=n->¬(ck n m l).run Q):∀vs H Q E,¬eJ K ks (ck n m) vs H Q E:=λvs H Q E ⟨l,_,q⟩=>h l _ (jP q) q
def J1 {m:Rm (List PV) n} (h:∀l Q,l.length=n->¬(ck n m l).run Q):∀vs H Q E,¬fo K ks (ck n m) vs H Q E:=λvs H Q E ⟨l,_,q⟩=>h l _ (jP q) q
theorem aQ (hr:dg k A):A.units+200 < nn:=by have:=hr.un;omega
end
section
open PySem PySem.Spec PyProof.Rows L2 PL
variable {K:Ab}
mutual
def PV.kG:PV->Bool
 | .tup l=>gh l
 | .cl l=>gh l
 | .ref _=>false
 | .ty _=>false
 | .dv _ _=>false
 | _=>true
def gh:List PV->Bool
 | []=>true
 | x::l=>PV.kG x&&gh l
end
mutual
def PV.i9:PV->Nat
 | .tup l=>eP l+1
 | .cl l=>eP l+1
 | _=>0
def eP:List PV->Nat
 | []=>0
 | x::l=>max (PV.i9 x) (eP l)
end
mutual
def iM:PV->PV->Bool
 | .aV,.aV=>true
 | .bl a,.bl b=>a==b
 | .bl a,.int b=>(if a then 1 else 0)==b
 | .int a,.bl b=>a==(if b then 1 else 0)
 | .int a,.int b=>a==b
 | .str a,.str b=>a==b
 | .tup l,.tup m=>gI l m
 | .cl l,.cl m=>gI l m
 | _,_=>false
def gI:List PV->List PV->Bool
 | [],[]=>true
 | x::l,y::m=>iM x y&&gI l m
 | _,_=>false
end
theorem tY:∀{l:List PV}{j:Nat}{x:PV},gh l=true->l[j]?=ap x->PV.kG x=true
 | [],_,_,_,e=>by simp at e
 | y::l,0,x,h,e=>by
  simp at e;subst e;rw [gh,AO] at h;exact h.1
 | y::l,j+1,x,h,e=>by
  rw [gh,AO] at h;exact tY h.2 (by simpa using e)
theorem vZ:∀{l:List PV}{j:Nat}{x:PV},l[j]?=ap x->PV.i9 x<=eP l
 | [],_,_,e=>by simp at e
 | y::l,0,x,e=>by
  simp at e;subst e;rw [eP];omega
 | y::l,j+1,x,e=>by
  have:=vZ (l:=l) (j:=j) (x:=x) (by simpa using e);rw [eP];omega
mutual
theorem Gx:∀(x:PV),PV.kG x=true->iM x x=true
 | .aV,_=>by rw [iM]
 | .bl b,_=>by rw [iM];simp
 | .int i,_=>by rw [iM];simp
 | .str i,_=>by rw [iM];simp
 | .tup l,h=>by rw [iM];exact mw l (by rw [PV.kG] at h;exact h)
 | .cl l,h=>by rw [iM];exact mw l (by rw [PV.kG] at h;exact h)
 | .ref _,h=>by rw [PV.kG] at h;cases h
 | .ty _,h=>by rw [PV.kG] at h;cases h
 | .dv _ _,h=>by rw [PV.kG] at h;cases h
theorem mw:∀(l:List PV),gh l=true->gI l l=true
 | [],_=>by rw [gI]
 | x::l,h=>by
  rw [gh,AO] at h;rw [gI,Gx x h.1,mw l h.2];rfl
end
def Qg (l m:List PV) (j:Nat):Bool:=match l[j]?,m[j]? with | some x,ap y=>iM x y | _,_=>true
theorem oA:∀(l m:List PV),((Ax (min l.length m.length)).all (Qg l m)&&l.length==m.length)=gI l m
 | [],[]=>by rw [gI];rfl
 | [],_::_=>by
  rw [gI]
  ·simp
  ·intros;simp_all
  ·intros;simp_all
 | _::_,[]=>by
  rw [gI]
  ·simp
  ·intros;simp_all
  ·intros;simp_all
 | x::l,y::m=>by
  rw [gI,<- oA l m];have e:min (x::l).length (y::m).length=min l.length m.length+1:=by simp only [Ap];omega
  rw [e,List.range_succ_eq_map,List.all_cons,List.all_map];have e2:((x::l).length==(y::m).length)=(l.length==m.length):=by simp
  rw [e2,Bool.and_assoc];rfl
def P4 {m:List PV} (h:l.length≠m.length):gI l m=false:=by
 rw [<- oA];have:(l.length==m.length)=false:=by simpa using h
 rw [this,Ei]
section
mutual
theorem VR.PY (I:Inv X Z σ H s):∀{v:V}{x y:PV},VR X.K [] H v x->VR X.K [] H v y->x=y
 | _,_,_,.aV,h=>by cases h;rfl
 | _,_,_,.bl b,h=>by cases h;rfl
 | _,_,_,.int b,h=>by cases h;rfl
 | _,_,_,.str b,h=>by cases h;rfl
 | _,_,_,.ty b,h=>by cases h;rfl
 | _,_,_,.ref e,h=>by simp at e
 | _,_,_,.tup e r,h=>by
  cases h with
  | tup e' r'=>
   have ee:=I.lT (d9.of e) (d9.of e');subst ee;rw [aO.PY I r r']
  | ref e=>simp at e
  | cl e' r'=>
   obtain⟨au,_,⟨o,n,h1,h2,_⟩,_⟩:=I.list e'.sq;obtain⟨its',_,⟨o',iA,uI,_⟩,_⟩:=I.tuple (d9.of e);rw [h1] at iA;cases iA;rw [h2] at uI;simp at uI
  | dk e' _ _=>rw [e] at e';cases e'
  | dt e' _ _=>rw [e] at e';cases e'
 | _,_,_,.dk e k r,h=>by
  cases h with
  | dk e' k' r'=>rw [e] at e';cases e';rw [k,k',aO.PY I r r']
  | dt e' _ _=>rw [e] at e';cases e'
  | ref e=>simp at e
  | tup e' _=>rw [e] at e';cases e'
  | cl e' r'=>
   obtain⟨au,_,⟨o,n,h1,h2,_⟩,_⟩:=I.list e'.sq;obtain⟨_,_,vs,_,o',_,_,iA,uI,_⟩:=uo I.bK (.inr ⟨_,e⟩);rw [h1] at iA;cases iA;have h3:=uI.1;rw [h2] at h3;simp at h3
 | _,_,_,.dt e k r,h=>by
  cases h with
  | dt e' k' r'=>rw [e] at e';cases e';rw [k,k',aO.PY I r r']
  | dk e' _ _=>rw [e] at e';cases e'
  | ref e=>simp at e
  | tup e' _=>rw [e] at e';cases e'
  | cl e' r'=>
   obtain⟨au,_,⟨o,n,h1,h2,_⟩,_⟩:=I.list e'.sq;obtain⟨_,_,vs,_,o',_,_,iA,uI,_⟩:=um I.bK (.inr ⟨_,e⟩);rw [h1] at iA;cases iA;have h3:=uI.1;rw [h2] at h3;simp at h3
 | _,_,_,.cl e r,h=>by
  cases h with
  | dk e' _ _=>
   obtain⟨au,_,⟨o,n,h1,h2,_⟩,_⟩:=I.list e.sq;obtain⟨_,_,vs,_,o',_,_,iA,uI,_⟩:=uo I.bK (.inr ⟨_,e'⟩);rw [h1] at iA;cases iA;have h3:=uI.1;rw [h2] at h3;simp at h3
  | dt e' _ _=>
   obtain⟨au,_,⟨o,n,h1,h2,_⟩,_⟩:=I.list e.sq;obtain⟨_,_,vs,_,o',_,_,iA,uI,_⟩:=um I.bK (.inr ⟨_,e'⟩);rw [h1] at iA;cases iA;have h3:=uI.1;rw [h2] at h3;simp at h3
  | cl e' r'=>
   obtain⟨au,k,⟨o,n,h1,h2,h3,h4⟩,_⟩:=I.list e.sq;obtain⟨its',k',⟨o',n',iA,uI,Iu,X6⟩,_⟩:=I.list e'.sq;rw [h1] at iA;cases iA;rw [h4] at X6;have:au=its':=by injection X6 with a b;simpa using a
   subst this;have ee:=Vals.inj k k';subst ee;rw [aO.PY I r r']
  | ref e=>simp at e
  | tup e' r'=>
   obtain⟨au,_,⟨o,n,h1,h2,_⟩,_⟩:=I.list e.sq;obtain⟨its',_,⟨o',iA,uI,_⟩,_⟩:=I.tuple (d9.of e');rw [h1] at iA;cases iA;rw [h2] at uI;simp at uI
theorem aO.PY (I:Inv X Z σ H s):∀{v:List V}{x y:List PV},aO X.K [] H v x->aO X.K [] H v y->x=y
 | _,_,_,.nil,h=>by cases h;rfl
 | _,_,_,.cons r t,h=>by
  cases h with
  | cons r' t'=>rw [VR.PY I r r',aO.PY I t t']
end
structure Cmp (A:sn) (s:cr) (w w':bv) (b:Bool):Prop where
 rc:SeqAt.RcAt A s w w' b
 ne:SeqAt.RcNeAt A s w w' (!b)
 eq:Dp A s w w' b
def abX (I:Inv X Z σ H s) {ws:List V}{m:List PV} (r:Vals vs au) (r':Vals ws its') (r1:aO X.K [] H vs l) (r2:aO X.K [] H ws m)
  (ih:∀(j:Nat) (x y:PV) (v v':V) (w w':bv),l[j]?=ap x->m[j]?=ap y->VR X.K [] H v x->VR X.K [] H v' y->RelV v w->RelV v' w'->Dp A s w w' (iM x y)) :
  ∀j (g1:j < au.toArray.size) (g2:j < its'.toArray.size),Dp A s au.toArray[j] its'.toArray[j] (Qg l m j):=λj g1 g2=>by
 have h1:j < au.length:=by simpa using g1
 have h2:j < its'.length:=by simpa using g2
 have hl:j < l.length:=by rw [<- r1.length,r.length];exact h1
 have hm:j < m.length:=by rw [<- r2.length,r'.length];exact h2
 obtain⟨v,v1,v2⟩:=r1.get (Ad hl);obtain⟨v',ZC,Ė⟩:=r2.get (Ad hm);obtain⟨u,u1,u2⟩:=r.get v1;obtain⟨u',u1',u2'⟩:=r'.get ZC;rw [Ad h1] at u1;rw [Ad h2] at u1';cases u1;cases u1';unfold Qg;rw [Ad hl,Ad hm];have:=ih j _ _ v v' _ _ (Ad hl) (Ad hm) v2 Ė u2 u2';simpa using this
inductive Sh (X:Cx) (H:Hp) (s:cr):PV->bv->Prop
 | aV:Sh X H s .aV .none
 | bl (b:Bool):Sh X H s (.bl b) (.bool b)
 | int (i:Int) (t:Tok):Sh X H s (.int i) (.int i t)
 | str (x:Str) (t:Tok):Sh X H s (.str x) (.str x t)
 | tup {p:ci}{vs:List V}{au:List bv}{l:List PV} (e:VR X.K [] H (.ref p) (.tup l)) (k:Vals vs au) (r:aO X.K [] H vs l) (h:s.heap.IsTuple p au.toArray):Sh X H s (.tup l) (.ref p)
 | cl {p:ci}{vs:List V}{au:List bv}{l:List PV} (e:VR X.K [] H (.ref p) (.cl l)) (k:Vals vs au) (r:aO X.K [] H vs l) (h:s.heap.IsList p au.toArray):Sh X H s (.cl l) (.ref p)
def Sh.of (I:Inv X Z σ H s) {v:V}{x:PV}{w:bv} (h:VR X.K [] H v x) (r:RelV v w) (d:PV.kG x=true):Sh X H s x w:=by
 cases h with
 | ref e=>simp at e
 | aV=>cases r;exact .aV
 | bl a=>cases r;exact .bl a
 | int a=>obtain⟨t,rfl⟩:=r;exact .int a t
 | str a=>obtain⟨t,rfl⟩:=r;exact .str a t
 | tup e q=>
  cases r;obtain⟨au,k,ht,_⟩:=I.tuple (d9.of e);exact .tup (.tup e q) k q ht
 | cl e q=>
  cases r;obtain⟨au,k,pl,_⟩:=I.list e.sq;exact .cl (.cl e q) k q pl.isList
 | _=>rw [PV.kG] at d;cases d
set_option maxHeartbeats 8000000 in
theorem Yz (hK:X.K=K) (I:Inv X Z σ H s):∀(n:Nat) (x y:PV) (A:sn) (v v':V) (w w':bv),PV.i9 x<=n->PV.kG x=true->PV.kG y=true->VR K [] H v x->VR K [] H v' y->RelV v w->RelV v' w'->A.units+n+1 < nn->Cmp A s w w' (iM x y):=by
 subst hK;intro n
 induction n using C4 with
 | ind n ih=>
 intro x y A v v' w w' hd dx dy hv hv' r1 r2 hu;have a:=Sh.of I hv r1 dx;have b:=Sh.of I hv' r2 dy;clear hv hv' r1 r2;have el:∀{l m:List PV}{vs ws:List V}{au cK:List bv},gh l=true->gh m=true->eP l < n->Vals vs au->Vals ws cK->aO X.K [] H vs l->aO X.K [] H ws m->au.toArray.size=l.length/\cK.toArray.size=m.length/\∀j (g1:j < au.toArray.size) (g2:j < cK.toArray.size),Dp A.in1 s au.toArray[j] cK.toArray[j] (Qg l m j):=λd1 d2 hd k1 k2 r r'=>⟨by rw [Ai,<- k1.length,r.length],by rw [Ai,<- k2.length,r'.length],abX I (A:=A.in1) k1 k2 r r' λj x y v v' w w' hx hy vx vy rx ry=>(ih _ hd x y A.in1 v v' w w' (vZ hx) (tY d1 hx) (tY d2 hy) vx vy rx ry (by show A.units+1+_+1 < _;omega)).eq⟩;have fin:∀{pa pb:ci}{l m:List PV},(pa=pb->l=m)->gh l=true->SeqAt.RcAt A s (.ref pa) (.ref pb) (gI l m)->Dp A s (.ref pa) (.ref pb) (gI l m):=λ{pa pb l m} h d q=>by
  by_cases ö:pa=pb
  ·rw [h ö,mw _ (h ö▸d),ö];exact FY _
  ·exact FD ö q
 cases a <;> cases b
 case tup.tup pa vs au l e k r ht pb ws cK m e2 k2 r2 Ip=>
  rw [PV.i9] at hd;obtain⟨z1,z2,ie⟩:=el dx dy ∅ k k2 r r2;have q1:=FG ht Ip (A:=A) ∅ ie;have q2:=SeqAt.RcNeAt.tuples ht Ip (A:=A) ∅ ie;rw [z1,z2,oA] at q1 q2;exact⟨q1,q2,fin (λz=>by subst z;have:=VR.PY I e e2;injection this) dx q1⟩
 case cl.cl pa vs au l e k r ht pb ws cK m e2 k2 r2 Ip=>
  rw [PV.i9] at hd;obtain⟨z1,z2,ie⟩:=el dx dy ∅ k k2 r r2;by_cases hz:l.length=m.length
  ·have q1:=FR ht Ip (by rw [z1,z2];exact hz) (A:=A) ∅ ie;have q2:=FC ht Ip (by rw [z1,z2];exact hz) (A:=A) ∅ ie;have ef:(Ax l.length).all (Qg l m)=gI l m:=by rw [<- oA,hz,Nat.min_self,beq_self_eq_true,Bool.and_true]
   rw [z1,ef] at q1 q2;exact⟨q1,q2,fin (λz=>by subst z;have:=VR.PY I e e2;injection this) dx q1⟩
  ·have q1:=Et (A:=A) ht Ip (by rw [z1,z2];simpa using hz) ∅;have q2:=D6 (A:=A) ht Ip (by rw [z1,z2];simpa using hz) ∅;have ef:=P4 hz;rw [<- ef] at q1;have q2:SeqAt.RcNeAt A s (.ref pa) (.ref pb) (!gI l m):=by rw [ef];exact q2
   exact⟨q1,q2,fin (λz=>by subst z;have:=VR.PY I e e2;injection this) dx q1⟩
 all_goals
  clear ih el fin;rw [iM] <;> try (intros;simp_all;done)
  refine⟨?_,?_,?_⟩ <;> (try simp only [Bz,Eh]) <;> first | with_reducible exact .none_none | with_reducible exact .none_bool _ | with_reducible exact .none_int _ _ | with_reducible exact .none_str _ _ | with_reducible exact .none_tuple ‹_› ∅ | with_reducible exact .none_list ‹_› ∅ | with_reducible exact .bool_none _ | with_reducible exact .bool_str _ _ _ | with_reducible exact .bool_tuple _ ‹_› ∅ | with_reducible exact .bool_list _ ‹_› ∅ | with_reducible exact .int_none _ _ | with_reducible exact .int_str _ _ _ _ | with_reducible exact .int_tuple _ _ ‹_› ∅ | with_reducible exact .int_list _ _ ‹_› ∅ | with_reducible exact .str_none _ _ | with_reducible exact .str_bool _ _ _ | with_reducible exact .str_int _ _ _ _ | with_reducible exact .str_tuple _ _ ‹_› ∅ | with_reducible exact .str_list _ _ ‹_› ∅ | with_reducible exact .tuple_none ‹_› ∅ | with_reducible exact .tuple_bool _ ‹_› ∅ | with_reducible exact .tuple_int _ _ ‹_› ∅ | with_reducible exact .tuple_str _ _ ‹_› ∅ | with_reducible exact .tuple_list ‹_› ‹_› ∅ | with_reducible exact .list_none ‹_› ∅ | with_reducible exact .list_bool _ ‹_› ∅ | with_reducible exact .list_int _ _ ‹_› ∅ | with_reducible exact .list_str _ _ ‹_› ∅ | with_reducible exact .list_tuple ‹_› ‹_› ∅ | exact .same _ | exact .bool_bool _ _ | exact .bool_int _ _ _ | exact .int_bool _ _ _ | exact .int_int _ _ _ _ | exact .str_str _ _ _ _
end
end
section
open PySem PySem.Spec PyProof.Rows L2 PL
variable {K:Ab}
mutual
theorem VR.nW {ι:List ci}{H:Hp}:∀{v:V}{q:PV},VR K ι H v q->PV.kG q=true->VR K [] H v q
 | _,_,.aV,_=>.aV
 | _,_,.bl b,_=>.bl b
 | _,_,.int i,_=>.int i
 | _,_,.str x,_=>.str x
 | _,_,.ty n,h=>by rw [PV.kG] at h;cases h
 | _,_,.dk _ _ _,h=>by rw [PV.kG] at h;cases h
 | _,_,.dt _ _ _,h=>by rw [PV.kG] at h;cases h
 | _,_,.tup e r,h=>.tup e (aO.nW r (by rw [PV.kG] at h;exact h))
 | _,_,.cl e r,h=>.cl e (aO.nW r (by rw [PV.kG] at h;exact h))
 | _,_,.ref e,h=>by rw [PV.kG] at h;cases h
theorem aO.nW {ι:List ci}{H:Hp}:∀{v:List V}{q:List PV},aO K ι H v q->gh q=true->aO K [] H v q
 | _,_,.nil,_=>.nil
 | _,_,.cons r s,h=>by
  rw [gh,AO] at h;exact .cons (VR.nW r h.1) (aO.nW s h.2)
end
def Mu (x y:PV):Prop:=PV.kG x=true/\PV.kG y=true/\PV.i9 x<=150
def dQ:M2:=⟨λx y h Q=>Mu x y/\Q (.bl (iM x y)) h,λf q=>⟨q.1,f _ _ q.2⟩⟩
def xB:M2:=⟨λx y h Q=>Mu x y/\Q (.bl (!iM x y)) h,λf q=>⟨q.1,f _ _ q.2⟩⟩
def R9 (K:Ab) (neg:Bool):R2:=λu v H Q=>∃x y,VR K [] H u x/\VR K [] H v y/\Mu x y/\Q (.bl (if neg then !iM x y else iM x y)) H
section
theorem Xd (hK:X.K=K) (hu:X.A.units+200 < nn):iy X (im .Eq) (R9 K false):=λZ s σ H u v w w' Q I r1 r2 ⟨x,y,h1,h2,⟨o1,o2,o3⟩,q⟩=>by
 exact E4 (Yz hK I 150 x y X.A u v w w' o3 o1 o2 h1 h2 r1 r2 ∅).rc ⟨.bl _,H,I,rfl,q⟩
theorem W9 (hK:X.K=K) (hu:X.A.units+200 < nn):iy X (im .NotEq) (R9 K true):=λZ s σ H u v w w' Q I r1 r2 ⟨x,y,h1,h2,⟨o1,o2,o3⟩,q⟩=>by
 exact En (Yz hK I 150 x y X.A u v w w' o3 o1 o2 h1 h2 r1 r2 ∅).ne ⟨.bl _,H,I,rfl,q⟩
def SR:M2.Ok K (R9 K false) dQ:=λ{ι H h u v x y Q} hr hu hv q=>⟨x,y,VR.nW hu q.1.1,VR.nW hv q.1.2.1,q.1,q.2 ι _ H (Go.refl _ _) hr (.bl _)⟩
def SM:M2.Ok K (R9 K true) xB:=λ{ι H h u v x y Q} hr hu hv q=>⟨x,y,VR.nW hu q.1.1,VR.nW hv q.1.2.1,q.1,q.2 ι _ H (Go.refl _ _) hr (.bl _)⟩
def eO (hK:X.K=K) (hu:X.A.units+200 < nn):JC X K .Eq b dQ:=⟨⟨_,Xd hK hu,SR⟩,lq _⟩
def Kw (hK:X.K=K) (hu:X.A.units+200 < nn):JC X K .NotEq b xB:=⟨⟨_,W9 hK hu,SM⟩,lq _⟩
end
end
end FL
variable {x:Ba}{b b1:Bool}{t z i1 i2 a1 a2:BV}{ys:Array Ba}{k1:Nat}
namespace L2
open PySem PySem.Spec PyProof.Rows
def uE (b:Bool) (h:nw) (it a:ci) (k:Nat):Prop:=match b with
 | true=>h.IsListIter it a k
 | false=>h.IsTupleIter it a k
def je (b:Bool) (h:nw) (a:ci) (xs:Array bv):Prop:=match b with
 | true=>h.IsList a xs
 | false=>h.IsTuple a xs
def uE.move (x:uE b h it a k) (g:∀o,h.get? it=ap o->h'.get? it=ap o):uE b h' it a k:=by
 cases b with
 | true=>obtain⟨o,e,p⟩:=(show h.IsListIter it a k from x);exact (show h'.IsListIter it a k from⟨o,g o e,p⟩)
 | false=>obtain⟨o,e,p⟩:=(show h.IsTupleIter it a k from x);exact (show h'.IsTupleIter it a k from⟨o,g o e,p⟩)
def je.move (x:je b h a xs) (g:∀o,h.get? a=ap o->h'.get? a=ap o):je b h' a xs:=by
 cases b with
 | true=>obtain⟨o,e,p⟩:=(show h.IsList a xs from x);exact (show h'.IsList a xs from⟨o,g o e,p⟩)
 | false=>obtain⟨o,e,p⟩:=(show h.IsTuple a xs from x);exact (show h'.IsTuple a xs from⟨o,g o e,p⟩)
def uE.obj (x:uE b h it a k):∃o,h.get? it=ap o/\∀v,o.data≠.cell v:=by
 cases b with
 | true=>obtain⟨o,e,_,d⟩:=(show h.IsListIter it a k from x);exact⟨o,e,λv z=>by rw [d] at z;cases z⟩
 | false=>obtain⟨o,e,_,d⟩:=(show h.IsTupleIter it a k from x);exact⟨o,e,λv z=>by rw [d] at z;cases z⟩
def je.lt (x:je b h a xs):a < h.objs.size:=by
 cases b with
 | true=>obtain⟨o,e,p⟩:=(show h.IsList a xs from x);exact Au e
 | false=>obtain⟨o,e,p⟩:=(show h.IsTuple a xs from x);exact Au e
section
def lu (h:uE b s.heap it t i) (ht:je b s.heap t items) (hx:items[i]?=ap x)
  (q:∀h':nw,uE b h' it t (i+1)->Cf it s.heap h'->Q x {s with heap:=h'}):db (dL prog w) A (Builtin.SmallTypes.nextOf (.ref it)) Q E s:=by
 cases b with
 | true=>exact wpAny_nextOf_list_item h ht hx λh' a b=>q h' a b
 | false=>exact iJ h ht hx q
def sQ (hA:A.handled=bm) (h:uE b s.heap it t i) (ht:je b s.heap t items) (hx:items[i]?=bm)
  (q:∀(h':nw) (e:ci),FX it s.heap h'->(∃o,h'.get? e=ap o/\o.cls=.type "StopIteration")->E (.ref e) {s with heap:=h'}):db (dL prog w) A (Builtin.SmallTypes.nextOf (.ref it)) Q E s:=by
 cases b with
 | true=>exact wpAny_nextOf_list_end hA h ht hx λh' e a b=>q h' e a b
 | false=>exact jt hA h ht hx q
def L7:Bool->String
 | true=>"list_iterator"
 | false=>"tuple_iterator"
def vF (h:je b s.heap a xs) (q:Q (.ref s.heap.objs.size) {s with heap:=s.heap.push {cls:=.type (L7 b),data:=.fields #[.ref a,.int 0 0]}}):db (dL prog w) A (pyIter (.ref a)) Q E s:=by
 cases b with
 | true=>exact CN h q
 | false=>exact C7 h q
def JY (e:h.get? it=ap {cls:=.type (L7 b),data:=.fields #[.ref a,.int 0 0]}):uE b h it a 0:=by
 cases b with
 | true=>exact (show h.IsListIter it a 0 from⟨_,e,rfl,rfl⟩)
 | false=>exact (show h.IsTupleIter it a 0 from⟨_,e,rfl,rfl⟩)
end
structure kq (b1 b2:Bool) (h:nw) (z TI TO i1 i2 a1 a2:ci) (f0:bv) (k1 k2:Nat):Prop where
 zip:IsZip h z TI TO f0
 ti:IsPair h TI (.ref i1) (.ref i2)
 to:∃a b,IsPair h TO a b
 it1:uE b1 h i1 a1 k1
 it2:uE b2 h i2 a2 k2
def rO {E:bv->cr->Prop}{b2:Bool}{TI TO:ci}{y:bv} (hA:ZipApart z TI TO i1 i2 a1 a2)
  (hz:kq b1 b2 s.heap z TI TO i1 i2 a1 a2 .none k1 k2) (Vp:je b1 s.heap a1 xs) (Ip:je b2 s.heap a2 ys) (hx:xs[k1]?=ap x) (hy:ys[k2]?=ap y)
  (q:∀h':nw,kq b1 b2 h' z TI TO i1 i2 a1 a2 (u8 s.heap.objs.size) (k1+1) (k2+1)->IsPair h' s.heap.objs.size x y->(∀c o,c≠z->c≠TO->c≠i1->c≠i2->s.heap.get? c=ap o->h'.get? c=ap o)->Q (.ref s.heap.objs.size) {s with heap:=h'}) :
  db (dL prog w) A (BT.«zip.__next__» {pos:=[.ref z]}) (λfin s'=>∃v,fin=F0 (FZ v)/\Q v s') E s:=by
 obtain⟨hz,Tz,⟨ta,tb,Į⟩,č,ð⟩:=hz;show db _ _ (field (.ref z) 2 >>= λr=>_) _ _ s;refine Aa (A6 hz rfl rfl ?_);refine Aa (A6 hz rfl rfl ?_);refine Aa (BO Tz rfl ?_);refine Aa ?_;refine Aa (A6 hz rfl rfl ?_);refine Ah ?_;refine Aa (CS ?_);refine Aa (A6 hz rfl rfl ?_);show db _ _ (xz (.ref z) 0 .ellipsis >>= λr=>_) _ _ s;refine Aa (A8 hz (show 0 < 5 by decide) λh1 z1 b1=>?_);show db _ _ ((forIn [(AD i1,0),(AD i2,1)] _ _) >>= λr=>_) _ _ _;refine Aa ?_;rw [Ca];have u7:=b1.2;refine Aa ?_;refine Aa (Ex ?_);refine Aa (lu (č.move λo e=>(u7 _ hA.i1z).trans e) (Vp.move λo e=>(u7 _ hA.l1z).trans e) hx λh2 j2 b2=>Ah ?_);have PQ:∀b,b≠z->b≠i1->h2.get? b=s.heap.get? b:=λb n1 n2=>(b2.2 b n2).trans (u7 b n1);have ß:=(PQ _ hA.TOz hA.TOi1).trans Į;refine Aa (BO ß rfl ?_);refine Aa (DC ß λh3 t3 b3=>?_);have Ì:∀b,b≠z->b≠i1->b≠TO->h3.get? b=s.heap.get? b:=λb n1 n2 n3=>(b3.2 b n3).trans (PQ b n1 n2);refine Aa (DE (Ah ?_));show db _ _ (forIn [(AD i2,1)] _ _) _ _ _;rw [Ca];refine Aa ?_;refine Aa (Ex ?_);refine Aa (lu (ð.move λo e=>(Ì _ hA.i2z hA.i12.symm hA.TOi2.symm).trans e) (Ip.move λo e=>(Ì _ hA.l2z hA.l2i1 hA.l2TO).trans e) hy λh4 j4 b4=>Ah ?_);have to4:=(b4.2 _ hA.TOi2).trans t3;refine Aa (BO to4 rfl ?_);refine Aa (DC to4 λh5 t5 b5=>?_);have to5:=t5;refine Aa (DE (Ah ?_));refine Ah ?_;refine Aa (BO to5 rfl ?_);have Ě:=b5.1.trans (b4.1.trans (b3.1.trans (b2.1.trans b1.1)));refine Aa (CT ?_ (by show 2<=sizeLine;decide));have abF:∀b,b≠z->b≠i1->b≠TO->b≠i2->h5.get? b=s.heap.get? b:=λb n1 n2 n3 n4=>(b5.2 b n3).trans ((b4.2 b n4).trans (Ì b n1 n2 n3));have z5:h5.get? z=ap {cls:=.type "zip",data:=.fields #[.ellipsis,.bool false,.bool false,.ref TI,.ref TO]}:=(b5.2 _ hA.TOz.symm).trans ((b4.2 _ hA.i2z.symm).trans ((b3.2 _ hA.TOz.symm).trans ((b2.2 _ hA.i1z.symm).trans z1)));have kp:∀b o,h5.get? b=ap o->(h5.push {cls:=.type "tuple",data:=.seq #[x,y]}).get? b=ap o:=λb o e=>Aj _ e;have aeC:(h5.push {cls:=.type "tuple",data:=.seq #[x,y]}).get? h5.objs.size=ap {cls:=.type "tuple",data:=.seq #[x,y]}:=Aq _ rfl;refine Aa ?_;show db _ _ (xz (.ref z) 0 (u8 h5.objs.size) >>= λ_=>xz (.ref z) 1 (.bool false)) _ _ _;refine Aa (A8 (kp _ _ z5) (show 0 < 5 by decide) λh7 z7 b7=>?_);refine A8 z7 (show 1 < 5 by decide) λh8 z8 b8=>?_;have Mj:∀b,b≠z->h8.get? b=(h5.push {cls:=.type "tuple",data:=.seq #[x,y]}).get? b:=λb n=>(b8.2 b n).trans (b7.2 b n);have nz:s.heap.objs.size≠z:=λe=>by have:=Au hz;rw [<- e] at this;exact Bc _ this
 refine Ah ⟨.ref h5.objs.size,rfl,?_⟩;rw [Ě];refine q h8 ⟨?_,?_,?_,?_,?_⟩ ?_ ?_
 ·rw [<- Ě];exact z8
 ·rw [IsPair,Mj _ hA.TIz];exact kp _ _ ((abF _ hA.TIz hA.TIi1 hA.TITO hA.TIi2).trans Tz)
 ·exact⟨x,y,by rw [IsPair,Mj _ hA.TOz];exact kp _ _ to5⟩
 ·refine j2.move λo e=>?_;rw [Mj _ hA.i1z];exact kp _ _ ((b5.2 _ hA.TOi1.symm).trans ((b4.2 _ hA.i12).trans ((b3.2 _ hA.TOi1.symm).trans e)))
 ·refine j4.move λo e=>?_;rw [Mj _ hA.i2z];exact kp _ _ ((b5.2 _ hA.TOi2.symm).trans e)
 ·rw [IsPair,Mj _ nz,<- Ě];exact aeC
 ·intro c o n1 n2 n3 n4 e;rw [Mj _ n1];exact kp _ _ ((abF _ n1 n3 n2 n4).trans e)
def uJ {b2:Bool}{TI TO:ci}{Q:PySem.Fin->cr->Prop} (hh:A.handled=bm) (hA:ZipApart z TI TO i1 i2 a1 a2)
  (hz:kq b1 b2 s.heap z TI TO i1 i2 a1 a2 .none k1 k2) (Vp:je b1 s.heap a1 xs) (Ip:je b2 s.heap a2 ys) (hx:xs[k1]?=bm\/ys[k2]?=bm)
  (q:∀(h':nw) (e:ci),(∀c o,c≠z->c≠TO->c≠i1->c≠i2->s.heap.get? c=ap o->h'.get? c=ap o)->(∃o,h'.get? e=ap o/\o.cls=.type "StopIteration")->E (.ref e) {s with heap:=h'}) :
  db (dL prog w) A (BT.«zip.__next__» {pos:=[.ref z]}) Q E s:=by
 obtain⟨hz,Tz,⟨ta,tb,Į⟩,č,ð⟩:=hz;show db _ _ (field (.ref z) 2 >>= λr=>_) _ _ s;refine Aa (A6 hz rfl rfl ?_);refine Aa (A6 hz rfl rfl ?_);refine Aa (BO Tz rfl ?_);refine Aa ?_;refine Aa (A6 hz rfl rfl ?_);refine Ah ?_;refine Aa (CS ?_);refine Aa (A6 hz rfl rfl ?_);show db _ _ (xz (.ref z) 0 .ellipsis >>= λr=>_) _ _ s;refine Aa (A8 hz (show 0 < 5 by decide) λh1 z1 b1'=>?_);show db _ _ ((forIn [(AD i1,0),(AD i2,1)] _ _) >>= λr=>_) _ _ _;refine Aa ?_;rw [Ca];have u7:=b1'.2;refine Aa ?_;refine Aa (Ex ?_);have fin:∀{h2:nw}{e:ci},h2.get? z=ap {cls:=.type "zip",data:=.fields #[.ellipsis,.bool false,.bool false,.ref TI,.ref TO]}->(∃o,h2.get? e=ap o/\o.cls=.type "StopIteration")->(∀c o,c≠z->c≠TO->c≠i1->c≠i2->s.heap.get? c=ap o->h2.get? c=ap o)->db (dL prog w) A (xz (.ref z) 0 .none) (λ_ s'=>E (.ref e) s') (λ_ _=>True) {s with heap:=h2}:=λ{h2 e} z2 ex k=>by
  refine A8 z2 (show 0 < 5 by decide) λh3 z3 b3=>?_;refine q h3 e (λc o n1 n2 n3 n4 ec=>?_) ?_
  ·rw [b3.2 _ n1];exact k c o n1 n2 n3 n4 ec
  ·obtain⟨o,eo,hc⟩:=ex;by_cases he:e=z
   ·subst he;rw [z2] at eo;cases eo;exact absurd (show B3 "zip"=B3 "StopIteration" from hc) ⋯
   ·exact⟨o,(b3.2 _ he).trans eo,hc⟩
 cases hx1:xs[k1]? with
 | none=>
  refine Aa (sQ hh (č.move λo e=>(u7 _ hA.i1z).trans e) (Vp.move λo e=>(u7 _ hA.l1z).trans e) hx1 λh2 e k ex=>?_);have z2:h2.get? z=ap {cls:=.type "zip",data:=.fields #[.ellipsis,.bool false,.bool false,.ref TI,.ref TO]}:=k _ _ hA.i1z.symm z1;refine A8 z2 (show 0 < 5 by decide) λh3 z3 b3=>?_;refine q h3 e (λc o n1 n2 n3 n4 ec=>?_) ?_
  ·rw [b3.2 _ n1];exact k _ _ n3 ((u7 _ n1).trans ec)
  ·obtain⟨o,eo,hc⟩:=ex;by_cases he:e=z
   ·subst he;rw [z2] at eo;cases eo;exact absurd (show B3 "zip"=B3 "StopIteration" from hc) ⋯
   ·exact⟨o,(b3.2 _ he).trans eo,hc⟩
 | some x=>
  have hy:ys[k2]?=bm:=by
   rcases hx with h | h
   ·rw [hx1] at h;cases h
   ·exact h
  refine Aa (lu (č.move λo e=>(u7 _ hA.i1z).trans e) (Vp.move λo e=>(u7 _ hA.l1z).trans e) hx1 λh2 j2 b2'=>Ah ?_);have PQ:∀b,b≠z->b≠i1->h2.get? b=s.heap.get? b:=λb n1 n2=>(b2'.2 b n2).trans (u7 b n1);have ß:=(PQ _ hA.TOz hA.TOi1).trans Į;refine Aa (BO ß rfl ?_);refine Aa (DC ß λh3 t3 b3=>?_);have Ì:∀b,b≠z->b≠i1->b≠TO->h3.get? b=s.heap.get? b:=λb n1 n2 n3=>(b3.2 b n3).trans (PQ b n1 n2);refine Aa (DE (Ah ?_));refine Aa ?_;refine Aa (Ex ?_);show db _ _ (Builtin.SmallTypes.nextOf (.ref i2) >>= λv=>pure (ap v)) _ _ _;refine Aa (sQ hh (ð.move λo e=>(Ì _ hA.i2z hA.i12.symm hA.TOi2.symm).trans e) (Ip.move λo e=>(Ì _ hA.l2z hA.l2i1 hA.l2TO).trans e) hy λh4 e k ex=>?_);have z4:h4.get? z=ap {cls:=.type "zip",data:=.fields #[.ellipsis,.bool false,.bool false,.ref TI,.ref TO]}:=k _ _ hA.i2z.symm ((b3.2 _ hA.TOz.symm).trans ((b2'.2 _ hA.i1z.symm).trans z1));refine A8 z4 (show 0 < 5 by decide) λh5 z5 b5=>?_;refine q h5 e (λc o n1 n2 n3 n4 ec=>?_) ?_
  ·rw [b5.2 _ n1];exact k _ _ n4 ((Ì _ n1 n3 n2).trans ec)
  ·obtain⟨o,eo,hc⟩:=ex;by_cases he:e=z
   ·subst he;rw [z4] at eo;cases eo;exact absurd (show B3 "zip"=B3 "StopIteration" from hc) ⋯
   ·exact⟨o,(b5.2 _ he).trans eo,hc⟩
def o8 {b2:Bool}{TI TO:ci}{y:bv}{Q:Option bv->cr->Prop} (hA:ZipApart z TI TO i1 i2 a1 a2)
  (hz:kq b1 b2 s.heap z TI TO i1 i2 a1 a2 .none k1 k2) (Vp:je b1 s.heap a1 xs) (Ip:je b2 s.heap a2 ys) (hx:xs[k1]?=ap x) (hy:ys[k2]?=ap y)
  (q:∀h':nw,kq b1 b2 h' z TI TO i1 i2 a1 a2 (u8 s.heap.objs.size) (k1+1) (k2+1)->IsPair h' s.heap.objs.size x y->(∀c o,c≠z->c≠TO->c≠i1->c≠i2->s.heap.get? c=ap o->h'.get? c=ap o)->Q (ap (.ref s.heap.objs.size)) {s with heap:=h'}) :
  db (dL prog w) A (pyNext (.ref z)) Q E s:=by
 have ty:s.TypeIs (.ref z) "zip":=⟨_,hz.zip,rfl⟩;refine Aa (C3 (AZ ty DK (Bl DK ty F.entry_zip_next ?_ (F.args_zip_next_1 _))));exact rO hA hz Vp Ip hx hy λh' a b c=>Ah (q h' a b c)
def qB {b2:Bool}{TI TO:ci}{Q:Option bv->cr->Prop} (hh:A.handled=bm) (hA:ZipApart z TI TO i1 i2 a1 a2)
  (hz:kq b1 b2 s.heap z TI TO i1 i2 a1 a2 .none k1 k2) (Vp:je b1 s.heap a1 xs) (Ip:je b2 s.heap a2 ys) (hx:xs[k1]?=bm\/ys[k2]?=bm)
  (q:∀h':nw,(∀c o,c≠z->c≠TO->c≠i1->c≠i2->s.heap.get? c=ap o->h'.get? c=ap o)->Q bm {s with heap:=h'}) :
  db (dL prog w) A (pyNext (.ref z)) Q E s:=by
 have ty:s.TypeIs (.ref z) "zip":=⟨_,hz.zip,rfl⟩;refine Aa (C3 (AZ ty DK (Bl DK ty F.entry_zip_next ?_ (F.args_zip_next_1 _))));refine uJ (A:=A.in1) hh hA hz Vp Ip hx λh' e k ex=>?_;obtain⟨o,eo,hc⟩:=ex;refine Aa (Ds (T:="StopIteration") ⟨o,eo,hc⟩ isSubtype_stop ?_);exact Ah (q h' k)
def sV (b1 b2:Bool) (a1 a2:ci) (xs ys:Array bv):Meets (BT.«zip.__new__» {pos:=[.type "zip",.ref a1,.ref a2]}) (λ_ R s=>je b1 s.heap a1 xs/\je b2 s.heap a2 ys/\
  ∀h':nw,kq b1 b2 h' (s.heap.objs.size+4) (s.heap.objs.size+2) (s.heap.objs.size+3) s.heap.objs.size (s.heap.objs.size+1) a1 a2 .none 0 0->(∀b o,s.heap.get? b=ap o->h'.get? b=ap o)->R (.ok (.ret (.ref (s.heap.objs.size+4)))) {s with heap:=h'}):=
 .of_wp λprog w A R s h=>by
  obtain⟨h1,h2,q⟩:=h;refine Aa ?_;refine Aa (CH (a:=true) rfl ?_);refine Aa (CH sub_zip ?_);refine Ah ?_;refine Aa ?_;refine Aa ?_;rw [Ca];refine Aa ?_;refine Aa (Bi (vF h1 (Ah ?_)));have k1:∀b o,s.heap.get? b=ap o->(s.heap.push {cls:=.type (L7 b1),data:=.fields #[.ref a1,.int 0 0]}).get? b=ap o:=λb o e=>Aj _ e;have g1:(s.heap.push {cls:=.type (L7 b1),data:=.fields #[.ref a1,.int 0 0]}).get? s.heap.objs.size=ap {cls:=.type (L7 b1),data:=.fields #[.ref a1,.int 0 0]}:=Aq _ rfl;have z1:(s.heap.push {cls:=.type (L7 b1),data:=.fields #[.ref a1,.int 0 0]}).objs.size=s.heap.objs.size+1:=CP ..;generalize s.heap.push {cls:=.type (L7 b1),data:=.fields #[.ref a1,.int 0 0]}=uZ at k1 g1 z1 ⊢;show db _ _ (forIn [AD a2] _ _) _ _ _;rw [Ca];refine Aa ?_;refine Aa (Bi (vF (xs:=ys) (h2.move λo e=>k1 _ _ e) (Ah ?_)));show db _ _ (forIn [] _ _) _ _ _;rw [List.forIn_nil];refine Ah (Ah ?_);have k2:∀b o,uZ.get? b=ap o->(uZ.push {cls:=.type (L7 b2),data:=.fields #[.ref a2,.int 0 0]}).get? b=ap o:=λb o e=>Aj _ e;have g2:(uZ.push {cls:=.type (L7 b2),data:=.fields #[.ref a2,.int 0 0]}).get? uZ.objs.size=ap {cls:=.type (L7 b2),data:=.fields #[.ref a2,.int 0 0]}:=Aq _ rfl;have z2:(uZ.push {cls:=.type (L7 b2),data:=.fields #[.ref a2,.int 0 0]}).objs.size=uZ.objs.size+1:=CP ..;show db _ _ (newTuple [.ref s.heap.objs.size,.ref uZ.objs.size] >>= λr=>_) _ _ {s with heap:=uZ.push {cls:=.type (L7 b2),data:=.fields #[.ref a2,.int 0 0]}};generalize uZ.push {cls:=.type (L7 b2),data:=.fields #[.ref a2,.int 0 0]}=xU at k2 g2 z2 ⊢;refine Aa (CT ?_ (by show 2<=sizeLine;decide));have k3:∀b o,xU.get? b=ap o->(xU.push {cls:=.type "tuple",data:=.seq [AD s.heap.objs.size,AD uZ.objs.size].toArray}).get? b=ap o:=λb o e=>Aj _ e;have g3:(xU.push {cls:=.type "tuple",data:=.seq [AD s.heap.objs.size,AD uZ.objs.size].toArray}).get? xU.objs.size=ap {cls:=.type "tuple",data:=.seq #[.ref s.heap.objs.size,.ref uZ.objs.size]}:=Aq _ rfl;have z3:(xU.push {cls:=.type "tuple",data:=.seq [AD s.heap.objs.size,AD uZ.objs.size].toArray}).objs.size=xU.objs.size+1:=CP ..;show db _ _ (newTuple [.none,.none] >>= λr=>_) _ _ {s with heap:=xU.push {cls:=.type "tuple",data:=.seq [AD s.heap.objs.size,AD uZ.objs.size].toArray}};generalize xU.push {cls:=.type "tuple",data:=.seq [AD s.heap.objs.size,AD uZ.objs.size].toArray}=Md at k3 g3 z3 ⊢;refine Aa (CT ?_ (by show 2<=sizeLine;decide));have k4:∀b o,Md.get? b=ap o->(Md.push {cls:=.type "tuple",data:=.seq [AX,AX].toArray}).get? b=ap o:=λb o e=>Aj _ e;have g4:(Md.push {cls:=.type "tuple",data:=.seq [AX,AX].toArray}).get? Md.objs.size=ap {cls:=.type "tuple",data:=.seq #[.none,.none]}:=Aq _ rfl;have z4:(Md.push {cls:=.type "tuple",data:=.seq [AX,AX].toArray}).objs.size=Md.objs.size+1:=CP ..;show db _ _ (newObj (.type "zip") (.fields #[.none,.bool false,.bool false,.ref xU.objs.size,.ref Md.objs.size]) >>= λr=>_) _ _ {s with heap:=Md.push {cls:=.type "tuple",data:=.seq [AX,AX].toArray}};generalize Md.push {cls:=.type "tuple",data:=.seq [AX,AX].toArray}=Y6 at k4 g4 z4 ⊢;refine Aa (Bm ?_ (by simp [sizeOk];decide));have k5:∀b o,Y6.get? b=ap o->(Y6.push {cls:=.type "zip",data:=.fields #[.none,.bool false,.bool false,.ref xU.objs.size,.ref Md.objs.size]}).get? b=ap o:=λb o e=>Aj _ e;have g5:(Y6.push {cls:=.type "zip",data:=.fields #[.none,.bool false,.bool false,.ref xU.objs.size,.ref Md.objs.size]}).get? Y6.objs.size=ap {cls:=.type "zip",data:=.fields #[.none,.bool false,.bool false,.ref xU.objs.size,.ref Md.objs.size]}:=Aq _ rfl;have e1:=z1;have e2:xU.objs.size=s.heap.objs.size+2:=by rw [z2,e1]
  have e3:Md.objs.size=s.heap.objs.size+3:=by rw [z3,e2]
  have e4:Y6.objs.size=s.heap.objs.size+4:=by rw [z4,e3]
  refine Ah ⟨.ref Y6.objs.size,rfl,?_⟩;rw [e2,e3] at g5 k5 ⊢;rw [e4] at g5 ⊢;rw [e3] at g4;rw [e1,e2] at g3;rw [e1] at g2;refine q _ ⟨g5,k5 _ _ (k4 _ _ g3),⟨_,_,k5 _ _ g4⟩,JY (k5 _ _ (k4 _ _ (k3 _ _ (k2 _ _ g1)))),JY (k5 _ _ (k4 _ _ (k3 _ _ g2)))⟩ λb o e=>k5 _ _ (k4 _ _ (k3 _ _ (k2 _ _ (k1 _ _ e))))
def MX {b2:Bool} (h1:je b1 s.heap a1 xs) (h2:je b2 s.heap a2 ys)
  (q:∀h':nw,kq b1 b2 h' (s.heap.objs.size+4) (s.heap.objs.size+2) (s.heap.objs.size+3) s.heap.objs.size (s.heap.objs.size+1) a1 a2 .none 0 0->(∀b o,s.heap.get? b=ap o->h'.get? b=ap o)->Q (.ref (s.heap.objs.size+4)) {s with heap:=h'}) :
  db (dL prog w) A (call (.type "zip") [.ref a1,.ref a2]) Q E s:=
 callType_new F.called_zip ⋯ (F.typeCall_zip_2 _ _) (F.newCall_zip_2 _ _) (λo=>F.args_object_init_3 o _ _) F.entry_zip_new (sV b1 b2 a1 a2 xs ys) ⟨h1,h2,λh' z k=>⟨⟨_,z.zip,rfl⟩,q h' z k⟩⟩
def Nv (b:Bool) (K:Ab) (H:Hp) (a:ci) (xs:List V):Prop:=match b with
 | true=>dc K H a xs
 | false=>d9 K H a xs
def Inv.YX {xs:List V} (I:Inv X Z σ H s) (h:Nv b X.K H a xs):∃au:List bv,Vals xs au/\je b s.heap a au.toArray/\xs.length<=sizeLine:=by
 cases b with
 | true=>obtain⟨au,r,p,z⟩:=I.list (show dc X.K H a xs from h);exact⟨au,r,p.isList,z⟩
 | false=>obtain⟨au,r,p,z⟩:=I.tuple (show d9 X.K H a xs from h);exact⟨au,r,p,z⟩
def Inv.JX {xs ys:List V} (I:Inv X Z σ H s) (h:Nv b X.K H a xs) (h':Nv b X.K H a ys):xs=ys:=by
 cases b with
 | true=>
  obtain⟨au,k,⟨o,n,h1,h2,h3,h4⟩,_⟩:=I.list (show dc X.K H a xs from h);obtain⟨its',k',⟨o',n',iA,uI,Iu,X6⟩,_⟩:=I.list (show dc X.K H a ys from h');rw [h1] at iA;cases iA;rw [h4] at X6;have:au=its':=by injection X6 with a b;simpa using a
  subst this;exact Vals.inj k k'
 | false=>exact I.lT h h'
def acr (b1 b2:Bool) (K:Ab) (a1 a2:ci):It where
 go:=λi H=>∃xs ys x y,Nv b1 K H a1 xs/\Nv b2 K H a2 ys/\xs[i]?=ap x/\ys[i]?=ap y
 UR:=λi H v H'=>∃p x y,v=.ref p/\H p=bm/\H'=upd H p (.tup [x,y])/\(∀xs,Nv b1 K H a1 xs->xs[i]?=ap x)/\∀ys,Nv b2 K H a2 ys->ys[i]?=ap y
 stop:=λi H=>∃xs ys,Nv b1 K H a1 xs/\Nv b2 K H a2 ys/\(xs.length<=i\/ys.length<=i)
theorem Lk {K:Ab}{b2:Bool}{TI TO:ci} (hA:ZipApart z TI TO i1 i2 a1 a2):Turn P w K (.Tuple Ï kk pos) (acr b1 b2 K a1 a2) [z,TI,TO,i1,i2] z (λi h=>kq b1 b2 h z TI TO i1 i2 a1 a2 .none i i) where
 mem:=by simp
 obj:=λi h st b hb=>by
  simp only [AA,BI,or_false] at hb;rcases hb with rfl | rfl | rfl | rfl | rfl
  ·exact⟨_,st.zip,λv z=>by cases z⟩
  ·exact⟨_,st.ti,λv z=>by cases z⟩
  ·obtain⟨_,_,e⟩:=st.to;exact⟨_,e,λv z=>by cases z⟩
  ·exact st.it1.obj
  ·exact st.it2.obj
 keep:=λi h h' st k=>⟨k z (by simp) _ st.zip,k TI (by simp) _ st.ti,let ⟨a,b,e⟩:=st.to;⟨a,b,k TO (by simp) _ e⟩,st.it1.move λo e=>k i1 (by simp) _ e,st.it2.move λo e=>k i2 (by simp) _ e⟩
 item:=by
  intro X hP hw hK hc i Z s σ H E I hf st hg;subst hP hw hK;obtain⟨xs,ys,x,y,hx,hy,gx,gy⟩:=hg;obtain⟨au,rx,tx,_⟩:=I.YX hx;obtain⟨cK,ry,ty,_⟩:=I.YX hy;obtain⟨u,gu,ru⟩:=kR rx gx;obtain⟨v,gv,rv⟩:=kR ry gy;refine o8 hA st tx ty (by simpa using gu) (by simpa using gv) λh' zt np k=>?_;refine⟨_,rfl,?_⟩;refine Aa (wpAny_load zt.zip ?_);show db _ _ (if ((["enumerate","zip","dict_itemiterator","dict_reverseitemiterator","odict_iterator","itertools.zip_longest","itertools.pairwise"].contains "zip"&&(ap (u8 s.heap.objs.size)==ap (u8 s.heap.objs.size)))=true) then (do rule "for.unpacks-the-owned-tuple";xz (.ref z) 0 .none) else pure ()) _ _ _;rw [if_pos (by rw [beq_self_eq_true];decide)];refine Aa (CS ?_);refine A8 zt.zip (show 0 < 5 by decide) λh2 z2 b2=>?_;have lt:∀b∈[z,TI,TO,i1,i2],b < s.heap.objs.size:=λb hb=>by
   simp only [AA,BI,or_false] at hb;rcases hb with rfl | rfl | rfl | rfl | rfl
   ·exact Au st.zip
   ·exact Au st.ti
   ·obtain⟨_,_,e⟩:=st.to;exact Au e
   ·obtain⟨o,e,_⟩:=st.it1.obj;exact Au e
   ·obtain⟨o,e,_⟩:=st.it2.obj;exact Au e
  have nz:s.heap.objs.size≠z:=λe=>Bc _ (by have:=lt z (by simp);rw [<- e] at this;exact this);have ë:∀b o,b∉[z,TI,TO,i1,i2]->s.heap.get? b=ap o->h2.get? b=ap o:=λb o hb e=>by
   have Io:b≠z:=λq=>hb (by simp [q]);rw [b2.2 b Io];exact k b o Io (λq=>hb (by simp [q])) (λq=>hb (by simp [q])) (λq=>hb (by simp [q])) e
  have ç:h2.get? s.heap.objs.size=ap {cls:=.type "tuple",data:=.seq #[u,v]}:=(b2.2 _ nz).trans np;have ò:=I.bK.fresh (Ao s.heap.objs.size);refine⟨.ref s.heap.objs.size,upd H s.heap.objs.size (.tup [x,y]),I.rX (t':=s.toks) hf ë (Ao _) ⟨by show 2<=sizeLine;decide,[u,v],.cons ru (.cons rv .nil),⟨_,ç,rfl,_,rfl⟩⟩,rfl,⟨_,x,y,rfl,ò,rfl,λxs' h'=>?_,λys' h'=>?_⟩,⟨z2,(b2.2 _ hA.TIz).trans zt.ti,let ⟨p,q,e⟩:=zt.to;⟨p,q,(b2.2 _ hA.TOz).trans e⟩,zt.it1.move λo e=>(b2.2 _ hA.i1z).trans e,zt.it2.move λo e=>(b2.2 _ hA.i2z).trans e⟩,λb hb=>?_⟩
  ·rw [I.JX h' hx];exact gx
  ·rw [I.JX h' hy];exact gy
  ·rw [aD (AM (lt b hb))];exact (hf b hb).1
 done:=by
  intro X hP hw hK hc i Z s σ H E I hf st hg;subst hP hw hK;obtain⟨xs,ys,hx,hy,hl⟩:=hg;obtain⟨au,rx,tx,_⟩:=I.YX hx;obtain⟨cK,ry,ty,_⟩:=I.YX hy;have el:=rx.length;have el2:=ry.length;refine qB (I.ok.hd hc) hA st tx ty ?_ λh' k=>⟨rfl,I.wV (t':=s.toks) hf λb o hb e=>k b o (λz=>hb (by simp [z])) (λz=>hb (by simp [z])) (λz=>hb (by simp [z])) (λz=>hb (by simp [z])) e⟩;rcases hl with hl | hl
  ·exact .inl (by simp;omega)
  ·exact .inr (by simp;omega)
 self:=λA i s Q E st h=>wpAny_pyIter_zip st.zip h
def aa8 (K:Ab) (t1 t2:TE):TI:=λσ H R=>t1 σ H λx H1=>t2 σ H1 λy H2=>∃b1 b2 a b,x=.ref a/\y=.ref b/\(∃xs,Nv b1 K H2 a xs)/\(∃ys,Nv b2 K H2 b ys)/\R (acr b1 b2 K a b) H2
def Sk (K:Ab) (hK:X.K=K) {e2:ga}{t2:TE} (hg:Gl X "zip") (hm:X.mg "zip"=bm) (h1:PE X e1 t1) (h2:PE X e2 t2)
  (Hc:d5 [e1,e2] X.env=(false,kw e1 X.env)::d5 [e2] X.env:=by rfl) (rD:gR X e2 []:=by rfl) (dI:(Gc p2 (d5 [e2] X.env)).any (·.1)=false:=by rfl) :
  PI X (.Tuple Ï kk tp) (.Call (.Name "zip" p1) [e1,e2] [] p2) (aa8 K t1 t2):=by
 subst hK;intro Z s σ H R I h;refine BR (j5 I hg hm boot_zip ?_ ⋯ ⋯);refine Bo ?_ Hc dI;rw [Hc,rD];refine Cm (bE (h1 Z s σ H _ I h) λu1 s1 ⟨x,H1,I1,r1,q1⟩=>?_);refine Cm (bE (h2 Z s1 σ H1 _ I1 q1) λu2 s2 ⟨y,H2,I2,r2,b1,b2,a,b,ex,ey,⟨xs,hx⟩,⟨ys,hy⟩,q⟩=>CM ?_);subst ex;subst ey;cases r1;cases r2;obtain⟨au,rx,tx,_⟩:=I2.YX hx;obtain⟨cK,ry,ty,_⟩:=I2.YX hy;have l1:=tx.lt;have l2:=ty.lt;refine MX tx ty λh' zt k=>?_;refine wpAny_pyIter_zip zt.zip ?_;have dd:∀i j:Nat,i≠j->s2.heap.objs.size+i≠s2.heap.objs.size+j:=λi j n e=>n (Nat.add_left_cancel e);have na:∀i:Nat,a≠s2.heap.objs.size+i:=λi=>AM (AB l1 (BH _ _));have nb:∀i:Nat,b≠s2.heap.objs.size+i:=λi=>AM (AB l2 (BH _ _));have hA:ZipApart (s2.heap.objs.size+4) (s2.heap.objs.size+2) (s2.heap.objs.size+3) s2.heap.objs.size (s2.heap.objs.size+1) a b:=
  ⟨dd 2 4 ⋯,dd 3 4 ⋯,dd 0 4 ⋯,dd 1 4 ⋯,dd 2 3 ⋯,dd 2 0 ⋯,dd 2 1 ⋯,dd 3 0 ⋯,dd 3 1 ⋯,dd 0 1 ⋯,na 4,na 3,na 0,na 1,nb 4,nb 3,nb 0,nb 1⟩
 refine⟨_,_,_,_,H2,rfl,I2.kept (t':=s2.toks) k,Lk hA,zt,λc hc=>?_,q⟩;have Ù:s2.heap.objs.size<=c:=by
  simp only [AA,BI,or_false] at hc;rcases hc with rfl | rfl | rfl | rfl | rfl
  ·exact BH _ _
  ·exact BH _ _
  ·exact BH _ _
  ·exact Ao _
  ·exact BH _ _
 exact I2.va Ù (I2.bK.fresh Ù)
def aaf (K:Ab):V->Option Int->Option Int->Hp->VK->Prop:=λx lo hi H Q=>∃a xs,x=.ref a/\d9 K H a xs/\
 ((HT.d6 xs.length 0 lo=0/\HT.d6 xs.length xs.length hi=xs.length)->Q x H)/\(¬(HT.d6 xs.length 0 lo=0/\HT.d6 xs.length xs.length hi=xs.length)->lx H (.tup (yC xs lo hi)) Q)
def RT (K:Ab) (hK:X.K=K):SlR X (aaf K):=by
 subst hK;intro Z s σ H x v vl vu lo hi sl Q I rx hs pl pu h;obtain⟨a,xs,rfl,hT,qw,qn⟩:=h;by_cases c:HT.d6 xs.length 0 lo=0/\HT.d6 xs.length xs.length hi=xs.length
 ·have q:=qw c;cases rx;obtain⟨au,r,ht,hz⟩:=I.tuple hT;have Á:au.toArray.size=xs.length:=by rw [Ai];exact r.length.symm
  refine⟨"tuple",_,Bp.lookup,ht.typeIs,?_⟩;obtain⟨os,Gg,Py,KO⟩:=id hs;have Za:s.TypeIs (.ref sl) "slice":=⟨os,Gg,Py⟩;unfold Fk
  try with_reducible refine Bi ?_
  first | refine Aa (Ah ?_) | skip
  refine Aa (Eo ht.typeIs ⋯ ?_);refine Aa (AZ (name:=Cs "__getitem__") ht.typeIs Bp
   (Bl Bp ht.typeIs entry_tuple_getitem ?_ (args_tuple_getitem _ _)))
  show db _ _ (Builtin.Tuple.tupleItemsOf (.ref a) >>= _) _ _ s;refine Aa (tupleItemsOf_ ht ?_);refine Aa (Ct Za ?_);refine Aa (HT.jn hs pl pu ?_);show db _ _ (if (((HT.d6 au.toArray.size 0 lo:Nat):Int)==0&&(1:Int)==1&&(HT.d6 au.toArray.size au.toArray.size hi-HT.d6 au.toArray.size 0 lo)==au.toArray.size)=true then _ else _) _ _ s;rw [if_pos (by rw [Á,c.1,c.2];simp)];refine Aa ?_
  first
   | refine Aa (Ct ht.typeIs (Ah ?_))
   | refine Ct ht.typeIs (Ah ?_)
  first
   | rw [if_pos ⋯]
   | rw [if_pos rfl]
  refine Aa (CS (Ah ⟨_,rfl,?_⟩));exact Ah ⟨.ref a,H,I,rfl,q⟩
 ·exact Wm Z s σ H _ v vl vu lo hi sl Q I rx hs pl pu ⟨a,xs,rfl,hT,c,λp hp=>(qn c).at p hp⟩
def aap (K:Ab):R2:=λx y H Q=>∃a b xs ys,x=.ref a/\y=.ref b/\d9 K H a xs/\d9 K H b ys/\xs.length+ys.length<=sizeLine/\
 (xs=[]->Q (.ref b) H)/\(xs≠[]->ys=[]->Q (.ref a) H)/\(xs≠[]->ys≠[]->lx H (.tup (xs++ys)) Q)
def SE (K:Ab) (hK:X.K=K):iy X (ss .Add) (aap K):=by
 subst hK;intro Z s σ H x y v u Q I rx ry h;obtain⟨a,b,xs,ys,rfl,rfl,ha,hb,hz,q0,q1,q2⟩:=h;by_cases c:xs=[]
 ·cases rx;cases ry;obtain⟨au,r1,p1,_⟩:=I.tuple ha;obtain⟨cK,r2,p2,_⟩:=I.tuple hb;obtain⟨⟨cls,dd,data,sl⟩,ho,hc,n,hd⟩:=id p1;obtain⟨⟨YA,Up,data2,Rc⟩,Me,PF,n2,Í⟩:=id p2;simp only at hc hd PF Í;subst hc hd PF Í;exact concat_meets ⟨_,ho,rfl⟩ ⟨_,Me,rfl⟩ noFill_tuple_add seq_tuple_add Df C9 (C1 _ _)
   (tuple_addW0 a b au.toArray cK.toArray n n2 dd Up sl Rc (by rw [r1.jX.mpr c];rfl)) ⟨ho,Me,.ref b,H,I,rfl,q0 c⟩
 ·exact Kj Z s σ H _ _ v u Q I rx ry ⟨a,b,xs,ys,rfl,rfl,ha,hb,c,hz,q1 c,λn p hp=>(q2 c n).at p hp⟩
end L2
namespace FL
section
open PySem PySem.Spec PyProof.Rows L2 PL
variable {K:Ab}
section
variable {a b c:ga}{w:W PV}{wm:W (List PV)}
def addW:PV->PV->W PV
 | .int i,.int j=>.ret (.int (i+j))
 | .str a,.str b=>.fD (a.length+b.length<=sizeLine) (.ret (.str (a++b)))
 | .tup a,.tup b=>.fD (a.length+b.length<=sizeLine) (.ret (.tup (a++b)))
 | _,_=>.fail
def bR (hK:X.K=K) (ha:EF X K fs a wa) (hb:EF X K fs b wb):EF X K fs (.BinOp a .Add b pos) (.bind wa λx=>.bind wb λy=>addW x y):=
 ⟨PE.imp (Kc ((SH K hK).or (SE K hK)) ha.p hb.p) λσ H Q ⟨sr,q⟩=>⟨sr,wa.mono (λx q1 u1 H1 g1 s1 v1=>⟨s1,wb.mono (λy q2 u2 H2 g2 s2 v2=>by
  have ZC:=g2.vr s1 v1;cases ZC with
  | int i=>
   cases v2 with
   | int j=>exact .inl ⟨_,rfl,q2 _ H2 (g1.trans g2) s2 (.int _)⟩
   | _=>exact q2.elim
  | str i=>
   cases v2 with
   | str j=>exact .inl ⟨_,rfl,q2.1,q2.2 _ H2 (g1.trans g2) s2 (.str _)⟩
   | _=>exact q2.elim
  | @tup p vs l e r=>
   cases v2 with
   | @tup p' Q9 l' e' r'=>
    refine .inr ⟨p,p',vs,Q9,rfl,rfl,d9.of e,d9.of e',by rw [r.length,r'.length];exact q2.1,λz=>?_,λ_ z=>?_,λ_ _ q H3 s3 h3 n3=>?_⟩
    ·have z':=(PL.aO.jX r).mp z;subst z';exact q2.2 _ H2 (g1.trans g2) s2 (.tup e' r')
    ·have z':=(PL.aO.jX r').mp z;subst z';have q2:=q2.2;rw [C5] at q2;exact q2 _ H2 (g1.trans g2) s2 (.tup e r)
    ·exact q2.2 _ H3 ((g1.trans g2).trans (di.same s3)) (s2.same s3) (.tup h3 (aO.tk s3.fi (r.append r')))
   | _=>exact q2.elim
  | _=>exact q2.elim) q1⟩) q⟩⟩
theorem lS:∀(l m:List PV),(gE l m).length=min l.length m.length
 | [],m=>by rw [gE];simp;intros;simp_all
 | x::l,[]=>by rw [gE];simp;intros;simp_all
 | x::l,y::m=>by rw [gE,Ap,lS l m];simp only [Ap];omega
def rP (l m:List PV):W (List PV):=.fD (l.length<=sizeLine) (.ret (gE l m))
def U1 (h:YM K H u l):∃(b:Bool) (a:ci) (vs:List V),u=.ref a/\aO K [] H vs l/\∀H',bB K H H'->Nv b K H' a vs:=by
 obtain⟨a,vs,e,h | h,r⟩:=h
 ·exact⟨true,a,vs,e,r,λH' t=>(t.f _ _ h).sq⟩
 ·exact⟨false,a,vs,e,r,λH' t=>d9.of (t.t _ _ h)⟩
theorem tF (hK:X.K=K) (hg:Gl X "zip") (hm:X.mg "zip"=bm) (ha:IF X K fs a wl) (hb:IF X K fs b wm)
  (Hc:d5 [a,b] X.env=(false,kw a X.env)::d5 [b] X.env:=by rfl) (rD:gR X b []:=by rfl) (dI:(Gc p2 (d5 [b] X.env)).any (·.1)=false:=by rfl) :
  qW X K fs (.Tuple Ï kk tp) (.Call (.Name "zip" p1) [a,b] [] p2) (.bind wl λl=>.bind wm λm=>rP l m):=
 ⟨PI.imp (Sk K hK hg hm ha.p hb.p Hc rD dI) λσ H R ⟨sr,q⟩=>⟨sr,wl.mono (λl q1 u1 H1 g1 s1 v1=>⟨s1,wm.mono (λm q2 u2 H2 g2 s2 v2=>by
  obtain⟨b1,a1,vs,rfl,r1,x1⟩:=U1 (v1.tk (g2.eQ s1));obtain⟨b2,a2,ws,rfl,r2,x2⟩:=U1 v2;have tr:bB K H2 H2:=bB.refl H2;refine⟨b1,b2,a1,a2,rfl,rfl,⟨vs,x1 H2 tr⟩,⟨ws,x2 H2 tr⟩,q2.2 _ H2 (g1.trans g2) s2 ⟨by rw [lS];have:=q2.1;omega,λH' t=>⟨λi pp hp=>?_,vs,ws,x1 H' t,x2 H' t,?_⟩⟩⟩
  ·obtain⟨x,y,hx,hy,rfl⟩:=nv hp;obtain⟨v,h3,h4⟩:=(aO.tk t r1).get hx;obtain⟨v',Iu,X6⟩:=(aO.tk t r2).get hy;refine⟨⟨vs,ws,v,v',x1 H' t,x2 H' t,h3,Iu⟩,λz H3 yl=>?_⟩;obtain⟨p,x',y',rfl,hn,rfl,e1,e2⟩:=yl;have e1:=e1 vs (x1 H' t);have e2:=e2 ws (x2 H' t);rw [h3] at e1;rw [Iu] at e2;cases e1;cases e2;have sm:=k8 hn (.tup [v,v']);exact⟨sm,.tup aW (.cons (VR.tk sm.fi h4) (.cons (VR.tk sm.fi X6) .nil))⟩
  ·rw [lS,r1.length,r2.length];omega) q1⟩) q⟩⟩
variable {el eh:Option ga}{lo:W (Option Int)}
def zA (x:PV) (i j:Option Int):W PV:=match x with
 | .tup l=>.ret (.tup (kK l i j))
 | _=>.fail
def MW {i j:Option Int} (h:HT.d6 l.length 0 i=0/\HT.d6 l.length l.length j=l.length):kK l i j=l:=by
 unfold kK;rw [h.1,h.2];simp
def wq (hK:X.K=K) (he:EF X K fs e w) (hl:OF X K fs el lo) (hh:OF X K fs eh hi):EF X K fs (.Subscript e (.Slice el eh bm p2) pos) (.bind w λx=>.bind lo λi=>.bind hi λj=>zA x i j):=⟨PE.imp (zN (RT K hK) he.p hl.p hh.p) λσ H Q ⟨sr,q⟩=>⟨sr,w.mono (λx q1 u1 H1 g1 s1 v1=>⟨s1,lo.mono (λi q2 H2 g2 s2=>⟨s2,hi.mono (λj q3 H3 g3 s3=>by
 have ZC:=g3.vr s2 (g2.vr s1 v1);have gg:=(g1.trans g2).trans g3;cases ZC with
 | @tup p vs l e r=>
  have Á:=r.length;refine⟨p,vs,rfl,d9.of e,λc=>?_,λc q H4 s4 h4 n4=>?_⟩
  ·rw [Á] at c;have q3:(bd (PV.tup (kK l i j))).run _:=q3;rw [MW c] at q3;exact q3 _ H3 gg s3 (.tup e r)
  ·exact q3 _ H4 (gg.trans (di.same s4)) (s3.same s4) (.tup h4 (aO.tk s4.fi (r.cut i j)))
 | _=>exact q3.elim) q2⟩) q1⟩) q⟩⟩
end
end
end FL
namespace L2
open PySem PySem.Spec PyProof.Rows
def Oj (K:Ab) (C:List Int->Prop) (g:List Int->Int):List V->Hp->VK->Prop:=λxs H Q=>∃(p:ci) (ns:List Int),xs=[.ref p]/\dc K H p (ns.map V.int)/\C ns/\Q (.int (g ns)) H
section
def Ls {l:ci}{vs:List bv} (hh:A.handled=bm) (hl:s.heap.IsList l vs.toArray) (hi:ww vs ns)
  (h:∀(h':nw) (t:Tok) tk,(∀b o,s.heap.get? b=ap o->h'.get? b=ap o)->Q (.int ns.sum t) {s with heap:=h',toks:=tk}):db (dL prog w) A (call (.builtin "sum") [.ref l]) Q E s:=by
 obtain⟨xs,e⟩:=hi.allInts.items;have ċ:ns=xs.toList.map (·.1):=by rw [<- hi.numsOf,<- nums_intItems,<- e]
 rw [e] at hl;refine sum_intListG hh hl λh' tk t' hk=>?_;have:=h h' t' tk hk;rw [preSum_eq,Bv (by simp),<- ċ];exact this
end
def M6 {b:String}{C:List Int->Prop}{g:List Int->Int} (K:Ab) (hK:X.K=K) (hc:X.calm=true)
  (Ö:∀{s:cr}{l:ci}{vs:List bv}{ns:List Int}{Q:bv->cr->Prop},X.A.handled=bm->s.heap.IsList l vs.toArray->ww vs ns->C ns->(∀(h':nw) (t:Tok) tk,(∀b o,s.heap.get? b=ap o->h'.get? b=ap o)->Q (.int (g ns) t) {s with heap:=h',toks:=tk})->db (dL X.prog X.w) X.A (call (.builtin b) [.ref l]) Q X.xe s):bW X (.builtin b) (Oj K C g):=by
 subst hK;intro Z s σ H xs us Q I r h;obtain⟨p,ns,rfl,hq,hC,q⟩:=h;obtain⟨u,rfl,rx⟩:=vals1 r;cases rx;obtain⟨au,r',pl,hz⟩:=I.list hq;exact Ö (I.ok.hd hc) pl.isList (intsAre_of r') hC λh' t tk hk=>⟨.int _,H,I.kept (t':=tk) hk,⟨t,rfl⟩,q⟩
end L2
variable {x:PL.PV}
namespace FL
section
open PySem PySem.Spec PyProof.Rows L2 PL
variable {K:Ab}
section
open Classical in
noncomputable def He (K:Ab) (H:Hp) (x:PV) (w:bv):Bool:=decide (∃p v,RelV v w/\VR K [] H v p/\iM p x=true)
open Classical in
def Qh (hK:X.K=K) (I:Inv X Z σ H s) {x p:PV}{v:V}{w:bv} (r:RelV v w) (h:VR K [] H v p):He K H x w=iM p x:=by
 subst hK;cases e:iM p x with
 | true=>exact decide_eq_true ⟨p,v,r,h,e⟩
 | false=>
  refine decide_eq_false ?_;rintro⟨p',v',r',h',e'⟩;have:=Oc r r';subst this;rw [VR.PY I h h',e'] at e;cases e
theorem oD (hK:X.K=K) (I:Inv X Z σ H s):∀{vs:List V}{au:List bv}{l:List PV},Vals vs au->aO K [] H vs l->au.map (He K H x)=l.map λy=>iM y x
 | _,_,_,.nil,.nil=>rfl
 | _,_,_,.cons r t,.cons q z=>by rw [Az,Az,Qh hK I r q,oD hK I t z]
def tL (x:PV) (l:List PV):Prop:=PV.kG x=true/\gh l=true/\eP l<=150
theorem m9 (hK:X.K=K) (I:Inv X Z σ H s) {v:V}{w:bv} (hx:VR K [] H v x) (rx:RelV v w) (dx:PV.kG x=true) (hu:A.units+150+1 < nn) :
  ∀{vs:List V}{au:List bv}{l:List PV},Vals vs au->aO K [] H vs l->gh l=true->eP l<=150->∀u∈au,Dp A s u w (He K H x u)
 | _,_,_,.nil,.nil,_,_,u,hu=>by cases hu
 | _,_,_,.cons r t,.cons q z,d,dd,u,hm=>by
  rw [gh,AO] at d;rw [eP] at dd;rcases AA.mp hm with rfl | hm
  ·rw [Qh hK I r q];exact (Yz hK I 150 _ x A _ v _ w ∅ d.1 dx q hx r rx hu).eq
  ·exact m9 hK I hx rx dx hu t z d.2 ∅ u hm
end
def m6 (x:PV) (l:List PV):Bool:=l.any λy=>iM y x
def R6 (K:Ab) (neg:Bool):R2:=λx y H Q=>∃p vs l xp,y=.ref p/\(dc K H p vs\/d9 K H p vs)/\aO K [] H vs l/\VR K [] H x xp/\tL xp l/\Q (.bl (if neg then !m6 xp l else m6 xp l)) H
section
theorem any_map' (f:α->Bool):∀l:List α,l.any f=(l.map f).any id
 | []=>rfl
 | x::l=>by rw [Cz,Az,Cz,any_map' f l];rfl
theorem Xc (K:Ab) (hK:X.K=K) (hu:X.A.units+200 < nn):iy X (im .In) (R6 K false):=by
 intro Z s σ H x y v u Q I rx ry h;obtain⟨p,vs,l,xp,rfl,hq,hl,hx,ok,q⟩:=h;cases ry;have Tx:X.A.in1.units+150+1 < nn:=by show X.A.units+1+150+1 < _;omega
 have fin:∀{au:List bv},Vals vs au->au.toArray.any (He K H xp)=m6 xp l:=λ{au} r=>by
  rw [show au.toArray.any (He K H xp)=au.any (He K H xp) by simp,any_map',oD hK I r hl,<- any_map'];rfl
 rcases hq with hq | hq
 ·obtain⟨au,r,pl,hz⟩:=I.list (show dc X.K H p vs by rw [hK];exact hq);refine SeqAt.in_listAt (He K H xp) pl.isList (λw hw=>m9 hK I hx rx ok.1 Tx r hl ok.2.1 ok.2.2 w (by simpa using hw)) ⟨.bl _,H,I,rfl,?_⟩;rw [fin r];exact q
 ·obtain⟨au,r,pl,hz⟩:=I.tuple (show d9 X.K H p vs by rw [hK];exact hq);refine SeqAt.in_tupleAt (He K H xp) pl (λw hw=>m9 hK I hx rx ok.1 Tx r hl ok.2.1 ok.2.2 w (by simpa using hw)) ⟨.bl _,H,I,rfl,?_⟩;rw [fin r];exact q
theorem Sz (K:Ab) (hK:X.K=K) (hu:X.A.units+200 < nn):iy X (im .NotIn) (R6 K true):=by
 intro Z s σ H x y v u Q I rx ry h;obtain⟨p,vs,l,xp,rfl,hq,hl,hx,ok,q⟩:=h;cases ry;have Tx:X.A.in1.units+150+1 < nn:=by show X.A.units+1+150+1 < _;omega
 have fin:∀{au:List bv},Vals vs au->au.toArray.any (He K H xp)=m6 xp l:=λ{au} r=>by
  rw [show au.toArray.any (He K H xp)=au.any (He K H xp) by simp,any_map',oD hK I r hl,<- any_map'];rfl
 rcases hq with hq | hq
 ·obtain⟨au,r,pl,hz⟩:=I.list (show dc X.K H p vs by rw [hK];exact hq);refine SeqAt.notIn_listAt (He K H xp) pl.isList (λw hw=>m9 hK I hx rx ok.1 Tx r hl ok.2.1 ok.2.2 w (by simpa using hw)) ⟨.bl _,H,I,rfl,?_⟩;rw [fin r];exact q
 ·obtain⟨au,r,pl,hz⟩:=I.tuple (show d9 X.K H p vs by rw [hK];exact hq);refine SeqAt.notIn_tupleAt (He K H xp) pl (λw hw=>m9 hK I hx rx ok.1 Tx r hl ok.2.1 ok.2.2 w (by simpa using hw)) ⟨.bl _,H,I,rfl,?_⟩;rw [fin r];exact q
def tM (x:PV) (l:List PV):Nat:=l.findIdx λy=>iM y x
def aal (K:Ab):V->List V->Hp->VK->Prop:=λx us H Q=>∃p vs l y q,x=.ref p/\us=[y]/\dc K H p vs/\aO K [] H vs l/\VR K [] H y q/\tL q l/\m6 q l=true/\Q (.int (tM q l)) H
theorem SX (K:Ab) (hK:X.K=K) (hu:X.A.units+200 < nn):Lh X "list.index" (aal K):=by
 intro Z s σ H x vs v us Q I rx rv h;obtain⟨p,ws,l,y,q,rfl,rfl,hq,hl,hy,ok,has,qq⟩:=h;cases rx;obtain⟨u,rfl,ru⟩:=rv.one;have Tx:X.A.in1.units+150+1 < nn:=by show X.A.units+1+150+1 < _;omega
 obtain⟨au,r,⟨⟨cls,dd,data,sl⟩,n,ho,hc,hd,jE⟩,hz⟩:=I.list (show dc X.K H p ws by rw [hK];exact hq);simp only at hc hd jE;subst hc hd jE;have em:=oD (x:=q) hK I r hl;have Á:au.length=l.length:=by rw [<- r.length,hl.length]
 have j8:tM q l < l.length:=List.findIdx_lt_length_of_exists (by simpa [m6] using has);have at':∀(j:Nat) (h1:j < au.length) (h2:j < l.length),He K H q au[j]=iM l[j] q:=λj h1 h2=>by
  have e:=congrArg (λz=>z[j]?) em;simp only [Ae,Ad h1,Ad h2,Cp] at e;exact Option.some.inj e
 have hsm:((tM q l:Nat):Int) < 2 ^ 63-1:=by
  have h8:l.length<=sizeLine:=by rw [<- hl.length];exact hz
  have h9:(sizeLine:Int) < 2 ^ 63-1:=by decide
  omega
 refine ul F.slot_list_index ⟨_,ho,rfl⟩ F.entry_list_index (F.args_list_index_2 _ _) (SeqAt.list_indexAt p au.toArray n bm sl u (He K H q) (tM q l) (by rw [Ai];omega) hsm ?_ ?_) ⟨ho,?_,?_⟩
 ·have h1:tM q l < au.length:=by omega
  rw [show au.toArray[tM q l]'(by rw [Ai];omega)=au[tM q l] by simp,at' _ h1 j8];exact List.findIdx_getElem (w:=j8)
 ·intro m hm hmj;have h1:m < au.length:=by rw [Ai] at hm;exact hm
  rw [show au.toArray[m]=au[m] by simp,at' _ h1 ∅];have:=List.not_of_lt_findIdx (p:=λy=>iM y q) (xs:=l) hmj;simpa using this
 ·intro w hw;exact m9 hK I hy ru ok.1 Tx r hl ok.2.1 ok.2.2 w (by simpa using hw)
 ·exact⟨.int _,H,I.tok _,⟨_,rfl⟩,qq⟩
def Yx (x:PV) (l:List PV):Nat:=l.countP λy=>iM y x
theorem countP_map (f:α->Bool):∀l:List α,l.countP f=(l.map f).countP id
 | []=>rfl
 | x::l=>by rw [Az,List.countP_cons,List.countP_cons,countP_map f l];rfl
def aao (K:Ab):V->List V->Hp->VK->Prop:=λx us H Q=>∃p vs l y q,x=.ref p/\us=[y]/\dc K H p vs/\aO K [] H vs l/\VR K [] H y q/\tL q l/\Q (.int (Yx q l)) H
theorem S0 (K:Ab) (hK:X.K=K) (hu:X.A.units+200 < nn):Lh X "list.count" (aao K):=by
 intro Z s σ H x vs v us Q I rx rv h;obtain⟨p,ws,l,y,q,rfl,rfl,hq,hl,hy,ok,qq⟩:=h;cases rx;obtain⟨u,rfl,ru⟩:=rv.one;have Tx:X.A.in1.units+150+1 < nn:=by show X.A.units+1+150+1 < _;omega
 obtain⟨au,r,⟨⟨cls,dd,data,sl⟩,n,ho,hc,hd,jE⟩,hz⟩:=I.list (show dc X.K H p ws by rw [hK];exact hq);simp only at hc hd jE;subst hc hd jE;refine ul F.slot_list_count ⟨_,ho,rfl⟩ F.entry_list_count (F.args_list_count_2 _ _) (SeqAt.list_countAt p au.toArray n bm sl u (He K H q)) ⟨ho,?_,?_⟩
 ·intro w hw;exact m9 hK I hy ru ok.1 Tx r hl ok.2.1 ok.2.2 w (by simpa using hw)
 ·refine⟨.int _,H,I.tok _,⟨s.toks,?_⟩,qq⟩;rw [show au.toArray.toList=au from rfl,countP_map,oD hK I r hl,<- countP_map];rfl
end
end
end FL
variable {Q:PL.PV->Prop}
namespace FL
section
open PySem PySem.Spec PyProof.Rows L2 PL
variable {K:Ab}
section
variable {a b c:ga}{w:W PV}
def tK (neg:Bool) (x:PV) (l:List PV):W Bool:=.fD (tL x l) (.ret (if neg then !m6 x l else m6 x l))
def blW (b:Bool):W PV:=.ret (.bl b)
def Yf:∀σ H Q,fE K fs (.bind wa λx=>.bind wl λl=>.bind (tK neg x l) blW) σ H Q->UX (R6 K neg) (fE K fs wa) (fQ K fs wl) σ H Q:=λσ H Q ⟨sr,q⟩=>
 ⟨sr,wa.mono (λx q1 u1 H1 g1 s1 v1=>⟨s1,wl.mono (λl q2 u2 H2 g2 s2 v2=>by
  obtain⟨ad,vs,rfl,h,rs⟩:=v2.sq s2;exact⟨ad,vs,l,x,rfl,h,rs,g2.vr s1 v1,q2.1,q2.2 _ H2 (g1.trans g2) s2 (.bl _)⟩) q1⟩) q⟩
def Ye:∀σ H Q,fT K fs (.bind wa λx=>.bind wl λl=>tK neg x l) σ H Q->UX (R6 K neg) (fE K fs wa) (fQ K fs wl) σ H λx H'=>∃k,x=.bl k/\Q k H':=λσ H Q ⟨sr,q⟩=>
 ⟨sr,wa.mono (λx q1 u1 H1 g1 s1 v1=>⟨s1,wl.mono (λl q2 u2 H2 g2 s2 v2=>by
  obtain⟨ad,vs,rfl,h,rs⟩:=v2.sq s2;exact⟨ad,vs,l,x,rfl,h,rs,g2.vr s1 v1,q2.1,_,rfl,q2.2 H2 (g1.trans g2) s2⟩) q1⟩) q⟩
def VF (hK:X.K=K) (hu:X.A.units+200 < nn) (ha:EF X K fs a wa) (hb:QF X K fs b wl) (hk:lw .In b=false:=by rfl):EF X K fs (.Compare a [.In] [b] pos) (.bind wa λx=>.bind wl λl=>.bind (tK false x l) blW):=⟨PE.imp (rg (Xc K hK hu) ha.p hb.p hk) (Yf (neg:=false))⟩
def w4 (hK:X.K=K) (hu:X.A.units+200 < nn) (ha:EF X K fs a wa) (hb:QF X K fs b wl) (hk:lw .NotIn b=false:=by rfl):TF X K fs (.Compare a [.NotIn] [b] pos) (.bind wa λx=>.bind wl λl=>tK true x l):=⟨PT.imp (q9 (Sz K hK hu) ha.p hb.p hk) (Ye (neg:=true))⟩
abbrev aa6 (neg:Bool) (wa:W PV) (wl:W (List PV)):W PV:=.bind wa λx=>.bind wl λl=>.bind (tK neg x l) blW
abbrev Tv (neg:Bool) (wa:W PV) (wl:W (List PV)):W Bool:=.bind wa λx=>.bind wl λl=>tK neg x l
def sumLW (l:List PV):W PV:=.bind (qg l) λns=>.ret (.int ns.sum)
def Mb {C:List Int->Prop}{g:List Int->Int}{f:List PV->W PV} (hf:∀{l:List PV}{Q:PV->Prop},(f l).run Q->∃ns:List Int,l=ns.map PV.int/\C ns/\Q (.int (g ns))):∀σ H Q,fE K fs (.bind wl f) σ H Q->tCB (Oj K C g) (UY (fQL K fs wl) ZO) σ H Q:=λσ H Q ⟨sr,q⟩=>⟨sr,wl.mono (λl q1 u1 H1 g1 s1 _ v1=>by
 obtain⟨ns,el,hC,q2⟩:=hf q1;obtain⟨a,vs,rfl,h1,r1⟩:=v1 H1 .refl s1;rw [el] at r1;have:=mi r1;subst this;exact⟨a,ns,rfl,h1,hC,q2 _ H1 g1 s1 (.int _)⟩) q⟩
def Lu (h:(sumLW l).run Q):∃ns:List Int,l=ns.map PV.int/\True/\Q (.int ns.sum):=let ⟨ns,e,q⟩:=mj h;⟨ns,e,trivial,q⟩
def Yq (hK:X.K=K) (hc:X.calm=true) (hg:Gl X "sum") (hm:X.mg "sum"=bm) (ha:yV X K fs e wl) (he:gR X e []:=by rfl) (dI:kL X pos []:=by rfl):EF X K fs (.Call (.Name "sum" p) [e] [] pos) (.bind wl sumLW):=⟨PE.imp (eT (M6 (C:=λ_=>True) (g:=λns=>ns.sum) K hK hc λa b c _ q=>Ls a b c q) hg hm (show mo "sum"=ap (.builtin "sum") by rfl) (bc ha.p cy he) ⋯ ⋯ he dI) (Mb Lu)⟩
def sortI (ns:List Int):List Int:=ns.mergeSort (λa b=>decide (a<=b))
theorem NZ (h1:ms.Perm ns) (h2:ms.Pairwise (·<=·)):ms=sortI ns:=by
 have h3:(sortI ns).Perm ns:=Cc ns _;have h4:(sortI ns).Pairwise (λa b=>decide (a<=b)=true):=ED (λa b c=>by simp;omega) (λa b=>by simp;omega) ns;exact List.Perm.eq_of_pairwise (le:=λa b=>a<=b) (λa b _ _ h h'=>Int.le_antisymm h h') h2 (h4.imp (by simp)) (h1.trans h3.symm)
def xc (l:List PV):W (List PV):=.bind (qg l) λns=>.fD (ns.length < 64) (.ret ((sortI ns).map PV.int))
def S9 (hK:X.K=K) (hg:Gl X "sorted") (hm:X.mg "sorted"=bm) (ha:yV X K fs e wl) (he:gR X e []:=by rfl) (dI:kL X pos []:=by rfl):LF X K fs (.Call (.Name "sorted" p) [e] [] pos) (.bind wl xc):=⟨PE.imp (eT (Ji K hK) hg hm boot_sorted (bc ha.p cy he) ⋯ ⋯ he dI) λσ H Q ⟨sr,q⟩=>⟨sr,wl.mono (λl q1 u1 H1 g1 s1 _ v1=>by
 obtain⟨ns,el,hC,q2⟩:=mj (l:=l) q1;obtain⟨a,vs,rfl,h1,r1⟩:=v1 H1 .refl s1;rw [el] at r1;have:=mi r1;subst this;refine⟨a,ns,rfl,h1,hC,λms a2 a3=>?_⟩;rw [NZ a2 a3];exact Ko g1 s1 (oo _ _ _) q2) q⟩⟩
def Im (l:List PV) (x:PV):W PV:=.fD (tL x l/\m6 x l=true) (.ret (.int (tM x l)))
def Ur (l:List PV) (x:PV):W PV:=.fD (tL x l) (.ret (.int (Yx x l)))
def K4 (hK:X.K=K) (hu:X.A.units+200 < nn) (ho:yV X K fs o wl) (he:EF X K fs e w)
  (dW:pc o "index" X.env (kw o X.env)=kw o X.env:=by rfl)
  (m5:VP X bS [e]:=by rfl)
  (dU:Q8 Â bS:=by rfl) (qI:gR X e []:=by rfl) (eE:kL X bS []:=by rfl) :
  EF X K fs (.Call (.Attribute o "index" Â) [e] [] bS) (.bind wl λl=>.bind w λx=>Im l x):=
 ⟨PE.imp (ph K hK BC PySem.F.slot_list_index PySem.F.type_list_index (SX K hK hu) ho.p (bc he.p cy qI) dW m5 dU qI eE) λσ H Q ⟨sr,q⟩=>⟨sr,wl.mono (λl q1 u1 H1 g1 s1 _ v1=>by
  obtain⟨a,vs,eu,h1,_⟩:=v1 H1 .refl s1;subst eu;refine⟨.inl ⟨rfl,_,h1⟩,s1,w.mono (λx q2 u2 H2 g2 s2 v2=>?_) q1⟩
  ·obtain⟨a',vs,ea,h2,r2⟩:=v1 H2 g2 s2;cases ea;exact⟨a,vs,l,u2,x,rfl,rfl,h2,r2,v2,q2.1.1,q2.1.2,q2.2 _ H2 (g1.trans g2) s2 (.int _)⟩) q⟩⟩
def Ue (hK:X.K=K) (hu:X.A.units+200 < nn) (ho:yV X K fs o wl) (he:EF X K fs e w)
  (dW:pc o "count" X.env (kw o X.env)=kw o X.env:=by rfl)
  (m5:VP X bS [e]:=by rfl)
  (dU:Q8 Â bS:=by rfl) (qI:gR X e []:=by rfl) (eE:kL X bS []:=by rfl) :
  EF X K fs (.Call (.Attribute o "count" Â) [e] [] bS) (.bind wl λl=>.bind w λx=>Ur l x):=
 ⟨PE.imp (ph K hK BC PySem.F.slot_list_count PySem.F.type_list_count (S0 K hK hu) ho.p (bc he.p cy qI) dW m5 dU qI eE) λσ H Q ⟨sr,q⟩=>⟨sr,wl.mono (λl q1 u1 H1 g1 s1 _ v1=>by
  obtain⟨a,vs,eu,h1,_⟩:=v1 H1 .refl s1;subst eu;refine⟨.inl ⟨rfl,_,h1⟩,s1,w.mono (λx q2 u2 H2 g2 s2 v2=>?_) q1⟩
  ·obtain⟨a',vs,ea,h2,r2⟩:=v1 H2 g2 s2;cases ea;exact⟨a,vs,l,u2,x,rfl,rfl,h2,r2,v2,q2.1,q2.2 _ H2 (g1.trans g2) s2 (.int _)⟩) q⟩⟩
end
end
end FL
variable {x:Bool}
namespace FL
section
open PySem PySem.Spec PyProof.Rows L2 PL
variable {K:Ab}
section
variable {rest:List tt}{T:Type}{out:T->End}
def XT (l:List PV):PV->W PV
 | .int k=>.fD (0<=k/\k < 1000) (.OT l[k.toNat]?)
 | _=>.fail
def SF.af4 (i:Nat) {op:Operator}{ti:TIp}{M:M2}{k:List PV->W T} (hs:fs[i]?=ap (ap (.ol q0 l))) (hK:X.K=K) (hN:X.N[i]?=ap y) (hv:yN X.env.scope y) (hi:EF X K fs ei wi) (he:EF X K fs e we) (ho:PIp X op ti) (hM:M2.Ok K ti M) (hr:∀l',SF X K x (fs.set i (ap (.ol q0 l'))) rest (k l') out)
  (hd:jh y:=by decide) (iY:y9 y:=by decide)
  (ha:∀ov iv new,augStore ei ov iv new=(do r9 [new,ov,iv] (Db ov iv new);release [new,ov,iv] [];pure .next):=by intros;rfl) :
  SF X K x fs (.AugAssign (.Subscript (.Name y p) ei gn) op e pos::rest) (.bind wi λn=>.bind (XT l n) λg=>.bind we λv=>.bind (of2 M g v) λr=>.bind (gq l n r) k) out:=
 SF.step (Sf (dz hN hv hd iY) hi.p (PN K hK) he.p ho o6 ha) λD σ H ⟨sr,q⟩=>by
  obtain⟨a,ws,e1,h1,r1⟩:=dj sr hs;refine⟨_,e1,sr,wi.mono (λn q1 u1 H1 g1 s1 v1=>?_) q⟩;obtain⟨a',ws1,nu,iA,yZ⟩:=dj s1 hs;rw [e1] at nu;cases nu;cases v1 with
  | int kk=>
   have q1:(0<=kk/\kk < 1000)/\(W.OT l[kk.toNat]?).run _:=q1;obtain⟨⟨b1,b2⟩,q1⟩:=q1;cases hg:l[kk.toNat]? with
   | none=>rw [hg] at q1;exact q1.elim
   | some g=>
    rw [hg] at q1;obtain⟨u,hu,ru⟩:=yZ.get hg;refine⟨a,ws1,kk,u,rfl,rfl,dc.of iA,b1,b2,hu,s1,we.mono (λv q2 u2 H2 g2 s2 v2=>?_) q1⟩;refine xA hM s2 (g2.vr s1 ru) v2 ((of2 M g v).mono (λr q3 u3 H3 g3 s3 v3=>?_) q2);obtain⟨a',Zz,VI,Iu,WH⟩:=dj s3 hs;rw [e1] at VI;cases VI;have q3:(match oh l.length kk with | some j=>bd (l.set j r) | none=>W.fail).run _:=q3;cases hj:oh l.length kk with
    | none=>rw [hj] at q3;exact q3.elim
    | some j=>
     rw [hj] at q3;refine⟨a,Zz,kk,j,rfl,rfl,Iu,by rw [WH.length];exact hj,λH4 sx h4=>?_⟩;obtain⟨s4,g4⟩:=jW s3 hs e1 sx h4 (WH.set v3 j);exact⟨_,k _,hr _,s4,(k _).mono (λt q4=>q4.go (((g1.trans g2).trans g3).f.trans g4) sr s4) q3⟩
  | _=>exact q1.elim
def RS (l:List PV) (i j:PV) (m:List PV):W (List PV):=match i,j with
 | .int a,.int c=>.fD (0<=a/\a<=c/\c<=l.length/\l.length+m.length<=sizeLine) (.ret (l.take a.toNat++m++l.drop c.toNat))
 | _,_=>.fail
def SF.Z3 (i:Nat) {lo hi:ga}{k:List PV->W T} (hs:fs[i]?=ap (ap (.ol q0 l))) (hN:X.N[i]?=ap y) (hv:yN X.env.scope y) (he:LF X K fs e wl) (hl:EF X K fs lo wa) (hh:EF X K fs hi wb) (hr:∀l',SF X K x (fs.set i (ap (.ol q0 l'))) rest (k l') out)
  (ha:∀v,wT (.Subscript (.Name y p) (.Slice (ap lo) (ap hi) bm p2) gn) X.env v=(do
   let ov <- r9 [v] (kw (.Name y p) X.env)
   let iv <- r9 [v,ov] (kw (.Slice (ap lo) (ap hi) bm p2) X.env)
   FM gn
   r9 [v,ov,iv] (Db ov iv v)
   release [iv,v,ov] []):=by intro _;rfl)
  (hd:jh y:=by decide) (iY:y9 y:=by decide)
  (î:wE [.Subscript (.Name y p) (.Slice (ap lo) (ap hi) bm p2) gn] e pos.line X.env=pure false:=by rfl) (hw:wP [.Subscript (.Name y p) (.Slice (ap lo) (ap hi) bm p2) gn] e X.env=pure bm:=by rfl)
  (h1:(wf [.Subscript (.Name y p) (.Slice (ap lo) (ap hi) bm p2) gn] X.env).map (·.2)=[wT (.Subscript (.Name y p) (.Slice (ap lo) (ap hi) bm p2) gn) X.env]:=by rfl) :
  SF X K x fs (.Assign [.Subscript (.Name y p) (.Slice (ap lo) (ap hi) bm p2) gn] e pos::rest) (.bind wl λm=>.bind wa λa=>.bind wb λb=>.bind (RS l a b m) k) out:=
 SF.step (xn he.p (OA (dz hN hv hd iY) hl.p hh.p ha) î hw h1) λD σ H ⟨sr,q⟩=>by
  refine⟨sr,wl.mono (λm q1 b vb H1 g1 s1 nb eb rb=>?_) q⟩;obtain⟨a,ws,e1,h1,r1⟩:=dj s1 hs;refine⟨_,e1,s1,wa.mono (λi1 q2 u2 H2 g2 s2 v2=>⟨s2,wb.mono (λj1 q3 u3 H3 g3 s3 v3=>?_) q2⟩) q1⟩;obtain⟨a',Zz,VI,Iu,WH⟩:=dj s3 hs;rw [e1] at VI;cases VI;have Ė:=g3.vr s2 v2;have no:¬dH σ fs b:=sr.noOwn nb;have eb3:=(g2.trans g3).qf eb no;have rb3:=(g2.trans g3).Nn s1 rb;have ne:a≠b:=λz=>no ⟨i,_,a,hs,rfl,e1,.inl z.symm⟩;cases Ė with
  | int aa=>
   cases v3 with
   | int cc=>
    have q3:(0<=aa/\aa<=cc/\cc<=l.length/\l.length+m.length<=sizeLine)/\(k (l.take aa.toNat++m++l.drop cc.toNat)).run _:=q3;obtain⟨⟨c1,c2,c3,c4⟩,q3⟩:=q3;refine⟨a,b,Zz,vb,aa,cc,rfl,rfl,rfl,rfl,Iu,eb3,ne,c1,c2,by rw [WH.length];exact c3,by rw [WH.length,rb3.length];exact c4,?_⟩;have sx:oV a H3 (upd H3 a (.lst (Zz.take aa.toNat++vb++Zz.drop cc.toNat))):=λz o n hz=>by rw [aD n];exact hz
    obtain⟨s4,g4⟩:=jW s3 hs e1 sx aW (((WH.take aa.toNat).append rb3).append (WH.drop cc.toNat));exact⟨_,k _,hr _,s4,(k _).mono (λt q4=>q4.go (((g1.trans g2).trans g3).f.trans g4) sr s4) q3⟩
   | _=>exact q3.elim
  | _=>exact q3.elim
def Ww (l:List PV) (v:PV):W (List PV):=match v with
 | .int k=>.bind (qg l) λns=>.fD (k∈ns) (.ret ((ns.erase k).map PV.int))
 | _=>.fail
theorem SF.remove (i:Nat) {k:List PV->W T} (hs:fs[i]?=ap (ap (.ol q0 l))) (hK:X.K=K) (hN:X.N[i]?=ap y) (hv:yN X.env.scope y) (he:EF X K fs e we) (hr:∀l',SF X K x (fs.set i (ap (.ol q0 l'))) rest (k l') out)
  (hd:jh y:=by decide) (iY:y9 y:=by decide) (dW:pc (.Name y p) "remove" X.env (kw (.Name y p) X.env)=kw (.Name y p) X.env:=by rfl)
  (m5:VP X bS [e]:=by rfl)
  (dU:Q8 Â bS:=by rfl) (qI:gR X e []:=by rfl) (eE:kL X bS []:=by rfl)
  (qH:lc (.Call (.Attribute (.Name y p) "remove" Â) [e] [] bS) bm pos.line X.env=pure false:=by rfl) :
  SF X K x fs (.Expr (.Call (.Attribute (.Name y p) "remove" Â) [e] [] bS) pos::rest) (.bind we λv=>.bind (Ww l v) k) out:=
 SF.step (nR (ph K hK BC PySem.F.slot_list_remove PySem.F.type_list_remove HN (dz hN hv hd iY) (bc he.p cy qI) dW m5 dU qI eE) qH) λD σ H ⟨sr,q⟩=>by
  obtain⟨a,ws,e1,h1,r1⟩:=dj sr hs;refine⟨_,e1,.inl ⟨rfl,_,dc.of h1⟩,sr,we.mono (λv q1 u H1 g1 s1 v1=>?_) q⟩;obtain⟨a',pZ,nu,iA,yZ⟩:=dj s1 hs;rw [e1] at nu;cases nu;cases v1 with
  | int kk=>
   obtain⟨ns,el,hk,q2⟩:=mj (l:=l) q1;subst el;have:=mi yZ;subst this;refine⟨a,ns,kk,rfl,rfl,iA,hk,λH2 sx h2=>?_⟩;obtain⟨s2,g2⟩:=jW s1 hs e1 sx h2 (oo _ _ (ns.erase kk));exact⟨_,k _,hr _,s2,(k _).mono (λt q3=>q3.go (g1.f.trans g2) sr s2) q2⟩
  | _=>exact q1.elim
end
end
end FL
variable {vs:List (L2.Key×L2.V)}{kvs:List (L2.Key×PL.PV)}{q:L2.Key×PL.PV}
namespace FL
section
open PySem PySem.Spec PyProof.Rows L2 PL
variable {K:Ab}
abbrev w2 (f:PV->PV->W PV) (wa wb:W PV):W PV:=.bind wa λx=>.bind wb λy=>f x y
structure YU (P:sK) (w:wn) (K:Ab) (mg:Str->Option bv) (base:nw) (f:ci) (k:Nat) (ps:List Str) (sp:Sp) where
 fd:EQ
 ok:fH P w K mg base kN k f fd ps sp
 bi:Binds K fd ps []
 kp:CO K (.ref f)=true
section
variable {x:Str}{R:Type}{B:(List PV->W R)->W R}{fa:ci}
def af6 (hg:Gl X x) (hm:X.mg x=ap (.ref fa)) (hr:AF X K fs es ks B) (hd:jh x:=by decide) (qI:d5 (.Name x pos::es) X.env=(false,kw (.Name x pos) X.env)::d5 es X.env:=by rfl):AF X K fs (.Name x pos::es) (.f fa::ks) B:=by
 obtain⟨wr,hp,hB⟩:=hr.p;refine⟨wr,PA.imp (bc (rf (v:=.ref fa) hg hm rfl hd) hp qI) λσ H Q ⟨sr,q⟩=>?_,hB⟩;exact⟨sr,wr.mono (λl q2 vs H2 g2 s2 v2=>q2 _ H2 g2 s2 (.f v2)) q⟩
def Ui {B:(List PV->W PV)->W PV} (i:Nat) (G:YU X.prog X.w X.K X.mg X.base fa k ps (eJ K ks m)) (hr:dg k' X.A) (hk:k<=k') (hs:fs[i]?=ap (ap (.adr fa))) (ha:AF X K fs (e::es) ks B) (hW:W'=B m) (hN:X.N[i]?=ap x:=by rfl) (hv:yN X.env.scope x:=by first | exact CI rfl | exact Cy (CI rfl) | exact Cy (Cy rfl)) (hd:jh x:=by decide) (iY:y9 x:=by decide)
  (he:gR X e es:=by rfl) (dI:kL X pos es:=by rfl):EF X K fs (.Call (.Name x p) (e::es) [] pos) W':=by
 subst hW;obtain⟨w,hp,hB⟩:=ha.p;rw [hB];refine⟨PE.imp (OI (dvs:=[]) (ds:=[]) (E:=E0) G.ok (hr.mono hk) (dz hN hv hd iY) G.kp G.bi .nil U8 hp he dI) λσ H Q ⟨sr,q⟩=>?_⟩;obtain⟨u,e1,r⟩:=sr.at' i _ hs;rcases r with⟨v,e,_⟩ | ⟨a,e,r⟩
 ·cases e
 ·have r:a=fa:=r;subst r;subst e;refine⟨_,e1,rfl,sr,w.mono (λl q1 vs H1 g1 s1 v1=>?_) q⟩;show eJ K ks m (vs++[]) H1 Q E0;rw [C5];exact⟨l,v1.c s1,(m l).mono (λz q2 u H2 g2 r2=>let ⟨s2,g3⟩:=g2.caller v1 s1;q2 u H2 (g1.trans g3) s2 r2) q1⟩
end
def Ih:PV->W Key
 | .int i=>.ret (.inl i)
 | .str s=>.ret (.inr s)
 | _=>.fail
def qK (kvs:List (Key×PV)) (k:Key):Bool:=kvs.any λkv=>decide (kv.1=k)
def qL (kvs:List (Key×PV)) (k:Key):Option PV:=(kvs.find? λkv=>decide (kv.1=k)).map (·.2)
def putP (kvs:List (Key×PV)) (k:Key) (v:PV):List (Key×PV):=if qK kvs k=true then kvs.map (λkv=>if kv.1=k then (kv.1,v) else kv) else kvs++[(k,v)]
def dq (K:Ab) (H:Hp) (vs:List (Key×V)) (kvs:List (Key×PV)):Prop:=vs.map (·.1)=kvs.map (·.1)/\aO K [] H (vs.map (·.2)) (kvs.map (·.2))
section
def dq.cons_inv {p:Key×V} (h:dq K H (p::vs) (q::kvs)):p.1=q.1/\VR K [] H p.2 q.2/\dq K H vs kvs:=by
 obtain⟨h1,h2⟩:=h;injection h1 with a b;cases h2 with
 | cons r t=>exact⟨a,r,b,t⟩
def dq.mk {p:Key×V} (e:p.1=q.1) (r:VR K [] H p.2 q.2) (h:dq K H vs kvs):dq K H (p::vs) (q::kvs):=⟨by rw [Az,Az,e,h.1],.cons r h.2⟩
theorem dq.ind {C:List (Key×V)->List (Key×PV)->Prop} (h0:C [] []) (h1:∀p q vs kvs,p.1=q.1->VR K [] H p.2 q.2->dq K H vs kvs->C vs kvs->C (p::vs) (q::kvs)):∀{vs kvs},dq K H vs kvs->C vs kvs
 | [],[],_=>h0
 | [],_::_,h=>by simp [dq] at h
 | _::_,[],h=>by simp [dq] at h
 | p::vs,q::kvs,h=>let ⟨a,b,c⟩:=h.cons_inv;h1 p q vs kvs a b c (dq.ind h0 h1 c)
def dq.has (h:dq K H vs kvs) (k:Key):(iW vs k).isSome=qK kvs k:=by
 rw [<- nB];refine dq.ind (C:=λvs kvs=>(vs.any λkv=>decide (kv.1=k))=kvs.any λkv=>decide (kv.1=k)) rfl (λp q vs kvs e _ _ ih=>?_) h;rw [Cz,Cz,ih,e]
def dq.get (h:dq K H vs kvs) (k:Key) (g:qL kvs k=ap v):∃u,iW vs k=ap u/\VR K [] H u v:=by
 refine dq.ind (C:=λvs kvs=>qL kvs k=ap v->∃u,iW vs k=ap u/\VR K [] H u v) (λg=>by simp [qL] at g) (λp q vs kvs e r _ ih g=>?_) h g;by_cases c:p.1=k
 ·rw [kS c];have c':=e▸c;have:qL (q::kvs) k=ap q.2:=by simp [qL,BQ,c']
  rw [this] at g;cases g;exact⟨_,rfl,r⟩
 ·rw [kT c];have c':=e▸c;have:qL (q::kvs) k=qL kvs k:=by simp [qL,BQ,c']
  exact ih (this▸g)
def dq.put (h:dq K H vs kvs) (k:Key) (r:VR K [] H u v):dq K H (putK vs k u) (putP kvs k v):=by
 have hh:(vs.any λkv=>decide (kv.1=k))=qK kvs k:=by rw [nB];exact h.has k
 unfold putK putP;rw [hh]
 split
 ·refine dq.ind (C:=λvs kvs=>dq K H (vs.map λkv=>if kv.1=k then (kv.1,u) else kv) (kvs.map λkv=>if kv.1=k then (kv.1,v) else kv)) ⟨rfl,.nil⟩ (λp q vs kvs e rr _ ih=>?_) h;rw [Az,Az];by_cases c:p.1=k
  ·rw [if_pos c,if_pos (e▸c)];exact dq.mk e r ih
  ·rw [if_neg c,if_neg (e▸c)];exact dq.mk e rr ih
 ·refine dq.ind (C:=λvs kvs=>dq K H (vs++[(k,u)]) (kvs++[(k,v)])) ⟨rfl,.cons r .nil⟩ (λp q vs kvs e rr _ ih=>dq.mk e rr ih) h
def dq.length (h:dq K H vs kvs):vs.length=kvs.length:=by
 have:=congrArg B2 h.1;simpa using this
end
section
variable {a:ga}{rest:List tt}{T:Type}{out:T->End}
def xw (sr:aX K H σ fs) (hs:fs[i]?=ap (ap (.od kvs))):∃a vs,σ[i]?=ap (ap (.ref a))/\H a=ap (.dK vs)/\dq K H vs kvs:=by
 obtain⟨u,e1,r⟩:=sr.at' i _ hs;rcases r with⟨v,e,_⟩ | ⟨a,e,vs,q1,q2,q3⟩
 ·cases e
 ·subst e;exact⟨a,vs,e1,q1,q2,q3⟩
def SF.ael {k:W T} (hN:X.N.Nodup) (hi:X.N[i]?=ap y) (hx:Loc X.env.scope y) (hr:SF X K x (fs.set i (ap (.od []))) rest k out) (hs:lc (.Dict [] [] p2) (ap (.Name y p')) pos.line X.env=pure false:=by rfl)
  (hf:Nw X y:=by first | exact .inl rfl | exact .inr rfl | assumption):SF X K x fs (.Assign [.Name y p'] (.Dict [] [] p2) pos::rest) k out:=SF.step (sF hN hi hx OG hs hf) λD σ H ⟨sr,q⟩=>λa H1 s1 e1 n1=>by
 have no:=sr.noOwn n1;have s2:=(sr.same s1).sE (t:=.od []) ⟨[],e1,rfl,.nil⟩ no i;exact⟨_,k,hr,s2,k.mono (λt q2=>q2.go (cM.sE (sr.same s1) (cM.same s1 sr) no n1 i) sr s2) q⟩
def Vj {Q:Key->Prop} (r:VR K [] H u v) (q:(Ih v).run Q):∃k,u=kV k/\Q k:=by
 cases r with
 | int i=>exact⟨.inl i,rfl,q⟩
 | str s=>exact⟨.inr s,rfl,q⟩
 | _=>exact q.elim
def Tu (i:Nat) (hs:fs[i]?=ap (ap (.od kvs))) (hN:X.N[i]?=ap y):∀σ H Q,fT K fs (.bind wa λx=>.bind (Ih x) λk=>.ret (if neg then !qK kvs k else qK kvs k)) σ H Q->(fE K fs wa) σ H λu H1=>(ZK i) σ H1 λz H2=>∃a o,z=.ref a/\vq H2 a u o/\(∃b,(V.bl (if neg then !o.isSome else o.isSome))=.bl b/\Q b H2):=λσ H Q ⟨sr,q⟩=>
 ⟨sr,wa.mono (λv q1 u H1 g1 s1 v1=>by
  obtain⟨k,rfl,q2⟩:=Vj v1 q1;obtain⟨a,vs,e1,h1,r1⟩:=xw s1 hs;refine⟨_,e1,a,_,rfl,vq.k h1,_,rfl,?_⟩;rw [r1.has k];exact q2 H1 g1 s1) q⟩
theorem ZI (i:Nat) (hs:fs[i]?=ap (ap (.od kvs))) (hu:X.A.units+200 < nn) (ha:EF X K fs a wa) (hN:X.N[i]?=ap y:=by rfl) (hv:yN X.env.scope y:=by first | exact CI rfl | exact Cy (CI rfl) | exact Cy (Cy rfl)) (hd:jh y:=by decide) (iY:y9 y:=by decide) (hk:lw .In (.Name y p)=false:=by rfl) :
  TF X K fs (.Compare a [.In] [.Name y p] pos) (.bind wa λx=>.bind (Ih x) λk=>.ret (qK kvs k)):=⟨PT.imp (WN (W5 ∅ ha.p (dz hN hv hd iY)) hk) (Tu (neg:=false) i hs hN)⟩
def WK (kvs:List (Key×PV)) (n v:PV):W (List (Key×PV)):=.bind (Ih n) λkk=>.fD (kvs.length < sizeLine) (.ret (putP kvs kk v))
theorem SF.putD (i:Nat) {k:List (Key×PV)->W T} (hs:fs[i]?=ap (ap (.od kvs))) (hu:X.A.units+200 < nn) (hN:X.N[i]?=ap y) (hv:yN X.env.scope y) (he:EF X K fs e we) (hi:EF X K fs ei wi) (hr:∀l',SF X K x (fs.set i (ap (.od l'))) rest (k l') out)
  (hd:jh y:=by decide) (iY:y9 y:=by decide) (qH:lc e (ap (.Subscript (.Name y p) ei gn)) pos.line X.env=pure false:=by rfl) :
  SF X K x fs (.Assign [.Subscript (.Name y p) ei gn] e pos::rest) (.bind we λv=>.bind wi λn=>.bind (WK kvs n v) k) out:=
 SF.step (Se ∅ (dz hN hv hd iY) hi.p he.p qH) λD σ H ⟨sr,q⟩=>by
  refine⟨sr,we.mono (λv q1 u H1 g1 s1 v1=>?_) q⟩;obtain⟨a,vs,e1,h1,r1⟩:=xw s1 hs;refine⟨_,e1,s1,wi.mono (λn q2 u2 H2 g2 s2 v2=>?_) q1⟩;obtain⟨kk,rfl,hz,q3⟩:=Vj v2 q2;obtain⟨a',Q9,nu,iA,yZ⟩:=xw s2 hs;rw [e1] at nu;cases nu;refine⟨a,_,rfl,Q6.k iA (by rw [yZ.length];exact hz),?_⟩;have sx:oV a H2 (upd H2 a (.dK (putK Q9 kk u))):=λz o n hz=>by rw [aD n];exact hz
  obtain⟨s3,g3⟩:=mU (t':=.od (putP kvs kk v)) s2 hs rfl (by simp) e1 sx λtk=>⟨_,aW,(yZ.put kk (g2.vr s1 v1)).1,aO.tk tk (yZ.put kk (g2.vr s1 v1)).2⟩;exact⟨_,k _,hr _,s3,(k _).mono (λt q4=>q4.go ((g1.trans g2).f.trans g3) sr s3) q3⟩
end
end
section
open PySem PySem.Spec PyProof.Rows L2 PL
variable {K:Ab}
def fAs (K:Ab) (fs:bG) (i:Nat) (w:W (List PV)):TS:=λD σ H=>aX K H σ fs/\w.run λl=>∀a vs H',di σ fs H H'->aX K H' σ fs->H a=bm->H' a=ap (.lst vs)->aO K [] H' vs l->D.nx (σ.set i (ap (.ref a))) H'
structure AS (X:Cx) (K:Ab) (fs:bG) (st:tt) (i:Nat) (w:W (List PV)):Prop where p:PS X st (fAs K fs i w)
section
variable {st:tt}{rest:List tt}{T:Type}{out:T->End}{k:List PV->W T}
def SF.as (h:AS X K fs st i wl) (hr:∀l,SF X K x (fs.set i (ap (.ol bm l))) rest (k l) out):SF X K x fs (st::rest) (.bind wl k) out:=SF.step h.p λD σ H ⟨sr,q⟩=>⟨sr,wl.mono (λl q1 a ws H1 g1 s1 n e v1=>by
 have no:=sr.noOwn n;have s2:=s1.sE (t:=.ol bm l) ⟨by simp,ws,e,v1⟩ no i;exact⟨_,k l,hr l,s2,(k l).mono (λt q2=>q2.go (cM.sE s1 g1.f no n i) sr s2) q1⟩) q⟩
def YF (b:Nat) (hs:fs[b]?=ap (ap (.ol q0 l))) (h:AS X K (fs.set b (ap (.val (.cl l)))) st i wl):AS X K fs st i (.bind wl NJ):=⟨λZ s σ H D I ⟨sr,q⟩=>by
 obtain⟨a,ws,ob,I2,s2,Ê⟩:=bor I sr hs;refine bE (h.p Z s σ _ {nx:=λσ' H1=>∃b vs l',σ'=σ.set i (ap (.ref b))/\di σ (fs.set _ (ap (.val (.cl l)))) (upd H a (.cT ob (.lst ws))) H1/\aX K H1 σ (fs.set _ (ap (.val (.cl l))))/\upd H a (.cT ob (.lst ws)) b=bm/\H1 b=ap (.lst vs)/\aO K [] H1 vs l'/\vg l'=true/\∀a vs H',di σ fs H H'->aX K H' σ fs->H a=bm->H' a=ap (.lst vs)->aO K [] H' vs l'->D.nx (σ.set i (ap (.ref a))) H',rt:=D.rt,bk:=D.bk,ct:=D.ct} I2 ⟨s2,wl.mono (λl' q1 b vs H1 g1 s1 n e v1=>⟨b,vs,l',rfl,g1,s1,n,e,v1,q1.1,q1.2⟩) q⟩) λf s1 q1=>?_;cases f with
 | next=>
  obtain⟨σ',H1,I1,b,vs,l',rfl,g1,R0,n,eb,v1,d,q1⟩:=q1;obtain⟨I3,g3,s3,t3,k3⟩:=Ê _ s1 H1 I1 g1 R0;have nb:b≠a:=λy=>by subst y;rw [aW] at n;cases n
  exact⟨_,_,I3,q1 b vs _ g3 s3 (by rw [aD nb] at n;exact n) (k3 b vs nb eb) (aO.ki t3 v1 d)⟩
 | ret v=>exact q1
 | brk=>exact q1
 | cont=>exact q1⟩
end
section
variable {c:ga}{T2:Type}{wt:PV->W T2}{dP:T2->bG}{tf:T2->W Bool}{te:T2->W PV}
def ack (hc:X.calm=true) (hN:X.N.Nodup) (Gh:X.N[i]?=ap y) (hx:X.env.scope.names.lookup y=ap .local) (S:aA X.env.scope X.N sc N' ix) (hi:qW X K fs tg iter wl) (hg:∀cl C s2 H2 fp,GF (gD X sc N' cl C s2 H2 fp) K (cj ix fs) tg is wt dP) (ñ:∀cl C s2 H2 fp t,FF (gD X sc N' cl C s2 H2 fp) K (dP t) É (tf t)) (he:∀cl C s2 H2 fp t,EF (gD X sc N' cl C s2 H2 fp) K (dP t) Ä (te t))
  (hf:∀p,f p=.bind (wt p) λt=>.bind (tf t) λk=>if k=true then .bind (te t) λv=>.ret (ap v) else .ret bm) (hl:vn is (cj ix fs) dP/\∀t,jK (dP t) (cj ix fs)) (u0:∀j∈is,ix[j]?=ap bm)
  (qH:lc (.ListComp Ä [⟨tg,iter,É,0⟩] sc pos) (ap (.Name y px)) nK.line X.env=pure true:=by rfl) (hs:wI X iter:=by intro _;rfl) :
  AS X K fs (.Assign [.Name y px] (.ListComp Ä [⟨tg,iter,É,0⟩] sc pos) nK) i (.bind wl λl=>kJ l f):=
 ⟨PS.imp (zJ hc hN Gh hx S hi.p (λcl C s2 H2 fp=>(hg cl C s2 H2 fp).p) (λcl C s2 H2 fp Z s σ H Q I ⟨t,q⟩=>(ñ cl C s2 H2 fp t).p Z s σ H Q I q) (λcl C s2 H2 fp Z s σ H Q I ⟨t,q⟩=>(he cl C s2 H2 fp t).p Z s σ H Q I q) qH hs) λD σ H ⟨sr,q⟩=>
  P7 (K:=K) S rfl hf hl.1 hl.2 u0 σ H _ ⟨sr,q⟩⟩
def YE {tf:PV->W Bool}{te:PV->W PV} (hc:X.calm=true) (hN:X.N.Nodup) (Gh:X.N[i]?=ap y) (hx:X.env.scope.names.lookup y=ap .local) (S:aA X.env.scope X.N sc N' ix) (hi:qW X K fs tg iter wl) (hg:∀cl C s2 H2 fp,PG (gD X sc N' cl C s2 H2 fp) tg (dJ j)) (hf:∀cl C s2 H2 fp t,TF (gD X sc N' cl C s2 H2 fp) K ((cj ix fs).set j (ap (.val t))) c (tf t)) (he:∀cl C s2 H2 fp t,EF (gD X sc N' cl C s2 H2 fp) K ((cj ix fs).set j (ap (.val t))) Ä (te t)) (h0:ix[j]?=ap bm)
  (qH:lc (.ListComp Ä [⟨tg,iter,[c],0⟩] sc pos) (ap (.Name y px)) nK.line X.env=pure true:=by rfl) (hs:wI X iter:=by intro _;rfl) :
  AS X K fs (.Assign [.Name y px] (.ListComp Ä [⟨tg,iter,[c],0⟩] sc pos) nK) i (.bind wl λl=>kJ l λp=>Hb (tf p) (te p)):=
 have h1:(cj ix fs)[j]?=ap bm:=by unfold cj;rw [Ae,h0];rfl
 ack (wt:=.ret) (tf:=tf) (te:=te) hc hN Gh hx S hi (λcl C s2 H2 fp=>X8 (hg cl C s2 H2 fp)) (λcl C s2 H2 fp t=>yf (hf cl C s2 H2 fp t)) he (λ_=>rfl) (O7 h1) (λm hj=>by rw [A3] at hj;subst hj;exact h0) qH hs
end
end
end FL
namespace L2
open PySem PySem.Spec PyProof.Rows
def Inv.TX {σ:St}{kvs:List (Key×V)} (I:Inv X Z σ H s) (e:H a=ap (.dK kvs)):∃o,Inv X Z σ (upd H a (.cT o (.dK kvs))) s:=by
 obtain⟨z,hs,vs,r,o,es,ep,h1,h2⟩:=(show bu X.prog X.w H s.heap a (.dK kvs) from I.bK a _ e);exact⟨o,I.write (x:=a) (e:=a) (o:=.cT o (.dK kvs)) (h':=s.heap) (t':=s.toks) (by rw [e];exact Cj) (.inl rfl) (λb u _ z=>z) ⟨o,h1⟩ ⟨h1,z,hs,vs,r,o,es,ep,h1,h2⟩⟩
end L2
variable {kvs:List (List L2.Key×PL.PV)}
namespace FL
section
open PySem PySem.Spec PyProof.Rows L2 PL
variable {K:Ab}
def dvK (kvs:List (Key×PV)):PV:=.dv (kvs.map λkv=>kP kv.1) (kvs.map (·.2))
def Rj (kvs:List (List Key×PV)):PV:=.dv (kvs.map λkv=>.tup (kv.1.map kP)) (kvs.map (·.2))
def oW (K:Ab) (H:Hp) (vs:List (List Key×V)) (kvs:List (List Key×PV)):Prop:=vs.map (·.1)=kvs.map (·.1)/\aO K [] H (vs.map (·.2)) (kvs.map (·.2))
def UN (K:Ab) (H:Hp) (ob:HO) (v:PV):Prop:=(∃vs kvs,ob=.dK vs/\v=dvK kvs/\dq K H vs kvs)\/∃vs kvs,ob=.dT vs/\v=Rj kvs/\oW K H vs kvs
def fDv (K:Ab) (fs:bG) (w:W PV):TE:=λσ H Q=>aX K H σ fs/\w.run λv=>∀a ob H',di σ fs H H'->aX K H' σ fs->H a=bm->H' a=ap ob->UN K H' ob v->Q (.ref a) H'
structure DVF (X:Cx) (K:Ab) (fs:bG) (e:ga) (w:W PV):Prop where p:PE X e (fDv K fs w)
section
variable {σ:L2.St}{fs:bG}{H:Hp}{a:ci}{ob:HO}{v:PV}
def rZ (o':HO) (e:H a=ap ob) (n1:∀vs,ob≠.tup vs) (n2:∀o u,ob≠.cT o u):bB K H (upd H a o'):=⟨λb ws q=>by rw [aD (λz=>by subst z;rw [e] at q;cases q;exact n1 _ rfl)];exact q,λb o u q=>by rw [aD (λz=>by subst z;rw [e] at q;cases q;exact n2 _ _ rfl)];exact q⟩
def aX.Z6 (s:aX K H σ fs) (n:¬dH σ fs a) (e:H a=ap ob) (n1:∀vs,ob≠.tup vs) (n2:∀o u,ob≠.cT o u) (o':HO):aX K (upd H a o') σ fs:=⟨s.len,λi t q=>by
 obtain⟨u,h1,h2⟩:=s.at' i t q;exact⟨u,h1,h2.mono (rZ o' e n1 n2) (λx b o eb ow hb z=>by subst eb;rw [aD (λy:b=a=>n ⟨i,t,x,q,ow,h1,y▸hb⟩)];exact z)⟩,s.nd⟩
def aa1 {vs:List (List Key×V)} (h:vs.map (·.1)=kvs.map (·.1)):(kvs.map λkv=>PV.tup (kv.1.map kP))=vs.map λkv=>PV.tup (kv.1.map kP):=by
 have:=congrArg (F2 λk:List Key=>PV.tup (k.map kP)) h;rw [AH,AH] at this;exact this.symm
def aa2 {kvs:List (Key×PV)} (h:vs.map (·.1)=kvs.map (·.1)):(kvs.map λkv=>kP kv.1)=vs.map λkv=>kP kv.1:=by
 have:=congrArg (F2 kP) h;rw [AH,AH] at this;exact this.symm
def UN.cT {X:Cx}{Z:List (ci×Obj)}{s:cr}{σ':L2.St} (I:Inv X Z σ' H s) (e:H a=ap ob) (d:UN K H ob v):∃u,Inv X Z σ' (upd H a u) s/\VR K [] (upd H a u) (.ref a) v/\(∀vs,ob≠.tup vs)/\∀o u,ob≠.cT o u:=by
 rcases d with⟨vs,kvs,rfl,rfl,d1,d2⟩ | ⟨vs,kvs,rfl,rfl,d1,d2⟩
 ·obtain⟨o,I2⟩:=I.TX e;exact⟨_,I2,.dk aW (aa2 d1) (aO.tk (rZ _ e (by simp) (by simp)) d2),by simp,by simp⟩
 ·obtain⟨o,I2⟩:=I.freeze e;exact⟨_,I2,.dt aW (aa1 d1) (aO.tk (rZ _ e (by simp) (by simp)) d2),by simp,by simp⟩
end
section
variable {a b c:ga}{w:W PV}
def afZ (h:DVF X K fs e w):EF X K fs e w:=⟨λZ s σ H Q I ⟨sr,q⟩=>by
 refine bE (h.p Z s σ H (λu H1=>∃a ob v,u=.ref a/\di σ fs H H1/\aX K H1 σ fs/\H a=bm/\H1 a=ap ob/\UN K H1 ob v/\∀u H',di σ fs H H'->aX K H' σ fs->VR K [] H' u v->Q u H') I ⟨sr,w.mono (λv q1 a ob H1 g1 s1 n e d=>⟨a,ob,v,rfl,g1,s1,n,e,d,q1⟩) q⟩) λu s1 ⟨v,H1,I1,r1,a,ob,v',e,g1,R0,n,ea,d,q1⟩=>?_;subst e;obtain⟨o',I2,vr,n1,n2⟩:=d.cT I1 ea;exact⟨.ref a,_,I2,r1,q1 _ _ (g1.side n _) (R0.Z6 (λz=>sr.noOwn n z) ea n1 n2 _) vr⟩⟩
def Kg (kv:List Key×PV):PV:=.tup [.tup (kv.1.map kP),kv.2]
theorem Pg (H:Hp):∀k:List Key,aO K [] H (k.map kV) (k.map kP)
 | []=>.nil
 | .inl i::k=>.cons (.int i) (Pg H k)
 | .inr i::k=>.cons (.str i) (Pg H k)
theorem Kv:∀{k:List Key}{vs:List V},aO K [] H vs (k.map kP)->vs=k.map kV
 | [],_,h=>by cases h;rfl
 | .inl i::k,_,h=>by
  cases h with
  | cons x t=>cases x;rw [Kv t];rfl
 | .inr i::k,_,h=>by
  cases h with
  | cons x t=>cases x;rw [Kv t];rfl
theorem zR:∀{kvs:List (List Key×PV)}{vs:List V},aO K [] H vs (kvs.map Kg)->∃zs:List Pz,vs=zs.map (λz=>V.ref z.pa)/\(∀z∈zs,z.At H)/\zs.map (·.k)=kvs.map (·.1)/\aO K [] H (zs.map (·.v)) (kvs.map (·.2))
 | [],_,h=>by cases h;exact⟨[],rfl,by simp,rfl,.nil⟩
 | kv::kvs,_,h=>by
  cases h with
  | cons x t=>
  obtain⟨zs,z1,z2,z3,z4⟩:=zR t;cases x with
  | @tup p ws _ e r=>
  cases r with
  | cons x1 t1=>
  cases t1 with
  | cons x2 t2=>
  cases t2;cases x1 with
  | @tup b us _ e1 r1=>
  have:=Kv r1;subst this;refine⟨⟨p,kv.1,b,_⟩::zs,by rw [Az,z1],λz hz=>?_,by rw [Az,Az,z3],.cons x2 z4⟩;rcases AA.mp hz with rfl | hz
  ·exact⟨e,e1⟩
  ·exact z2 z hz
def Jf (l:List PV):W PV:=⟨λQ=>∃kvs:List (List Key×PV),l=kvs.map Kg/\(kvs.map (·.1)).Nodup/\kvs.length<=1000/\Q (Rj kvs),λf q=>q.imp λkvs h=>⟨h.1,h.2.1,h.2.2.1,f _ h.2.2.2⟩⟩
theorem Uq (hK:X.K=K) (hc:X.calm=true) (hu:X.A.units+200 < nn) (hg:Gl X "dict") (hm:X.mg "dict"=bm) (ha:yV X K fs e wl) (he:gR X e []:=by rfl) (dI:kL X pos []:=by rfl) :
  DVF X K fs (.Call (.Name "dict" p) [e] [] pos) (.bind wl Jf):=⟨PE.imp (lW (Jm K hK hc ∅) hg hm boot_dict (bc ha.p cy he) ⋯ ⋯ he dI) λσ H Q ⟨sr,q⟩=>⟨sr,wl.mono (λl q1 u H1 g1 s1 v0 v1=>by
  obtain⟨kvs,rfl,nd,hl,q1⟩:=q1;obtain⟨a,vs,rfl,e3,e4⟩:=v1 H1 .refl s1;obtain⟨zs,rfl,z2,z3,z4⟩:=zR e4;have hzl:zs.length=kvs.length:=by have:=congrArg B2 z3;simpa using this
  refine⟨a,zs,rfl,e3,z2,by rw [z3];exact nd,by omega,λp H2 s2 h2 n2=>?_⟩;exact q1 _ _ H2 (g1.trans (di.same s2)) (s1.same s2) (g1.there _ n2) h2 (.inr ⟨_,_,rfl,rfl,by rw [AH,<- z3];rfl,by rw [AH];exact aO.tk s2.fi z4⟩)) q⟩⟩
def MN (nd:(kvs.map (·.1)).Nodup) (hl:kvs.length<=1000) (q:Q (Rj kvs)):(Jf (kvs.map Kg)).run Q:=⟨kvs,rfl,nd,hl,q⟩
def mC (kvs:List (List Key×PV)) (k:List Key):Option PV:=(kvs.find? λkv=>decide (kv.1=k)).map (·.2)
theorem oW.get {k:List Key}:∀{vs:List (List Key×V)}{kvs:List (List Key×PV)},oW K H vs kvs->(mC kvs k=bm->iW vs k=bm)/\∀{v},mC kvs k=ap v->∃u,iW vs k=ap u/\VR K [] H u v
 | [],[],_=>⟨λ_=>rfl,λg=>by simp [mC] at g⟩
 | [],_::_,h=>by simp [oW] at h
 | _::_,[],h=>by simp [oW] at h
 | p::vs,q::kvs,h=>by
  obtain⟨h1,h2⟩:=h;rw [Az,Az] at h1 h2;injection h1 with e b;cases h2 with
  | cons r t=>
  have ih:=oW.get (k:=k) (vs:=vs) (kvs:=kvs) ⟨b,t⟩;by_cases c:p.1=k
  ·rw [kS c];have c':=e▸c;have:mC (q::kvs) k=ap q.2:=by simp [mC,BQ,c']
   rw [this];refine⟨λz=>(by cases z),λ{v} z=>?_⟩;cases z;exact⟨_,rfl,r⟩
  ·rw [kT c];have c':=e▸c;have:mC (q::kvs) k=mC kvs k:=by simp [mC,BQ,c']
   rw [this];exact ih
def dq.get' {k:Key}:∀{vs:List (Key×V)}{kvs:List (Key×PV)},dq K H vs kvs->(qL kvs k=bm->iW vs k=bm)/\∀{v},qL kvs k=ap v->∃u,iW vs k=ap u/\VR K [] H u v:=λ{vs kvs} h=>⟨λz=>by
 have:=h.has k;cases e:iW vs k with
 | none=>rfl
 | some u=>
  rw [e] at this;have h2:=this.symm;unfold qL at z;rw [Option.map_eq_none_iff,List.find?_eq_none] at z;obtain⟨x,hx,ĩ⟩:=BK.mp h2;exact absurd ĩ (z x hx),λz=>h.get k z⟩
def Vl (k:Key) (l:List PV):kP k≠.tup l:=by cases k <;> exact PV.noConfusion
def XO {a b:Key} (h:kP a=kP b):a=b:=by
 cases a <;> cases b <;> simp [kP] at h <;> rw [h]
theorem xP:∀{a b:List Key},a.map kP=b.map kP->a=b
 | [],[],_=>rfl
 | [],_::_,h=>by simp at h
 | _::_,[],h=>by simp at h
 | x::a,y::b,h=>by
  rw [Az,Az] at h;injection h with h1 h2;rw [XO h1,xP h2]
inductive G7:PV->PV->Option PV->Prop
 | k (kvs:List (Key×PV)) (k:Key):kvs≠[]->G7 (dvK kvs) (kP k) (qL kvs k)
 | t (kvs:List (List Key×PV)) (k:List Key):kvs≠[]->G7 (Rj kvs) (.tup (k.map kP)) (mC kvs k)
def VZ {kvs:List (Key×PV)} (h0:kvs≠[]) (h:VR K [] H u (dvK kvs)):∃a o vs,u=.ref a/\H a=ap (.cT o (.dK vs))/\dq K H vs kvs:=by
 have Ý:∀{vs:List (Key×V)}{kvs:List (Key×PV)},(kvs.map λkv=>kP kv.1)=(vs.map λkv=>kP kv.1)->vs.map (·.1)=kvs.map (·.1):=λ{vs kvs} e=>by
  have e:(kvs.map (·.1)).map kP=(vs.map (·.1)).map kP:=by rw [AH,AH];exact e
  exact (xP e).symm
 cases h with
 | @dk a o vs _ _ e k r=>exact⟨a,o,vs,rfl,e,Ý k,r⟩
 | @dt a o vs _ _ e k r=>
  cases kvs with
  | nil=>exact absurd rfl h0
  | cons x l=>cases vs with
   | nil=>simp at k
   | cons y m=>simp at k;exact absurd k.1 (Vl _ _)
def NF (h0:kvs≠[]) (h:VR K [] H u (Rj kvs)):∃a o vs,u=.ref a/\H a=ap (.cT o (.dT vs))/\oW K H vs kvs:=by
 have Ý:∀{vs:List (List Key×V)}{kvs:List (List Key×PV)},(kvs.map λkv=>PV.tup (kv.1.map kP))=(vs.map λkv=>PV.tup (kv.1.map kP))->vs.map (·.1)=kvs.map (·.1):=λ{vs kvs} e=>by
  induction kvs generalizing vs with
  | nil=>cases vs with
   | nil=>rfl
   | cons y m=>simp at e
  | cons x l ih=>cases vs with
   | nil=>simp at e
   | cons y m=>
    injection e with e1 e2;injection e1 with e1;rw [Az,Az,xP e1,ih e2]
 cases h with
 | @dt a o vs _ _ e k r=>exact⟨a,o,vs,rfl,e,Ý k,r⟩
 | @dk a o vs _ _ e k r=>
  cases kvs with
  | nil=>exact absurd rfl h0
  | cons x l=>cases vs with
   | nil=>simp at k
   | cons y m=>simp at k;exact absurd k.1.symm (Vl _ _)
def G7.ok {z:V}{d y:PV}{r:Option PV} (h:G7 d y r) (hu:VR K [] H u d) (hz:VR K [] H z y):∃a o,u=.ref a/\IsD H a/\vq H a z o/\(r=bm->o=bm)/\∀v,r=ap v->∃w,o=ap w/\VR K [] H w v:=by
 cases h with
 | k kvs k h0=>
  obtain⟨a,o,vs,rfl,e,d⟩:=VZ h0 hu;have ez:z=kV k:=by
   cases k with
   | inl i=>cases hz;rfl
   | inr i=>cases hz;rfl
  subst ez;exact⟨a,iW vs k,rfl,.inl ⟨vs,.inr ⟨o,e⟩⟩,.inl ⟨vs,k,.inr ⟨o,e⟩,rfl,rfl⟩,(dq.get' d).1,λv=>(dq.get' d).2⟩
 | t kvs k h0=>
  obtain⟨a,o,vs,rfl,e,d⟩:=NF h0 hu;cases hz with
  | @tup b us _ e1 r1=>
  have:=Kv r1;subst this;exact⟨a,iW vs k,rfl,.inr ⟨vs,.inr ⟨o,e⟩⟩,.inr ⟨vs,k,b,.inr ⟨o,e⟩,rfl,e1,rfl⟩,(oW.get d).1,λv=>(oW.get d).2⟩
def dgW (d y:PV):W PV:=⟨λQ=>∃v,G7 d y (ap v)/\Q v,λf ⟨v,a,q⟩=>⟨v,a,f _ q⟩⟩
def dgB (a b:W PV):W PV:=.bind a λx=>.bind b λy=>dgW x y
theorem Qv (hu:X.A.units+200 < nn) (ha:EF X K fs a wa) (hb:EF X K fs b wb) (hs:YO b):EF X K fs (.Subscript a b pos) (dgB wa wb):=⟨PE.imp (Sr ∅ ha.p hb.p hs) λσ H Q ⟨sr,q⟩=>⟨sr,wa.mono (λx q1 u1 H1 g1 s1 v1=>⟨s1,wb.mono (λy q2 u2 H2 g2 s2 v2=>by
 obtain⟨v,g,q2⟩:=q2;obtain⟨a,o,rfl,_,g2',_,h⟩:=g.ok (g2.vr s1 v1) v2;obtain⟨w,rfl,vw⟩:=h v rfl;exact⟨a,w,rfl,g2',q2 _ H2 (g1.trans g2) s2 vw⟩) q1⟩) q⟩⟩
def K8 {k:List Key} (h:mC kvs k=ap v) (q:Q v):(dgW (Rj kvs) (.tup (k.map kP))).run Q:=⟨v,by rw [<- h];exact .t kvs k (λz=>by subst z;simp [mC] at h),q⟩
def Pb (d:PV):W (List PV):=⟨λQ=>∃kvs:List (List Key×PV),d=Rj kvs/\kvs≠[]/\kvs.length<=1000/\Q (kvs.map λkv=>.tup (kv.1.map kP)),λf q=>q.imp λkvs h=>⟨h.1,h.2.1,h.2.2.1,f _ h.2.2.2⟩⟩
theorem Tn (h:EF X K fs e w):qW X K fs tg e (.bind w Pb):=⟨PI.imp (Oy h.p) λσ H R ⟨sr,q⟩=>⟨sr,w.mono (λx q1 u1 H1 g1 s1 v1=>by
 obtain⟨kvs,rfl,h0,hl,q1⟩:=q1;obtain⟨a,o,vs,rfl,e,d1,d2⟩:=NF h0 v1;have len:vs.length=kvs.length:=by have:=congrArg B2 d1;simpa using this
 refine⟨a,o,vs,rfl,e,q1 _ H1 g1 s1 ⟨a8 (by simpa using hl),λH' t=>?_⟩⟩;have e':=t.z _ _ _ e;refine⟨λi p hp=>?_,vs,e',by simp [len]⟩;rw [Ae] at hp;cases z:kvs[i]? with
 | none=>rw [z] at hp;cases hp
 | some kv=>
  rw [z] at hp;have hp:=Option.some.inj hp;subst hp;have hi:=(Ak.mp z).1;refine⟨⟨vs,e',by omega⟩,λy H2 yy=>?_⟩;obtain⟨rfl,yy⟩:=yy;obtain⟨b,k,v,rfl,k2,k3⟩:=yy vs e';have ek:k=kv.1:=by
   have h1:(vs.map (·.1))[i]?=ap k:=by rw [Ae,k2];rfl
   rw [d1,Ae,z] at h1;exact (Option.some.inj h1).symm
  subst ek;exact⟨kz.refl _,.tup k3 (Pg _ _)⟩) q⟩⟩
def L4 {Q:List PV->Prop} (h0:kvs≠[]) (hl:kvs.length<=1000) (q:Q (kvs.map λkv=>.tup (kv.1.map kP))):(Pb (Rj kvs)).run Q:=⟨kvs,rfl,h0,hl,q⟩
end
end
end FL
namespace L2
open PySem PySem.Spec PyProof.Rows
section
variable {σ:St}
theorem Inv.Gr (I:Inv X Z σ H s):∀bs:List ci,(∀b∈bs,∃ws,H b=ap (.lst ws))->∃H',Inv X Z σ H' s/\(∀c,c∉bs->H' c=H c)/\∀b∈bs,∃ob ws,H b=ap (.lst ws)/\H' b=ap (.cT ob (.lst ws))
 | [],_=>⟨H,I,λ_ _=>rfl,λb hb=>nomatch hb⟩
 | b::bs,h=>by
  obtain⟨H',I',h1,h2⟩:=Inv.Gr I bs λc hc=>h c (.tail _ hc);by_cases hb:b∈bs
  ·refine⟨H',I',λc hc=>h1 c λz=>hc (.tail _ z),λc hc=>?_⟩;rcases AA.mp hc with rfl | hc
   ·exact h2 _ hb
   ·exact h2 c hc
  ·obtain⟨ws,e⟩:=h b (.head _);obtain⟨ob,I2⟩:=I'.rE ((h1 b hb).trans e);refine⟨_,I2,λc hc=>?_,λc hc=>?_⟩
   ·rw [aD (λz=>by subst z;exact hc (.head _))];exact h1 c λz=>hc (.tail _ z)
   ·by_cases cb:c=b
    ·subst cb;exact⟨ob,ws,e,aW⟩
    ·rcases AA.mp hc with z | hc
     ·exact absurd z cb
     ·obtain⟨Xh,pZ,e1,e2⟩:=h2 c hc;exact⟨Xh,pZ,e1,by rw [aD cb];exact e2⟩
open Classical in
theorem Inv.NI {f:ci->List V} (J:Inv X Z σ H s):∀bs:List ci,(∀b∈bs,∃ob,H b=ap (.cT ob (.lst (f b))))->(∀b∈bs,∀o u,X.H₀ b≠ap (.cT o u))->Inv X Z σ (λc=>if c∈bs then ap (.lst (f c)) else H c) s
 | [],_,_=>by
  have:(λc=>if c∈([]:List ci) then ap (HO.lst (f c)) else H c)=H:=funext λc=>if_neg (by simp);rw [this];exact J
 | b::bs,h,h0=>by
  have J2:=Inv.NI J bs (λc hc=>h c (.tail _ hc)) λc hc=>h0 c (.tail _ hc);by_cases hb:b∈bs
  ·have:(λc=>if c∈b::bs then ap (HO.lst (f c)) else H c)=λc=>if c∈bs then ap (.lst (f c)) else H c:=funext λc=>by
    by_cases z:c=b
    ·subst z;rw [if_pos (.head _),if_pos hb]
    ·by_cases y:c∈bs
     ·rw [if_pos (.tail _ y),if_pos y]
     ·rw [if_neg (λx=>(AA.mp x).elim z y),if_neg y]
   rw [this];exact J2
  ·obtain⟨ob,e⟩:=h b (.head _);have e2:(λc=>if c∈bs then ap (HO.lst (f c)) else H c) b=ap (.cT ob (.lst (f b))):=by show (if b∈bs then _ else _)=_;rw [if_neg hb];exact e
   have hk:=vT J2.bK e2;have J3:=J2.ZH e2 (h0 b (.head _)) (hk b _ aW) hk;have:(λc=>if c∈b::bs then ap (HO.lst (f c)) else H c)=upd (λc=>if c∈bs then ap (HO.lst (f c)) else H c) b (.lst (f b)):=funext λc=>by
    by_cases z:c=b
    ·subst z;rw [if_pos (.head _),aW]
    ·rw [aD z];by_cases y:c∈bs
     ·rw [if_pos (.tail _ y),if_pos y]
     ·rw [if_neg (λx=>(AA.mp x).elim z y),if_neg y]
   rw [this];exact J3
end
end L2
namespace FL
section
open PySem PySem.Spec PyProof.Rows L2 PL
variable {K:Ab}
section
variable {bs:List ci}{ls:List (List PV)}
def jo (sr:aX K H σ fs) (hs:fs[i]?=ap (ap (.rk bs ls))):∃a,σ[i]?=ap (ap (.ref a))/\iV K H a (.rk bs ls):=by
 obtain⟨u,e1,r⟩:=sr.at' i _ hs;rcases r with⟨v,e,_⟩ | ⟨a,e,r⟩
 ·cases e
 ·subst e;exact⟨a,e1,r⟩
theorem QE:∀{bs:List ci}{ls:List (List PV)},bs.length=ls.length->(∀(j:Nat) (b:ci) (l:List PV),bs[j]?=ap b->ls[j]?=ap l->VR K [] H' (.ref b) (.cl l))->aO K [] H' (bs.map V.ref) (ls.map PV.cl)
 | [],[],_,_=>.nil
 | [],_::_,h,_=>by simp at h
 | _::_,[],h,_=>by simp at h
 | b::bs,l::ls,h,hv=>.cons (hv 0 b l rfl rfl) (QE (by simpa using h) λj b l h1 h2=>hv (j+1) b l (by simpa using h1) (by simpa using h2))
def ach (I:Inv X Z σ H s) (sr:aX K H σ fs) (hs:fs[i]?=ap (ap (.rk bs ls))):∃H',Inv X Z σ H' s/\aX K H' σ (fs.set i (ap (.ol bm (ls.map PV.cl))))/\cM σ fs H σ (fs.set i (ap (.ol bm (ls.map PV.cl)))) H'/\(∀c,H c=bm->H' c=bm)/\
  ∀σ' s' H1,Inv X Z σ' H1 s'->di σ (fs.set i (ap (.ol bm (ls.map PV.cl)))) H' H1->aX K H1 σ (fs.set i (ap (.ol bm (ls.map PV.cl))))->∃H2,Inv X Z σ' H2 s'/\di σ fs H H2/\aX K H2 σ fs/\(∀p vs,H1 p=ap (.tup vs)->H2 p=ap (.tup vs))/\∀p vs,H p=bm->H1 p=ap (.lst vs)->H2 p=ap (.lst vs):=by
 obtain⟨a,e1,q1,q2,q3,q4,q5⟩:=jo sr hs;have inn:∀b∈bs,∃ws,H b=ap (.lst ws):=λb hb=>by
  obtain⟨j,hj⟩:=CU hb;have h1:=(Ak.mp hj).1;obtain⟨ws,e,_⟩:=q5 j b _ hj (Ad (by rw [<- q4];exact h1));exact⟨ws,e⟩
 obtain⟨H',I',k1,k2⟩:=I.Gr bs inn;have tk:bB K H H':=⟨λb vs z=>by
  by_cases c:b∈bs
  ·obtain⟨ws,e⟩:=inn b c;rw [e] at z;cases z
  ·rw [k1 b c];exact z,λb o u z=>by
  by_cases c:b∈bs
  ·obtain⟨ws,e⟩:=inn b c;rw [e] at z;cases z
  ·rw [k1 b c];exact z⟩
 have aV:∀c,H c=bm->H' c=bm:=λc z=>by
  by_cases y:c∈bs
  ·obtain⟨ws,e⟩:=inn c y;rw [e] at z;cases z
  ·rw [k1 c y];exact z
 have it:∀{t:SL},(ap t:Option SL)=ap (.ol bm (ls.map PV.cl))->t=.ol bm (ls.map PV.cl):=λz=>by injection z
 have s2:aX K H' σ (fs.set i (ap (.ol bm (ls.map PV.cl)))):=by
  refine⟨by simp [sr.len],λj t z=>?_,λj k t u b1 b2 b z1 z2 o1 o2=>?_⟩
  ·rcases bo z with⟨rfl,rfl⟩ | ⟨n,z⟩
   ·refine⟨_,e1,.inr ⟨a,rfl,by simp,bs.map V.ref,by rw [k1 a q2];exact q1,QE q4 λj b l h1 h2=>?_⟩⟩;obtain⟨ob,ws,f1,f2⟩:=k2 b (A7 h1);obtain⟨pZ,f3,f4⟩:=q5 j b l h1 h2;rw [f1] at f3;cases f3;exact .cl (.inl ⟨ob,f2⟩) (aO.tk tk f4)
   ·obtain⟨u,h1,h2⟩:=sr.at' j t z;exact⟨u,h1,h2.mono tk (λx b o eb ow hb zz=>by
     subst eb;rw [k1 b (λy=>n (sr.nd j i t _ x a b z hs ow rfl h1 e1 hb (.inr y)))];exact zz)⟩
  ·intro y1 y2 w1 w2;have f:∀{j:Nat}{t:SL}{c:ci},(fs.set i (ap (.ol bm (ls.map PV.cl))))[j]?=ap (ap t)->t.own=true->σ[j]?=ap (ap (.ref c))->t.has c b->∃t',fs[j]?=ap (ap t')/\t'.own=true/\t'.has c b:=λ{j t c} z ow y hb=>by
    rcases bo z with⟨rfl,rfl⟩ | ⟨n,z⟩
    ·refine⟨_,hs,rfl,?_⟩;rcases hb with hb | hb
     ·exact .inl hb
     ·cases hb
    ·exact⟨t,z,ow,hb⟩
   obtain⟨t',a1,a2,a3⟩:=f z1 o1 y1 w1;obtain⟨u',c1,c2,c3⟩:=f z2 o2 y2 w2;exact sr.nd j k t' u' b1 b2 b a1 c1 a2 c2 y1 y2 a3 c3
 have pf:∀φ b,fe σ (fs.set i (ap (.ol bm (ls.map PV.cl)))) φ b->fe σ fs φ b:=λφ b ⟨j,z1,z3⟩=>by
  rcases bo z1 with⟨_,z⟩ | ⟨n,z1⟩
  ·cases z
  ·exact⟨j,z1,z3⟩
 have pb:∀φ b,fe σ fs φ b->fe σ (fs.set i (ap (.ol bm (ls.map PV.cl)))) φ b:=λφ b ⟨j,z1,z3⟩=>by
  have ji:j≠i:=λy=>by subst y;rw [hs] at z1;cases z1
  exact⟨j,by rw [aL ji];exact z1,z3⟩
 have npb:∀b∈bs,∀φ,¬fe σ fs φ b:=λb hb φ ⟨j,z1,z3⟩=>by
  have:=sr.nd j i _ _ b a b z1 hs rfl rfl z3 e1 (.inl rfl) (.inr hb);subst this;rw [hs] at z1;cases z1
 have gf:cM σ fs H σ (fs.set i (ap (.ol bm (ls.map PV.cl)))) H':=by
  refine⟨λb o z n=>⟨?_,λy=>?_⟩,λb z=>?_,λb φ z=>.inl (pb φ b z)⟩
  ·rw [k1 b (λy=>n ⟨i,_,a,hs,rfl,e1,.inr y⟩)];exact z
  ·obtain⟨j,t,x,z1,z2,z3,z4⟩:=y;rcases bo z1 with⟨rfl,rfl⟩ | ⟨m,z1⟩
   ·rcases z4 with z4 | z4
    ·exact n ⟨j,_,x,hs,rfl,z3,.inl z4⟩
    ·cases z4
   ·exact n ⟨j,t,x,z1,z2,z3,z4⟩
  ·by_cases c:b∈bs
   ·obtain⟨ob,ws,f1,f2⟩:=k2 b c;rw [f2] at z;cases z
   ·rw [k1 b c] at z;exact z
 refine⟨H',I',s2,gf,aV,λσ' s' H1 J g s1=>?_⟩
 classical
 have fz:∀b∈bs,∃ob,H1 b=ap (.cT ob (.lst ((match H b with | some (.lst ws)=>ws | _=>[]):List V))):=λb hb=>by
  obtain⟨ob,ws,f1,f2⟩:=k2 b hb;rw [f1];exact⟨ob,g.keep b _ f2 λφ p=>npb b hb φ (pf φ b p)⟩
 have h0:∀b∈bs,∀o u,X.H₀ b≠ap (.cT o u):=λb hb o u z=>by
  have:=I.base.qN b o u z;obtain⟨ws,e⟩:=inn b hb;rw [e] at this;cases this
 have J2:=Inv.NI (f:=λb=>match H b with | some (.lst ws)=>ws | _=>[]) J bs fz h0;have u0:∀b∈bs,(λc=>if c∈bs then ap (HO.lst (match H c with | some (.lst ws)=>ws | _=>[])) else H1 c) b=H b:=λb hb=>by
  obtain⟨ws,e⟩:=inn b hb;show (if b∈bs then _ else _)=_;rw [if_pos hb,e]
 have Ga:∀b,b∉bs->(λc=>if c∈bs then ap (HO.lst (match H c with | some (.lst ws)=>ws | _=>[])) else H1 c) b=H1 b:=λb hb=>by
  show (if b∈bs then _ else _)=_;rw [if_neg hb]
 generalize (λc=>if c∈bs then ap (HO.lst (match H c with | some (.lst ws)=>ws | _=>[])) else H1 c)=H2 at J2 u0 Ga;have ge:di σ fs H H2:=by
  refine⟨λb o z n=>?_,λb z=>?_⟩
  ·by_cases c:b∈bs
   ·rw [u0 b c];exact z
   ·rw [Ga b c];exact g.keep b o (by rw [k1 b c];exact z) λφ p=>n φ (pf φ b p)
  ·by_cases c:b∈bs
   ·rw [u0 b c] at z;exact z
   ·rw [Ga b c] at z;have:=g.there b z;rw [k1 b c] at this;exact this
 refine⟨H2,J2,ge,⟨sr.len,λj t z=>?_,sr.nd⟩,λp vs z=>?_,λp vs n z=>?_⟩
 ·obtain⟨u,m1,m2⟩:=sr.at' j t z;refine⟨u,m1,?_⟩;by_cases c:∃φ,t=.kM φ
  ·obtain⟨φ,rfl⟩:=c;have ji:j≠i:=λy=>by subst y;rw [hs] at z;cases z
   rcases m2 with⟨v,y,_⟩ | ⟨b,rfl,_⟩
   ·cases y
   ·obtain⟨vs,y1,y2⟩:=s1.ownAt (t:=.kM φ) (i:=j) (by rw [aL ji];exact z) rfl m1;refine .inr ⟨b,rfl,vs,?_,y2⟩;rw [Ga b (λy=>npb b y φ ⟨j,z,m1⟩)];exact y1
  ·refine m2.mono (ge.eQ sr) (λx b o eb ow hb zz=>ge.keep b o zz λφ ⟨j',p1,p3⟩=>?_);subst eb;have:=sr.nd j j' t _ x b b z p1 ow rfl m1 p3 hb (.inl rfl);subst this;rw [z] at p1;cases p1;exact c ⟨φ,rfl⟩
 ·rw [Ga p (λy=>by obtain⟨ob,f⟩:=fz p y;rw [f] at z;cases z)];exact z
 ·rw [Ga p (λy=>by obtain⟨ws,e⟩:=inn p y;rw [e] at n;cases n)];exact z
end
section
variable {a e2:ga}{rest:List tt}{se:Pos}{T:Type}{out:T->End}{w w1 w2:W PV}{bs:List ci}{ls:List (List PV)}
def K5 (i:Nat) (hs:fs[i]?=ap (ap (.rk bs ls))) (h:EF X K (fs.set i (ap (.ol bm (ls.map PV.cl)))) e w):EF X K fs e (.bind w sd):=⟨λZ s σ H Q I ⟨sr,q⟩=>by
 obtain⟨H',I2,s2,_,_,Ê⟩:=ach I sr hs;refine bE (h.p Z s σ _ (λu H1=>∃v,di σ (fs.set i (ap (.ol bm (ls.map PV.cl)))) H' H1/\aX K H1 σ (fs.set i (ap (.ol bm (ls.map PV.cl))))/\VR K [] H1 u v/\v.dat=true/\∀u H',di σ fs H H'->aX K H' σ fs->VR K [] H' u v->Q u H') I2 ⟨s2,w.mono (λv q1 u H1 g1 s1 v1=>⟨v,g1,s1,v1,q1.1,q1.2⟩) q⟩) λu s1 ⟨x,H1,I1,r1,v,g1,R0,v1,d,q1⟩=>?_;obtain⟨H2,I3,g3,s3,t3,_⟩:=Ê σ s1 H1 I1 g1 R0;exact⟨x,_,I3,r1,q1 x _ g3 s3 (VR.ki t3 v1 d)⟩⟩
def SF.abH (i:Nat) {Rb:List tt}{wt:W T} (hs:fs[i]?=ap (ap (.rk bs ls))) (hr:SF X K x (fs.set i (ap (.ol bm (ls.map PV.cl)))) Rb wt out):SF X K x fs Rb wt out:=⟨λZ s σ H D I ⟨sr,q⟩=>by
 obtain⟨H',I2,s2,gf,_,_⟩:=ach I sr hs;exact hr.p Z s σ _ D I2 ⟨s2,wt.mono (λt q3=>q3.go gf sr s2) q⟩⟩
def SF.Z7 {k:W T} (hN:X.N.Nodup) (hi:X.N[i]?=ap y) (hx:Loc X.env.scope y) (hr:SF X K x (fs.set i (ap (.rk [] []))) rest k out) (hs:lc (.List [] p2) (ap (.Name y p')) pos.line X.env=pure false:=by rfl)
  (hf:Nw X y:=by first | exact .inl rfl | exact .inr rfl | assumption):SF X K x fs (.Assign [.Name y p'] (.List [] p2) pos::rest) k out:=SF.step (sF hN hi hx (Ke cy) hs hf) λD σ H ⟨sr,q⟩=>⟨Bb _,λa H1 s1 e1 n1=>by
 have no:=sr.noOwn n1;have oa:iV K H1 a (.rk [] []):=⟨e1,by simp,by simp,rfl,λj b l h=>by simp at h⟩;have s2:=(sr.same s1).sE (t:=.rk [] []) oa no i;exact⟨_,k,hr,s2,k.mono (λt q2=>q2.go (cM.sE (sr.same s1) (cM.same s1 sr) no n1 i) sr s2) q⟩⟩
def Tj (ls:List (List PV)):PV->W (Nat×List PV)
 | .int k=>.OT ((oh ls.length k).bind λj=>(ls[j]?).map λl=>(j,l))
 | _=>.fail
theorem SF.QS (i:Nat) {k:List ci->List (List PV)->W T} (hs:fs[i]?=ap (ap (.rk bs ls))) (hK:X.K=K) (hN:X.N[i]?=ap y) (hv:yN X.env.scope y) (he:LF X K fs e wl) (hr:∀Ē Xr,SF X K x (fs.set i (ap (.rk Ē Xr))) rest (k Ē Xr) out)
  (hd:jh y:=by decide) (iY:y9 y:=by decide) (dW:pc (.Name y p) "append" X.env (kw (.Name y p) X.env)=kw (.Name y p) X.env:=by rfl)
  (m5:VP X bS [e]:=by rfl)
  (dU:Q8 Â bS:=by rfl) (qI:gR X e []:=by rfl) (eE:kL X bS []:=by rfl)
  (qH:lc (.Call (.Attribute (.Name y p) "append" Â) [e] [] bS) bm pos.line X.env=pure false:=by rfl) :
  SF X K x fs (.Expr (.Call (.Attribute (.Name y p) "append" Â) [e] [] bS) pos::rest) (.bind wl λl=>.fD (ls.length < sizeLine) (.bind (.any λ_=>True) λĒ=>.bind (.ret (ls++[l])) λXr=>k Ē Xr)) out:=
 SF.step (nR (ph K hK BC Ew Eu sR (dz hN hv hd iY) (bc he.p cy qI) dW m5 dU qI eE) qH) λD σ H ⟨sr,q⟩=>by
  obtain⟨a,e1,q1,q2,q3,q4,q5⟩:=jo sr hs;refine⟨_,e1,.inl ⟨rfl,_,dc.of q1⟩,sr,wl.mono (λl ql b vs H1 g1 s1 nb eb vl=>?_) q⟩;obtain⟨a',nu,r1,r2,r3,r4,r5⟩:=jo s1 hs;rw [e1] at nu;cases nu;refine⟨a,_,_,rfl,rfl,r1,by rw [Ag,r4];exact ql.1,λH2 sx h2=>?_⟩;have hq:=ql.2 (bs++[b]) trivial;have Ha:H a≠bm:=λz=>by rw [q1] at z;cases z
  have ab:a≠b:=λz=>Ha (z▸nb);have bin:∀c∈bs,∃ws,H c=ap (.lst ws):=λc hc=>by
   obtain⟨j,hj⟩:=CU hc;obtain⟨ws,e,_⟩:=q5 j c _ hj (Ad (by rw [<- q4];exact (Ak.mp hj).1));exact⟨ws,e⟩
  have bn:b∉bs:=λz=>by obtain⟨ws,e⟩:=bin b z;rw [nb] at e;cases e
  have nbo:=sr.noOwn nb;have tk:bB K H1 H2:=⟨λc us z=>sx c _ (λw=>by subst w;rw [r1] at z;cases z) z,λc o u z=>sx c _ (λw=>by subst w;rw [r1] at z;cases z) z⟩;have oa:iV K H2 a (.rk (bs++[b]) (ls++[l])):=by
   refine⟨by rw [h2,AU];rfl,λz=>?_,?_,by simp [r4],λj c l' h1 h3=>?_⟩
   ·rcases AY.mp z with z | z
    ·exact r2 z
    ·exact ab (by simpa using z)
   ·exact Cv.mpr ⟨r3,by simp,λu hu v hv w=>by simp at hv;subst hv;subst w;exact bn hu⟩
   ·rcases iZ h1 with h1 | ⟨rfl,rfl⟩
    ·rcases iZ h3 with h3 | ⟨rfl,rfl⟩
     ·obtain⟨ws,f1,f2⟩:=r5 j c l' h1 h3;exact⟨ws,sx c _ (λz=>by subst z;exact r2 (A7 h1)) f1,aO.tk tk f2⟩
     ·have:=(Ak.mp h1).1;omega
    ·rcases iZ h3 with h3 | ⟨_,rfl⟩
     ·have:=(Ak.mp h3).1;omega
     ·exact⟨vs,sx c _ (BL ab) eb,aO.tk tk vl⟩
  have X5:∀c,(SL.rk (bs++[b]) (ls++[l])).has a c->(SL.rk bs ls).has a c\/c=b:=λc h=>by
   rcases h with h | h
   ·exact .inl (.inl h)
   ·rcases AY.mp (show c∈bs++[b] from h) with h | h
    ·exact .inl (.inr h)
    ·exact .inr (by simpa using h)
  have s2:aX K H2 σ (fs.set i (ap (.rk (bs++[b]) (ls++[l])))):=by
   refine⟨by simp [s1.len],λj t z=>?_,λj k t u b1 b2 c z1 z2 o1 o2 y1 y2 w1 w2=>?_⟩
   ·rcases bo z with⟨rfl,rfl⟩ | ⟨n,z⟩
    ·exact⟨_,e1,.inr ⟨a,rfl,oa⟩⟩
    ·obtain⟨u,m1,m2⟩:=s1.at' j t z;exact⟨u,m1,m2.mono tk (λx c o ec ow hc zz=>sx c o (λw=>by subst ec;subst w;exact n (s1.nd j i t _ x c c z hs ow rfl m1 e1 hc (.inl rfl))) zz)⟩
   ·have OW:∀{j:Nat}{t:SL}{c':ci},fs[j]?=ap (ap t)->t.own=true->σ[j]?=ap (ap (.ref c'))->¬t.has c' b:=λ{j t c'} m1 m2 m3 m4=>nbo ⟨j,t,c',m1,m2,m3,m4⟩;rcases bo z1 with⟨rfl,rfl⟩ | ⟨n1,v1⟩ <;> rcases bo z2 with⟨m,rfl⟩ | ⟨n2,v2⟩
    ·exact m.symm
    ·rw [e1] at y1;cases y1;rcases X5 c w1 with w1 | w1
     ·exact s1.nd _ k _ u _ b2 c hs v2 rfl o2 e1 y2 w1 w2
     ·exact absurd (w1▸w2) (OW v2 o2 y2)
    ·subst m;rw [e1] at y2;cases y2;rcases X5 c w2 with w2 | w2
     ·exact s1.nd j _ t _ b1 _ c v1 hs o1 rfl y1 e1 w1 w2
     ·exact absurd (w2▸w1) (OW v1 o1 y1)
    ·exact s1.nd j k t u b1 b2 c v1 v2 o1 o2 y1 y2 w1 w2
  have g2:cM σ fs H σ (fs.set i (ap (.rk (bs++[b]) (ls++[l])))) H2:=by
   refine⟨λc o z n=>⟨sx c o (λw=>by subst w;exact n ⟨i,_,c,hs,rfl,e1,.inl rfl⟩) (g1.qf z n),λyy=>?_⟩,λc z=>?_,λc φ z=>?_⟩
   ·obtain⟨j,t,x,z1,z2,z3,z4⟩:=yy;rcases bo z1 with⟨rfl,rfl⟩ | ⟨m,z1⟩
    ·rw [e1] at z3;cases z3;rcases X5 c z4 with z4 | rfl
     ·exact n ⟨j,_,_,hs,rfl,e1,z4⟩
     ·rw [nb] at z;cases z
    ·exact n ⟨j,t,x,z1,z2,z3,z4⟩
   ·refine g1.there c ?_;cases zz:H1 c with
    | none=>rfl
    | some o=>
     by_cases ca:c=a
     ·subst ca;rw [h2] at z;cases z
     ·rw [sx c o ca zz] at z;cases z
   ·obtain⟨j,p1,p2⟩:=z;have ji:j≠i:=λw=>by subst w;rw [hs] at p1;cases p1
    exact .inl ⟨j,by rw [aL ji];exact p1,p2⟩
  exact⟨_,k _ _,hr _ _,s2,(k _ _).mono (λt q2=>q2.go g2 sr s2) hq⟩
theorem SF.Z8 (i:Nat) {k:List (List PV)->W T} (hs:fs[i]?=ap (ap (.rk bs ls))) (hK:X.K=K) (hN:X.N[i]?=ap y) (hv:yN X.env.scope y) (he:EF X K fs e we) (h1:EF X K fs e1 w1) (h2:EF X K fs e2 w2) (uZ:rM e1) (hr:∀Xr,SF X K x (fs.set i (ap (.rk bs Xr))) rest (k Xr) out)
  (ha:∀v,wT (.Subscript (.Subscript (.Name y p) e1 se) e2 gn) X.env v=(do
   let ov <- r9 [v] (kw (.Subscript (.Name y p) e1 se) X.env)
   let iv <- r9 [v,ov] (kw e2 X.env)
   FM gn
   r9 [v,ov,iv] (Db ov iv v)
   release [v,ov,iv] []):=by intro _;rfl)
  (hd:jh y:=by decide) (iY:y9 y:=by decide) (î:wE [.Subscript (.Subscript (.Name y p) e1 se) e2 gn] e pos.line X.env=pure false:=by rfl) (hw:wP [.Subscript (.Subscript (.Name y p) e1 se) e2 gn] e X.env=pure bm:=by rfl)
  (Ĳ:(wf [.Subscript (.Subscript (.Name y p) e1 se) e2 gn] X.env).map (·.2)=[wT (.Subscript (.Subscript (.Name y p) e1 se) e2 gn) X.env]:=by rfl) :
  SF X K x fs (.Assign [.Subscript (.Subscript (.Name y p) e1 se) e2 gn] e pos::rest) (.bind we λv=>.bind w1 λn=>.bind (Tj ls n) λjl=>.bind w2 λm=>.bind (gq jl.2 m v) λl'=>.bind (.ret (ls.set jl.1 l')) k) out:=
 SF.step (xn he.p (Oz (OD (Kz K hK) (dz hN hv hd iY) h1.p uZ) h2.p o6 ha) î hw Ĳ) λD σ H ⟨sr,q⟩=>by
  refine⟨sr,we.mono (λv qv u H1 g1 s1 v1=>?_) q⟩;obtain⟨a,nu,q1,q2,q3,q4,q5⟩:=jo s1 hs;refine⟨_,nu,s1,w1.mono (λn qn u2 H2 g2 s2 v2=>?_) qv⟩;obtain⟨a2,Ys,r1,r2,r3,r4,r5⟩:=jo s2 hs;rw [nu] at Ys;cases Ys;cases v2 with
  | int kk=>
   have qn:(W.OT ((oh ls.length kk).bind λj=>(ls[j]?).map λl=>(j,l))).run _:=qn;cases hj:oh ls.length kk with
   | none=>rw [hj] at qn;exact qn.elim
   | some j=>
    have jl:=(xR hj).2.1;have hl:ls[j]?=ap ls[j]:=Ad jl;rw [hj] at qn;simp only [Option.bind_some] at qn;rw [hl] at qn;have qn:(am w2 λm=>.bind (gq ls[j] m v) λl'=>.bind (.ret (ls.set j l')) k).run _:=qn;have hb:bs[j]?=ap (bs[j]'∅):=Ad ∅;generalize bs[j]'∅=b at hb;generalize ls[j]=l at hl qn;have hix:cq (bs.map V.ref) kk=ap (.ref b):=by
     unfold cq;rw [Ag,r4,hj];show (bs.map V.ref)[j]?=_;rw [Ae,hb];rfl
    refine .inl ⟨a,_,kk,.ref b,rfl,rfl,dc.of r1,hix,s2,w2.mono (λm qm u3 H3 g3 s3 v3=>?_) qn⟩;obtain⟨a3,VI,p1,p2,p3,p4,p5⟩:=jo s3 hs;rw [nu] at VI;cases VI;cases v3 with
    | int k2=>
     have qm:(match oh l.length k2 with | some j2=>bd (l.set j2 v) | none=>W.fail).run _:=qm;cases Pt:oh l.length k2 with
     | none=>rw [Pt] at qm;exact qm.elim
     | some j2=>
      rw [Pt] at qm;obtain⟨ws,f1,f2⟩:=p5 j b l hb hl;refine⟨b,ws,k2,j2,rfl,rfl,f1,by rw [f2.length];exact Pt,λH4 sx h4=>?_⟩;have ŀ:=A7 hb;have ab:a≠b:=λz=>p2 (z▸ŀ);obtain⟨s4,g4⟩:=qb (t':=.rk bs (ls.set j (l.set j2 v))) s3 hs rfl (by simp) nu (c:=b) (.inr ŀ) (.inr ŀ) (λc h=>h) rfl sx λtk=>by
       refine⟨sx a _ ab p1,p2,p3,by simp [p4],λj' b' l' m1 m2=>?_⟩;by_cases c:j'=j
       ·subst c;rw [hb] at m1;cases m1;rw [Bw ∅] at m2;cases m2;exact⟨_,h4,aO.tk tk (f2.set ((g2.trans g3).vr s1 v1) j2)⟩
       ·rw [Bd (BL c)] at m2;obtain⟨pZ,f3,f4⟩:=p5 j' b' l' m1 m2;refine⟨pZ,sx b' _ (λz=>?_) f3,aO.tk tk f4⟩;subst z;have h1:=Ak.mp hb;have h2:=Ak.mp m1;exact c ((EI p3).mp (h2.2.trans h1.2.symm))
      exact⟨_,k _,hr _,s4,(k _).mono (λt q3=>q3.go (((g1.trans g2).trans g3).f.trans g4) sr s4) qm⟩
    | _=>exact qm.elim
  | _=>exact qn.elim
end
end
end FL
variable {κ:PyProof.Rows.SortKind}{vs:List Ba}{p:Array Nat}
namespace L2
open PySem PySem.Spec PyProof.Rows
def fg (N:Nat) (P:α->Prop):DW α->Prop
 | .ret a=>P a
 | .ask i j k=>i < N/\j < N/\∀b,fg N P (k b)
theorem fg.mono {N:Nat}{P P':α->Prop} (h:∀a,P a->P' a):∀{t:DW α},fg N P t->fg N P' t
 | .ret a,q=>h a q
 | .ask i j k,q=>⟨q.1,q.2.1,λb=>fg.mono h (q.2.2 b)⟩
theorem fg.bind {N:Nat}{P:α->Prop}{P':β->Prop}{f:α->DW β} (hf:∀a,P a->fg N P' (f a)):∀{t:DW α},fg N P t->fg N P' (t.bind f)
 | .ret a,q=>hf a q
 | .ask i j k,q=>⟨q.1,q.2.1,λb=>fg.bind hf (q.2.2 b)⟩
theorem fg.wp {N:Nat}{P:α->Prop}{cmp:Nat->Nat->(Bool->cr->Prop)->cr->Prop}{Q:α->cr->Prop} (hc:∀i j C,i < N->j < N->(∀b,C b s)->cmp i j C s) (hq:∀a,P a->Q a s):∀{t:DW α},fg N P t->t.kasWp cmp Q s
 | .ret a,q=>hq a q
 | .ask i j k,q=>hc i j _ q.1 q.2.1 λb=>fg.wp hc hq (q.2.2 b)
def dh (N:Nat) (p:Array Nat):Prop:=p.toList.Perm (Ax N)
def dh.lt {N:Nat} (h:dh N p) (h0:0 < N) (k:Nat):p.getD k 0 < N:=by
 by_cases c:k < p.size
 ·have:p.getD k 0=p[k]:=by simp [Array.getD,c]
  rw [this];exact Aw.mp (h.mem_iff.mp (by simp))
 ·have:p.getD k 0=0:=by simp [Array.getD,c]
  rw [this];exact h0
def dh.rev {N:Nat} (h:dh N p) (i j:Nat):dh N (E1 p i j):=(Ej.mp (mirror_perm p i j _)).trans h
def dh.bub {N:Nat} (h:dh N p) (i j:Nat):dh N (bubble p i j):=(Ej.mp (bubble_perm p i j)).trans h
section
variable {N:Nat} (h0:0 < N)
include h0
theorem Pf (h:dh N p):∀f n,fg N (λ_=>True) (PySem.W.kas_asc p f n)
 | 0,n=>trivial
 | f+1,n=>⟨h.lt h0 _,h.lt h0 _,λb=>by
  cases b with
  | true=>exact trivial
  | false=>exact Pf h f (n+1)⟩
theorem xN:∀f (p:Array Nat) n q,dh N p->fg N (λr=>dh N r.1) (PySem.W.kas_desc f p n q)
 | 0,p,n,q,h=>h
 | f+1,p,n,q,h=>⟨h.lt h0 _,h.lt h0 _,λb=>by
  cases b with
  | true=>
   show fg N _ (if q > 0 then _ else _)
   split
   ·exact xN f _ _ _ (h.rev _ _)
   ·exact xN f _ _ _ h
  | false=>exact⟨h.lt h0 _,h.lt h0 _,λb=>by
    cases b with
    | true=>exact h
    | false=>exact xN f _ _ _ h⟩⟩
def Pd {m:Nat} (h:dh N p):fg N (λr=>dh N r.2) (PySem.W.kas_tail3 n m p):=by
 exact fg.bind (N:=N) (P:=λ_=>True) (P':=λr:Nat×Array Nat=>dh N r.2) (f:=λk=>.ret (k,E1 p 0 n)) (λk _=>(show dh N (E1 p 0 n) from h.rev _ _)) (Pf h0 (h.rev _ _) _ _)
def Pe {m:Nat} (h:dh N p):fg N (λr=>dh N r.2) (PySem.W.kas_descPart n m p):=fg.bind (λr hr=>by
 split
 ·exact Pd h0 (hr.rev _ _)
 ·exact Pd h0 hr) (xN h0 _ _ _ _ h)
def Tg {m:Nat} (h:dh N p):fg N (λr=>dh N r.2) (PySem.W.kas_count m p):=fg.bind (λn _=>by
 split
 ·exact h
 ·split
  ·exact⟨h.lt h0 _,h.lt h0 _,λb=>by
    cases b with
    | true=>exact h
    | false=>exact Pe h0 (h.rev _ _)⟩
  ·exact Pe h0 h) (Pf h0 h _ _)
theorem xM (h:dh N p) (k:Nat):∀f l r,fg N (λ_=>True) (PySem.W.kas_place p k f l r)
 | 0,l,r=>trivial
 | f+1,l,r=>by
  show fg N _ (if l≥r then _ else _)
  split
  ·exact trivial
  ·exact⟨h.lt h0 _,h.lt h0 _,λb=>by
    cases b with
    | true=>exact xM h k f _ _
    | false=>exact xM h k f _ _⟩
theorem Vk:∀f (p:Array Nat) k,dh N p->fg N (dh N) (PySem.W.kas_bin f p k)
 | 0,p,k,h=>h
 | f+1,p,k,h=>fg.bind (λl _=>Vk f _ _ (h.bub _ _)) (xM h0 h k _ _ _)
def XM:fg N (dh N) (FQ N):=fg.bind (λr hr=>by
 split
 ·exact Vk h0 _ _ _ hr
 ·exact hr) (Tg h0 (List.Perm.refl _))
end
section
theorem HZ {P:PySem.Fin->cr->Prop} (ho:s.heap.get? a=ap (t0 "list" vs.toArray n)) (ø:vs.length < 64)
  (Ĺ:2<=vs.length->∀h',(∀b o,b≠a->s.heap.get? b=ap o->h'.get? b=ap o)->db (dL prog w) A (keyKind' vs.toArray) (λk s'=>k=κ/\s'={s with heap:=h'}) (λ_ _=>False) {s with heap:=h'})
  (j8:∀h',(∀b o,b≠a->s.heap.get? b=ap o->h'.get? b=ap o)->∀i j,i < vs.length->j < vs.length->∀C:Bool->cr->Prop,(∀b,C b {s with heap:=h'})->db (dL prog w) A (keyLt' κ (vs.getD i AX) (vs.getD j AX)) C (λ_ _=>False) {s with heap:=h'})
  (h:∀out:List bv,out.Perm vs->P (.done (.ret .none)) {s with heap:=sortedHeap s.heap a vs out.toArray}) :
  db (dL prog w) A (BT.«list.sort» ⟨[.ref a],[]⟩) P E s:=by
 rw [list_sort_plain];have ha:=Au ho;refine Aa (listItems_at ho rfl ?_);refine Aa (listUpdate_at ho rfl ?_);obtain⟨e1,ho1⟩:∃e1,(s.heap.update a (Bq λ_=>#[])).get? a=ap (t0 "list" #[] e1):=⟨_,get?_update_seq ho (λ_=>#[])⟩;refine Aa (seqEpoch_at ho1 rfl ?_);refine Aa (CT ?_);refine Aa (wpAny_newList ?_);refine Bi ?_;have Ċ:(((s.heap.update a (Bq λ_=>#[])).push (t0 "tuple" vs.toArray 0)).push (t0 "list" #[] 0)).get? a=ap (t0 "list" #[] e1):=by
  rw [Heap.get?_push_ne _ _ _ (by rw [size_push',EA];exact AM (Di ha)),Heap.get?_push_ne _ _ _ (by rw [EA];exact AM ha)];exact ho1
 have kp:∀b o,b≠a->s.heap.get? b=ap o->(((s.heap.update a (Bq λ_=>#[])).push (t0 "tuple" vs.toArray 0)).push (t0 "list" #[] 0)).get? b=ap o:=λb o n e=>Aj _ (Aj _ (by rw [Fs _ _ _ _ n];exact e));dsimp only;have hsz:vs.toArray.size=vs.length:=by simp
 by_cases h2:vs.toArray.size < 2
 ·rw [if_pos h2,if_pos h2];refine Aa (Ah ?_);refine Aa (Ah ?_);dsimp only;refine Aa (seqEpoch_at Ċ rfl ?_);refine Aa (listUpdate_at Ċ rfl ?_ (hsz2:=by rw [Array.size_map];show (pairsOf vs).size<=_;rw [pairsOf_size,sizeLine_eq];omega));simp only [bne_self_eq_false,An,if_false];refine Ah ?_;have e:(arrOf (SortSt.mk' general' (vs.toArray.zip vs.toArray) #[] 7 bm)).map (·.2)=vs.toArray:=by
   apply EM.mp;simp [List.map_snd_zip]
  show P _ {s with heap:=_};rw [e];exact h vs (List.Perm.refl _)
 ·rw [if_neg h2,if_neg h2];have uI:2<=vs.length:=by omega
  refine Aa (BW (Ĺ uI _ kp) (λk s0 hk=>?_) λ_ _ x=>x.elim);obtain⟨rfl,rfl⟩:=hk;have hw:(FQ vs.length).kasWp (PySem.W.kas_ask prog w A k vs) (λp s'=>dh vs.length p/\s'={s with heap:=((s.heap.update a (Bq λ_=>#[])).push (t0 "tuple" vs.toArray 0)).push (t0 "list" #[] 0)}) {s with heap:=((s.heap.update a (Bq λ_=>#[])).push (t0 "tuple" vs.toArray 0)).push (t0 "list" #[] 0)}:=
   fg.wp (λi j C hi hj hC=>j8 _ kp i j hi hj C hC) (λp hp=>⟨hp,rfl⟩) (XM (show 0 < vs.length by omega))
  refine Aa (BW (PySem.W.kat_run (Q:=λnr s'=>∃p:Array Nat,dh vs.length p/\arrOf nr=p.map (PySem.W.kas_item (vs.toArray.zip vs.toArray))/\failedOf nr=bm/\s'={s with heap:=((s.heap.update a (Bq λ_=>#[])).push (t0 "tuple" vs.toArray 0)).push (t0 "list" #[] 0)})
   rfl uI ø (λp' nr s' a1 a2 a3 a4=>⟨p',a4.1,a2,a3,a4.2⟩) hw) ?_ λ_ _ e=>e)
  rintro⟨⟨⟩,nr⟩ s' ⟨p,hp,har,hf,rfl⟩;have Ga:=PySem.W.kat_snds rfl har;have Vq:(p.toList.map λi=>vs.getD i AX).Perm vs:=by
   have e:(Ax vs.length).map (λi=>vs.getD i AX)=vs:=by
    apply A1;intro i;by_cases c:i < vs.length
    ·rw [Ae,AR c,Ad c];show ap (vs.getD i AX)=_;rw [Al,Ad c];rfl
    ·rw [Av (by simp;omega),Av ∅]
   have:=hp.map (λi=>vs.getD i AX);rw [e] at this;exact this
  rw [Ga];refine Aa (seqEpoch_at Ċ rfl ?_);refine Aa (listUpdate_at Ċ rfl ?_ (hsz2:=by rw [Ai,Vq.length_eq,sizeLine_eq];omega));rw [hf];simp only [bne_self_eq_false,An,if_false];exact Ah (h _ Vq)
def RP {l:ci}{Q:bv->cr->Prop} (hl:s.heap.IsList l vs.toArray) (ø:vs.length < 64)
  (Ĺ:2<=vs.length->∀h',(∀b o,s.heap.get? b=ap o->h'.get? b=ap o)->db (dL prog w) A.in1.in1 (keyKind' vs.toArray) (λk s'=>k=κ/\s'={s with heap:=h'}) (λ_ _=>False) {s with heap:=h'})
  (j8:∀h',(∀b o,s.heap.get? b=ap o->h'.get? b=ap o)->∀i j,i < vs.length->j < vs.length->∀C:Bool->cr->Prop,(∀b,C b {s with heap:=h'})->db (dL prog w) A.in1.in1 (keyLt' κ (vs.getD i AX) (vs.getD j AX)) C (λ_ _=>False) {s with heap:=h'})
  (h:∀out:List bv,out.Perm vs->Q (.ref (s.heap.objs.size+1)) {s with heap:=sortedAll s.heap vs out.toArray}) :
  db (dL prog w) A (call (.builtin "sorted") [.ref l]) Q E s:=by
 refine Calls.call_function_entry kind_sorted plain_sorted entry_sorted (args_sorted1 _) ?_;refine Aa (m:=checkCount "sorted" 1 1 _) (Ah ?_);refine Aa (collect_list hl ?_);refine Aa (wpAny_newList ?_);have hsz:((s.heap.push (t0 "list" #[] 0)).update s.heap.objs.size (Bq (·++vs.toArray))).objs.size=s.heap.objs.size+1:=by
  rw [EA,size_push']
 have ĉ:(((s.heap.push (t0 "list" #[] 0)).update s.heap.objs.size (Bq (·++vs.toArray))).push (t0 "list" vs.toArray 0)).get? (s.heap.objs.size+1)=ap (t0 "list" vs.toArray 0):=by
  rw [<- hsz];exact Aq _ rfl
 have kp:∀b o,s.heap.get? b=ap o->b≠s.heap.objs.size+1/\(((s.heap.push (t0 "list" #[] 0)).update s.heap.objs.size (Bq (·++vs.toArray))).push (t0 "list" vs.toArray 0)).get? b=ap o:=λb o e=>by
  have lt:=Au e;refine⟨AM (Di lt),Aj _ ?_⟩;rw [Fs _ _ _ _ (AM lt)];exact Aj _ e
 show db _ _ _ _ _ {s with heap:=((s.heap.push (t0 "list" #[] 0)).update s.heap.objs.size (Bq (·++vs.toArray))).push (t0 "list" vs.toArray 0)};rw [hsz];refine Aa (Bi (Bl slot_list_sort ⟨_,ĉ,rfl⟩ entry_list_sort (HZ (κ:=κ) ĉ ø (λh2 h' k=>?_) (λh' k=>?_) λout hp=>⟨_,rfl,?_⟩) (args_list_sort _)))
 ·exact Ĺ h2 h' λb o e=>k b o (kp b o e).1 (kp b o e).2
 ·exact j8 h' λb o e=>k b o (kp b o e).1 (kp b o e).2
 ·exact Ah ⟨_,rfl,h out hp⟩
end
end L2
variable {x:PL.PV}{i j:Int}{p:CB}{t1:PySem.Tok}
namespace FL
section
open PySem PySem.Spec PyProof.Rows L2 PL
variable {K:Ab}
def pJ:PV->Bool
 | .tup [.str _,.tup [.int _,.int _]]=>true
 | _=>false
def Ij (h:pJ x=true):∃s i j,x=.tup [.str s,.tup [.int i,.int j]]:=by
 unfold pJ at h
 split at h
 ·exact⟨_,_,_,rfl⟩
 ·cases h
section
def Um (I:Inv X Z σ H s) {v:V}{u:bv} (hv:VR X.K [] H v x) (ru:RelV v u) (hx:pJ x=true):∃(a b:ci) (st:Str) (i j:Int) (t t1 t2:Tok) (oa ob:Obj) (na nb:Nat),u=.ref a/\s.heap.get? a=ap oa/\oa.cls=.type "tuple"/\oa.data=.seq #[.str st t,.ref b] na/\s.heap.get? b=ap ob/\ob.cls=.type "tuple"/\ob.data=.seq #[.int i t1,.int j t2] nb:=by
 obtain⟨st,i,j,rfl⟩:=Ij hx;cases hv with
 | @tup p vs _ e r=>
 cases ru;cases r with
 | cons r1 r2=>
 cases r1;cases r2 with
 | cons r2 r3=>
 cases r3;cases r2 with
 | @tup b ws _ e2 r4=>
 cases r4 with
 | cons r4 r5=>
 cases r4;cases r5 with
 | cons r5 r6=>
 cases r6;cases r5;obtain⟨au,rv,⟨o,h1,h2,n,h3⟩,_⟩:=I.tuple (d9.of (K:=X.K) e);obtain⟨cK,rv2,⟨o2,k1,k2,n2,k3⟩,_⟩:=I.tuple (d9.of (K:=X.K) e2);cases rv with
 | cons q1 q2=>
 cases q2 with
 | cons q2 q3=>
 cases q3;cases rv2 with
 | cons m1 m2=>
 cases m2 with
 | cons m2 m3=>
 cases m3;obtain⟨t,rfl⟩:=q1;cases q2;obtain⟨t1,rfl⟩:=m1;obtain⟨t2,rfl⟩:=m2;exact⟨p,b,st,i,j,t,t1,t2,o,o2,n,n2,rfl,h1,h2,h3,k1,k2,k3⟩
end
theorem Uk {b a' b':ci}{st nr:Str}{i' j':Int}{t t2 t' Z0 ZY:Tok}{oa YZ Xh:Obj}{na nb na' ġ:Nat} (hu:A.units+1 < nn)
  (h1:s.heap.get? a=ap oa) (h3:oa.data=.seq #[.str st t,.ref b] na) (k1:s.heap.get? b=ap ob) (k2:ob.cls=.type "tuple") (k3:ob.data=.seq #[.int i t1,.int j t2] nb)
  (iA:s.heap.get? a'=ap YZ) (Iu:YZ.data=.seq #[.str nr t',.ref b'] na') (Ħ:s.heap.get? b'=ap Xh) (ĥ:Xh.cls=.type "tuple") (Ĥ:Xh.data=.seq #[.int i' Z0,.int j' ZY] ġ)
  {C:Bool->cr->Prop} (hC:∀b,C b s):db (dL prog w) A (keyLt' (tuples' true) (.ref a) (.ref a')) C (λ_ _=>False) s:=by
 refine PySem.W.kat_lt h1 h3 iA Iu (FP (Dp.str_str st t nr t' prog w _ _ (PySem.W.kat_go (λ_=>PySem.W.kat_yes ?_) λ_=>PySem.W.kat_no ?_)))
 ·refine FP ?_;have hT:s.heap.IsTuple b #[.int i t1,.int j t2]:=⟨ob,k1,k2,nb,k3⟩;have hT':s.heap.IsTuple b' #[.int i' Z0,.int j' ZY]:=⟨Xh,Ħ,ĥ,ġ,Ĥ⟩;have go:∀e,PySem.W.KatGo prog w A true (decide ((#[D3 st t,.ref b]:Array bv).size < (#[D3 nr t',.ref b']:Array bv).size)) C (.ref b) (.ref b') [] 1 e s:=λe=>PySem.W.kat_go (λ_=>PySem.W.kat_yes (PySem.W.kat_nil (hC _))) λ_=>PySem.W.kat_no (PySem.W.kat_one _ _ (HT.HX hT hT' (.cons i t1 (.cons j t2 .nil)) (.cons i' Z0 (.cons j' ZY .nil)) ∅ (hC _)));by_cases c:b=b'
  ·subst c;exact FY (.ref b) prog w _ _ (go _)
  ·refine FD c (FG (e:=λk=>if k=0 then i==i' else j==j') hT hT' ∅ λk g1 g2=>?_) prog w _ _ (go _);have:k=0\/k=1:=by simp at g1;omega
   rcases this with rfl | rfl
   ·exact D7 i t1 i' Z0
   ·exact D7 j t2 j' ZY
 ·exact oneLt_str (hC _)
section
def Wx (K:Ab):List V->Hp->VK->Prop:=λxs H Q=>∃(p:ci) (vs:List V) (l:List PV),xs=[.ref p]/\dc K H p vs/\aO K [] H vs l/\l.length < 64/\l.all pJ=true/\∀m:List PV,m.Perm l->∀ws,aO K [] H ws m->lx H (.lst ws) Q
def OC {vs:List V}{out:List bv} (r:Vals vs us) (v:aO K [] H vs l) (p:out.Perm us):∃ws m,Vals ws out/\aO K [] H ws m/\m.Perm l:=by
 induction p generalizing vs l with
 | nil=>cases r;cases v;exact⟨[],[],.nil,.nil,.refl _⟩
 | cons x p ih=>
  cases r with
  | cons r1 r2=>
  cases v with
  | cons v1 v2=>
  obtain⟨ws,m,a,b,c⟩:=ih r2 v2;exact⟨_::ws,_::m,.cons r1 a,.cons v1 b,.cons _ c⟩
 | swap x y l'=>
  cases r with
  | cons r1 r2=>
  cases r2 with
  | cons r2 r3=>
  cases v with
  | cons v1 v2=>
  cases v2 with
  | cons v2 v3=>exact⟨_::_::_,_::_::_,.cons r2 (.cons r1 r3),.cons v2 (.cons v1 v3),.swap _ _ _⟩
 | trans p1 p2 ih1 ih2=>
  obtain⟨ws,m,a,b,c⟩:=ih2 r v;obtain⟨pZ,m',a',b',c'⟩:=ih1 a b;exact⟨pZ,m',a',b',c'.trans c⟩
theorem Jh (hK:X.K=K) (hu:X.A.units+200 < nn):bW X (.builtin "sorted") (Wx K):=by
 subst hK;intro Z s σ H xs us Q I r h;obtain⟨p,vs,l,rfl,hq,hv,ø,hd,q⟩:=h;obtain⟨u,rfl,rx⟩:=vals1 r;cases rx;obtain⟨au,r',pl,hz⟩:=I.list hq;have hl:=r'.length;have Mf:=hv.length;have el:∀i,i < au.length->∃(a b:ci) (st:Str) (i1 j1:Int) (t t1 t2:Tok) (oa ob:Obj) (na nb:Nat),au.getD i AX=.ref a/\s.heap.get? a=ap oa/\oa.cls=.type "tuple"/\oa.data=.seq #[.str st t,.ref b] na/\s.heap.get? b=ap ob/\ob.cls=.type "tuple"/\ob.data=.seq #[.int i1 t1,.int j1 t2] nb:=λi hi=>by
  have e1:vs[i]?=ap vs[i]:=Ad ∅;obtain⟨x,ex,vx⟩:=hv.abE e1;have hx:=CF.mp hd x (A7 ex);have ru:RelV vs[i] (au.getD i AX):=by
   obtain⟨u,ĭ,Ĭ⟩:=Vals.get r' e1;rw [Al,ĭ];exact Ĭ
  exact Um I vx ru hx
 refine RP (κ:=tuples' true) pl.isList ∅ (λh2 h' kp=>?_) (λh' kp i j hi hj C hC=>?_) λout hp=>?_
 ·have Þ:∀l:List bv,(∀v∈l,∃(a:ci) (x:bv) (st:Str) (t:Tok) (oa:Obj) (na:Nat),v=.ref a/\h'.get? a=ap oa/\oa.cls=.type "tuple"/\oa.data=.seq #[.str st t,x] na)->∃fs,PySem.W.KatTups h' l fs/\fs.length=l.length/\∀v∈fs,∃st t,v=D3 st t:=by
   intro l
   induction l with
   | nil=>intro _;exact⟨[],trivial,rfl,by simp⟩
   | cons v l ih=>
    intro hl;obtain⟨fs,f1,f2,f3⟩:=ih λy hy=>hl y (.tail _ hy);obtain⟨a,x,st,t,oa,na,rfl,g1,g2,g3⟩:=hl v (.head _);refine⟨.str st t::fs,PySem.W.KatTups.cons g1 g2 g3 rfl f1,by simp [f2],λy hy=>?_⟩;rcases AA.mp hy with rfl | hy
    ·exact⟨st,t,rfl⟩
    ·exact f3 y hy
  obtain⟨fs,f1,f2,f3⟩:=Þ au λv hv=>by
   obtain⟨i,hi,rfl⟩:=CA hv;obtain⟨a,b,st,i1,j1,t,t1,t2,oa,ob,na,nb,e,h1,h2,h3,_⟩:=el i hi;rw [Al,Ad hi] at e;exact⟨a,.ref b,st,t,oa,na,e,kp _ _ h1,h2,h3⟩
  refine PySem.W.kat_kind (T:=.type "str") f1 ∅ (λv hv=>?_) ⋯ ⟨rfl,rfl⟩;obtain⟨st,t,rfl⟩:=f3 v hv;exact PySem.W.Looks.now
 ·obtain⟨a,b,st,i1,j1,t,t1,t2,oa,ob,na,nb,e,h1,h2,h3,k1,k2,k3⟩:=el i hi;obtain⟨a',b',nr,i1',j1',t',Z0,ZY,YZ,Xh,na',ġ,e',iA,uI,Iu,Ħ,ĥ,Ĥ⟩:=el j hj;rw [e,e'];exact Uk (s:={s with heap:=h'}) (by show X.A.units+1+1+1 < _;omega) (kp _ _ h1) h3 (kp _ _ k1) k2 k3 (kp _ _ iA) Iu (kp _ _ Ħ) ĥ Ĥ hC
 ·obtain⟨ws,m,a1,a2,a3⟩:=OC r' hv hp;obtain⟨e,he⟩:=sortedAll_at s.heap au out.toArray;refine⟨.ref (s.heap.objs.size+1),_,I.laid (t':=s.toks) (λ_ _=>sortedAll_old) (Fj _) (show bu X.prog X.w _ _ _ (.lst ws) from⟨?_,out,e,a1,he⟩),rfl,(q m a3 ws a2).at _ (I.bK.fresh (Fj _))⟩;rw [a2.length,a3.length_eq];rw [<- Mf];exact hz
def NY (l:List PV):W (List PV):=.fD (l.length < 64/\l.all pJ=true) (.any λm=>m.Perm l)
def S8 (hK:X.K=K) (hu:X.A.units+200 < nn) (hg:Gl X "sorted") (hm:X.mg "sorted"=bm) (ha:yV X K fs e wl) (he:gR X e []:=by rfl) (dI:kL X pos []:=by rfl):LF X K fs (.Call (.Name "sorted" p) [e] [] pos) (.bind wl NY):=
 ⟨PE.imp (eT (Jh hK hu) hg hm boot_sorted (bc ha.p cy he) ⋯ ⋯ he dI) λσ H Q ⟨sr,q⟩=>⟨sr,wl.mono (λl q1 u1 H1 g1 s1 _ v1=>by
  obtain⟨⟨c1,c2⟩,q2⟩:=q1;obtain⟨a,vs,rfl,h1,r1⟩:=v1 H1 .refl s1;exact⟨a,vs,l,rfl,h1,r1,c1,c2,λm hm ws hw=>Ko g1 s1 hw (q2 m hm)⟩) q⟩⟩
end
end
end FL
variable {x:BZ}
namespace FL
section
open PySem PySem.Spec PyProof.Rows L2 PL
variable {K:Ab}
structure TupK (K:Ab) (a:ci) (ts:List Str):Prop where
 ex:∃(o:Obj) (au:Array bv) (n:Nat),K.lookup a=ap o/\o.cls=.type "tuple"/\o.data=.seq au n/\au.size<=sizeLine/\Vals (ts.map V.str) au.toList
def tup3K {z:Str}{t2 t3:Tok} (h:K.lookup a=ap ⟨.type "tuple",od,.seq #[.str x t1,.str y t2,.str z t3] n,Rf⟩):TupK K a [x,y,z]:=⟨_,_,_,h,rfl,rfl,a8 (by show 3<=_;decide),.cons ⟨_,rfl⟩ (.cons ⟨_,rfl⟩ (.cons ⟨_,rfl⟩ .nil))⟩
section
theorem strs_vr (H:Hp):∀ts:List Str,aO K [] H (ts.map V.str) (ts.map PV.str)
 | []=>.nil
 | t::ts=>.cons (.str t) (strs_vr H ts)
def it_mt (hK:X.K=K) {ts:List Str} (hm:X.mg x=ap (.ref a)) (T:TupK K a ts) (hg:Gl X x:=by rfl) (hd:jh x:=by decide):qW X K fs tg (.Name x pos) (.ret (ts.map PV.str)):=⟨by
 subst hK;intro Z s σ H R I ⟨sr,q⟩;have sq:∀H',d9 X.K H' a (ts.map V.str):=λ_=>.inr T.ex;refine bE (rf hg hm (v:=.ref a) rfl hd Z s σ H (λu H1=>u=.ref a/\H1=H) I ⟨rfl,rfl⟩) λv s1 ⟨x,H1,I1,r1,e1,e2⟩=>?_;subst e1;subst e2;cases r1;obtain⟨au,rv,pl,hz⟩:=I1.tuple (sq _);have jf:JF X.K H1 (Itt X.K a) (ts.map PV.str):=⟨by rw [Ag] at hz ⊢;exact hz,λH' t=>by
  have e2:=strs_vr (K:=X.K) H' ts;refine⟨λi p hp=>?_,_,sq H',by rw [e2.length];exact Ao _⟩;obtain⟨v,h3,h4⟩:=e2.get hp;refine⟨⟨_,v,sq H',h3⟩,λx H3 y=>?_⟩;obtain⟨rfl,y⟩:=y;have:=y _ (sq _);rw [h3] at this;cases this;exact⟨kz.refl _,h4⟩⟩
 refine C7 (show s1.heap.IsTuple a au.toArray from pl) ?_;refine⟨s1.heap.objs.size,[s1.heap.objs.size],_,_,H1,rfl,I1.kept (t':=s1.toks) λb o e=>Aj _ e,rT a _,⟨_,Aq _ rfl,rfl,rfl⟩,λb hb=>?_,q _ H1 .refl sr jf⟩;have e:b=s1.heap.objs.size:=by simpa using hb
 subst e;exact I1.va (Ao _) (I1.bK.fresh (Ao _))⟩
end
end
open PySem PySem.Spec PyProof.Rows L2 PL
def gZ (ns:List Int):Prop:=∃g s c:Int,ns=[g,s,c]/\0<=g/\0<=s/\s < 2305843009213693951/\0<=c
def drawn (m:Int):W PV:=.any λv=>∃d:Int,v=.int d/\0<=d/\d < m
def bz:PV->W PV
 | .int m=>.fD (0 < m/\m<=2000) (drawn m)
 | _=>.fail
def pq:of2 (aI g) (.int i) (.int j)=.ret (g i j):=wS λQ=>⟨CG,λq=>⟨rfl,q⟩⟩
def rm {C:Int->Int->Prop}:of2 (YJ C g) (.int i) (.int j)=.fD (C i j) (.ret (g i j)):=wS λQ=>⟨λq=>⟨q.1,q.2.2⟩,λq=>⟨q.1,rfl,q.2⟩⟩
section
variable (i j:Int) (a b:Bool) (x y:PV) (l m:List PV) (s t:Str)
@[simp] theorem pR:of2 pw (.int i) (.int j)=.ret (.int (i-j)):=pq
@[simp] theorem Qd:of2 pz (.int i) (.int j)=.fD (wv i j) (.ret (.int (i*j))):=rm
@[simp] theorem afW:of2 oDiv (.int i) (.int j)=.fD (UQ i j) (.ret (.int (i / j))):=rm
@[simp] theorem Qe:of2 oMod (.int i) (.int j)=.fD (0 < j) (.ret (.int (i % j))):=rm
@[simp] theorem Yi:of2 zV (.int i) (.int j)=.fD (Q7 i j) (.ret (.int (i ^ j.toNat))):=rm
@[simp] theorem Gz:of2 oLt (.int i) (.int j)=.ret (.bl (decide (i < j))):=pq
@[simp] theorem Qf:of2 oLe (.int i) (.int j)=.ret (.bl (decide (i<=j))):=pq
@[simp] theorem VC:of2 oGt (.int i) (.int j)=.ret (.bl (decide (j < i))):=pq
@[simp] theorem abV:of2 oGe (.int i) (.int j)=.ret (.bl (decide (j<=i))):=pq
@[simp] theorem abU:of2 Vn (.int i) (.int j)=.ret (.int (i+j)):=pq
def uc:of2 dQ x y=.fD (Mu x y) (.ret (.bl (iM x y))):=wS λQ=>⟨λq=>⟨q.1,q.2.2⟩,λq=>⟨q.1,rfl,q.2⟩⟩
def VB:of2 xB x y=.fD (Mu x y) (.ret (.bl (!iM x y))):=wS λQ=>⟨λq=>⟨q.1,q.2.2⟩,λq=>⟨q.1,rfl,q.2⟩⟩
@[simp] theorem afV:of2 aey (.bl a) (.bl b)=.ret (.bl (a==b)):=wS λQ=>⟨CG,λq=>⟨rfl,q⟩⟩
@[simp] theorem v8:of2 nT (.bl a) (.bl b)=.ret (.bl (!(a==b))):=wS λQ=>⟨CG,λq=>⟨rfl,q⟩⟩
@[simp] theorem pS:of2 HH x .aV=.ret (.bl x.mH):=wS λQ=>⟨CG,λq=>⟨rfl,q⟩⟩
@[simp] theorem Yn:of2 SQ (.str s) (.str t)=.ret (.bl (!(Builtin.Str.occurrences t s 0 t.length 1).isEmpty)):=wS λQ=>⟨CG,λq=>⟨rfl,q⟩⟩
def Ym {c:Nat} (h:cq s.cps.toList i=ap c):of2 OV (.str s) (.int i)=.fD (s.length<=sizeLine) (.ret (.str ⟨#[c]⟩)):=wS λQ=>by
 show (s.length<=sizeLine/\match cq s.cps.toList i with | some c=>_/\_ | none=>False)↔_;rw [h];exact⟨λq=>⟨q.1,q.2.2⟩,λq=>⟨q.1,rfl,q.2⟩⟩
@[simp] theorem fV:addW (.int i) (.int j)=.ret (.int (i+j)):=(rfl)
@[simp] theorem K2:addW (.str s) (.str t)=.fD (s.length+t.length<=sizeLine) (.ret (.str (s++t))):=(rfl)
@[simp] theorem yi:addW (.tup l) (.tup m)=.fD (l.length+m.length<=sizeLine) (.ret (.tup (l++m))):=(rfl)
@[simp] theorem ke:nZ (.int i)=.ret (.int (-i)):=(rfl)
@[simp] theorem bA:Zl (.bl a)=.ret a:=(rfl)
@[simp] theorem v9 (w:W PV):lP (.bl true) w=w:=(rfl)
@[simp] theorem Zi (w:W PV):lP (.bl false) w=.ret (.bl false):=(rfl)
@[simp] theorem gL (w:W PV):Nb (.bl true) w=w:=(rfl)
@[simp] theorem K1 (w:W PV):Nb (.bl false) w=.ret (.bl false):=(rfl)
@[simp] theorem Qb (w:W PV):orW (.bl true) w=.ret (.bl true):=(rfl)
@[simp] theorem Qc (w:W PV):orW (.bl false) w=w:=(rfl)
@[simp] theorem Yj:SU (.bl a)=.ret (.bl (!a)):=(rfl)
@[simp] theorem aY:cI (.bl a)=.ret a:=(rfl)
@[simp] theorem adp:cI (.int i)=.ret (i != 0):=(rfl)
@[simp] theorem ado:cI .aV=.ret false:=(rfl)
@[simp] theorem adn:cI (.tup l)=.ret (!l.isEmpty):=(rfl)
@[simp] theorem adq:cI (.cl l)=.ret (!l.isEmpty):=(rfl)
@[simp] theorem ay:aw (.tup l)=.ret l:=(rfl)
@[simp] theorem bC:aw (.cl l)=.ret l:=(rfl)
@[simp] theorem oB:sY (.cl l)=.ret l:=(rfl)
@[simp] theorem bb:KA l (.int i)=.OT (cq l i):=(rfl)
@[simp] theorem ub:pG l=.ret (.int l.length):=(rfl)
@[simp] theorem lM:jR l=.ret (.tup l):=(rfl)
@[simp] theorem abW:blW a=.ret (.bl a):=(rfl)
@[simp] theorem iO:part (.int i)=.ret (ap i):=(rfl)
@[simp] theorem lL:oY (.tup [x,y])=.ret (x,y):=(rfl)
@[simp] theorem Yh (z:PV):un3 (.tup [x,y,z])=.ret (x,y,z):=(rfl)
@[simp] theorem Yg (z u:PV):un4 (.tup [x,y,z,u])=.ret (x,y,z,u):=(rfl)
@[simp] theorem K0 (k:Kd):dC k (.int i)=.ret (.bl (k.is (.int i))):=(rfl)
@[simp] theorem fc (k:Kd):dC k (.str s)=.ret (.bl (k.is (.str s))):=(rfl)
@[simp] theorem d7 (k:Kd):dC k (.tup l)=.ret (.bl (k.is (.tup l))):=(rfl)
@[simp] theorem adx (k:Kd):dC k (.cl l)=.ret (.bl (k.is (.cl l))):=(rfl)
@[simp] theorem ady (k:Kd):dC k (.bl a)=.ret (.bl (k.is (.bl a))):=(rfl)
@[simp] theorem adw (k:Kd):dC k .aV=.ret (.bl (k.is .aV)):=(rfl)
@[simp] theorem cx:qc cY [.tup l]=.ret (.int l.length):=wS λQ=>⟨CG,λq=>⟨rfl,q⟩⟩
@[simp] theorem fR:qc cY [.cl l]=.ret (.int l.length):=wS λQ=>⟨CG,λq=>⟨rfl,q⟩⟩
@[simp] theorem T5:qc cY [.str s]=.fD (s.length<=sizeLine) (.ret (.int s.length)):=wS λQ=>⟨λq=>⟨q.1,q.2.2⟩,λq=>⟨q.1,rfl,q.2⟩⟩
@[simp] theorem Yp:qc QP [.int i]=.ret (.int (if i < 0 then -i else i)):=wS λQ=>⟨CG,λq=>⟨rfl,q⟩⟩
@[simp] theorem adz:qc uA [.int i]=.ret (.int i):=wS λQ=>⟨CG,λq=>⟨rfl,q⟩⟩
@[simp] theorem oC:qc uA [.bl a]=.ret (.int (if a then 1 else 0)):=wS λQ=>⟨CG,λq=>⟨rfl,q⟩⟩
@[simp] theorem Yl:qc QO [.int i,.int j]=.ret (.int (if j > i then j else i)):=wS λQ=>⟨CG,λq=>⟨rfl,q⟩⟩
@[simp] theorem Yk:qc QN [.int i,.int j]=.ret (.int (if j < i then j else i)):=wS λQ=>⟨CG,λq=>⟨rfl,q⟩⟩
@[simp] theorem lN (p q:Option Int):zA (.tup l) p q=.ret (.tup (kK l p q)):=(rfl)
@[simp] theorem ads:Ih (.int i)=.ret (.inl i):=(rfl)
@[simp] theorem T6:Ih (.str s)=.ret (.inr s):=(rfl)
@[simp] theorem gJ:lg (.int j)=.fD (okN 0 j) (.ret (kD 0 j.toNat)):=(rfl)
@[simp] theorem KY (k:Int):J6 (.int i) (.int j) (.int k)=.fD (k = -1/\okN j i) (.ret (mL i (i-j).toNat)):=(rfl)
@[simp] theorem P9:Hz (.str s)=.fD (s.cps.size<=sizeLine) (.ret (s.cps.toList.map λc=>.str ⟨#[c]⟩)):=(rfl)
@[simp] theorem IL:uS (l++[x])=.ret (l,x):=by unfold uS;simp
@[simp] theorem Qa:zF l (.int i)=.fD (-(2 ^ 63)<=i/\i < 2 ^ 63/\l.length*i.toNat<=sizeLine) (.ret (Am i.toNat l).flatten):=(rfl)
@[simp] theorem T9:Kd.is .int (.int i)=true:=(rfl)
@[simp] theorem adu:Kd.is .int (.bl a)=true:=(rfl)
@[simp] theorem adv:Kd.is .bool (.bl a)=true:=(rfl)
@[simp] theorem Ua:Kd.is .bool (.int i)=false:=(rfl)
@[simp] theorem fU:Kd.is .str (.str s)=true:=(rfl)
@[simp] theorem gK:Kd.is .str (.tup l)=false:=(rfl)
@[simp] theorem T8:Kd.is .str (.int i)=false:=(rfl)
@[simp] theorem yh:Kd.is .tup (.tup l)=true:=(rfl)
@[simp] theorem KZ:Kd.is .tup (.str s)=false:=(rfl)
@[simp] theorem T7:Kd.is .tup (.int i)=false:=(rfl)
@[simp] theorem adt:Kd.is .tup (.bl a)=false:=(rfl)
@[simp] theorem da (h0:0 < i) (h1:i<=2000):bz (.int i)=drawn i:=pr ⟨h0,h1⟩
def bD {m:Int} (h:∀d:Int,0<=d->d < m->Q (.int d)):(drawn m).run Q:=λv ⟨d,e,h0,h1⟩=>e▸h d h0 h1
end
namespace W
variable {α β:Type}
def le (a b:W α):Prop:=∀Q,b.run Q->a.run Q
def le.refl (a:W α):a.le a:=λ_ h=>h
def le.of_eq {a b:W α} (h:a=b):a.le b:=h▸le.refl a
def le.ret {a:W α}{v:α}{f:α->W β}{b:W β} (h:a.le (.ret v)) (hf:(f v).le b):(a.bind f).le b:=λQ q=>h _ (hf Q q)
def le.use {a:W α}{v:α}{Q:α->Prop} (h:a.le (.ret v)) (q:Q v):a.run Q:=h _ q
end W
section
variable {S R:Type}
@[simp] theorem abJ (s:S) (f:PV->S->W S):dY [] s f=.ret s:=(rfl)
@[simp] theorem Zc (x:PV) (r:List PV) (s:S) (f:PV->S->W S):dY (x::r) s f=.bind (f x s) λs'=>dY r s' f:=(rfl)
theorem tX {f:PV->S->W S}{Q:S->Prop} (I:List PV->S->Prop):∀{l:List PV}{s:S},I l s->(∀x r s,I (x::r) s->(f x s).run (I r))->(∀s,I [] s->Q s)->(dY l s f).run Q
 | [],s,h0,_,he=>he s h0
 | x::r,s,h0,hs,he=>(f x s).mono (λs' h=>tX I h hs he) (hs x r s h0)
theorem forF_run {f:PV->S->W (Lp S R)}{Q:Lp S R->Prop} (I:List PV->S->Prop):∀{l:List PV}{s:S},I l s->(∀x r s,I (x::r) s->(f x s).run λo=>match o with | .go s'=>I r s' | .out t=>Q (.out t))->(∀s,I [] s->Q (.go s))->(FL.oz l s f).run Q
 | [],s,h0,_,he=>he s h0
 | x::r,s,h0,hs,he=>(f x s).mono (λo h=>match o,h with
  | .go s',h=>forF_run I h hs he
  | .out t,h=>h) (hs x r s h0)
theorem kd {f:PV->S->W S}{Q:S->Prop} (I:Nat->S->Prop) {s:S} (h0:I 0 s) (hs:∀(i:Nat) (x:PV) s,l[i]?=ap x->I i s->(f x s).run (I (i+1))) (he:∀s,I l.length s->Q s):(dY l s f).run Q:=by
 refine tX (λr s=>∃i,i<=l.length/\r=l.drop i/\I i s) ⟨0,Bb _,rfl,h0⟩ (λx r s ⟨i,hi,e,h⟩=>?_) (λs ⟨i,hi,e,h⟩=>?_)
 ·have j8:i < l.length:=by
   rcases CW i l.length with h | h
   ·exact h
   ·rw [EX h] at e;cases e
  rw [Bu j8] at e;injection e with e1 e2;subst e1;exact (f _ s).mono (λs' h'=>⟨i+1,j8,e2,h'⟩) (hs i _ s (Ad j8) h)
 ·have:i=l.length:=by
   have:=congrArg B2 e;rw [Dv] at this;simp at this;omega
  subst this;exact he s h
theorem KR {f:PV->S->W (Lp S R)}{Q:Lp S R->Prop} (I:Nat->S->Prop) {s:S} (h0:I 0 s) (hs:∀(i:Nat) (x:PV) s,l[i]?=ap x->I i s->(f x s).run λo=>match o with | .go s'=>I (i+1) s' | .out t=>Q (.out t)) (he:∀s,I l.length s->Q (.go s)):(FL.oz l s f).run Q:=by
 refine forF_run (λr s=>∃i,i<=l.length/\r=l.drop i/\I i s) ⟨0,Bb _,rfl,h0⟩ (λx r s ⟨i,hi,e,h⟩=>?_) (λs ⟨i,hi,e,h⟩=>?_)
 ·have j8:i < l.length:=by
   rcases CW i l.length with h | h
   ·exact h
   ·rw [EX h] at e;cases e
  rw [Bu j8] at e;injection e with e1 e2;subst e1;exact (f _ s).mono (λo h'=>match o,h' with
   | .go s',h'=>⟨i+1,j8,e2,h'⟩
   | .out t,h'=>h') (hs i _ s (Ad j8) h)
 ·have:i=l.length:=by
   have:=congrArg B2 e;simp at this;omega
  subst this;exact he s h
def oy {f:PV->S->W S}{Q:S->Prop} (I:Nat->S->Prop) {s:S} (h0:I 0 s) (hs:∀(i:Nat) s,i < n->I i s->(f (.int (i:Int)) s).run (I (i+1))) (he:∀s,I n s->Q s):(dY (kD 0 n) s f).run Q:=
 kd I h0 (λi x s hx h=>by obtain⟨hi,rfl⟩:=pL hx;rw [EY];exact hs i s hi h) (λs h=>he s (by rw [jD] at h;exact h))
def PX {f:PV->S->W (Lp S R)}{Q:Lp S R->Prop} (I:Nat->S->Prop) {s:S} (h0:I 0 s) (hs:∀(i:Nat) s,i < n->I i s->(f (.int (i:Int)) s).run λo=>match o with | .go s'=>I (i+1) s' | .out t=>Q (.out t)) (he:∀s,I n s->Q (.go s)):(FL.oz (kD 0 n) s f).run Q:=
 KR I h0 (λi x s hx h=>by obtain⟨hi,rfl⟩:=pL hx;rw [EY];exact hs i s hi h) (λs h=>he s (by rw [jD] at h;exact h))
theorem gU {c:S->W Bool}{b:S->W S}{Q:S->Prop} (I:Nat->S->Prop) {s:S} (h0:I n s) (hs:∀n s,I n s->(c s).run λk=>if k=true then (b s).run (λs'=>∃m,m < n/\I m s') else Q s):(kQ c b s).run Q:=by
 refine⟨n+1,?_⟩;have:∀k n s,n < k->I n s->(mR c b k s).run Q:=by
  intro k
  induction k with
  | zero=>intro n s h;omega
  | succ k ih=>
   intro n s hn h;refine (c s).mono (λz q=>?_) (hs n s h);cases z with
   | true=>exact (b s).mono (λs' ⟨m,hm,h'⟩=>ih m s' ∅ h') (show (b s).run _ from q)
   | false=>exact q
 exact this (n+1) n s ∅ h0
theorem Hj {c:S->W Bool}{b:S->W (Lp S R)}{Q:Lp S R->Prop} (I:Nat->S->Prop) {s:S} (h0:I n s) (hs:∀n s,I n s->(c s).run λk=>if k=true then (b s).run (λo=>match o with | .go s'=>∃m,m < n/\I m s' | .out t=>Q (.out t)) else Q (.go s)):(FL.rS c b s).run Q:=by
 refine⟨n+1,?_⟩;have:∀k n s,n < k->I n s->(jN c b k s).run Q:=by
  intro k
  induction k with
  | zero=>intro n s h;omega
  | succ k ih=>
   intro n s hn h;refine (c s).mono (λz q=>?_) (hs n s h);cases z with
   | true=>exact (b s).mono (λo q=>match o,q with
    | .go s',⟨m,hm,h'⟩=>ih m s' ∅ h'
    | .out t,q=>q) (show (b s).run _ from q)
   | false=>exact q
 exact this (n+1) n s ∅ h0
theorem xE {f:PV->W PV}{g:PV->PV}:∀{l:List PV},(∀x∈l,f x=.ret (g x))->mapW l f=.ret (l.map g)
 | [],_=>rfl
 | x::r,h=>by
  show am (f x) (λy=>am (mapW r f) λl=>bd (y::l))=_;rw [h x (.head _),xE λy hy=>h y (.tail _ hy)];rfl
theorem Ic {g:PV->Option PV}:∀{l:List PV},(∀x∈l,f x=.ret (g x))->kJ l f=.ret (l.filterMap g)
 | [],_=>rfl
 | x::r,h=>by
  show am (f x) (λo=>am (kJ r f) λl=>bd (o.toList++l))=_;rw [h x (.head _),Ic λy hy=>h y (.tail _ hy),BB];cases g x <;> rfl
@[simp] theorem oT (bs:List Bool):yI (bs.map PV.bl)=.ret (.bl (bs.all id)):=by unfold yI;rw [yF];rfl
@[simp] theorem UB (bs:List Bool):QU (bs.map PV.bl)=.ret (.bl (bs.any id)):=by unfold QU;rw [yF];rfl
theorem all_map (f:PV->Bool) (l:List PV):yI (l.map λx=>.bl (f x))=.ret (.bl (l.all f)):=by
 have:(l.map λx=>PV.bl (f x))=(l.map f).map PV.bl:=by rw [AH];rfl
 rw [this,oT,List.all_map];rfl
end
section
variable (i j:Int) (a b:Bool) (x y:PV) (l m:List PV) (s t:Str)
@[simp] theorem P6:iM (.int i) (.int j)=(i==j):=by rw [iM]
@[simp] theorem P5:iM (.str s) (.str t)=(s==t):=by rw [iM]
@[simp] theorem VA:iM (.bl a) (.bl b)=(a==b):=by rw [iM]
@[simp] theorem abN:iM (.tup l) (.tup m)=gI l m:=by rw [iM]
@[simp] theorem aha:iM (.cl l) (.cl m)=gI l m:=by rw [iM]
@[simp] theorem Yc:gI [] []=true:=by rw [gI]
@[simp] theorem Yb:gI (x::l) (y::m)=(iM x y&&gI l m):=by rw [gI]
@[simp] theorem adj:PV.kG (.int i)=true:=by rw [PV.kG] <;> simp
@[simp] theorem afR:PV.kG (.bl a)=true:=by rw [PV.kG] <;> simp
@[simp] theorem adh:PV.kG (.str s)=true:=by rw [PV.kG] <;> simp
@[simp] theorem adi:PV.kG .aV=true:=by rw [PV.kG] <;> simp
@[simp] theorem adg:PV.kG (.tup l)=gh l:=by rw [PV.kG]
@[simp] theorem afQ:PV.kG (.cl l)=gh l:=by rw [PV.kG]
@[simp] theorem abK:gh []=true:=by rw [gh]
@[simp] theorem Zd:gh (x::l)=(PV.kG x&&gh l):=by rw [gh]
@[simp] theorem abR:PV.i9 (.int i)=0:=by rw [PV.i9] <;> simp
@[simp] theorem adm:PV.i9 (.bl a)=0:=by rw [PV.i9] <;> simp
@[simp] theorem abP:PV.i9 (.str s)=0:=by rw [PV.i9] <;> simp
@[simp] theorem abQ:PV.i9 .aV=0:=by rw [PV.i9] <;> simp
@[simp] theorem abO:PV.i9 (.tup l)=eP l+1:=by rw [PV.i9]
@[simp] theorem adl:PV.i9 (.cl l)=eP l+1:=by rw [PV.i9]
@[simp] theorem Zf:eP []=0:=by rw [eP]
@[simp] theorem Yd:eP (x::l)=max (PV.i9 x) (eP l):=by rw [eP]
def GA:Mu (.int i) (.int j):=⟨by simp,by simp,by simp⟩
@[simp] theorem dD:of2 dQ (.int i) (.int j)=.ret (.bl (i==j)):=by rw [uc,pr (GA i j),P6]
@[simp] theorem yg:of2 xB (.int i) (.int j)=.ret (.bl (!(i==j))):=by rw [VB,pr (GA i j),P6]
@[simp] theorem Yo:of2 dQ (.bl a) (.bl b)=.ret (.bl (a==b)):=by rw [uc,pr ⟨by simp,by simp,by simp⟩,VA]
@[simp] theorem afU:of2 xB (.bl a) (.bl b)=.ret (.bl (!(a==b))):=by rw [VB,pr ⟨by simp,by simp,by simp⟩,VA]
end
theorem gc:∀{l:List PV},gh l=true↔∀x∈l,PV.kG x=true
 | []=>by simp
 | x::l=>by rw [gh,AO,gc (l:=l)];simp
theorem gj:∀{l:List PV},(∀x∈l,PV.i9 x<=n)->eP l<=n
 | [],_=>by simp
 | x::l,h=>by
  have h1:=h x (.head _);have h2:=gj (l:=l) λy hy=>h y (.tail _ hy);rw [eP];omega
structure EV where
 P:sK
 w:wn
 K:Ab
 mg:Str->Option bv
 base:nw
structure DF where
 x:Str
 s:tt
 ps:List Str
 k:Nat
 sp:Ab->Sp
abbrev DF.C (d:DF) (v:EV):=UO v.P v.w v.K v.mg v.base d.x d.k d.ps (d.sp v.K)
structure DI (v:EV) (d:DF) where
 f:ci
 fd:EQ
 fn:Rl v.K d.x d.x d.s f fd
 bi:Binds v.K fd d.ps []
 at':v.mg d.x=ap (.ref f)
abbrev DI.O {v:EV}{d:DF} (D:DI v d):Prop:=fH v.P v.w v.K v.mg v.base kN d.k D.f D.fd d.ps (d.sp v.K)
def DI.c {v:EV}{d:DF} (D:DI v d) (h:D.O):d.C v:=⟨D.f,D.fd,h,D.bi,D.fn.kp,D.at'⟩
def DI.cN {v:EV}{d:DF} (D:DI v d) (h:fH v.P v.w v.K v.mg v.base kN k D.f D.fd d.ps sp):UO v.P v.w v.K v.mg v.base d.x k d.ps sp:=⟨D.f,D.fd,h,D.bi,D.fn.kp,D.at'⟩
def DI.cA {v:EV}{d:DF} (D:DI v d) (h:D.O):YU v.P v.w v.K v.mg v.base D.f d.k d.ps (d.sp v.K):=⟨D.fd,h,D.bi,D.fn.kp⟩
structure DX (K:Ab) (x:Str) (st:tt):Prop where
 ex:∃f fd,AJ K d4 x=ap (ap (.ref f))/\Rl K x x st f fd
def dx {K:Ab}{st:tt}{f:ci}{kV:bv} (a:AJ K d4 x=ap (ap (.ref f))) (l:K.lookup f=ap ⟨oc,od,.func (B6 x x (gM st) (bt st) (ag st) .none kV Ç pm an cX ct),Rf⟩)
  (c:D5 K cX x=true) (k:CO K (.ref f)=true):DX K x st:=⟨f,_,a,Ya l c k⟩
def fh {N P:List Str} (h1:sc.kind=.function:=by rfl) (h2:sc.isCoroutine=false:=by rfl) (h3:sc.isGenerator=false:=by rfl) (h4:N.Nodup:=by decide +kernel) (h5:N.take P.length=P:=by rfl) (h6:∀x∈P,sc.names.lookup x=ap .local\/sc.names.lookup x=ap .cell:=by decide +kernel) (h7:∀y∈sc.names,y.2≠.free:=by decide +kernel):aq N P sc:=⟨h1,h2,h3,h4,h5,h6,h7⟩
def lcs {N:List Str} (h1:sc.kind=.function:=by rfl) (h2:∀y∈sc.names,y.2≠.cell:=by decide +kernel) (h3:∀y∈sc.names,y.2=.local->sc.names.lookup y.1=ap .local:=by decide +kernel) (h4:∀y∈sc.names,y.2=.free->(Xs.names.lookup y.1=ap .cell\/Xs.names.lookup y.1=ap .free):=by decide +kernel) (h5:N'.Nodup:=by decide +kernel) (h6:ix.length=N'.length:=by rfl)
  (h7:((ix.zip N').all λp=>match p.1 with | none=>true | some j=>decide (N[j]?=ap p.2)&&decide (sc.names.lookup p.2=ap .free))=true:=by decide +kernel):aA Xs N sc N' ix:=⟨h1,h2,h3,h4,h5,h6,h7⟩
abbrev jL (l:List (Str×zn)):lm:={kind:=.function,names:=(Cs ".0",.local)::l,isGenerator:=false,isCoroutine:=false,more:=[]}
abbrev lo:zn:=.local
abbrev gi:zn:=.globalImplicit
abbrev fr:zn:=.free
section
variable {v:EV}{st:tt}{N:List Str}
def mkV {m:Rm PV n} (D:DI v ⟨x,st,ps,k+1,λK=>eJ K ks (ck n m)⟩) (S:aq N ps (ag st)) (Ã:∀l:List PV,l.length=n->∀(cX:bv) (A:sn) (outer:List Env) (s:cr) (H:Hp) (E:XK),dg k (A.deeper (sB x (ag st) s.heap.objs.size D.f cX))->SF (jG kN v.P v.w v.K v.mg v.base N x (ag st) D.f cX A outer s H E).y6 v.K false (jI ks l N.length) (bt st) (ck n m l) .rt)
  (qJ:ks.length=ps.length:=by rfl) (one:jJ ks:=by repeat' first | exact cO | exact aF (n:=0) | exact aF (n:=1) | exact aF (n:=2) | exact aF (n:=3) | exact aF (n:=4) | exact aF (n:=5) | exact aF (n:=6) | apply eL | apply lj):D.O:=fnV D.fn S qJ one Ã
def mkL {m:Rm (List PV) n} (D:DI v ⟨x,st,ps,k+1,λK=>fo K ks (ck n m)⟩) (S:aq N ps (ag st)) (Ã:∀l:List PV,l.length=n->∀(cX:bv) (A:sn) (outer:List Env) (s:cr) (H:Hp) (E:XK),dg k (A.deeper (sB x (ag st) s.heap.objs.size D.f cX))->SF (jG kN v.P v.w v.K v.mg v.base N x (ag st) D.f cX A outer s H E).y6 v.K false (jI ks l N.length) (bt st) (ck n m l) .rl)
  (qJ:ks.length=ps.length:=by rfl) (one:jJ ks:=by repeat' first | exact cO | exact aF (n:=0) | exact aF (n:=1) | exact aF (n:=2) | exact aF (n:=3) | exact aF (n:=4) | exact aF (n:=5) | exact aF (n:=6) | apply eL | apply lj):D.O:=fnL D.fn S qJ one Ã
def aeF {m:W PV} (D:DI v ⟨x,st,ps,k+1,λK=>eJ K ks (ck 0 m)⟩) (S:aq N ps (ag st)) (Ã:∀(cX:bv) (A:sn) (outer:List Env) (s:cr) (H:Hp) (E:XK),dg k (A.deeper (sB x (ag st) s.heap.objs.size D.f cX))->SF (jG kN v.P v.w v.K v.mg v.base N x (ag st) D.f cX A outer s H E).y6 v.K false (jI ks [] N.length) (bt st) (m) .rt)
  (qJ:ks.length=ps.length:=by rfl) (one:jJ ks:=by repeat' first | exact cO | exact aF (n:=0) | exact aF (n:=1) | exact aF (n:=2) | exact aF (n:=3) | exact aF (n:=4) | exact aF (n:=5) | exact aF (n:=6) | apply eL | apply lj):D.O:=mkV (n:=0) (m:=m) D S (λl hl=>match l,hl with | [],_=>Ã) qJ one
def mB {m:PV->W PV} (D:DI v ⟨x,st,ps,k+1,λK=>eJ K ks (ck 1 m)⟩) (S:aq N ps (ag st)) (Ã:∀(x0:PV) (cX:bv) (A:sn) (outer:List Env) (s:cr) (H:Hp) (E:XK),dg k (A.deeper (sB x (ag st) s.heap.objs.size D.f cX))->SF (jG kN v.P v.w v.K v.mg v.base N x (ag st) D.f cX A outer s H E).y6 v.K false (jI ks [x0] N.length) (bt st) (m x0) .rt)
  (qJ:ks.length=ps.length:=by rfl) (one:jJ ks:=by repeat' first | exact cO | exact aF (n:=0) | exact aF (n:=1) | exact aF (n:=2) | exact aF (n:=3) | exact aF (n:=4) | exact aF (n:=5) | exact aF (n:=6) | apply eL | apply lj):D.O:=mkV (n:=1) (m:=m) D S (λl hl=>match l,hl with | [x0],_=>Ã x0) qJ one
def pB {m:PV->PV->W PV} (D:DI v ⟨x,st,ps,k+1,λK=>eJ K ks (ck 2 m)⟩) (S:aq N ps (ag st)) (Ã:∀(x0:PV) (x1:PV) (cX:bv) (A:sn) (outer:List Env) (s:cr) (H:Hp) (E:XK),dg k (A.deeper (sB x (ag st) s.heap.objs.size D.f cX))->SF (jG kN v.P v.w v.K v.mg v.base N x (ag st) D.f cX A outer s H E).y6 v.K false (jI ks [x0,x1] N.length) (bt st) (m x0 x1) .rt)
  (qJ:ks.length=ps.length:=by rfl) (one:jJ ks:=by repeat' first | exact cO | exact aF (n:=0) | exact aF (n:=1) | exact aF (n:=2) | exact aF (n:=3) | exact aF (n:=4) | exact aF (n:=5) | exact aF (n:=6) | apply eL | apply lj):D.O:=mkV (n:=2) (m:=m) D S (λl hl=>match l,hl with | [x0,x1],_=>Ã x0 x1) qJ one
def O0 {m:PV->PV->PV->W PV} (D:DI v ⟨x,st,ps,k+1,λK=>eJ K ks (ck 3 m)⟩) (S:aq N ps (ag st)) (Ã:∀(x0:PV) (x1:PV) (x2:PV) (cX:bv) (A:sn) (outer:List Env) (s:cr) (H:Hp) (E:XK),dg k (A.deeper (sB x (ag st) s.heap.objs.size D.f cX))->SF (jG kN v.P v.w v.K v.mg v.base N x (ag st) D.f cX A outer s H E).y6 v.K false (jI ks [x0,x1,x2] N.length) (bt st) (m x0 x1 x2) .rt)
  (qJ:ks.length=ps.length:=by rfl) (one:jJ ks:=by repeat' first | exact cO | exact aF (n:=0) | exact aF (n:=1) | exact aF (n:=2) | exact aF (n:=3) | exact aF (n:=4) | exact aF (n:=5) | exact aF (n:=6) | apply eL | apply lj):D.O:=mkV (n:=3) (m:=m) D S (λl hl=>match l,hl with | [x0,x1,x2],_=>Ã x0 x1 x2) qJ one
def aaS {m:PV->PV->PV->PV->PV->W PV} (D:DI v ⟨x,st,ps,k+1,λK=>eJ K ks (ck 5 m)⟩) (S:aq N ps (ag st)) (Ã:∀(x0:PV) (x1:PV) (x2:PV) (x3:PV) (x4:PV) (cX:bv) (A:sn) (outer:List Env) (s:cr) (H:Hp) (E:XK),dg k (A.deeper (sB x (ag st) s.heap.objs.size D.f cX))->SF (jG kN v.P v.w v.K v.mg v.base N x (ag st) D.f cX A outer s H E).y6 v.K false (jI ks [x0,x1,x2,x3,x4] N.length) (bt st) (m x0 x1 x2 x3 x4) .rt)
  (qJ:ks.length=ps.length:=by rfl) (one:jJ ks:=by repeat' first | exact cO | exact aF (n:=0) | exact aF (n:=1) | exact aF (n:=2) | exact aF (n:=3) | exact aF (n:=4) | exact aF (n:=5) | exact aF (n:=6) | apply eL | apply lj):D.O:=mkV (n:=5) (m:=m) D S (λl hl=>match l,hl with | [x0,x1,x2,x3,x4],_=>Ã x0 x1 x2 x3 x4) qJ one
def S1 {m:PV->W (List PV)} (D:DI v ⟨x,st,ps,k+1,λK=>fo K ks (ck 1 m)⟩) (S:aq N ps (ag st)) (Ã:∀(x0:PV) (cX:bv) (A:sn) (outer:List Env) (s:cr) (H:Hp) (E:XK),dg k (A.deeper (sB x (ag st) s.heap.objs.size D.f cX))->SF (jG kN v.P v.w v.K v.mg v.base N x (ag st) D.f cX A outer s H E).y6 v.K false (jI ks [x0] N.length) (bt st) (m x0) .rl)
  (qJ:ks.length=ps.length:=by rfl) (one:jJ ks:=by repeat' first | exact cO | exact aF (n:=0) | exact aF (n:=1) | exact aF (n:=2) | exact aF (n:=3) | exact aF (n:=4) | exact aF (n:=5) | exact aF (n:=6) | apply eL | apply lj):D.O:=mkL (n:=1) (m:=m) D S (λl hl=>match l,hl with | [x0],_=>Ã x0) qJ one
def LW {m:PV->PV->W (List PV)} (D:DI v ⟨x,st,ps,k+1,λK=>fo K ks (ck 2 m)⟩) (S:aq N ps (ag st)) (Ã:∀(x0:PV) (x1:PV) (cX:bv) (A:sn) (outer:List Env) (s:cr) (H:Hp) (E:XK),dg k (A.deeper (sB x (ag st) s.heap.objs.size D.f cX))->SF (jG kN v.P v.w v.K v.mg v.base N x (ag st) D.f cX A outer s H E).y6 v.K false (jI ks [x0,x1] N.length) (bt st) (m x0 x1) .rl)
  (qJ:ks.length=ps.length:=by rfl) (one:jJ ks:=by repeat' first | exact cO | exact aF (n:=0) | exact aF (n:=1) | exact aF (n:=2) | exact aF (n:=3) | exact aF (n:=4) | exact aF (n:=5) | exact aF (n:=6) | apply eL | apply lj):D.O:=mkL (n:=2) (m:=m) D S (λl hl=>match l,hl with | [x0,x1],_=>Ã x0 x1) qJ one
def aaU {m:PV->PV->PV->W (List PV)} (D:DI v ⟨x,st,ps,k+1,λK=>fo K ks (ck 3 m)⟩) (S:aq N ps (ag st)) (Ã:∀(x0:PV) (x1:PV) (x2:PV) (cX:bv) (A:sn) (outer:List Env) (s:cr) (H:Hp) (E:XK),dg k (A.deeper (sB x (ag st) s.heap.objs.size D.f cX))->SF (jG kN v.P v.w v.K v.mg v.base N x (ag st) D.f cX A outer s H E).y6 v.K false (jI ks [x0,x1,x2] N.length) (bt st) (m x0 x1 x2) .rl)
  (qJ:ks.length=ps.length:=by rfl) (one:jJ ks:=by repeat' first | exact cO | exact aF (n:=0) | exact aF (n:=1) | exact aF (n:=2) | exact aF (n:=3) | exact aF (n:=4) | exact aF (n:=5) | exact aF (n:=6) | apply eL | apply lj):D.O:=mkL (n:=3) (m:=m) D S (λl hl=>match l,hl with | [x0,x1,x2],_=>Ã x0 x1 x2) qJ one
def aeG {m:PV->PV->PV->PV->PV->W (List PV)} (D:DI v ⟨x,st,ps,k+1,λK=>fo K ks (ck 5 m)⟩) (S:aq N ps (ag st)) (Ã:∀(x0:PV) (x1:PV) (x2:PV) (x3:PV) (x4:PV) (cX:bv) (A:sn) (outer:List Env) (s:cr) (H:Hp) (E:XK),dg k (A.deeper (sB x (ag st) s.heap.objs.size D.f cX))->SF (jG kN v.P v.w v.K v.mg v.base N x (ag st) D.f cX A outer s H E).y6 v.K false (jI ks [x0,x1,x2,x3,x4] N.length) (bt st) (m x0 x1 x2 x3 x4) .rl)
  (qJ:ks.length=ps.length:=by rfl) (one:jJ ks:=by repeat' first | exact cO | exact aF (n:=0) | exact aF (n:=1) | exact aF (n:=2) | exact aF (n:=3) | exact aF (n:=4) | exact aF (n:=5) | exact aF (n:=6) | apply eL | apply lj):D.O:=mkL (n:=5) (m:=m) D S (λl hl=>match l,hl with | [x0,x1,x2,x3,x4],_=>Ã x0 x1 x2 x3 x4) qJ one
end
section
variable {K:Ab}{WL:W (List PV)}
theorem eC (G:UO X.prog X.w X.K X.mg X.base x k ps (eJ K ks m)) (hr:dg k' X.A) (ha:AF X K fs (e::es) ks B) (hk:k<=k':=by first | exact Dn rfl | exact Ao _ | omega) (hg:Gl X x:=by rfl) (hW:W'=B m:=by rfl) (oq:jh x:=by decide)
  (he:gR X e es:=by rfl) (dI:kL X pos es:=by rfl):EF X K fs (.Call (.Name x p) (e::es) [] pos) W':=Uh G hr hk hg ha hW oq he dI
theorem lC {m:List PV->W (List PV)}{B:(List PV->W (List PV))->W (List PV)} (G:UO X.prog X.w X.K X.mg X.base x k ps (fo K ks m)) (hr:dg k' X.A) (ha:AF X K fs (e::es) ks B) (hk:k<=k':=by first | exact Dn rfl | exact Ao _ | omega) (hg:Gl X x:=by rfl) (hW:WL=B m:=by rfl) (oq:jh x:=by decide)
  (he:gR X e es:=by rfl) (dI:kL X pos es:=by rfl):LF X K fs (.Call (.Name x p) (e::es) [] pos) WL:=Ta G hr hk hg ha hW oq he dI
def de (i:Nat) (hN:X.N.Nodup) (hi:X.N[i]?=ap x:=by rfl) (hx:Loc X.env.scope x:=by first | exact .inl rfl | exact .inr rfl) (hf:Nw X x:=by first | exact .inl rfl | exact .inr rfl | assumption):PG X (.Name x pos) (dJ i):=Sl hN hi hx hf
variable {T:Type}{out:T->End}{rest:List tt}
def sv (i:Nat) {k:PV->W T} (hN:X.N.Nodup) (he:EF X K fs e we) (hr:∀v,SF X K b (fs.set i (ap (.val v))) rest (k v) out) (hi:X.N[i]?=ap y:=by rfl) (hx:Loc X.env.scope y:=by first | exact .inl rfl | exact .inr rfl) (hs:lc e (ap (.Name y p')) pos.line X.env=pure false:=by rfl)
  (hf:Nw X y:=by first | exact .inl rfl | exact .inr rfl | assumption):SF X K b fs (.Assign [.Name y p'] e pos::rest) (.bind we k) out:=SF.set hN hi hx he hr hs hf
def sl (i:Nat) {k:List PV->W T} (hN:X.N.Nodup) (he:LF X K fs e wl) (hr:∀l,SF X K b (fs.set i (ap (.ol bm l))) rest (k l) out) (hi:X.N[i]?=ap y:=by rfl) (hx:Loc X.env.scope y:=by first | exact .inl rfl | exact .inr rfl) (hs:lc e (ap (.Name y p')) pos.line X.env=pure false:=by rfl)
  (hf:Nw X y:=by first | exact .inl rfl | exact .inr rfl | assumption):SF X K b fs (.Assign [.Name y p'] e pos::rest) (.bind wl k) out:=SF.aek hN hi hx he hr hs hf
end
end FL
variable {P:List Ba->Prop}{m:PL.PV->FL.W PL.PV}{d:FL.DF}
namespace FL
open PySem PySem.Spec PyProof.Rows L2 PL
def us1 (h:∀a,P [a]):∀us:List bv,us.length=1->P us
 | [_],_=>h _
def us2 (h:∀a b,P [a,b]):∀us:List bv,us.length=2->P us
 | a::_,e=>us1 (P:=λl=>P (a::l)) (h _) _ (FK.inj e)
def us3 (h:∀a b c,P [a,b,c]):∀us:List bv,us.length=3->P us
 | a::_,e=>us2 (P:=λl=>P (a::l)) (h _) _ (FK.inj e)
def us4 (h:∀a b c d,P [a,b,c,d]):∀us:List bv,us.length=4->P us
 | a::_,e=>us3 (P:=λl=>P (a::l)) (h _) _ (FK.inj e)
def us5 (h:∀a b c d e,P [a,b,c,d,e]):∀us:List bv,us.length=5->P us
 | a::_,e=>us4 (P:=λl=>P (a::l)) (h _) _ (FK.inj e)
def us6 (h:∀a b c d e f,P [a,b,c,d,e,f]):∀us:List bv,us.length=6->P us
 | a::_,e=>us5 (P:=λl=>P (a::l)) (h _) _ (FK.inj e)
def DX.mk2 {v:EV} (D:DX v.K d.x d.s) (X:v.K.In h) (G:h.Ns d4 v.mg)
  (hb:∀(kV Ç pm:bv) (an:Option ci) (cX ct:bv) (us:List bv),us.length=d.ps.length->bindArgs (B6 d.x d.x (gM d.s) (bt d.s) (ag d.s) .none kV Ç pm an cX ct) ⟨us,[]⟩=pure (d.ps.zip us):=by
   first
    | exact λ_ _ _ _ _ _=>us1 λ_=>rfl
    | exact λ_ _ _ _ _ _=>us2 λ_ _=>rfl
    | exact λ_ _ _ _ _ _=>us3 λ_ _ _=>rfl
    | exact λ_ _ _ _ _ _=>us4 λ_ _ _ _=>rfl
    | exact λ_ _ _ _ _ _=>us5 λ_ _ _ _ _=>rfl
    | exact λ_ _ _ _ _ _=>us6 λ_ _ _ _ _ _=>rfl
    | exact λ_ _ _ _ _ _=>us7 λ_ _ _ _ _ _ _=>rfl
    | exact λ_ _ _ _ _ _=>us8 λ_ _ _ _ _ _ _ _=>rfl):Nonempty (DI v d):=by
 obtain⟨f,fd,a,F⟩:=D.ex;exact⟨⟨f,fd,F,F.binds hb,BN X G a⟩⟩
def DX.go {v:EV} (D:DX v.K d.x d.s) (X:v.K.In h) (G:h.Ns d4 v.mg) {P:Prop} (k:∀D:DI v d,D.O) (r:d.C v->P)
  (hb:∀(kV Ç pm:bv) (an:Option ci) (cX ct:bv) (us:List bv),us.length=d.ps.length->bindArgs (B6 d.x d.x (gM d.s) (bt d.s) (ag d.s) .none kV Ç pm an cX ct) ⟨us,[]⟩=pure (d.ps.zip us):=by
   first
    | exact λ_ _ _ _ _ _=>us1 λ_=>rfl
    | exact λ_ _ _ _ _ _=>us2 λ_ _=>rfl
    | exact λ_ _ _ _ _ _=>us3 λ_ _ _=>rfl
    | exact λ_ _ _ _ _ _=>us4 λ_ _ _ _=>rfl
    | exact λ_ _ _ _ _ _=>us5 λ_ _ _ _ _=>rfl
    | exact λ_ _ _ _ _ _=>us6 λ_ _ _ _ _ _=>rfl
    | exact λ_ _ _ _ _ _=>us7 λ_ _ _ _ _ _ _=>rfl
    | exact λ_ _ _ _ _ _=>us8 λ_ _ _ _ _ _ _ _=>rfl):P:=by
 obtain⟨D⟩:=D.mk2 X G hb;exact r (D.c (k D))
def J0 (K:Ab):Sp:=λvs H Q _=>∃(a:ci) (ns:List Int),vs=[.ref a]/\UJ H/\dc K H a (ns.map V.int)/\ns.length<=63/\∀H',Q (.bl true) H'
def S7 {K:Ab} (ok:∀ns:List Int,ns.length<=63->(m (.cl (ns.map PV.int))).run (·=.bl true)):∀vs H Q E,J0 K vs H Q E->eJ K [.v] (ck 1 m) vs H Q E:=λvs H Q E ⟨a,ns,e,hO,hS,hl,q⟩=>by
 subst e;have fz:VQ K H a (ns.map V.int):=by
  rcases hS with (h | ⟨o,h⟩) | h
  ·rcases hO a with z | ⟨o,xs,z⟩
   ·rw [h] at z;cases z
   ·rw [h] at z;cases z
  ·exact .inl ⟨o,h⟩
  ·exact .inr h
 refine⟨[.cl (ns.map PV.int)],.v (.cl fz (oo _ _ ns)) .nil,(m (.cl (ns.map PV.int))).mono (λv e u H' _ r=>?_) (ok ns hl)⟩;subst e;cases r;exact q H'
structure acx (K:Ab) (mg:Str->Option bv) (d:DF):Prop where
 f:∀v:EV,v.K=K->v.mg=mg->∀D:DI v d,D.O
def mkAll {l:E3}{K:Ab}{fa:ci}{st:tt} (ok:∀ns:List Int,ns.length<=63->(m (.cl (ns.map PV.int))).run (·=.bl true)) (X:K.In h) (G:h.Ns d4 mg) (hfa:mg "law"=ap (.ref fa)) (ab4:DX K "law" st)
  (hb:∀(kV Ç pm:bv) (an:Option ci) (cX ct:bv) (us:List bv),us.length=1->bindArgs (B6 "law" "law" (gM st) (bt st) (ag st) .none kV Ç pm an cX ct) ⟨us,[]⟩=pure (([("_law_script":Str)]:List Str).zip us))
  (F:acx K mg ⟨"law",st,["_law_script"],k,λK=>eJ K [.v] (ck 1 m)⟩) :
  ∃fd:EQ,(∀(s:cr) (v:bv),BindsTo s fd ⟨[v],[]⟩ [("_law_script",v)])/\∀base:nw,K.In base->base.Ns d4 mg->fH l.prog w K mg base kN k fa fd ["_law_script"] (J0 K):=by
 obtain⟨f,fd,a,F'⟩:=ab4.ex;have e:=hfa.symm.trans (BN X G a);cases e;have fb:=F'.binds (ps:=["_law_script"]) hb;obtain⟨oc,od,kV,Ç,pm,an,cX,ct,Rf,rfl,_⟩:=id F'.ex;exact⟨B6 "law" "law" (gM st) (bt st) (ag st) .none kV Ç pm an cX ct,λs v=>.of_eq (hb kV Ç pm an cX ct [v] rfl),λbase _ _=>(F.f ⟨l.prog,w,K,mg,base⟩ rfl rfl ⟨_,_,F',fb,hfa⟩).imp (S7 ok)⟩
end FL
namespace My
open PySem PySem.Spec PyProof.Rows L2 PL FL
def jZ (jk:PV):W (List PV):=
 []\λeG=>
 am (jk\λx3=>bd [x3]) λcQ=>
 am (kQ (λs4=>(s4.2\λl5=>bd (!l5.isEmpty))) (λs4=>(
 am (uS s4.2) λt7=>
 t7.2\λx9=>am (kn s4.1 x9) λfF=>
 dG (nH (am (am (bd t7.2) (dC .str)) cI)) (
 am (am (bd t7.2) aw) λTb=>am (t6 t7.1 Tb) λdu=>
 bd (fF,du)) (
 bd (fF,t7.1)))) (eG,cQ)) λs4=>
 (s4.1\λXD=>bd XD.reverse)
def iK (jk:PV):W PV:=
 []\λjS=>
 []\λxF=>
 am (jk\λx3=>jZ x3) λl30=>am (dY l30 (jS,xF) λxr s4=>(
 am (am (am (bd xr) (dC .str)) cI) λb=>am (if b=true then (
 xr\λwN=>am (kn s4.1 wN) λJQ=>
 bd (JQ,s4.2)) else (
 am (uS s4.2) λt20=>
 am (uS t20.1) λt22=>
 am (t22.2\λHh=>t20.2\λzc=>bd (.tup [Hh,zc])) λwK=>am (kn s4.1 wK) λJP=>
 bd (JP,t22.1))) λWt=>
 am (b2 pw (am (bd Wt.1) pG) (bd (.int 1))) λRq=>am (kn Wt.2 Rq) λF3=>
 bd (Wt.1,F3))) λs4=>
 (am (bd s4.1) jR)
def dA (cp:PV):W PV:=
 (dG (am (am (bd cp) (dC .str)) cI) (bd (.tup [])) (bd cp))
def fy (jk:PV):W PV:=
 am (jk\λx2=>iK x2) λjS=>
 am (am (am (bd jS) aw) λl4=>mapW l4 λp5=>(bd .aV)) λyK=>
 am (am (am (bd jS) aw) λl6=>.fD (l6.length<=sizeLine) (.ret (dZ 0 l6))) λl19=>am (dY l19 yK λp8 s7=>am (oY p8) λt9=>(
 am (am (t9.2\λmQ=>dA mQ) aw) λL3=>am (dY L3 s7 λKP qA=>(
 t9.1\λjM=>KP\λkI=>am (gq qA kI jM) λGX=>
 bd GX)) λqA=>
 bd qA)) λs7=>
 (am (bd s7) jR)
def eM (fP:PV) (lH:PV):W PV:=
 (dG (am (am (bj (am (bd fP) aw) (bd lH)) (dC .str)) cI) (bj (am (bd fP) aw) (bd lH)) (bd lH))
def hJ (dM:PV):W (List PV):=
 am (dM\λx2=>fy x2) λd8=>
 am (am (am (bd d8) aw) λl4=>mapW l4 λp5=>(bd (.tup []))) λmf=>
 am (am (b2 pw (c1 cY (bd d8)) (bd (.int 1))) λx6=>am (am (bd (.int 1)) nZ) λx7=>am (am (bd (.int 1)) nZ) λx8=>J6 x6 x7 x8) λL3=>am (dY L3 mf λlG s9=>(
 am (dG (t2 HH (bj (am (bd d8) aw) (bd lG)) (bd .aV)) (bd (.tup [])) (bj (bd s9) (bj (am (bd d8) aw) (bd lG)))) λGY=>
 am (w2 addW (lG\λkO=>bd (.tup [kO])) (bd GY)) λjM=>lG\λkI=>am (gq s9 kI jM) λF5=>
 bd F5)) λs9=>
 bd s9
def eV (xH:PV) (lH:PV):W PV:=
 (am (am (am (c1 cY (bd xH)) lg) λl2=>kJ l2 λp3=>Hb (uO (Tv true (bd p3) (am (bj (am (bd xH) aw) (bd lH)) aw)) (Tv true (bd lH) (am (bj (am (bd xH) aw) (bd p3)) aw))) (bd p3)) jR)
def jC (dM:PV):W PV:=
 am (dM\λx2=>iK x2) λgb=>
 am (dM\λx4=>hJ x4) λmf=>
 (am (am (am (c1 cY (bd gb)) lg) λl6=>mapW l6 λp7=>(am (gb\λx8=>p7\λx9=>eM x8 x9) λmQ=>(.int 0)\λwQ=>am (am (bj (am (bd gb) aw) (bd p7)) λrR=>dA rR) λkO=>am ((.cl mf)\λjM=>p7\λkI=>eV jM kI) λNz=>bd (.tup [mQ,wQ,kO,Nz]))) jR)
def hX (fK:PV) (k_:PV):W (List PV):=
 (.int 0)\λQI=>
 am (t2 oLt (bd k_) (c1 cY (bd fK))) λb=>am (if b=true then (
 am (c1 QP (bj (am (bd fK) aw) (bd k_))) λQH=>
 bd QH) else (
 bd QI)) λs3=>
 am (b2 pz (b2 oMod (bd s3) (b2 pz (b2 zV (bd (.int 10)) (bd (.int 60))) (b2 zV (bd (.int 10)) (bd (.int 60))))) (c1 uA (b2 oGe (bd s3) (b2 zV (bd (.int 10)) (bd (.int 18)))))) λoH=>
 (oH\λx6=>am (b2 oMod (w2 addW (w2 addW (bd s3) (b2 pz (bd (.int 104729)) (bd k_))) (bd (.int 7))) (bd (.int 2305843009213693951))) λx7=>(.int 0)\λx8=>bd [x6,x7,x8])
def f9 (dE:List PV) (ju:PV):W (PV×List PV):=
 dG (t2 oGt (bj (bd dE) (bd (.int 0))) (bd (.int 0))) (
 am (b2 oMod (bj (bd dE) (bd (.int 0))) (bd ju)) λK7=>
 am (b2 oDiv (bj (bd dE) (bd (.int 0))) (bd ju)) λx3=>(.int 0)\λx4=>am (gq dE x4 x3) λmT=>
 K7\λx5=>bd (x5,mT)) (
 (.int 2)\λx6=>am (XT dE x6) λx7=>(.int 1)\λx8=>am (of2 Vn x7 x8) λmQ=>am (gq dE x6 mQ) λgY=>
 am (b2 oMod (w2 addW (w2 addW (b2 pz (bj (bd gY) (bd (.int 1))) (bd (.int 69069))) (b2 pz (bd (.int 9973)) (bj (bd gY) (bd (.int 2))))) (bd (.int 5))) (bd (.int 2305843009213693921))) λsU=>
 am (b2 oMod (b2 pz (bd sU) (w2 addW (w2 addW (b2 oMod (bd sU) (bd (.int 999983))) (b2 pz (bd (.int 2)) (bj (bd gY) (bd (.int 2))))) (bd (.int 3)))) (bd (.int 2305843009213693907))) λkO=>(.int 1)\λjM=>am (gq gY jM kO) λiH=>
 am (b2 oMod (b2 oDiv (bj (bd iH) (bd (.int 1))) (bd (.int 65537))) (bd ju)) λkI=>bd (kI,iH))
def dF (ju:PV):W (List PV):=
 (.str "abcdefghijklmnopqrstuvwxyz")\λpF=>
 am ((.int 26)\λx3=>bz x3) λrF=>
 am (bj ((.int 1)\λx5=>(.int 3)\λx6=>(.int 5)\λx7=>(.int 7)\λx8=>(.int 9)\λx9=>(.int 11)\λmQ=>bd [x5,x6,x7,x8,x9,mQ]) ((.int 6)\λwQ=>bz wQ)) λHq=>
 am (bj ((.str "")\λkO=>(.str "k")\λjM=>bd [kO,jM]) ((.int 2)\λkI=>bz kI)) λw5=>
 am ((.str "")\λwO=>(.str "q")\λwN=>(.str "zz")\λwM=>(.str "abcdef")\λrQ=>bd [wO,wN,wM,rQ]) λyj=>
 []\λtV=>
 am (am (bd ju) lg) λXz=>am (dY Xz tV λXN Wr=>(
 am (b2 OV (bd pF) (b2 oMod (w2 addW (bd rF) (b2 pz (bd Hq) (bd XN))) (bd (.int 26)))) λvM=>
 am (w2 addW (w2 addW (bd w5) (bd vM)) (bj (am (bd (.cl yj)) aw) (b2 oMod (w2 addW (bd rF) (bd XN)) (bd (.int 4))))) λVW=>am (kn Wr VW) λGu=>
 bd Gu)) λWr=>
 bd Wr
def m__law_same:Nat->PV->PV->W PV
 | 0,_,_=>W.fail
 | n+1,gz,qR=>
 dG (am (am (bd qR) (dC .tup)) cI) (
 dG (RC (nH (am (am (bd gz) (dC .tup)) cI)) (t2 xB (c1 cY (bd gz)) (c1 cY (bd qR)))) (
 (bd (.bl false))) (
 (am (am (am (am (bd gz) aw) λl1=>am (am (bd qR) aw) λl2=>rP l1 l2) λl3=>mapW l3 λp4=>am (oY p4) λt5=>(t5.1\λx6=>t5.2\λx7=>m__law_same n x6 x7)) yI))) (
 dG (RC (am (am (bd qR) (dC .str)) cI) (t2 HH (bd qR) (bd .aV))) (
 (vj (b2 dQ (am (bd gz) (dC .str)) (am (bd qR) (dC .str))) (b2 dQ (bd gz) (bd qR)))) (
 (vj (am (bd gz) (dC .int)) (vj (am (am (bd gz) (dC .bool)) SU) (b2 dQ (bd gz) (bd qR))))))
def hU (aU:PV):W PV:=
 (vj (am (bd aU) (dC .int)) (am (am (bd aU) (dC .bool)) SU))
def fZ (aU:PV) (ju:PV):W PV:=
 (vj (am (bd aU) (dC .tup)) (b2 dQ (c1 cY (bd aU)) (bd ju)))
def jw (aU:PV):W PV:=
 dG (RC (nH (am (am (bd aU) (dC .str)) cI)) (nH (chT oLe oLe (bd (.int 1)) (c1 cY (bd aU)) (bd (.int 8))))) (
 (bd (.bl false))) (
 (am (am (am (bd aU) Hz) λl1=>mapW l1 λp2=>(b2 SQ (bd p2) (bd (.str "abcdefghijklmnopqrstuvwxyz")))) yI))
def hV (aU:PV) (HF:PV):W PV:=
 am (aU\λx3=>bd [x3]) λcQ=>
 am (rS (λs4=>(s4.2\λl5=>bd (!l5.isEmpty))) (λs4=>(
 am (uS s4.2) λt7=>
 dG (am (t7.2\λx8=>(.int 2)\λx9=>fZ x8 x9) cI) (
 am (am (bd t7.2) aw) λTb=>am (t6 t7.1 Tb) λdu=>
 bd (.go (s4.1,du))) (
 dG (RC (nH (am (t7.2\λjM=>jw jM) cI)) (uO (t7.2\λrR=>am (Ih rR) λk13=>bd (qK s4.1 k13)) (nH (am (bd HF) cI)))) (
 (.bl false)\λkI=>bd (Lp.out kI)) (
 (.bl true)\λwO=>t7.2\λwN=>am (WK s4.1 wN wO) λJ5=>
 bd (.go (J5,t7.1)))))) ([],cQ)) (Iw (λs4=>
 (bd (.bl true))) id)
def dR (fP:PV) (dN:PV):W (List PV):=
 (am (am (am (bd fP) aw) λl1=>am (am (bd dN) aw) λl2=>rP l1 l2) λl3=>kJ l3 λp4=>am (oY p4) λt5=>Hb (nH (am (am (bd t5.1) (dC .str)) cI)) (bd t5.2))
def bJ (N3:PV):W PV:=
 (bj (am (bd N3) aw) (am (c1 cY (bd N3)) λx1=>bz x1))
def lA (eI:PV):W PV:=
 am (am (bd eI) aw) λsi=>
 am ((.int 4)\λx3=>bz x3) λUU=>
 am (kQ (λs4=>(t2 oGt (am (bd s4) pG) (bd (.int 1)))) (λs4=>(
 am (bj (am (am (b2 pw (am (bd s4) pG) (bd (.int 1))) λx6=>bz x6) λx7=>am (b2 pw (am (bd s4) pG) (bd (.int 2))) λx8=>(.int 0)\λx9=>(.int 0)\λmQ=>bd [x7,x8,x9,mQ]) (bd UU)) λnk=>
 am (am (bj (bd s4) (bd nk)) λrR=>am (bj (bd s4) (w2 addW (bd nk) (bd (.int 1)))) λkO=>bd (.tup [rR,kO])) λrj=>
 am (uO (t2 dQ (bd UU) (bd (.int 3))) (t2 dQ ((.int 2)\λjM=>bz jM) (bd (.int 0)))) λb=>am (if b=true then (
 am (am (bj (bd s4) (w2 addW (bd nk) (bd (.int 1)))) λrQ=>am (bj (bd s4) (bd nk)) λwL=>bd (.tup [rQ,wL])) λrh=>
 bd rh) else (
 bd rj)) λYY=>
 am (YY\λuK=>bd [uK]) λl24=>nk\λzc=>am (w2 addW (bd nk) (bd (.int 2))) λwK=>am (RS s4 zc wK l24) λq8=>
 bd q8)) si) λs4=>
 (bj (bd s4) (bd (.int 0)))
def n9:W PV:=
 (am (Gq (am (w2 addW (bd (.int 1)) (am (bj ((.int 5)\λx1=>(.int 8)\λx2=>bd [x1,x2]) (c1 uA (b2 dQ ((.int 8)\λx3=>bz x3) (bd (.int 0))))) λx4=>bz x4)) λx5=>dF x5)) λx6=>lA x6)
def bf:Nat->PV->W (List PV)
 | 0,_=>W.fail
 | n+1,aH=>
 dG (am (am (bd aH) (dC .str)) cI) (
 (aH\λx1=>bd [x1])) (
 am (am (bj (am (bd aH) aw) (bd (.int 0))) λx3=>bf n x3) λxi=>
 am (am (bd xi) pG) λsW=>
 am (am (bj (am (bd aH) aw) (bd (.int 1))) λx5=>bf n x5) λl18=>am (dY l18 xi λzC s6=>(
 am (dG (am (am (bd zC) (dC .str)) cI) (bd zC) (am (w2 addW (bj (am (bd zC) aw) (bd (.int 0))) (bd sW)) λx9=>am (w2 addW (bj (am (bd zC) aw) (bd (.int 1))) (bd sW)) λmQ=>bd (.tup [x9,mQ]))) λwQ=>am (kn s6 wQ) λOa=>
 bd Oa)) λs6=>
 (s6\λXC=>am (am (am (b2 pw (bd sW) (bd (.int 1))) λrR=>am (b2 pw (am (bd s6) pG) (bd (.int 1))) λkO=>bd (.tup [rR,kO])) λjM=>bd [jM]) λXB=>ur XC XB))
def eZ (bI:PV):W PV:=
 am (am ((.int 0)\λx2=>bd [x2]) λl3=>am (c1 cY (bd bI)) λx4=>zF l3 x4) λkh=>
 am (am (am (am (bd bI) aw) λl6=>.fD (l6.length<=sizeLine) (.ret (dZ 0 l6))) λl7=>kJ l7 λp8=>am (oY p8) λt9=>Hb (nH (am (am (bd t9.2) (dC .str)) cI)) (bd t9.1)) λIa=>
 (.int 0)\λyB=>
 am (kQ (λqA=>(qA.2.1\λXD=>bd (!XD.isEmpty))) (λqA=>(
 am (am (am (am (bd (.cl qA.2.1)) aw) λY3=>kJ Y3 λå=>Hb (uO (Tv true (bj (am (bj (am (bd bI) aw) (bd å)) aw) (bd (.int 0))) (am (bd (.cl qA.2.1)) aw)) (Tv true (bj (am (bj (am (bd bI) aw) (bd å)) aw) (bd (.int 1))) (am (bd (.cl qA.2.1)) aw))) (bd å)) NJ) λzG=>
 am ((.cl zG)\λwO=>bJ wO) λtP=>
 am (w2 addW (w2 addW (bd qA.2.2) (bd (.int 1))) (am (bj ((.int 1)\λwM=>(.int 3)\λrQ=>(.int 13)\λwL=>bd [wM,rQ,wL]) ((.int 3)\λHi=>bz Hi)) λuK=>bz uK)) λyA=>
 yA\λzc=>tP\λwK=>am (gq qA.1 wK zc) λmM=>
 tP\λRq=>am (Ww qA.2.1 Rq) λKq=>
 bd (mM,Kq,yA))) (kh,Ia,yB)) λqA=>
 (am (bd qA.1) jR)
def g9 (dM:PV) (dN:PV) (km:PV):W (List PV):=
 am (dM\λx2=>fy x2) λd8=>
 []\λxu=>
 am (am (am (bd km) aw) λl4=>.fD (l4.length<=sizeLine) (.ret (dZ 0 l4))) λl19=>am (dY l19 xu λp6 s5=>am (oY p6) λt7=>(
 am (am (am (bd dN) aw) λl8=>.fD (l8.length<=sizeLine) (.ret (dZ 0 l8))) λL3=>am (dY L3 s5 λSv s9=>am (oY Sv) λZZ=>(
 dG (uO (t2 oLe (bd ZZ.2) (bd t7.2)) (RC (t2 HH (bj (am (bd d8) aw) (bd ZZ.1)) (bd .aV)) (t2 oLt (bd t7.2) (bj (am (bd dN) aw) (bj (am (bd d8) aw) (bd ZZ.1)))))) (
 am (ZZ.1\λkO=>t7.1\λjM=>bd (.tup [kO,jM])) λkI=>am (kn s9 kI) λzS=>
 bd zS) (
 bd s9))) λs9=>
 bd s9)) λs5=>
 bd s5
def jv (fP:PV) (dN:PV) (km:PV) (nU:PV) (OL:PV):W PV:=
 am (bj (am (bd OL) aw) (bd (.int 0))) λmn=>
 am (bj (am (bd OL) aw) (bd (.int 1))) λoe=>
 am (b2 oLt (bj (am (bd dN) aw) (bd mn)) (bj (am (bd km) aw) (bd oe))) λvW=>
 am (dG (am (bd vW) cI) (mn\λx5=>bd (.tup [x5])) (am (bj (am (bd fP) aw) (bd mn)) λx6=>dA x6)) λbelow_4=>
 am (am (am (am (bd below_4) aw) λl8=>mapW l8 λp9=>(dgB (bd nU) (p9\λmQ=>am (b2 pw (bd oe) (bd (.int 1))) λwQ=>bd (.tup [mQ,wQ])))) jR) λJO=>
 am (am (am (am (bd nU) Pb) λl13=>kJ l13 λæ=>Hb (uO (t2 dQ (bj (am (bd æ) aw) (bd (.int 1))) (bd oe)) (t2 xB (bj (am (bd æ) aw) (bd (.int 0))) (bd mn))) (dgB (bd nU) (bd æ))) jR) λwD=>
 (am (fP\λkI=>mn\λNz=>eM kI Nz) λwO=>oe\λwN=>JO\λwM=>wD\λrQ=>bd (.tup [wO,wN,wM,rQ]))
def j3 (dM:PV) (dN:PV):W PV:=
 am (dM\λx2=>iK x2) λgb=>
 am (am ((.int 0)\λx4=>bd [x4]) λl7=>am (am (gb\λx5=>dN\λx6=>dR x5 x6) xc) λl8=>ur l7 l8) λuy=>
 am (dM\λmQ=>dN\λwQ=>(.cl uy)\λrR=>g9 mQ wQ rR) λxt=>
 am (am (am (am (am (bd (.cl xt)) aw) λY3=>.fD (Y3.length<=sizeLine) (.ret (dZ 0 Y3))) λXC=>mapW XC λÿ=>am (oY ÿ) λę=>(ę.2\λwN=>ę.1\λwM=>bd (.tup [wN,wM]))) Jf) λsL=>
 (am (am (am (bd (.cl xt)) aw) λl20=>mapW l20 λp21=>(gb\λHi=>dN\λuK=>(.cl uy)\λHh=>sL\λzc=>p21\λwK=>jv Hi uK Hh zc wK)) jR)
def me (aU:PV):W PV:=
 (aU\λx1=>(.bl true)\λx2=>hV x1 x2)
def c7 (aK:PV) (a7:PV):W PV:=
 (bj (am (bj (am (bd aK) aw) (bd a7)) aw) (bd (.int 2)))
def f7 (aK:PV) (a7:PV):W PV:=
 (bj (am (bj (am (bd aK) aw) (bd a7)) aw) (bd (.int 3)))
def jA (aK:PV) (a7:PV) (US:PV):W PV:=
 (vj (b2 dQ (aK\λx1=>a7\λx2=>c7 x1 x2) (bd (.tup []))) (b2 dQ (bj (am (bj (am (bd aK) aw) (bd a7)) aw) (bd (.int 0))) (bd US)))
def dB (gW:PV):W PV:=
 (bj (am (bj (am (bd gW) aw) (bd (.int 0))) aw) (bd (.int 0)))
def fu (gW:PV):W PV:=
 (bj (am (bj (am (bd gW) aw) (bd (.int 0))) aw) (am (bd (.int 1)) nZ))
def n8 (gW:PV):W PV:=
 (am (am (am (gW\λx3=>am (am (bd (.int 2)) part) λi1=>bm\λj2=>zA x3 i1 j2) aw) λl4=>mapW l4 λp5=>(p5\λx6=>dB x6)) jR)
def fY (aP:PV) (a7:PV):W (List PV):=
 am (aP\λx2=>a7\λx3=>c7 x2 x3) λnF=>
 (dG (t2 dQ (c1 cY (bd nF)) (bd (.int 2))) (nF\λx4=>am (am (bj (am (bd nF) aw) (bd (.int 1))) λx5=>am (bj (am (bd nF) aw) (bd (.int 0))) λx6=>bd (.tup [x5,x6])) λx7=>bd [x4,x7]) (bd []))
def hE (aP:PV) (a7:PV):W (List PV):=
 am (aP\λx2=>a7\λx3=>f7 x2 x3) λux=>
 (am (am (am (bd ux) aw) λl4=>mapW l4 λp5=>(a7\λx6=>p5\λx7=>bd (.tup [x6,x7]))) λXD=>am (am (am (bd ux) aw) λl8=>mapW l8 λp9=>(p9\λmQ=>a7\λwQ=>bd (.tup [mQ,wQ]))) λl13=>ur XD l13)
def fv (aP:PV) (cp:PV) (a7:PV):W (List PV):=
 dG (am (am (bd cp) (dC .str)) cI) (
 (dG (am (aP\λx1=>a7\λx2=>cp\λx3=>jA x1 x2 x3) cI) (am ((.str "found")\λx4=>(.tup [])\λx5=>bd (.tup [x4,x5])) λx6=>bd [x6]) (bd []))) (
 am (am (aP\λx8=>a7\λx9=>fY x8 x9) λXE=>mapW XE λKh=>((.str "split")\λrR=>Kh\λkO=>bd (.tup [rR,kO]))) λJZ=>
 am (am (aP\λkI=>a7\λNz=>hE kI Nz) λL3=>mapW L3 λp18=>((.str "over")\λwM=>p18\λrQ=>bd (.tup [wM,rQ]))) λKi=>
 (am (am (am (am ((.str "doubled")\λwL=>am (a7\λHi=>a7\λuK=>bd (.tup [Hi,uK])) λHh=>bd (.tup [wL,Hh])) λzc=>bd [zc]) λl26=>am (am (bd (.cl JZ)) sY) λXA=>ur l26 XA) λl28=>am (am (bd (.cl Ki)) sY) λXz=>ur l28 Xz) NY))
def jy (aP:PV) (aU:PV):W PV:=
 (vj (aU\λx1=>hU x1) (chB oLe oLt (bd (.int 0)) (bd aU) (c1 cY (bd aP))))
def jz (aP:PV) (aU:PV):W PV:=
 dG (RC (nH (am (am (bd aU) (dC .tup)) cI)) (t2 dQ (c1 cY (bd aU)) (bd (.int 0)))) (
 (bd (.bl false))) (
 dG (nH (am (am (am (am (bd aU) aw) λl1=>mapW l1 λp2=>(aP\λx3=>p2\λx4=>jy x3 x4)) yI) cI)) (
 (bd (.bl false))) (
 (am (am (am (am (bd aU) aw) λl8=>am (am (aU\λx7=>am (am (bd (.int 1)) part) λi5=>bm\λj6=>zA x7 i5 j6) aw) λl9=>rP l8 l9) λXE=>mapW XE λKh=>am (oY Kh) λRa=>(aa6 false (bd Ra.2) (am (aP\λkO=>Ra.1\λjM=>c7 kO jM) aw))) yI)))
def f6 (aP:PV) (cp:PV) (aU:PV):W PV:=
 am (dG (am (am (bd cp) (dC .str)) cI) (bd (.int 2)) (bd (.int 4))) λO3=>
 (vj (aU\λx4=>O3\λx5=>fZ x4 x5) (vj (aP\λx2=>am (bj (am (bd aU) aw) (bd (.int 0))) λx3=>jz x2 x3) (am (bj (am (bd aU) aw) (bd (.int 1))) (dC .str))))
def df (aP:PV) (vv:PV) (aU:PV):W PV:=
 am (am (am (bd vv) aw) λl2=>mapW l2 λp3=>(bd .aV)) λND=>
 aU\λx5=>am (am (bd (.int 1)) nZ) λx6=>am (gq ND x6 x5) λmS=>
 am (am (b2 pw (c1 cY (bd vv)) (bd (.int 1))) λx7=>am (am (bd (.int 1)) nZ) λx8=>am (am (bd (.int 1)) nZ) λx9=>J6 x7 x8 x9) λl33=>am (oz l33 mS λlX RZ=>(
 am (bj (am (bd vv) aw) (bd lX)) λrq=>
 am (bj (bd RZ) (bd lX)) λwU=>
 dG (nH (am (aP\λjM=>rq\λkI=>wU\λNz=>f6 jM kI Nz) cI)) (
 .aV\λwO=>bd (Lp.out wO)) (
 am (am (am (rq\λwN=>dA wN) aw) λl22=>am (am (wU\λwL=>am (am (bd (.int 2)) part) λi19=>bm\λj20=>zA wL i19 j20) aw) λl23=>rP l22 l23) λl31=>am (dY l31 RZ λp25 Wq=>am (oY p25) λĘ=>(
 Ę.2\λRq=>Ę.1\λx29=>am (gq Wq x29 Rq) λJL=>
 bd JL)) λWq=>
 bd (.go Wq)))) (Iw (λRZ=>
 (bd (.cl RZ))) id)
def jB (aP:PV) (cp:PV) (gW:PV):W PV:=
 (aa6 false (am (bj (am (bd gW) aw) (bd (.int 1))) λx1=>am (gW\λx2=>n8 x2) λx3=>bd (.tup [x1,x3])) (aP\λx4=>cp\λx5=>am (gW\λx6=>fu x6) λx7=>fv x4 x5 x7))
def jx (aP:PV) (Hy:PV) (aU:PV):W PV:=
 dG (nH (am (Hy\λx1=>me x1) cI)) (
 (bd (.bl false))) (
 am (Hy\λx3=>iK x3) λHs=>
 am (aP\λx5=>Hs\λx6=>aU\λx7=>df x5 x6 x7) λmS=>
 dG (RC (t2 HH (bd mS) (bd .aV)) (t2 xB (c1 cY (bj (am (bd aU) aw) (bd (.int 0)))) (bd (.int 1)))) (
 (bd (.bl false))) (
 (am (am (am (am (bd Hs) aw) λl8=>am (am (bd mS) aw) λl9=>rP l8 l9) λXE=>mapW XE λKh=>am (oY Kh) λRa=>(aP\λkO=>Ra.1\λjM=>Ra.2\λkI=>jB kO jM kI)) yI)))
def fN (eI:PV):W PV:=
 am (am (bd eI) aw) λsi=>
 am ((.int 4)\λx3=>bz x3) λgV=>
 am (kQ (λs4=>(t2 oGt (am (bd s4) pG) (bd (.int 1)))) (λs4=>(
 am (bj (am (am (b2 pw (am (bd s4) pG) (bd (.int 1))) λx6=>bz x6) λx7=>am (b2 pw (am (bd s4) pG) (bd (.int 2))) λx8=>(.int 0)\λx9=>(.int 0)\λmQ=>bd [x7,x8,x9,mQ]) (bd gV)) λnk=>
 am (am (bj (bd s4) (bd nk)) λrR=>am (bj (bd s4) (w2 addW (bd nk) (bd (.int 1)))) λkO=>bd (.tup [rR,kO])) λrj=>
 am (uO (t2 dQ (bd gV) (bd (.int 3))) (t2 dQ ((.int 2)\λjM=>bz jM) (bd (.int 0)))) λb=>am (if b=true then (
 am (am (bj (bd s4) (w2 addW (bd nk) (bd (.int 1)))) λrQ=>am (bj (bd s4) (bd nk)) λwL=>bd (.tup [rQ,wL])) λrh=>
 bd rh) else (
 bd rj)) λYY=>
 am (YY\λuK=>bd [uK]) λl24=>nk\λzc=>am (w2 addW (bd nk) (bd (.int 2))) λwK=>am (RS s4 zc wK l24) λq8=>
 bd q8)) si) λs4=>
 (bj (bd s4) (bd (.int 0)))
def eX:W PV:=
 (am (Gq (am (w2 addW (bd (.int 1)) (am (bj ((.int 5)\λx1=>(.int 8)\λx2=>bd [x1,x2]) (c1 uA (b2 dQ ((.int 8)\λx3=>bz x3) (bd (.int 0))))) λx4=>bz x4)) λx5=>dF x5)) λx6=>fN x6)
def eW (qh:PV):W PV:=
 am (am (qh\λx2=>bf 12 x2) λl3=>kJ l3 λp4=>Hb (am (am (bd p4) (dC .str)) cI) (bd p4)) λny=>
 am (w2 addW (bd (.int 1)) (am (bj ((.int 6)\λx6=>(.int 10)\λx7=>bd [x6,x7]) (c1 uA (b2 dQ ((.int 8)\λx8=>bz x8) (bd (.int 0))))) λx9=>bz x9)) λO2=>
 (am (Gq (am (am (bd O2) lg) λTb=>mapW Tb λĀ=>((.cl ny)\λkO=>bJ kO))) λjM=>fN jM)
def eY (aK:PV) (a7:PV):W (List PV):=
 am (bj (am (bd aK) aw) (bd a7)) λx1=>am (un4 x1) λt3=>
 am (am ((.str "doubled")\λx5=>a7\λx6=>a7\λx7=>bd (.tup [x5,x6,x7])) λx8=>bd [x8]) λyd=>
 am (t2 dQ (c1 cY (bd t3.2.2.1)) (bd (.int 2))) λb=>am (if b=true then (
 am (am ((.str "split")\λwL=>am (bj (am (bd t3.2.2.1) aw) (bd (.int 0))) λHi=>am (bj (am (bd t3.2.2.1) aw) (bd (.int 1))) λuK=>bd (.tup [wL,Hi,uK])) λHh=>am ((.str "split")\λzc=>am (bj (am (bd t3.2.2.1) aw) (bd (.int 1))) λwK=>am (bj (am (bd t3.2.2.1) aw) (bd (.int 0))) λVW=>bd (.tup [zc,wK,VW])) λRq=>bd [Hh,Rq]) λXz=>am (t6 yd Xz) λGv=>
 bd Gv) else (
 bd yd)) λà=>
 am (am (bd t3.2.2.2) aw) λl43=>am (dY l43 à λjq RY=>(
 am (am ((.str "over")\λx33=>a7\λx34=>jq\λx35=>bd (.tup [x33,x34,x35])) λx36=>am ((.str "over")\λx37=>jq\λx38=>a7\λx39=>bd (.tup [x37,x38,x39])) λx40=>bd [x36,x40]) λl41=>am (t6 RY l41) λox=>
 bd ox)) λRY=>
 bd RY
def cD (aK:PV) (bI:PV) (a6:PV) (cp:PV) (a7:PV):W (List PV):=
 am (bj (am (bd bI) aw) (bd cp)) λzD=>
 dG (am (am (bd zD) (dC .str)) cI) (
 (am (am ((.str "found")\λx2=>a7\λx3=>a7\λx4=>bd (.tup [x2,x3,x4])) λx5=>bd [x5]) λl6=>am (c1 uA (vj (b2 dQ (bj (am (bj (am (bd aK) aw) (bd a7)) aw) (bd (.int 2))) (bd (.tup []))) (b2 dQ (bj (am (bj (am (bd aK) aw) (bd a7)) aw) (bd (.int 0))) (bd zD)))) λx7=>zF l6 x7)) (
 (am (aK\λx8=>a7\λx9=>eY x8 x9) λXE=>kJ XE λKh=>Hb (uO (am (bj (am (bj (am (bd a6) aw) (bj (am (bd zD) aw) (bd (.int 0)))) aw) (bj (am (bd Kh) aw) (bd (.int 1)))) cI) (am (bj (am (bj (am (bd a6) aw) (bj (am (bd zD) aw) (bd (.int 1)))) aw) (bj (am (bd Kh) aw) (bd (.int 2)))) cI)) (bd Kh)))
def hZ (aK:PV) (bI:PV):W (List PV):=
 am (am (c1 cY (bd bI)) lg) λl32=>am (dY l32 (([]:List ci),([]:List (List PV))) λsP s3=>(
 am (am ((.bl false)\λx5=>bd [x5]) λl6=>am (c1 cY (bd aK)) λx7=>zF l6 x7) λl8=>W.fD (s3.2.length < sizeLine) (am (W.any λ_=>True) λb9=>(s3.2++[l8])\λtW=>
 am (am (c1 cY (bd aK)) lg) λl30=>am (dY l30 (b9,tW) λqY Np=>(
 am (am (am (am (am (am (bj (am (bj (am (bd aK) aw) (bd qY)) aw) (bd (.int 2))) aw) λXC=>mapW XC λÿ=>(bj (am (bj (am (bd (.cl (Np.2.map PV.cl))) aw) (bd sP)) aw) (bd ÿ))) QU) sd) sd) λU9=>
 am (am (am (orB (bd U9) (am (aK\λwO=>bI\λwN=>am (bd (.cl (Np.2.map PV.cl))) λwM=>sP\λrQ=>qY\λwL=>cD wO wN wM rQ wL) λl22=>bd (.bl (!l22.isEmpty)))) sd) sd) λuK=>sP\λHh=>am (Tj Np.2 Hh) λj25=>qY\λwK=>am (gq j25.2 wK uK) λXA=>(Np.2.set j25.1 XA)\λGs=>
 bd (Np.1,Gs))) λNp=>
 bd Np))) λs3=>
 bd (s3.2.map PV.cl)
def eN (aK:PV) (bI:PV) (a6:PV) (cp:PV) (a7:PV):W PV:=
 am (a7\λx2=>bd [x2]) λeK=>
 am (am (c1 cY (bd aK)) lg) λl35=>am (dY l35 eK λV5 s4=>(
 am (am (am (bj (am (bj (am (bd aK) aw) (bj (bd s4) (am (bd (.int 1)) nZ))) aw) (bd (.int 2))) aw) λl7=>kJ l7 λp8=>Hb (am (bj (am (bj (am (bd a6) aw) (bd cp)) aw) (bd p8)) cI) (bd p8)) λXg=>
 am (orB (am (aK\λwQ=>bI\λrR=>a6\λkO=>cp\λjM=>am (bj (bd s4) (am (bd (.int 1)) nZ)) λkI=>cD wQ rR kO jM kI) λXB=>bd (.bl (XB.isEmpty))) (b2 dQ ((.int 3)\λmQ=>bz mQ) (bd (.int 0)))) λQk=>
 dG (uO (am (am (bd (.cl Xg)) sY) λL3=>bd (!L3.isEmpty)) (am (bd Qk) cI)) (
 am ((.cl Xg)\λwM=>bJ wM) λrQ=>am (kn s4 rQ) λgG=>
 bd gG) (
 bd s4))) λs4=>
 am (kQ (λN8=>(am (aK\λHi=>bI\λuK=>a6\λHh=>cp\λzc=>am (bj (bd N8) (am (bd (.int 1)) nZ)) λwK=>cD Hi uK Hh zc wK) λXA=>bd (XA.isEmpty))) (λN8=>(
 am (am (Gq (am (am (bj (am (bj (am (bd aK) aw) (bj (bd N8) (am (bd (.int 1)) nZ))) aw) (bd (.int 2))) aw) λXz=>kJ Xz λþ=>Hb (am (bj (am (bj (am (bd a6) aw) (bd cp)) aw) (bd þ)) cI) (bd þ))) λx31=>bJ x31) λx32=>am (kn N8 x32) λnS=>
 bd nS)) s4) λN8=>
 (am (bd N8) jR)
def c8:Nat->PV->PV->PV->PV->PV->W PV
 | 0,_,_,_,_,_=>W.fail
 | n+1,aK,bI,a6,cp,eD=>
 am (am (Gq (aK\λx1=>bI\λx2=>a6\λx3=>cp\λx4=>am (bj (am (bd eD) aw) (am (bd (.int 1)) nZ)) λx5=>cD x1 x2 x3 x4 x5)) λx6=>bJ x6) λx7=>am (un3 x7) λt8=>
 dG (t2 dQ (bd t8.1) (bd (.str "found"))) (
 (eD\λx9=>t8.1\λmQ=>bd (.tup [x9,mQ]))) (
 am (bj (am (bd bI) aw) (bd cp)) λsC=>
 am (aK\λkO=>bI\λjM=>a6\λkI=>am (bj (am (bd sC) aw) (bd (.int 0))) λNz=>am (aK\λwO=>bI\λwN=>a6\λwM=>am (bj (am (bd sC) aw) (bd (.int 0))) λrQ=>t8.2.1\λwL=>eN wO wN wM rQ wL) λHi=>c8 n kO jM kI Nz Hi) λGw=>
 (eD\λuK=>t8.1\λHh=>Gw\λzc=>am (aK\λwK=>bI\λVW=>a6\λRq=>am (bj (am (bd sC) aw) (bd (.int 1))) λx29=>am (aK\λx30=>bI\λx31=>a6\λx32=>am (bj (am (bd sC) aw) (bd (.int 1))) λx33=>t8.2.2\λx34=>eN x30 x31 x32 x33 x34) λx35=>c8 n wK VW Rq x29 x35) λx36=>bd (.tup [uK,Hh,zc,x36])))
def cS (aK:PV) (qa:PV):W PV:=
 am (qa\λx2=>bf 12 x2) λsA=>
 am (aK\λx4=>(.cl sA)\λx5=>hZ x4 x5) λnj=>
 am (b2 pw (c1 cY (bd (.cl sA))) (bd (.int 1))) λIg=>
 am (am (am (c1 cY (bd aK)) lg) λl9=>kJ l9 λSv=>Hb (am (aK\λwQ=>(.cl sA)\λrR=>(.cl nj)\λkO=>Ig\λjM=>Sv\λkI=>cD wQ rR kO jM kI) λXB=>bd (!XB.isEmpty)) (bd Sv)) λN2=>
 (aK\λwO=>(.cl sA)\λwN=>(.cl nj)\λwM=>Ig\λrQ=>am (am ((.cl N2)\λwL=>bJ wL) λHi=>bd (.tup [Hi])) λuK=>c8 12 wO wN wM rQ uK)
def m_ways_within (gW:PV):W (List PV):=
 []\λeG=>
 am (gW\λx3=>bd [x3]) λcQ=>
 am (kQ (λs4=>(s4.2\λl5=>bd (!l5.isEmpty))) (λs4=>(
 am (uS s4.2) λt7=>
 t7.2\λx9=>am (kn s4.1 x9) λfF=>
 am (am (t7.2\λkO=>am (am (bd (.int 2)) part) λi11=>bm\λj12=>zA kO i11 j12) aw) λY3=>am (t6 t7.1 Y3) λdu=>
 bd (fF,du))) (eG,cQ)) λs4=>
 (s4.1\λXC=>bd XC.reverse)
def m_places (gW:PV):W PV:=
 (am (am (gW\λx1=>m_ways_within x1) λl2=>mapW l2 λp3=>(am (p3\λx4=>fu x4) λx5=>am (bj (am (bd p3) aw) (bd (.int 1))) λx6=>bd (.tup [x5,x6]))) jR)
def m_lost_on (aP:PV) (U7:PV):W PV:=
 (am (am (am (U7\λx3=>bm\λi1=>am (am (am (bd (.int 1)) nZ) part) λj2=>zA x3 i1 j2) aw) λl4=>kJ l4 λp5=>Hb (t2 dQ (c1 cY (aP\λx6=>p5\λx7=>c7 x6 x7)) (bd (.int 2))) (bd p5)) pG)
def m_counted (aP:PV) (gW:PV):W PV:=
 am (gW\λx2=>m_ways_within x2) λxq=>
 am (am (am (bd (.cl xq)) aw) λl4=>mapW l4 λp5=>(bj (am (bd p5) aw) (bd (.int 1)))) λQy=>
 am (am (am (am (bd (.cl xq)) aw) λl7=>mapW l7 λp8=>(aP\λx9=>am (bj (am (bd p8) aw) (bd (.int 0))) λmQ=>m_lost_on x9 mQ)) sumLW) λO4=>
 (am (am (am (bd ([("split":Str),("doubled":Str),("over":Str)].map PV.str)) λTb=>mapW Tb λĀ=>(am (am (bd (.cl Qy)) sY) λl13=>Ā\λjM=>Ur l13 jM)) λXB=>am (O4\λkI=>bd [kI]) λL3=>ur XB L3) jR)
def aZ:Nat->PV->PV->W PV
 | 0,_,_=>W.fail
 | n+1,aH,rV=>
 dG (am (am (bd aH) (dC .str)) cI) (
 (w2 addW (bd (.str "w")) (aH\λx3=>bm\λi1=>am (am (bd (.int 7)) part) λj2=>Z5 x3 i1 j2))) (
 am (am (bj (am (bd aH) aw) (bd (.int 0))) λx4=>rV\λx5=>aZ n x4 x5) λOP=>am (am (bj (am (bd aH) aw) (bd (.int 1))) λx6=>rV\λx7=>aZ n x6 x7) λxx=>
 (bj (am (OP\λmQ=>xx\λwQ=>bd (.tup [mQ,wQ])) λrR=>am (xx\λkO=>OP\λjM=>bd (.tup [kO,jM])) λkI=>bd [rR,kI]) (bd rV)))
def bp:Nat->PV->PV->W (List PV)
 | 0,_,_=>W.fail
 | n+1,aH,lK=>
 dG (am (am (bd aH) (dC .str)) cI) (
 (lK\λx1=>bd [x1])) (
 am (am (bj (am (bd aH) aw) (bd (.int 0))) λx3=>lK\λx4=>bp n x3 x4) λKk=>
 am (am (bj (am (bd aH) aw) (bd (.int 1))) λx6=>am (w2 addW (bd lK) (c1 cY (bd (.cl Kk)))) λx7=>bp n x6 x7) λxy=>
 (am (am (am (bd (.cl xy)) sY) λl8=>am (am (bd (.cl Kk)) sY) λl9=>ur l8 l9) λTb=>am (am (w2 addW (w2 addW (bd lK) (c1 cY (bd (.cl Kk)))) (c1 cY (bd (.cl xy)))) λmQ=>bd [mQ]) λXD=>ur Tb XD))
def cC (bI:PV) (a7:PV):W PV:=
 (dG (am (am (bj (am (bd a7) aw) (bd (.int 0))) (dC .str)) cI) (am (am (bd bI) sY) λl1=>am (bj (am (bd a7) aw) (bd (.int 0))) λx2=>Im l1 x2) (bj (am (bd a7) aw) (bd (.int 0))))
def bF:Nat->PV->PV->W PV
 | 0,_,_=>W.fail
 | n+1,fm,o4=>
 am (am (am (am (bj (am (bd fm) aw) (bd (.int 0))) aw) λl2=>mapW l2 λp3=>(bj (am (bd o4) aw) (bd p3))) jR) λeK=>
 (w2 addW (eK\λx4=>am (bj (am (bd fm) aw) (bd (.int 1))) λx5=>bd (.tup [x4,x5])) (am (am (am (fm\λx8=>am (am (bd (.int 2)) part) λi6=>bm\λj7=>zA x8 i6 j7) aw) λl9=>mapW l9 λSv=>(Sv\λwQ=>o4\λrR=>bF n wQ rR)) jR))
def n6 (fK:PV):W PV:=
 am (am ((.int 1)\λx3=>am (am (c1 cY (bd fK)) λx1=>(.int 6)\λx2=>qc QN [x1,x2]) λx4=>qc QO [x3,x4]) lg) λaeN=>am (oz aeN () λģ s6=>(
 am (fK\λx9=>ģ\λmQ=>hX x9 mQ) λsG=>aau gZ sG (
 am (eX) λcf=>
 am (am (cf\λrR=>(.int 1)\λkO=>aZ 12 rR kO) λjM=>am (Gq (cf\λkI=>(.int 0)\λNz=>bp 12 kI Nz)) λwO=>bd (.tup [jM,wO])) λwN=>am (oY wN) λUZ=>
 am (am (Gq (cf\λrQ=>bf 12 rQ)) λwL=>am (Gq (UZ.1\λHi=>bf 12 Hi)) λuK=>bd (.tup [wL,uK])) λHh=>am (oY Hh) λYW=>
 am (cf\λwK=>jC wK) λzu=>am (UZ.1\λVW=>jC VW) λvI=>
 am (t2 dQ ((.int 2)\λx30=>bz x30) (bd (.int 0))) λb=>am (if b=true then (
 am (YW.1\λx43=>eZ x43) λjb=>
 am (cf\λx44=>jb\λx45=>j3 x44 x45) λzr=>am (UZ.1\λx46=>am (am (am (am (bd UZ.2) aw) λl47=>mapW l47 λp48=>(bj (am (bd jb) aw) (bd p48))) jR) λx49=>j3 x46 x49) λvH=>
 bd (zr,vH)) else (
 bd (zu,vI))) λLI=>
 am (am (am (bd LI.2) aw) λl53=>mapW l53 λĞ=>(am (bj (am (bd UZ.2) aw) (YW.2\λx55=>Ğ\λx56=>cC x55 x56)) λx57=>am (bj (am (bd Ğ) aw) (bd (.int 1))) λx58=>bd (.tup [x57,x58]))) λzl=>
 am (am (am (bd LI.1) aw) λl60=>mapW l60 λĝ=>(am (am (bd (.cl zl)) sY) λl66=>am (am (YW.1\λx62=>ĝ\λx63=>cC x62 x63) λx64=>am (bj (am (bd ĝ) aw) (bd (.int 1))) λx65=>bd (.tup [x64,x65])) λx67=>Im l66 x67)) λsf=>
 am (cf\λx69=>eW x69) λfJ=>
 am (LI.1\λx71=>fJ\λx72=>cS x71 x72) λfW=>
 am (fW\λx74=>(.cl sf)\λx75=>bF 12 x74 x75) λfM=>
 dG (RC (t2 nT (LI.1\λx81=>fJ\λx82=>fW\λx83=>jx x81 x82 x83) (bd (.bl true))) (t2 nT (LI.2\λx76=>am (fJ\λx77=>(.int 0)\λx78=>aZ 12 x77 x78) λx79=>fM\λx80=>jx x76 x79 x80) (bd (.bl true)))) (
 (.bl false)\λx84=>bd (Lp.out x84)) (
 dG (RC (nH (am (am (LI.2\λx85=>fM\λx86=>m_counted x85 x86) λx87=>am (LI.1\λx88=>fW\λx89=>m_counted x88 x89) λx90=>m__law_same 4 x87 x90) cI)) (t2 xB (c1 cY (bd LI.2)) (c1 cY (bd LI.1)))) (
 (.bl false)\λx91=>bd (Lp.out x91)) (
 dG (nH (am (am (fM\λx92=>m_places x92) λx93=>am (am (am (am (fW\λx94=>m_places x94) aw) λl95=>mapW l95 λp96=>am (oY p96) λė=>(am (bj (am (bd (.cl sf)) aw) (bd ė.1)) λx98=>ė.2\λx99=>bd (.tup [x98,x99]))) jR) λadU=>m__law_same 4 x93 adU) cI)) (
 (.bl false)\λVX=>bd (Lp.out VX)) (
 bd (.go ()))))))) (Iw (λs6=>
 (bd (.bl true))) id)
end My
variable {Q:List PL.PV->Prop}{t:My.Tr}
namespace My
open PySem PySem.Spec PyProof.Rows L2 PL FL
def Tr.pv:Tr->PV
 | .leaf x=>.str x
 | .node l r=>.tup [l.pv,r.pv]
def Ent.pv:Ent->PV
 | .word x=>.str x
 | .pair a b=>.tup [.int (a:Int),.int (b:Int)]
def xf {l:List α} (h:l≠[]):∃a x,l=a++[x]:=⟨l.dropLast,l.getLast h,(List.dropLast_concat_getLast h).symm⟩
def N5 {a b:List Tr} (h:posts a++b=t.post):sizes a+b.length=t.size:=by
 have h1:=congrArg B2 h;rw [Af,t.post_len] at h1;have h2:∀l:List Tr,(posts l).length=sizes l:=by
  intro l
  induction l with
  | nil=>rfl
  | cons x l ih=>
   have e1:posts (x::l)=x.post++posts l:=rfl;have e2:sizes (x::l)=x.size+sizes l:=rfl;rw [e1,e2,Af,ih,x.post_len]
 rw [h2] at h1;exact h1
theorem iw {x:PV} (h:l.length < 1000):kn l x=.ret (l++[x]):=pr (by have:=a8 (n:=1000) (Ao _);omega)
theorem OK (t:Tr) (hz:t.size<=900):(jZ t.pv).le (.ret (t.post.map Tr.pv)):=λQ q=>by
 refine gU (λn s=>∃ts bs:List Tr,n=sizes ts/\s=(bs.map Tr.pv,ts.map Tr.pv)/\posts ts++bs.reverse=t.post) ⟨[t],[],rfl,rfl,by rw [pd];simp⟩ ?_;rintro n s ⟨ts,bs,rfl,rfl,hp⟩;have hs:=N5 hp;rw [Cd] at hs;by_cases he:ts=[]
 ·subst he;have Ĵ:bs.reverse=t.post:=hp;simp;rw [<- List.map_reverse,Ĵ];exact q
 ·obtain⟨us,u,rfl⟩:=xf he;have Mf:=len_sizes us;rw [bX,ft] at hs;simp;rw [iw (by rw [Ag];omega)];cases u with
  | leaf x=>
   simp [Tr.pv];refine⟨_,?_,us,rfl,bs++[.leaf x],⟨by simp [Tr.pv],rfl⟩,?_⟩
   ·rw [bX,ft];show sizes us < sizes us+1;omega
   ·rw [jV,pd] at hp;rw [CZ,<- hp];simp [Tr.post]
  | node c d=>
   have e1:t6 (us.map Tr.pv) [c.pv,d.pv]=.ret (us.map Tr.pv++[c.pv,d.pv]):=pr (a8 (by
    have:(Tr.node c d).size=c.size+d.size+1:=rfl;simp;omega))
   simp [Tr.pv,e1];refine⟨_,?_,us++[c,d],rfl,bs++[.node c d],⟨by simp [Tr.pv],by simp⟩,?_⟩
   ·have e2:sizes [Tr.node c d]=c.size+d.size+1:=by rw [ft];rfl
    have e3:sizes [c,d]=c.size+d.size:=by simp [sizes]
    rw [bX,bX,e2,e3];omega
   ·rw [jV,pd] at hp;rw [CZ,<- hp,jV,LM];simp [Tr.post]
def av (l:List Nat):List PV:=l.map λ(n:Nat)=>.int (n:Int)
@[simp] theorem bh (l:List Nat):(av l).length=l.length:=Ag _
@[simp] theorem n5 (a b:List Nat):av (a++b)=av a++av b:=AU
@[simp] theorem ma (a:Nat) (l:List Nat):av (a::l)=.int (a:Int)::av l:=rfl
@[simp] theorem ly:av []=[]:=rfl
def pK (n:Nat):kD 0 n=av (Ax n):=by
 refine Bj λi _=>?_;rw [EY]
theorem Ib {p:Nat->Bool}:∀{l:List Nat},(∀k∈l,f (.int ((k:Nat):Int))=.ret (if p k=true then ap (.int ((k:Nat):Int)) else bm))->kJ (av l) f=.ret (av (l.filter p))
 | [],_=>rfl
 | k::l,h=>by
  show am (f _) (λo=>am (kJ (av l) f) λm=>bd (o.toList++m))=_;rw [h k (.head _),Ib λy hy=>h y (.tail _ hy),Ci];cases p k <;> rfl
theorem rz {f:PV->W PV}{g:Nat->PV}:∀{l:List Nat},(∀k∈l,f (.int ((k:Nat):Int))=.ret (g k))->mapW (av l) f=.ret (l.map g)
 | [],_=>rfl
 | k::l,h=>by
  show am (f _) (λy=>am (mapW (av l) f) λm=>bd (y::m))=_;rw [h k (.head _),rz λy hy=>h y (.tail _ hy)];rfl
def aaX (g:PV->Option PV) (h:∀x∈l,f x=.ret (g x)) (q:Q (l.filterMap g)):(kJ l f).run Q:=by rw [Ic h];exact q
def HV {f:PV->W PV} (g:PV->PV) (h:∀x∈l,f x=.ret (g x)) (q:Q (l.map g)):(mapW l f).run Q:=by rw [xE h];exact q
def sZ {l:List Nat} (p:Nat->Bool) (h:∀k∈l,f (.int ((k:Nat):Int))=.ret (if p k=true then ap (.int ((k:Nat):Int)) else bm)) (q:Q (av (l.filter p))):(kJ (av l) f).run Q:=by rw [Ib h];exact q
def md {l:List Nat}{f:PV->W PV} (g:Nat->PV) (h:∀k∈l,f (.int ((k:Nat):Int))=.ret (g k)) (q:Q (l.map g)):(mapW (av l) f).run Q:=by rw [rz h];exact q
theorem nY (t:Tr) (hz:t.size<=900):(iK t.pv).le (.ret (.tup ((t.nd 0).map Ent.pv))):=λQ q=>by
 unfold iK;simp only [f8,ce];refine W.le.use (OK t hz) ?_;refine tX (λr s=>∃(k:List Tr) (À:List Ent) (ls:List Nat),r=k.map Tr.pv/\s=(À.map Ent.pv,av ls.reverse)/\run k À ls=ap (t.nd 0,[t.size-1])/\À.length+k.length<=900/\ls.length<=À.length) ⟨t.post,[],[],rfl,rfl,LJ t,by simp [t.post_len];omega,Ao _⟩ ?_ ?_
 ·rintro x r s ⟨k,À,ls,e,rfl,h,hl,ï⟩;cases k with
  | nil=>cases e
  | cons p k=>
   injection e with e1 e2;subst e1;subst e2;rw [Ap] at hl;cases p with
   | leaf x=>
    have a1:∀y,kn (av ls.reverse) y=.ret (av ls.reverse++[y]):=λy=>iw (by simp;omega);simp [Tr.pv,iw (l:=À.map Ent.pv) (by simp;omega),a1];refine⟨k,rfl,À++[Ent.word x],À.length::ls,⟨by simp [Ent.pv],by simp⟩,h,by simp;omega,by simp;omega⟩
   | node c d=>
    match ls,h,ï with
    | b::a::ls,h,ï=>
     rw [Ap,Ap] at ï;have a0:av (b::a::ls).reverse=(av ls.reverse++[.int (a:Int)])++[.int (b:Int)]:=by simp
     have a1:∀y,kn (av ls.reverse) y=.ret (av ls.reverse++[y]):=λy=>iw (by simp;omega);rw [a0];simp only [Tr.pv,f8,d7,gK,aY,An,if_false,IL];simp [iw (l:=À.map Ent.pv) (by simp;omega),a1];refine⟨k,rfl,À++[Ent.pair a b],À.length::ls,⟨by simp [Ent.pv],by simp⟩,h,by simp;omega,by simp;omega⟩
 ·rintro s ⟨k,À,ls,e,rfl,h,hl,ï⟩;cases k with
  | nil=>
   cases h;simpa using q
  | cons p k=>cases e
end My
variable {a b d:Int}
namespace My
open PySem PySem.Spec PyProof.Rows L2 PL FL
theorem mulL (h:-1000000000<=a/\a<=1000000000):wv a b:=Vc ∅ ∅
theorem mulR (h:-1000000000<=b/\b<=1000000000):wv a b:=mul_r ∅ ∅
theorem RE:∀ns l Q,gZ ns->((ck 1 bz) l).run Q->((λlo l=>ck 1 (f9 lo) l) (ns.map PV.int) l).run λt=>Q t.1/\∃Km:List Int,t.2=Km.map PV.int/\gZ Km:=by
 rintro ns l Q ⟨g,s,c,rfl,g0,s0,s1,c0⟩ q
 match l,q with
 | [],q=>exact q.elim
 | _::_::_,q=>exact q.elim
 | [x],q=>
  show (f9 _ x).run _;have q:=q;cases x with
  | int m=>
   obtain⟨⟨m0,m1⟩,q⟩:=q;have q:∀d:Int,0<=d->d < m->Q (.int d):=λd h0 h1=>q _ ⟨d,rfl,h0,h1⟩;unfold f9;generalize hA:(2305843009213693921:Int)=A;generalize hB:(2305843009213693907:Int)=B;generalize hC:(65537:Int)=C;generalize hD:(999983:Int)=D;have A0:0 < A:=by omega
   have B0:0 < B:=by omega
   have C0:0 < C:=by omega
   have D0:0 < D:=by omega
   by_cases hg:0 < g
   ·simp [cq,oh,hg,m0,gq,UQ];refine⟨by omega,q _ (Cb _ ∅) (B5 _ m0),[g / m,s,c],rfl,_,_,_,rfl,Int.ediv_nonneg g0 ∅,s0,s1,c0⟩
   ·have e1:wv s 69069:=mulR ∅;have e2:wv 9973 (c+1):=mulL ∅;have e3:wv 2 (c+1):=mulL ∅;simp [cq,oh,hg,m0,gq,XT,e1,e2,e3,A0,B0,C0,D0];generalize hM:(s*69069+9973*(c+1)+5) % A=M;have M0:0<=M:=by rw [<- hM];exact Cb _ ∅
    have M1:M < A:=by rw [<- hM];exact B5 _ A0
    have e4:∀y,wv M y:=λy=>Vc ∅ ∅;generalize hN:M*(M % D+2*(c+1)+3) % B=N;have N0:0<=N:=by rw [<- hN];exact Cb _ ∅
    have N1:N < B:=by rw [<- hN];exact B5 _ B0
    refine⟨e4 _,⟨C0,by omega⟩,q _ (Cb _ ∅) (B5 _ m0),[g,N,c+1],rfl,_,_,_,rfl,g0,N0,by omega,by omega⟩
  | _=>exact q.elim
theorem YI (i:Int):0<=(if i < 0 then -i else i):=by split <;> omega
theorem Sg {k:Int} (k0:0<=k) (q:∀l,(∃ms:List Int,l=ms.map PV.int/\gZ ms)->Q l):(hX (.cl (ns.map PV.int)) (.int k)).run Q:=by
 unfold hX;generalize hA:(2305843009213693951:Int)=A;have A0:0 < A:=by omega
 have fin:∀x:Int,0<=x->(am (b2 pz (b2 oMod (bd (.int x)) (b2 pz (b2 zV (bd (.int 10)) (bd (.int 60))) (b2 zV (bd (.int 10)) (bd (.int 60))))) (c1 uA (b2 oGe (bd (.int x)) (b2 zV (bd (.int 10)) (bd (.int 18)))))) λoH=>
 (oH\λx6=>am (b2 oMod (w2 addW (w2 addW (bd (.int x)) (b2 pz (bd (.int 104729)) (bd (.int k)))) (bd (.int 7))) (bd (.int A))) λx7=>(.int 0)\λx8=>bd [x6,x7,x8])).run Q:=by
  intro x x0;have p1:Q7 10 60:=⟨by decide,by decide,by decide⟩;have p2:Q7 10 18:=⟨by decide,by decide,by decide⟩;simp only [f8,Yi,pr p1,pr p2,Qd,Qe,abV,oC,fV,W.QG,W.R1,ev,pr (mulL (show -1000000000<=(104729:Int)/\(104729:Int)<=1000000000 by decide)),pr A0];refine⟨IntMulOk.of_bits (by decide +kernel) (by decide +kernel),by decide +kernel,?_,?_⟩
  ·split
   ·exact mulR ∅
   ·exact mulR ∅
  ·refine q _ ⟨[_,_,_],rfl,_,_,_,rfl,Int.mul_nonneg (Cb _ (by decide +kernel)) ?_,Cb _ ∅,by rw [hA];exact B5 _ A0,DJ _⟩
   split <;> decide
 by_cases j8:k < (ns.length:Int)
 ·obtain⟨v,e,e2⟩:=QQ (xs:=ns.map PV.int) k0 (by rw [Ag];exact j8);rw [Ae] at e2;obtain⟨c,rfl⟩:∃c,v=.int c:=by
   cases z:ns[k.toNat]? with
   | none=>rw [z] at e2;cases e2
   | some c=>rw [z] at e2;exact⟨c,(Option.some.inj e2).symm⟩
  simp only [f8,fR,Gz,Ag,j8,decide_true,bA,if_true,bC,bb,e,sw,Yp];exact fin _ (YI _)
 ·simp only [f8,fR,Gz,Ag,j8,decide_false,bA,An,if_false];exact fin 0 (DJ _)
theorem HQ (h0:0<=d) (h1:d < 6):∃st:Int,cq [PV.int 1,PV.int 3,PV.int 5,PV.int 7,PV.int 9,PV.int 11] d=ap (.int st)/\(st=1\/st=3\/st=5\/st=7\/st=9\/st=11):=by
 have:d=0\/d=1\/d=2\/d=3\/d=4\/d=5:=by omega
 rcases this with rfl | rfl | rfl | rfl | rfl | rfl
 ·exact⟨1,rfl,by decide⟩
 ·exact⟨3,rfl,by decide⟩
 ·exact⟨5,rfl,by decide⟩
 ·exact⟨7,rfl,by decide⟩
 ·exact⟨9,rfl,by decide⟩
 ·exact⟨11,rfl,by decide⟩
theorem HS (h0:0<=d) (h1:d < 2):∃bg:Str,cq [PV.str "",PV.str "k"] d=ap (.str bg)/\Part bg 1:=by
 have:d=0\/d=1:=by omega
 rcases this with rfl | rfl
 ·exact⟨"",rfl,by decide +kernel,by decide +kernel⟩
 ·exact⟨"k",rfl,by decide +kernel,by decide +kernel⟩
theorem HU (h0:0<=d) (h1:d < 4):∃bg:Str,cq [PV.str "",PV.str "q",PV.str "zz",PV.str "abcdef"] d=ap (.str bg)/\Part bg 6:=by
 have:d=0\/d=1\/d=2\/d=3:=by omega
 rcases this with rfl | rfl | rfl | rfl
 ·exact⟨"",rfl,by decide +kernel,by decide +kernel⟩
 ·exact⟨"q",rfl,by decide +kernel,by decide +kernel⟩
 ·exact⟨"zz",rfl,by decide +kernel,by decide +kernel⟩
 ·exact⟨"abcdef",rfl,by decide +kernel,by decide +kernel⟩
theorem cR (h:-1000<=i/\i<=1000/\-1000<=j/\j<=1000) (h2:j-i<=1000):okN i j:=⟨by omega,by omega,by omega,by omega,a8 ∅⟩
theorem Li {m:Int} (m0:0<=m) (m1:m<=26) (q:∀ws:List Str,ws.length=m.toNat->(∀x∈ws,Wd x)->ws.Nodup->(∃b,b<=1/\(ws.map λx=>x.cps[b]?).Nodup)->Q (ws.map PV.str)):(dF (.int m)).run Q:=by
 unfold dF;simp only [f8,ce,da 26 ⋯ ⋯,da 6 ⋯ ⋯,da 2 ⋯ ⋯];refine bD λd1 a1 b1=>bD λd3 a3 b3=>?_;obtain⟨st,qI,kst⟩:=HQ a3 b3;simp only [bb,qI,sw,ev];refine bD λd5 a5 b5=>?_;obtain⟨bg,hbg,kbg⟩:=HS a5 b5;simp only [bb,hbg,sw,ev,gJ,pr (cR (i:=0) (j:=m) ∅ ∅)];have lb:=kbg.1;refine oy (λi s=>∃ws:List Str,s=ws.map PV.str/\ws.length=i/\(∀x∈ws,Wd x)/\(ws.map λx=>x.cps[bg.length]?)=(Ax i).map λk:Nat=>ap (97+((d1+st*(0+(k:Int))) % 26).toNat)) ⟨[],rfl,rfl,by simp,rfl⟩ ?_ ?_
 ·rintro i s hi ⟨ws,rfl,hl,hw,hs⟩;have e0:0<=(d1+st*(0+(i:Int))) % 26:=Cb _ ⋯;have e1:(d1+st*(0+(i:Int))) % 26 < 26:=B5 _ ⋯;have e2:(d1+st*(i:Int))=d1+st*(0+(i:Int)):=by rw [EY]
  obtain⟨en,hen,ken⟩:=HU (d:=(d1+(i:Int)) % 4) (Cb _ ⋯) (B5 _ ⋯);have le:=ken.1;have c1:wv st (i:Int):=mulL ∅;have c2:("abcdefghijklmnopqrstuvwxyz":Str).length<=sizeLine:=by decide +kernel
  have c3:bg.length+(⟨#[97+((d1+st*(0+(i:Int))) % 26).toNat]⟩:Str).length<=sizeLine:=a8 (by show bg.length+1<=1000;omega);have c4:(bg++(⟨#[97+((d1+st*(0+(i:Int))) % 26).toNat]⟩:Str)).length+en.length<=sizeLine:=a8 (by rw [Dc];show bg.length+1+en.length<=1000;omega);simp only [f8,ce,Qd,pr c1,fV,Qe,pr (show (0:Int) < 26 by decide),pr (show (0:Int) < 4 by decide),e2,Ym _ _ (L0 e0 e1),pr c2,K2,pr c3,bC,bb,hen,sw,pr c4,iw (l:=ws.map PV.str) (by rw [Ag];omega),ev];refine⟨ws++[bg++⟨#[97+((d1+st*(0+(i:Int))) % 26).toNat]⟩++en],by rw [AU];rfl,by rw [Af,hl];rfl,?_,by rw [AU,hs,DR,AU,Eg,Eg,Lj]⟩;intro x hx;rcases AY.mp hx with z | z
  ·exact hw x z
  ·rw [A3.mp z];exact NA kbg ken ∅ ∅
 ·rintro s ⟨ws,rfl,hl,hw,hs⟩;have nd:(ws.map λx=>x.cps[bg.length]?).Nodup:=by rw [hs];exact uV kst ∅
  exact q ws hl hw (nX (g:=λx:Str=>x.cps[bg.length]?) nd) ⟨_,by omega,nd⟩
end My
variable {Q:PL.PV->Prop}{ws:List BZ}
namespace My
open PySem PySem.Spec PyProof.Rows L2 PL FL
theorem YD {l:List α} (h:k+1 < l.length):∃a x y b,l=a++x::y::b/\a.length=k:=by
 refine⟨l.take k,l[k],l[k+1],l.drop (k+2),?_,by rw [Cg];omega⟩;have e1:l.drop k=l[k]::l.drop (k+1):=Bu ∅;have e2:=Bu ∅;rw [<- e2,<- e1,List.take_append_drop]
theorem zk (hw:ws≠[]) (h8:ws.length<=100) (q:∀t:Tr,t.ax.Perm ws->Q t.pv):(lA (.cl (ws.map PV.str))).run Q:=by
 unfold lA;simp only [f8,ce,bC,ev,da 4 ⋯ ⋯];refine bD λw w0 w1=>?_;refine gU (λn s=>∃ts:List Tr,s=ts.map Tr.pv/\n=ts.length/\ts≠[]/\(ts.flatMap Tr.ax).Perm ws/\ts.length<=100) (n:=ws.length) ⟨ws.map Tr.leaf,by simp [Tr.pv],by simp,by simpa using hw,?_,by simpa using h8⟩ ?_
 ·rw [List.flatMap_map];have:ws.flatMap (λx=>(Tr.leaf x).ax)=ws:=by
   simp [Tr.ax,List.flatMap_singleton']
  rw [this]
 ·rintro n s ⟨ts,rfl,rfl,KL,hp,hl⟩;by_cases h1:1 < ts.length
  ·have c0:(1:Int) < (ts.length:Int):=by omega
   simp only [f8,ce,ub,Ag,VC,c0,decide_true,bA,ev,if_true,pR,da ((ts.length:Int)-1) ∅ ∅];refine bD λd d0 d1=>?_;obtain⟨a,ha,a0,a1⟩:∃a:Nat,cq [PV.int d,PV.int ((ts.length:Int)-2),PV.int 0,PV.int 0] w=ap (.int (a:Int))/\0<=a/\a+1 < ts.length:=by
    have:w=0\/w=1\/w=2\/w=3:=by omega
    rcases this with rfl | rfl | rfl | rfl
    ·exact⟨d.toNat,by show ap (PV.int d)=_;rw [Int.toNat_of_nonneg d0],by omega,by omega⟩
    ·exact⟨ts.length-2,by show ap (PV.int ((ts.length:Int)-2))=_;congr 2;omega,by omega,by omega⟩
    ·exact⟨0,rfl,by omega,by omega⟩
    ·exact⟨0,rfl,by omega,by omega⟩
   obtain⟨as,x,y,bs,rfl,hk⟩:=YD a1;have i0:cq ((as++x::y::bs).map Tr.pv) (a:Int)=ap x.pv:=bM (by rw [Ae,AI ∅];simp [hk]);have i1:cq ((as++x::y::bs).map Tr.pv) ((a:Int)+1)=ap y.pv:=by
    have:((a:Int)+1)=((a+1:Nat):Int):=by push_cast;rfl
    rw [this];exact bM (by rw [Ae,AI ∅];simp [hk])
   simp only [bb,ha,sw,ev,i0,i1,fV,f8];have fin:∀p:Tr,p.ax.Perm (x.ax++y.ax)->(RS ((as++x::y::bs).map Tr.pv) (.int (a:Int)) (.int ((a:Int)+2)) [p.pv]).run λa=>∃m,m < (as++x::y::bs).length/\∃ts:List Tr,a=ts.map Tr.pv/\m=ts.length/\ts≠[]/\(ts.flatMap Tr.ax).Perm ws/\ts.length<=100:=by
    intro p ĳ;rw [Af,Ap,Ap] at hl;refine⟨⟨by omega,by omega,?_,a8 ?_⟩,?_⟩
    ·rw [Ag,Af,Ap,Ap];push_cast;omega
    ·rw [Ag,Af,Ap,Ap];simp;omega
    ·have e:((as++x::y::bs).map Tr.pv).take (a:Int).toNat++[p.pv]++((as++x::y::bs).map Tr.pv).drop ((a:Int)+2).toNat=(as++p::bs).map Tr.pv:=by
      have t1:(a:Int).toNat=as.length:=by omega
      have t2:((a:Int)+2).toNat=as.length+2:=by omega
      rw [t1,t2,<- List.map_take,<- List.map_drop,List.take_left' rfl];have:(as++x::y::bs).drop (as.length+2)=bs:=by
       rw [show as++x::y::bs=(as++[x,y])++bs by simp,List.drop_left' (by simp)]
      rw [this];simp
     show ∃m,_/\∃ts:List Tr,_;rw [e];refine⟨(as++p::bs).length,by simp,as++p::bs,rfl,rfl,by simp,?_,by simp;omega⟩;refine List.Perm.trans ?_ hp;simp only [Ce,List.flatMap_cons];refine List.Perm.append_left _ ?_;rw [<- Be];exact ĳ.append_right _
   by_cases h3:w=3
   ·subst h3;simp only [dD,bA,beq_self_eq_true,ev,f8,if_true,ce,da 2 ⋯ ⋯];refine bD λd2 d20 d21=>?_;by_cases h4:d2=0
    ·subst h4;simp only [dD,bA,beq_self_eq_true,ev,f8,if_true,ce,i0,i1,bb,fV,sw];exact fin (.node y x) List.perm_append_comm
    ·have e4:(d2==0)=false:=by simpa using h4
     simp only [dD,bA,e4,ev,f8,ce,An,if_false];exact fin (.node x y) (List.Perm.refl _)
   ·have e3:(w==3)=false:=by simpa using h3
    simp only [dD,bA,e3,ev,f8,ce,An,if_false];exact fin (.node x y) (List.Perm.refl _)
  ·have c0:¬(1:Int) < (ts.length:Int):=by omega
   simp only [f8,ce,ub,Ag,VC,c0,decide_false,bA,ev,An,if_false]
   match ts,KL,h1,hp with
   | [t],_,_,hp=>
    have:t.ax.Perm ws:=by simpa using hp
    exact q t this
   | _::_::_,_,h1,_=>simp at h1
structure qu (t:Tr):Prop where
 ws:t.Ws
 nd:t.ax.Nodup
 few:t.ax.length<=8
 sg:∃b,b<=1/\(t.ax.map λx=>x.cps[b]?).Nodup
theorem Mi (q:∀t:Tr,qu t->Q t.pv):n9.run Q:=by
 unfold n9;simp only [f8,ce,da 8 ⋯ ⋯];refine bD λd d0 d1=>?_;obtain⟨n,hn,n0,n1⟩:∃n:Int,cq [PV.int 5,PV.int 8] (if (d==0)=true then 1 else 0)=ap (.int n)/\0 < n/\n<=8:=by
  by_cases h:d=0
  ·subst h;exact⟨8,rfl,by decide,by decide⟩
  ·have e:(d==0)=false:=by simpa using h
   rw [e];exact⟨5,rfl,by decide,by decide⟩
 simp only [dD,ev,oC,bb,hn,sw,da n n0 ∅];refine bD λk k0 k1=>?_;refine Li ∅ ∅ λws hl hw hd ⟨b,b1,hb⟩=>?_;refine zk (λz=>by rw [z] at hl;simp at hl;omega) ∅ λt ht=>q t ⟨λx hx=>hw x (ht.mem_iff.mp hx),ht.nodup_iff.mpr hd,by rw [ht.length_eq,hl];omega,b,b1,(ht.map _).nodup_iff.mpr hb⟩
end My
variable {a b i j y:Nat}{ds:List Int}{m:List PL.PV}
namespace My
open PySem PySem.Spec PyProof.Rows L2 PL FL
def tG:Ent->Bool
 | .word _=>false
 | .pair _ _=>true
structure Dt (t:Tr) (ds:List Int) (left:List Nat) (d:Int):Prop where
 len:ds.length=t.size
 zero:∀j,j < t.size->(tG (en t 0 j)=false\/j∈left)->ds.getD j 0=0
 up:∀j,j < t.size->j∉left->∀a b,en t 0 j=.pair a b->a∉left/\b∉left/\ds.getD a 0 < ds.getD j 0/\ds.getD b 0 < ds.getD j 0/\1<=ds.getD j 0/\ds.getD j 0<=d
 inj:∀i j,i < t.size->j < t.size->i∉left->j∉left->tG (en t 0 i)=true->tG (en t 0 j)=true->ds.getD i 0=ds.getD j 0->i=j
 pos:0<=d
 Y2:∀j∈left,j < t.size/\tG (en t 0 j)=true
 ris:left.Pairwise (· < ·)
def i7 {l:List Int}{v:Int} (h:i < l.length):(l.set i v).getD i 0=v:=by rw [Al,Bw h];rfl
def cg {l:List Int}{v:Int} (h:i≠j):(l.set i v).getD j 0=l.getD j 0:=by rw [Al,Bd h,<- Al]
def uT {l:List Nat} (h:l.Pairwise (· < ·)) {x:Nat}:y∈l.erase x↔y∈l/\y≠x:=by
 have nd:l.Nodup:=h.imp (λz=>AM z);rw [nd.mem_erase_iff];exact⟨λz=>⟨z.2,z.1⟩,λz=>⟨z.2,z.1⟩⟩
theorem cV (t:Tr) (h:j < t.size) (e:en t 0 j=.pair a b):a < j/\b < j:=by
 rcases QM t 0 j h with⟨x,e1,_⟩ | ⟨a',b',e1,e2,e3,_⟩
 ·rw [e1] at e;cases e
 ·rw [e1] at e;injection e with h1 h2;omega
theorem Dt.next {left:List Nat}{x:Int} (D:Dt t ds left d) (hj:j∈left) (e:en t 0 j=.pair a b) (ha:a∉left) (hb:b∉left) (hx:0<=x):Dt t (ds.set j (d+1+x)) (left.erase j) (d+1+x):=by
 obtain⟨hjs,hjp⟩:=D.Y2 j hj;obtain⟨haj,hbj⟩:=cV t hjs e;have Rg:j < ds.length:=by rw [D.len];exact hjs
 have hm:∀y,y∈left.erase j↔y∈left/\y≠j:=λy=>uT D.ris;have Ò:∀y,y < t.size->y∉left->ds.getD y 0<=d:=λy hy ą=>by
  cases ey:en t 0 y with
  | word w=>rw [D.zero y hy (.inl (by rw [ey];rfl))];exact D.pos
  | pair p q=>exact (D.up y hy ą p q ey).2.2.2.2.2
 refine⟨by rw [B1];exact D.len,λy hy hc=>?_,λy hy ą p q ey=>?_,λu v hu hv hul hvl pu pv Vo=>?_,by have:=D.pos;omega,λy hy=>D.Y2 y ((hm y).mp hy).1,List.Pairwise.sublist List.erase_sublist D.ris⟩
 ·have ì:j≠y:=λz=>by
   subst z;rcases hc with hc | hc
   ·rw [hjp] at hc;cases hc
   ·exact ((hm j).mp hc).2 rfl
  rw [cg ì];exact D.zero y hy (hc.imp id λz=>((hm y).mp z).1)
 ·by_cases ì:j=y
  ·subst ì;rw [e] at ey;injection ey with h1 h2;subst h1 h2;have la:=Ò a ∅ ha;have lb:=Ò b ∅ hb;rw [i7 Rg,cg ∅,cg ∅];have:=D.pos;exact⟨λz=>ha ((hm a).mp z).1,λz=>hb ((hm b).mp z).1,by omega,by omega,by omega,by omega⟩
  ·have aeV:y∉left:=λz=>ą ((hm y).mpr ⟨z,BL ì⟩);obtain⟨p1,p2,p3,p4,p5,p6⟩:=D.up y hy aeV p q ey;have np:j≠p:=λz=>p1 (z▸hj);have nq:j≠q:=λz=>p2 (z▸hj);rw [cg ì,cg np,cg nq];exact⟨λz=>p1 ((hm p).mp z).1,λz=>p2 ((hm q).mp z).1,p3,p4,p5,by omega⟩
 ·by_cases c1:j=u
  ·by_cases c2:j=v
   ·exact c1.symm.trans c2
   ·exfalso;subst c1;have XZ:v∉left:=λz=>hvl ((hm v).mpr ⟨z,BL c2⟩);rw [i7 Rg,cg c2] at Vo;have:=Ò v hv XZ;omega
  ·have abg:u∉left:=λz=>hul ((hm u).mpr ⟨z,BL c1⟩);by_cases c2:j=v
   ·exfalso;subst c2;rw [i7 Rg,cg c1] at Vo;have:=Ò u hu abg;omega
   ·have XZ:v∉left:=λz=>hvl ((hm v).mpr ⟨z,BL c2⟩);rw [cg c1,cg c2] at Vo;exact D.inj u v hu hv abg XZ pu pv Vo
def splits (t:Tr):List Nat:=(Ax t.size).filter λj=>tG (en t 0 j)
def Dt.first (t:Tr):Dt t (Am t.size 0) (splits t) 0:=by
 have z:∀j,(Am t.size (0:Int)).getD j 0=0:=λj=>by
  rw [Al,BD]
  split <;> rfl
 have mem:∀j,j∈splits t↔j < t.size/\tG (en t 0 j)=true:=λj=>by unfold splits;rw [Ay,Aw]
 refine⟨Bf,λj _ _=>z j,λj hj hn a b e=>absurd ((mem j).mpr ⟨hj,by rw [e];rfl⟩) hn,λi j hi hj hni _ pi _ _=>absurd ((mem i).mpr ⟨hi,pi⟩) hni,DJ _,λj hj=>(mem j).mp hj,?_⟩;exact List.Pairwise.filter _ Dk
theorem K3 (t:Tr):dZ 0 ((t.nd 0).map Ent.pv)=(Ax t.size).map λj=>PV.tup [.int ((j:Nat):Int),(en t 0 j).pv]:=by
 have hl:(dZ 0 ((t.nd 0).map Ent.pv)).length=t.size:=by rw [cU,Ag,t.bx]
 apply A1;intro i;by_cases hi:i < t.size
 ·have h1:(dZ 0 ((t.nd 0).map Ent.pv))[i]?=ap ((dZ 0 ((t.nd 0).map Ent.pv))[i]'∅):=Ad _;obtain⟨y,hy,e⟩:=gP h1;rw [Ae,fj t 0 i hi] at hy;have Tw:=Option.some.inj hy;rw [h1,e,<- Tw,Ae,AR hi,AG];rfl
 ·rw [Av ∅,Av (by rw [Ag,BM];omega)]
def S4:PV->Option PV
 | .tup [_,.str _]=>bm
 | .tup [k,_]=>ap k
 | _=>bm
def Xv (t:Tr):(dZ 0 ((t.nd 0).map Ent.pv)).filterMap S4=av (splits t):=by
 rw [K3];unfold splits;generalize Ax t.size=l
 induction l with
 | nil=>rfl
 | cons j l ih=>
  rw [Az,BB,Ci];cases e:en t 0 j with
  | word w=>exact ih
  | pair a b=>
   rw [ih];rfl
def vJ (l:List Nat):av l=(l.map λn=>((n:Nat):Int)).map PV.int:=by unfold av;rw [AH];rfl
theorem ue (y:Nat):∀l:List Nat,(l.map λn=>((n:Nat):Int)).erase (y:Int)=(l.erase y).map λn=>((n:Nat):Int)
 | []=>rfl
 | a::l=>by
  rw [Az,List.erase_cons,List.erase_cons,ue y l];by_cases c:a=y
  ·subst c;simp
  ·have c1:(((a:Nat):Int)==(y:Int))=false:=by simp;omega
   have c2:(a==y)=false:=by simpa using c
   rw [c1,c2];simp
theorem Xo (h0:0<=d) (h1:d < 3):∃m:Int,cq [PV.int 1,PV.int 3,PV.int 13] d=ap (.int m)/\0 < m/\m<=13:=by
 have:d=0\/d=1\/d=2:=by omega
 rcases this with rfl | rfl | rfl
 ·exact⟨1,rfl,by decide,by decide⟩
 ·exact⟨3,rfl,by decide,by decide⟩
 ·exact⟨13,rfl,by decide,by decide⟩
theorem J7:∀(l:List Nat) (k n:Nat),l.Pairwise (· < ·)->(∀x∈l,k<=x/\x < n)->l.length<=n-k
 | [],_,_,_,_=>Bb _
 | a::l,k,n,h,hb=>by
  have h1:=(Ef.mp h);have h2:=hb a BF;have ih:=J7 l (a+1) n h1.2 λx hx=>⟨h1.1 x hx,(hb x (AW _ hx)).2⟩;rw [Ap];omega
def Wo (s:Nat):Ent->Ent
 | .word x=>.word x
 | .pair p q=>.pair (p+s) (q+s)
theorem HJ:∀(t:Tr) (o s:Nat),t.nd (o+s)=(t.nd o).map (Wo s)
 | .leaf _,_,_=>rfl
 | .node a b,o,s=>by
  have ha:=a.size_pos;rw [Tr.nd,Tr.nd,HJ a o s,show o+s+a.size=o+a.size+s by omega,HJ b (o+a.size) s,AU,AU];congr 2;congr 1 <;> omega
def lQ (h:l.length+m.length<=1000):ur l m=.ret (l++m):=pr (a8 h)
theorem gN:∀(n:Nat) (t:Tr),t.depth < n->t.size<=900->(bf n t.pv).le (.ret ((t.nd 0).map Ent.pv))
 | 0,_,h,_=>by omega
 | n+1,.leaf w,_,_=>λQ q=>by
  unfold bf;simp [Tr.pv];exact q
 | n+1,.node a b,h,hz=>λQ q=>by
  have hs:(Tr.node a b).size=a.size+b.size+1:=rfl;have hpa:=a.size_pos;have hd:a.depth < n/\b.depth < n:=by simp [Tr.depth] at h;omega
  unfold bf;have i0:cq [a.pv,b.pv] 0=ap a.pv:=rfl;have i1:cq [a.pv,b.pv] 1=ap b.pv:=rfl;simp only [Tr.pv,f8,ce,d7,gK,aY,An,if_false,ay,bb,i0,i1,sw];refine W.le.use (gN n a hd.1 ∅) ?_;simp only [ub,Ag,a.bx,ev];refine W.le.use (gN n b hd.2 ∅) ?_;refine kd (λi s=>s=(a.nd 0++((b.nd 0).take i).map (Wo a.size)).map Ent.pv) (by simp) (λi x s hx hs=>?_) (λs hs=>?_)
  ·subst hs;rw [Ae] at hx;cases e:(b.nd 0)[i]? with
   | none=>rw [e] at hx;cases hx
   | some en=>
    rw [e] at hx;have ex:=Option.some.inj hx;subst ex;have hi:i < b.size:=by have:=(Ak.mp e).1;rw [b.bx] at this;exact this
    have et:(b.nd 0).take (i+1)=(b.nd 0).take i++[en]:=by rw [Ed,e];rfl
    have al:∀y,kn ((a.nd 0++((b.nd 0).take i).map (Wo a.size)).map Ent.pv) y=.ret ((a.nd 0++((b.nd 0).take i).map (Wo a.size)).map Ent.pv++[y]):=λy=>iw (by simp [a.bx];omega);cases en with
    | word w=>
     simp only [Ent.pv,f8,ce,fc,fU,aY,if_true,al,ev,et];simp [Wo,Ent.pv]
    | pair u v=>
     have j0:cq [PV.int (u:Int),PV.int (v:Int)] 0=ap (.int u):=rfl;have j1:cq [PV.int (u:Int),PV.int (v:Int)] 1=ap (.int v):=rfl;simp only [Ent.pv,f8,ce,d7,gK,aY,An,if_false,ay,bb,j0,j1,sw,fV,al,ev,et];simp [Wo,Ent.pv]
  ·subst hs;rw [Bv (by rw [Ag];exact Ao _)];have es:(b.nd 0).map (Wo a.size)=b.nd a.size:=by rw [<- HJ b 0 a.size,AG]
   rw [es];simp only [f8,ce,pR,ub,Ag,Af,a.bx,b.bx,ev];rw [lQ (by simp [a.bx,b.bx];omega)];have e:(Tr.node a b).nd 0=a.nd 0++b.nd a.size++[.pair (a.size-1) (a.size+b.size-1)]:=by rw [Tr.nd];simp
   rw [e] at q;have e1:((a.size:Int)-1)=((a.size-1:Nat):Int):=by omega
   have e2:(((a.size+b.size:Nat):Int)-1)=((a.size+b.size-1:Nat):Int):=by omega
   rw [e1,e2];simpa [Ent.pv] using q
theorem pick_run (h0:l≠[]) (h1:l.length<=1000) (q:∀x∈l,Q x):(bJ (.cl l)).run Q:=by
 unfold bJ;have hp:0 < l.length:=Fu.mpr h0;simp only [f8,ce,bC,fR,da (l.length:Int) ∅ ∅,ev];refine bD λd d0 d1=>?_;obtain⟨v,hv,ī⟩:=QQ (xs:=l) d0 d1;simp only [bb,hv,sw,ev];exact q v (A7 ī)
theorem Ik (k:Nat) (l:List Nat) (b:Bool):tK b (.int (k:Int)) (av l)=.ret (if b then !decide (k∈l) else decide (k∈l)):=by
 have h1:tL (.int (k:Int)) (av l):=⟨by simp,gc.mpr λx hx=>by
  obtain⟨n,_,rfl⟩:=Ar.mp hx;simp,gj λx hx=>by
  obtain⟨n,_,rfl⟩:=Ar.mp hx;simp⟩
 have h2:m6 (.int (k:Int)) (av l)=decide (k∈l):=by
  unfold m6 av;rw [FN]
  induction l with
  | nil=>simp
  | cons a l ih=>
   have ih:=ih ⟨by simp,gc.mpr λx hx=>by
    obtain⟨n,_,rfl⟩:=Ar.mp hx;simp,gj λx hx=>by
    obtain⟨n,_,rfl⟩:=Ar.mp hx;simp⟩
   rw [Cz,ih];by_cases c:a=k
   ·subst c;simp
   ·have c1:(((a:Nat):Int)==(k:Int))=false:=by simp;omega
    have c2:¬k=a:=λz=>c z.symm;simp [c1,c2]
 unfold tK;rw [pr h1,h2]
def QC (l:List Nat):vg (av l)=true:=GR.mpr λx hx=>by
 obtain⟨n,_,rfl⟩:=Ar.mp hx;rw [PV.dat] <;> simp
def dm (ds:List Int):List PV:=ds.map PV.int
@[simp] theorem ic (ds:List Int):(dm ds).length=ds.length:=Ag _
def Pk (ds:List Int) (y:Nat) (v:Int):(dm ds).set y (.int v)=dm (ds.set y v):=by unfold dm;rw [ET]
def R5 (t:Tr) (left:List Nat) (j:Nat):Bool:=match en t 0 j with
 | .pair a b=>!decide (a∈left)&&!decide (b∈left)
 | _=>false
theorem KC (h:k < n):oh n (k:Int)=ap k:=by
 unfold oh;rw [if_pos ∅,if_pos ∅];simp
def jU (h:k < l.length):gq l (.int (k:Int)) v=.ret (l.set k v):=by
 unfold gq;simp [KC h]
def HL (t:Tr) (h:j < t.size):cq ((t.nd 0).map Ent.pv) (j:Int)=ap (en t 0 j).pv:=bM (by rw [Ae,fj t 0 j h];rfl)
theorem MR (t:Tr) (hz:t.size<=900) (q:∀ds d,Dt t ds [] d->d<=13*((splits t).length:Int)->Q (.tup (dm ds))):(eZ (.cl ((t.nd 0).map Ent.pv))).run Q:=by
 unfold eZ;have e1:zF [PV.int 0] (.int ((t.nd 0).map Ent.pv).length)=.ret (dm (Am t.size 0)):=by
  rw [Qa,pr ⟨by omega,by rw [Ag,t.bx];omega,a8 (by simp [t.bx];omega)⟩];congr 1;rw [Ag,t.bx,A2]
  induction t.size with
  | zero=>rfl
  | succ n ih=>rw [BA,B8,ih];rfl
 have e3:((t.nd 0).map Ent.pv).length<=sizeLine:=a8 (by rw [Ag,t.bx];omega);simp only [f8,fR,e1,bC,pr e3,ce];refine aaX S4 (λx hx=>?_) ?_
 ·rw [K3] at hx;obtain⟨j,hj,rfl⟩:=Ar.mp hx;cases en t 0 j with
  | word w=>simp [Ent.pv,S4]
  | pair u v=>simp [Ent.pv,S4]
 rw [Xv t];refine gU (λn s=>∃(ds:List Int) (left:List Nat) (d:Int),s=(dm ds,av left,PV.int d)/\n=left.length/\Dt t ds left d/\d+13*(left.length:Int)<=13*((splits t).length:Int)) ⟨_,_,0,rfl,rfl,Dt.first t,by omega⟩ ?_;rintro n s ⟨ds,left,d,rfl,rfl,D,hd⟩;by_cases he:left=[]
 ·subst he;simp;exact q ds d D (by simpa using hd)
 ·have ee:(!(av left).isEmpty)=true:=by cases left with | nil=>exact absurd rfl he | cons a l=>rfl
  have ï:left.length<=t.size:=by
   have:=J7 left 0 t.size D.ris λx hx=>⟨Bb _,(D.Y2 x hx).1⟩;omega
  obtain⟨r,hr,hr2⟩:∃r∈left,R5 t left r=true:=by
   obtain⟨l0,l1,rfl⟩:∃l0 l1,left=l0::l1:=by cases left with | nil=>exact absurd rfl he | cons a l=>exact⟨a,l,rfl⟩
   refine⟨l0,.head _,?_⟩;obtain⟨h1,h2⟩:=D.Y2 l0 (.head _);unfold R5;cases e:en t 0 l0 with
   | word w=>rw [e] at h2;cases h2
   | pair a b=>
    obtain⟨g1,g2⟩:=cV t h1 e;have Ò:∀y∈l0::l1,l0<=y:=λy hy=>by
     rcases AA.mp hy with rfl | hy
     ·exact Ao _
     ·exact D2 ((Ef.mp D.ris).1 y hy)
    have na:a∉l0::l1:=λz=>by have:=Ò a z;omega
    have nb:b∉l0::l1:=λz=>by have:=Ò b z;omega
    show (!decide _&&!decide _)=true;rw [decide_eq_false na,decide_eq_false nb];rfl
  have ne:av (left.filter (R5 t left))≠[]:=by
   intro z;have:=congrArg B2 z;rw [bh] at this;have m:=Ay.mpr ⟨hr,hr2⟩;rw [EG.mp this] at m;cases m
  have e5:NJ (av (left.filter (R5 t left)))=.ret (av (left.filter (R5 t left))):=pr (QC _);simp only [ev,ee,if_true,f8,ce];refine sZ (R5 t left) (λk hk=>?_) ?_
  ·obtain⟨h1,h2⟩:=D.Y2 k hk;unfold R5;cases e:en t 0 k with
   | word w=>rw [e] at h2;cases h2
   | pair a b=>
    have j0:cq [PV.int (a:Int),PV.int (b:Int)] 0=ap (.int a):=rfl;have j1:cq [PV.int (a:Int),PV.int (b:Int)] 1=ap (.int b):=rfl;simp only [f8,bC,bb,HL t h1,e,Ent.pv,sw,ay,j0,j1,Ik,if_true];by_cases ca:a∈left
    ·simp [ca]
    ·simp [ca];by_cases cb:b∈left
     ·simp [cb]
     ·simp [cb]
  rw [e5];refine pick_run ne (by rw [bh];have:=Bg (R5 t left) left;omega) λx hx=>?_;obtain⟨j,hj,rfl⟩:=Ar.mp hx;obtain⟨X2,Pt⟩:=Ay.mp hj;obtain⟨js,jp⟩:=D.Y2 j X2;cases ej:en t 0 j with
  | word w=>rw [ej] at jp;cases jp
  | pair a b=>
  unfold R5 at Pt;rw [ej] at Pt;simp at Pt;simp only [fV,ev,da 3 ⋯ ⋯];refine bD λz z0 z1=>?_;obtain⟨m,hm,m0,m1⟩:=Xo z0 z1;simp only [bb,hm,sw,ev,da m m0 ∅];refine bD λy y0 y1=>?_;have ĩ:Ww (av left) (.int (j:Int))=.ret (av (left.erase j)):=by
   show am (qg (av left)) _=_;rw [vJ,ml];show W.fD _ _=_;rw [pr (Ar.mpr ⟨j,X2,rfl⟩),ue,<- vJ]
  simp only [fV,ev,jU (l:=dm ds) (k:=j) (by rw [ic,D.len];exact js),ĩ,Pk];refine⟨(left.erase j).length,by rw [Ez X2];have:=EU X2;omega,_,_,_,rfl,rfl,D.next X2 ej Pt.1 Pt.2 y0,?_⟩;rw [Ez X2];have:=EU X2;omega
theorem qu.size (g:qu t):t.size<=15:=by have:=t.size_eq;have:=g.few;omega
theorem qu.depth (g:qu t):t.depth < 8:=by have:=t.oI;have:=g.few;omega
theorem Rr (h:Wd x):jw (.str x)=.ret (.bl true):=by
 unfold jw;obtain⟨h1,h2,h3⟩:=h;have c1:x.length<=sizeLine:=a8 ∅;have c2:x.cps.size<=sizeLine:=c1;have c3:(1:Int)<=(x.length:Int):=by omega
 have c4:(x.length:Int)<=8:=by omega
 simp only [f8,fc,fU,aY,Bz,An,if_false,T5,pr c1,Qf,c3,c4,decide_true,v9,bA,P9,pr c2];rw [xE (g:=λ_=>PV.bl true) λy hy=>?_]
 ·simp only [f8];rw [all_map (λ_=>true)];congr 2;exact CF.mpr λ_ _=>rfl
 ·obtain⟨c,hc,rfl⟩:=Ar.mp hy;obtain⟨k1,k2⟩:=h3 c hc;simp only [Yn,Il k1 k2]
def HB (l:List PV) (n:Int):fZ (.tup l) (.int n)=.ret (.bl ((l.length:Int)==n)):=by
 unfold fZ;simp only [f8,d7,yh,gL,cx,dD]
def Wu (x:Str) (n:PV):fZ (.str x) n=.ret (.bl false):=by
 unfold fZ;simp only [f8,fc,KZ,K1]
def NC (i:Int):hU (.int i)=.ret (.bl true):=by
 unfold hU;simp
theorem PM (t:Tr) (hw:t.Ws) (b:Bool) (hd:b=true\/t.ax.Nodup) (hz:t.size<=900):(hV t.pv (.bl b)).le (.ret (.bl true)):=λQ q=>by
 unfold hV;simp only [f8,ce];refine Hj (λn s=>∃(ts:List Tr) (kvs:List (Key×PV)),n=sizes ts/\s=(kvs,ts.map Tr.pv)/\(∀x∈ts.flatMap Tr.ax,Wd x)/\(b=true\/(ts.flatMap Tr.ax).Nodup/\∀x∈ts.flatMap Tr.ax,qK kvs (.inr x)=false)/\sizes ts+kvs.length<=900) (n:=sizes [t]) ⟨[t],[],rfl,rfl,λx hx=>hw x (by simpa using hx),by rcases hd with h | h;exact .inl h;exact .inr ⟨by simpa using h,by simp [qK]⟩,by rw [ft];simpa using hz⟩ ?_;rintro n s ⟨ts,kvs,rfl,rfl,h1,h2,h3⟩;by_cases he:ts=[]
 ·subst he;exact q
 ·obtain⟨us,u,rfl⟩:=xf he;have hsu:=u.size_pos;have Mf:=len_sizes us;rw [bX,ft] at h3;have ee:(!((us++[u]).map Tr.pv).isEmpty)=true:=by simp
  have em:(us++[u]).map Tr.pv=us.map Tr.pv++[u.pv]:=by simp
  simp only [f8,ev,ee,if_true,ce];rw [em];simp only [IL,ev];cases u with
  | leaf x=>
   have wx:Wd x:=h1 x (by simp [Tr.ax]);have c1:kvs.length < sizeLine:=vE ∅;have cb:=h2.imp id λh=>h.2 x (by simp [Tr.ax]);have ct:(if (qK kvs (.inr x))=true then (bd (!b)) else bd false)=bd false:=by
    rcases cb with h | h
    ·rw [h];split <;> rfl
    ·rw [h];rfl
   simp only [Tr.pv,Wu,aY,ev,An,if_false,Rr wx,Bz,f8,T6,ct,WK,pr c1,ce];refine⟨sizes us,by rw [bX,ft];show sizes us < sizes us+1;omega,us,_,rfl,rfl,λy hy=>h1 y (by simp [hy]),?_,?_⟩
   ·rcases h2 with h | ⟨h,k⟩
    ·exact .inl h
    ·right
     rw [Ce] at h;have nx:x∉us.flatMap Tr.ax:=λz=>by
      have:=(Cv.mp h).2.2 x z x (by simp [Tr.ax]);exact this rfl
     refine⟨(Cv.mp h).1,λy hy=>?_⟩;have ky:=k y (by simp [hy]);have kx:=k x (by simp [Tr.ax]);have nyx:x≠y:=λz=>nx (z▸hy);unfold putP;rw [kx];show qK (kvs++[_]) _=false;unfold qK at ky ⊢;rw [List.any_append,ky];simp [nyx]
   ·have:(putP kvs (.inr x) (.bl true)).length<=kvs.length+1:=by
     unfold putP
     split <;> simp
    omega
  | node c d=>
   have hsz:(Tr.node c d).size=c.size+d.size+1:=rfl;have e1:t6 (us.map Tr.pv) [c.pv,d.pv]=.ret (us.map Tr.pv++[c.pv,d.pv]):=pr (a8 (by simp;omega));have e2:(([c.pv,d.pv].length:Int)==2)=true:=rfl;simp only [Tr.pv,HB,e2,aY,ev,if_true,ay,e1,ce];have e3:sizes [c,d]=c.size+d.size:=by simp [sizes]
   refine⟨sizes (us++[c,d]),by rw [bX,bX,ft,e3];omega,us++[c,d],kvs,rfl,by simp,λy hy=>h1 y (by simpa [Tr.ax,Ce] using hy),?_,by rw [bX,e3];omega⟩;refine h2.imp id λ⟨h,k⟩=>⟨by simpa [Tr.ax,Ce] using h,λy hy=>k y (by simpa [Tr.ax,Ce] using hy)⟩
def okJ (t:Tr) (ds:List Int) (j:Nat):Bool:=match en t 0 j with
 | .word _=>ds.getD j 0==0
 | .pair a b=>decide (ds.getD a 0 < ds.getD j 0)&&decide (ds.getD b 0 < ds.getD j 0)&&decide (1<=ds.getD j 0)&&decide (ds.getD j 0<=99)
def G8 (t:Tr) (ds:List Int):List Int:=(splits t).map (ds.getD · 0)
def Tp (t:Tr) (ds:List Int):Bool:=decide (ds.length=t.size)&&(decide (G8 t ds).Nodup&&(Ax t.size).all (okJ t ds))
def int_at (h:j < ds.length):cq (dm ds) (j:Int)=ap (.int (ds.getD j 0)):=bM (by
 unfold dm;rw [Ae,Ad h,Al,Ad h];rfl)
theorem VS (t:Tr) (ds:List Int) (h:ds.length=t.size):gE ((t.nd 0).map Ent.pv) (dm ds)=(Ax t.size).map λj=>PV.tup [(en t 0 j).pv,.int (ds.getD j 0)]:=by
 refine A1 λj=>?_;by_cases hj:j < t.size
 ·have hl:j < (gE ((t.nd 0).map Ent.pv) (dm ds)).length:=by rw [lS];simp [t.bx,h];exact hj
  obtain⟨x,y,hx,hy,e⟩:=nv (Ad hl);rw [Ae,fj t 0 j hj] at hx;have uH:=Option.some.inj hx;have Rg:j < ds.length:=by omega
  unfold dm at hy;rw [Ae,Ad Rg] at hy;have Tw:=Option.some.inj hy;rw [Ad hl,e,<- uH,<- Tw,Ae,AR hj];show _=ap (PV.tup [_,.int (ds.getD j 0)]);rw [Al,Ad Rg];rfl
 ·rw [Av (by rw [lS];simp [t.bx,h];omega),Av (by simp;omega)]
theorem split_le (t:Tr) (ds:List Int) (h:ds.length=t.size) (hz:t.size<=900):dR (.tup ((t.nd 0).map Ent.pv)) (.tup (dm ds))=.ret (dm (G8 t ds)):=by
 unfold dR;have c:((t.nd 0).map Ent.pv).length<=sizeLine:=a8 (by rw [Ag,t.bx];omega);simp only [f8,ay,rP,pr c,VS t ds h];rw [Ic (g:=λx=>match x with | .tup [.str _,_]=>bm | .tup [_,y]=>ap y | _=>bm) λx hx=>?_]
 ·congr 1;unfold G8 splits dm;generalize Ax t.size=l
  induction l with
  | nil=>rfl
  | cons j l ih=>
   rw [Az,BB,Ci,ih];cases e:en t 0 j with
   | word w=>rfl
   | pair a b=>rfl
 ·obtain⟨j,hj,rfl⟩:=Ar.mp hx;cases en t 0 j with
  | word w=>simp [Ent.pv]
  | pair a b=>simp [Ent.pv]
end My
variable {x:PL.PV}{e:My.Ent}{es:List My.Ent}{bs:List Int}
namespace My
open PySem PySem.Spec PyProof.Rows L2 PL FL
section
variable {α β:Type}
theorem O1 {c:α->PV}{f:PV->W PV}{g:α->PV}:∀{l:List α},(∀x∈l,(f (c x)).le (.ret (g x)))->(mapW (l.map c) f).le (.ret (l.map g))
 | [],_=>W.le.refl _
 | x::r,h=>W.le.ret (h x (.head _)) (W.le.ret (O1 λy hy=>h y (.tail _ hy)) (W.le.refl _))
theorem Vd {c:α->PV}{g:α->Option PV}:∀{l:List α},(∀x∈l,(f (c x)).le (.ret (g x)))->(kJ (l.map c) f).le (.ret (l.filterMap g))
 | [],_=>W.le.refl _
 | x::r,h=>W.le.ret (h x (.head _)) (W.le.ret (Vd λy hy=>h y (.tail _ hy)) (W.le.of_eq (by rw [BB];cases g x <;> rfl)))
def eU {c:α->PV}{f:PV->W PV}{Q:List PV->Prop} (g:α->PV) {l:List α} (h:∀x∈l,(f (c x)).le (.ret (g x))) (q:Q (l.map g)):(mapW (l.map c) f).run Q:=O1 h Q q
def xK {c:α->PV}{Q:List PV->Prop} (g:α->Option PV) {l:List α} (h:∀x∈l,(f (c x)).le (.ret (g x))) (q:Q (l.filterMap g)):(kJ (l.map c) f).run Q:=Vd h Q q
theorem KU {p:α->Bool}{g:α->β}:∀l:List α,l.filterMap (λx=>if p x=true then ap (g x) else bm)=(l.filter p).map g
 | []=>rfl
 | x::l=>by
  rw [BB,Ci,KU l];cases p x <;> rfl
end
def Qj (c:α->PV) (l:List α) (k:Nat):dZ k (l.map c)=(l.zipIdx k).map λp=>PV.tup [.int ((p.2:Nat):Int),c p.1]:=by
 induction l generalizing k with
 | nil=>rfl
 | cons a l ih=>rw [Az,dZ,ih,List.zipIdx_cons,Az]
def vp:V->PV
 | .int i=>.int i
 | .str x=>.str x
 | .bl b=>.bl b
 | _=>.aV
def Zm (t:Tr):List PV:=(ah (t.nd 0) 0 (Am t.size V.aV)).map vp
@[simp] theorem Lf (t:Tr):(Zm t).length=t.size:=by unfold Zm;rw [Ag,Jq,Bf]
def Lg (t:Tr) (h:j < t.size):(Zm t)[j]?=ap (vp (jd t 0 j .aV)):=by unfold Zm;rw [Ae,YH t h];rfl
def cB (t:Tr):((t.nd 0).map Ent.pv).length=t.size:=by rw [Ag,t.bx]
theorem GW (t:Tr) (hz:t.size<=900):(fy t.pv).le (.ret (.tup (Zm t))):=λQ q=>by
 unfold fy;have c:((t.nd 0).map Ent.pv).length<=sizeLine:=a8 (by rw [cB];omega);simp only [f8,ce];refine W.le.use (nY t hz) ?_;simp only [ay,ev];refine HV (λ_=>.aV) (λx hx=>rfl) ?_;simp only [pr c,ev];have e0:((t.nd 0).map Ent.pv).map (λ_=>PV.aV)=(ah ((t.nd 0).take 0) 0 (Am t.size V.aV)).map vp:=by
  rw [List.take_zero,ah,List.map_replicate,DT,cB];rfl
 rw [e0];refine kd (λi s=>s=(ah ((t.nd 0).take i) 0 (Am t.size V.aV)).map vp) rfl (λi x s hx hs=>?_) (λs hs=>?_)
 ·subst hs;have hi:i < t.size:=by have:=(Ak.mp hx).1;rw [cU,cB] at this;exact this
  obtain⟨y,hy,rfl⟩:=gP hx;have e:=fj t 0 i hi;rw [Ae,e] at hy;have hy:=Option.some.inj hy;subst hy;have et:(t.nd 0).take (i+1)=(t.nd 0).take i++[en t 0 i]:=by rw [Ed,e];rfl
  have ea:ah ((t.nd 0).take (i+1)) 0 (Am t.size V.aV)=QY (ah ((t.nd 0).take i) 0 (Am t.size V.aV)) (0+i) (en t 0 i):=by
   rw [et,yL,Cg,t.bx];congr 1;omega
  have hal:(ah ((t.nd 0).take i) 0 (Am t.size V.aV)).length=t.size:=by rw [Jq,Bf]
  rw [ea];generalize hA:ah ((t.nd 0).take i) 0 (Am t.size V.aV)=A at hal ⊢;unfold dA;cases Ň:en t 0 i with
  | word w=>simp [Ent.pv,dY,QY]
  | pair a b=>
   obtain⟨ha,hb⟩:=cV t hi Ň;have s1:gq (A.map vp) (.int (a:Int)) (.int ((0+i:Nat):Int))=.ret ((A.map vp).set a (.int ((0+i:Nat):Int))):=jU (by rw [Ag];omega);have s2:gq ((A.map vp).set a (.int ((0+i:Nat):Int))) (.int (b:Int)) (.int ((0+i:Nat):Int))=.ret (((A.map vp).set a (.int ((0+i:Nat):Int))).set b (.int ((0+i:Nat):Int))):=jU (by rw [B1,Ag];omega);simp only [Ent.pv,lL,ev,d7,gK,aY,ce,An,if_false,ay,dY,f8,s1,s2];show _=F2 vp ((A.set a _).set b _);rw [ET,ET];rfl
 ·subst hs;simp only [cU,Ag];rw [List.take_length];exact q
def pA (e:Ent) (j:Nat):PV:=match e with | .word x=>.str x | .pair _ _=>.int (j:Int)
def stB (t:Tr) (ds:List Int) (b:Int) (j:Nat):Bool:=decide (ds.getD j 0<=b)&&(match jd t 0 j .aV with | .int a=>decide (b < ds.getD a.toNat 0) | _=>true)
def zx (t:Tr) (ds:List Int) (b:Int) (n j:Nat):List (Nat×Nat):=((Ax j).filter (stB t ds b)).map λk=>(k,n)
def aJ (t:Tr) (ds bs:List Int):Nat->List (Nat×Nat)
 | 0=>[]
 | i+1=>aJ t ds bs i++zx t ds (bs.getD i 0) i t.size
def zL (l:List (Nat×Nat)):List PV:=l.map λp=>.tup [.int (p.1:Int),.int (p.2:Int)]
def w9 (t:Tr) (ds:List Int) (b:Int) (n j:Nat):(zx t ds b n j).length<=j:=by
 unfold zx;rw [Ag];refine A4 (Bg _ _) ?_;rw [BM];exact Ao _
theorem jT (t:Tr) (ds bs:List Int):∀i,(aJ t ds bs i).length<=i*t.size
 | 0=>Bb _
 | i+1=>by
  rw [aJ,Af];have h1:=jT t ds bs i;have h2:=w9 t ds (bs.getD i 0) i t.size;rw [FJ];omega
def NU (t:Tr) (ds:List Int) (b:Int) (n j:Nat):zx t ds b n (j+1)=zx t ds b n j++(if stB t ds b j then [(j,n)] else []):=by
 unfold zx;rw [DR,List.filter_append,AU];congr 1;by_cases c:stB t ds b j <;> simp [c]
def tE (p:Nat×Nat):List Key:=[.inl (p.1:Int),.inl (p.2:Int)]
theorem F8 {p q:Nat×Nat} (h:tE p=tE q):p=q:=by
 obtain⟨a,b⟩:=p;obtain⟨c,d⟩:=q;simp [tE] at h;obtain⟨h1,h2⟩:=h;exact Prod.ext (by show a=c;omega) (by show b=d;omega)
def mY:Nat->List (Nat×Nat)->List (List Key×PV)
 | _,[]=>[]
 | k,p::l=>(tE p,.int (k:Int))::mY (k+1) l
theorem lZ:∀(k:Nat) (l:List (Nat×Nat)),(mY k l).map (·.1)=l.map tE
 | _,[]=>rfl
 | k,p::l=>by rw [mY,Az,Az,lZ (k+1) l]
def zW (k:Nat) (l:List (Nat×Nat)):(mY k l).length=l.length:=by have:=congrArg B2 (lZ k l);simpa using this
theorem sM:∀(k:Nat) (l:List (Nat×Nat)) (p:Nat×Nat),p∈l->mC (mY k l) (tE p)=ap (.int ((k+l.idxOf p:Nat):Int))
 | k,q::l,p,h=>by
  rw [List.idxOf_cons];by_cases c:q=p
  ·subst c;simp [mY,mC]
  ·have hp:p∈l:=(AA.mp h).elim (λz=>absurd z.symm c) id;have ih:=sM (k+1) l p hp;have c2:tE q≠tE p:=λz=>c (F8 z);have c3:(q==p)=false:=by simpa using c
   have e:mC (mY k (q::l)) (tE p)=mC (mY (k+1) l) (tE p):=by simp [mY,mC,c2]
   rw [e,ih,c3];congr 2;show ((k+1+l.idxOf p:Nat):Int)=((k+(l.idxOf p+1):Nat):Int);omega
def qr (e:Ent) (j:Nat) (d b:Int):List Nat:=if d < b then [j] else match e with | .word _=>[] | .pair x y=>[x,y]
def Ut (l:List (Nat×Nat)) (j n:Nat):List Nat:=(l.filter λp=>decide (p.2=n)&&!decide (p.1=j)).map λp=>l.idxOf p
def K6 (e:Ent) (l:List (Nat×Nat)) (j n:Nat) (d b:Int):PV:=.tup [pA e j,.int (n:Int),.tup (av ((qr e j d b).map λx=>l.idxOf (x,n-1))),.tup (av (Ut l j n))]
def xC {f:α->β} (hf:∀x y,f x=f y->x=y) {l:List α} (h:l.Nodup):(l.map f).Nodup:=List.Pairwise.map f (λa b n z=>n (hf a b z)) h
def Lw (t:Tr) (ds:List Int) (b:Int) (n j:Nat):(zx t ds b n j).Nodup:=by
 exact xC (λx y h=>(Prod.mk.inj h).1) (List.Pairwise.filter _ EE)
theorem eg {t:Tr}{ds bs:List Int}:∀{i:Nat}{p:Nat×Nat},p∈aJ t ds bs i->p.2 < i/\p.1 < t.size
 | 0,_,h=>by simp [aJ] at h
 | i+1,p,h=>by
  rw [aJ] at h;rcases AY.mp h with h | h
  ·have:=eg h;omega
  ·obtain⟨k,hk,rfl⟩:=Ar.mp h;have:=Aw.mp (Ay.mp hk).1;exact⟨Du _,this⟩
theorem eS (t:Tr) (ds bs:List Int):∀i,(aJ t ds bs i).Nodup
 | 0=>Fm
 | i+1=>by
  rw [aJ];refine Cv.mpr ⟨eS t ds bs i,Lw _ _ _ _ _,λa ha b hb z=>?_⟩;subst z;have h1:=(eg ha).1;obtain⟨k,_,rfl⟩:=Ar.mp hb;exact Bc _ h1
def fB (h:l[k]?=ap v):KA l (.int (k:Int))=.ret v:=by
 rw [bb,bM h];rfl
def GB (ds:List Int) (h:(dZ 0 (dm ds))[i]?=ap x):i < ds.length/\x=.tup [.int (i:Int),.int (ds.getD i 0)]:=by
 have hi:i < ds.length:=by have:=(Ak.mp h).1;rw [cU,ic] at this;exact this
 obtain⟨y,hy,rfl⟩:=gP h;unfold dm at hy;rw [Ae,Ad hi] at hy;have hy:=Option.some.inj hy;subst hy;refine⟨hi,?_⟩;rw [AG,Al,Ad hi];rfl
theorem zv (t:Tr) (ds bs:List Int) (hd:ds.length=t.size) (hz:t.size<=100) (hb:bs.length*t.size<=900) (hb2:bs.length<=900):(g9 t.pv (.tup (dm ds)) (.cl (dm bs))).le (.ret (zL (aJ t ds bs bs.length))):=λQ q=>by
 unfold g9;have c1:(dm bs).length<=sizeLine:=a8 (by rw [ic];omega);have c2:(dm ds).length<=sizeLine:=a8 (by rw [ic];omega);simp only [f8,ce];refine W.le.use (GW t ∅) ?_;simp only [bC,ev,pr c1];refine kd (λi s=>s=zL (aJ t ds bs i)) rfl (λi x s hx hs=>?_) (λs hs=>?_)
 ·subst hs;obtain⟨hi,rfl⟩:=GB bs hx;simp only [lL,ev,ce,ay,pr c2];have hl:=jT t ds bs i;have hm:i*t.size+t.size<=900:=by
   have:(i+1)*t.size<=bs.length*t.size:=Nat.mul_le_mul_right _ hi;rw [FJ] at this;omega
  refine kd (λj s=>s=zL (aJ t ds bs i++zx t ds (bs.getD i 0) i j)) (by simp [zx]) (λj x s hx hs=>?_) (λs hs=>?_)
  ·subst hs;obtain⟨hj,rfl⟩:=GB ds hx;have Mf:=w9 t ds (bs.getD i 0) i j;simp only [lL,ev,ce];rw [NU];have KN:j < t.size:=by omega
   have ĕ:stB t ds (bs.getD i 0) j=true->(kn (zL (aJ t ds bs i++zx t ds (bs.getD i 0) i j)) (PV.tup [.int (j:Int),.int (i:Int)])).run λs=>s=zL (aJ t ds bs i++(zx t ds (bs.getD i 0) i j++if stB t ds (bs.getD i 0) j=true then [(j,i)] else [])):=λc=>by
    rw [iw (by unfold zL;rw [Ag,Af];omega),if_pos c];unfold zL;rw [<- Be,AU (l₂:=[(j,i)])];rfl
   have no:stB t ds (bs.getD i 0) j=false->zL (aJ t ds bs i++zx t ds (bs.getD i 0) i j)=zL (aJ t ds bs i++(zx t ds (bs.getD i 0) i j++if stB t ds (bs.getD i 0) j=true then [(j,i)] else [])):=λc=>by rw [c];simp
   generalize eb:bs.getD i 0=b at ĕ no ⊢;generalize ed:ds.getD j 0=d at *;simp only [f8,ce,Qf,ev,bA,ay,fB (Lg t KN)];by_cases c:d<=b
   ·simp only [c,decide_true,if_true,ce,ev];rcases jO t 0 j .aV [] KN with⟨_,e,_⟩ | ⟨a,_,ha,e,_⟩
    ·have sb:stB t ds b j=true:=by unfold stB;rw [e,ed];simp [c]
     rw [e];simp only [vp,pS,ev,bA,PV.mH,if_true];exact ĕ sb
    ·rw [AG] at e;have sb:stB t ds b j=decide (b < ds.getD a 0):=by unfold stB;rw [e,ed];simp [c]
     rw [e];have i2:cq (dm ds) (a:Int)=ap (.int (ds.getD a 0)):=int_at ∅;simp only [vp,pS,ev,bA,PV.mH,An,if_false,bb,i2,sw,Gz,f8];by_cases c2:b < ds.getD a 0
     ·rw [decide_eq_true c2] at sb ⊢;exact ĕ sb
     ·rw [decide_eq_false c2] at sb ⊢;exact no sb
   ·have sb:stB t ds b j=false:=by unfold stB;rw [ed];simp [c]
    simp only [c,decide_false,An,if_false,ev];exact no sb
  ·subst hs;rw [cU,ic,hd];rfl
 ·subst hs;rw [cU,ic];exact q
def SS {l:List (Nat×Nat)} (h:l≠[]) (k:Nat):mY k l≠[]:=by cases l with | nil=>exact absurd rfl h | cons a l=>simp [mY]
def HI (k:Nat) (l:List (Nat×Nat)):((mY k l).map λkv=>PV.tup (kv.1.map kP))=l.map λp=>PV.tup [.int (p.1:Int),.int (p.2:Int)]:=by
 have:=congrArg (F2 λx:List Key=>PV.tup (x.map kP)) (lZ k l);rw [AH,AH] at this;exact this
theorem RL {l:List (Nat×Nat)} (h1:es[j]?=ap e) (h2:j < ds.length) (h3:n < bs.length) (hl:l.length<=1000) (h0:l≠[])
  (hb:∀x∈qr e j (ds.getD j 0) (bs.getD n 0),1<=n/\(x,n-1)∈l) :
  (jv (.tup (es.map Ent.pv)) (.tup (dm ds)) (.cl (dm bs)) (Rj (mY 0 l)) (.tup [.int (j:Int),.int (n:Int)])).le (.ret (K6 e l j n (ds.getD j 0) (bs.getD n 0))):=λQ q=>by
 unfold jv;have i0:cq [PV.int (j:Int),PV.int (n:Int)] 0=ap (.int j):=rfl;have i1:cq [PV.int (j:Int),PV.int (n:Int)] 1=ap (.int n):=rfl;have i2:cq (dm ds) (j:Int)=ap (.int (ds.getD j 0)):=int_at h2;have i3:cq (dm bs) (n:Int)=ap (.int (bs.getD n 0)):=int_at h3;have i4:cq (es.map Ent.pv) (j:Int)=ap e.pv:=bM (by rw [Ae,h1];rfl);simp only [f8,ce,ay,bC,bb,i0,i1,i2,i3,i4,sw,ev,Gz,aY];generalize hdj:ds.getD j 0=d at *;generalize hbn:bs.getD n 0=b at *;have below:∀{R:PV->Prop},R (.tup (av (qr e j d b)))->(if decide (d < b)=true then bd (PV.tup [PV.int (j:Int)]) else dA e.pv).run R:=λ{R} r=>by
  unfold qr at r;unfold dA;by_cases c:d < b
  ·rw [if_pos c] at r;simpa [c] using r
  ·cases e with
   | word w=>simpa [c,Ent.pv] using r
   | pair a b=>simpa [c,Ent.pv] using r
 refine below ?_;refine eU (λx=>.int ((l.idxOf (x,n-1):Nat):Int)) (λk hk=>?_) ?_
 ·obtain⟨g1,g2⟩:=hb k hk;intro R r;have en1:(n:Int)-1=((n-1:Nat):Int):=by omega
  simp only [dgB,f8,ce,pR,ev,en1];rw [show PV.tup [.int (k:Int),.int ((n-1:Nat):Int)]=.tup ((tE (k,n-1)).map kP) from rfl];refine K8 (sM 0 l (k,n-1) g2) ?_;rw [AG];exact r
 simp only [ce,lM,ev];refine L4 (SS h0 0) (by rw [zW];exact hl) ?_;rw [HI];refine xK (λp=>if (decide (p.2=n)&&!decide (p.1=j))=true then ap (.int ((l.idxOf p:Nat):Int)) else bm) (λp hp=>?_) ?_
 ·intro R r;obtain⟨u,v⟩:=p;have j0:cq [PV.int (u:Int),PV.int (v:Int)] 0=ap (.int u):=rfl;have j1:cq [PV.int (u:Int),PV.int (v:Int)] 1=ap (.int v):=rfl;simp only [dgB,f8,ce,ay,bb,j0,j1,sw,ev,dD,yg,bA];have get:∀{R:PV->Prop},R (.int ((l.idxOf (u,v):Nat):Int))->(dgW (Rj (mY 0 l)) (PV.tup [.int (u:Int),.int (v:Int)])).run R:=λ{R} r=>by
   refine K8 (sM 0 l (u,v) hp) ?_;rw [AG];exact r
  by_cases c1:v=n
  ·subst c1;by_cases c2:u=j
   ·subst c2;simp only [beq_self_eq_true,Bz,if_true,ev,An,if_false];simpa using r
   ·have c3:((u:Int)==(j:Int))=false:=by simp;omega
    simp only [beq_self_eq_true,c3,Eh,if_true,ev,ce];refine get ?_;simpa [c2] using r
  ·have c3:((v:Int)==(n:Int))=false:=by simp;omega
   simp only [c3,An,if_false,ev];simpa [c1] using r
 rw [KU];have nm:∀{R:PV->Prop},R (pA e j)->(eM (.tup (es.map Ent.pv)) (.int (j:Int))).run R:=λ{R} r=>by
  unfold eM;simp only [f8,ce,ay,bb,i4,sw,ev];cases e with
  | word w=>simpa [Ent.pv,pA] using r
  | pair a b=>simpa [Ent.pv,pA] using r
 refine nm ?_;have e1:(l.filter λp=>decide (p.2=n)&&!decide (p.1=j)).map (λp=>PV.int ((l.idxOf p:Nat):Int))=av (Ut l j n):=by
  unfold av Ut;rw [AH];rfl
 have e2:(qr e j d b).map (λx=>PV.int ((l.idxOf (x,n-1):Nat):Int))=av ((qr e j d b).map λx=>l.idxOf (x,n-1)):=by
  unfold av;rw [AH];rfl
 rw [e1,e2];exact q
def Zj (t:Tr) (ds bs:List Int):List PV:=(aJ t ds bs bs.length).map λp=>K6 (en t 0 p.1) (aJ t ds bs bs.length) p.1 p.2 (ds.getD p.1 0) (bs.getD p.2 0)
def okD (t:Tr) (ds bs:List Int):Prop:=∀p∈aJ t ds bs bs.length,∀x∈qr (en t 0 p.1) p.1 (ds.getD p.1 0) (bs.getD p.2 0),1<=p.2/\(x,p.2-1)∈aJ t ds bs bs.length
theorem sN:∀(k:Nat) (l:List (Nat×Nat)),(l.zipIdx k).map (λp=>PV.tup [PV.tup [.int (p.1.1:Int),.int (p.1.2:Int)],.int ((p.2:Nat):Int)])=(mY k l).map Kg
 | _,[]=>rfl
 | k,p::l=>by rw [List.zipIdx_cons,Az,sN (k+1) l];rfl
def aG (t:Tr) (ds:List Int):List Int:=0::sortI (G8 t ds)
def J4 (t:Tr) (ds:List Int):(G8 t ds).length<=t.size:=by
 unfold G8 splits;rw [Ag];have:=Bg (λj=>tG (en t 0 j)) (Ax t.size);rw [BM] at this;exact this
def vK {x:Int}{l:List Int}:x∈sortI l↔x∈l:=(Cc l _).mem_iff
def o5 (l:List Int):(sortI l).length=l.length:=(Cc l _).length_eq
theorem QB (t:Tr) (ds:List Int) (hd:ds.length=t.size) (hz:t.size<=25) (h0:aJ t ds (aG t ds) (aG t ds).length≠[]) (ok:okD t ds (aG t ds)):(j3 t.pv (.tup (dm ds))).le (.ret (.tup (Zj t ds (aG t ds)))):=λQ q=>by
 unfold j3;simp only [f8,ce];refine W.le.use (nY t ∅) ?_;have hs:=J4 t ds;have hl:(aG t ds).length<=t.size+1:=by unfold aG;rw [Ap,o5];omega
 have e2:xc (dm (G8 t ds))=.ret (dm (sortI (G8 t ds))):=by
  unfold xc dm;rw [ml];show W.fD _ _=_;rw [pr ∅]
 have e3:ur [PV.int 0] (dm (sortI (G8 t ds)))=.ret (dm (aG t ds)):=by
  rw [lQ (by rw [ic,o5];simp;omega)];rfl
 simp only [split_le t ds hd ∅,ev,e2,e3];have hb:(aG t ds).length*t.size<=900:=by
  have:(aG t ds).length*t.size<=26*25:=Nat.mul_le_mul ∅ hz;omega
 refine W.le.use (zv t ds (aG t ds) hd ∅ hb ∅) ?_;generalize hL:aJ t ds (aG t ds) (aG t ds).length=L at *;have hLl:L.length<=900:=by rw [<- hL];exact A4 (jT _ _ _ _) hb
 have hLm:∀p∈L,p.2 < (aG t ds).length/\p.1 < t.size:=λp hp=>eg (hL▸hp);have c:(zL L).length<=sizeLine:=a8 (by unfold zL;rw [Ag];omega);simp only [bC,ev,pr c,f8];unfold zL;rw [Qj];refine eU (λp:(Nat×Nat)×Nat=>PV.tup [PV.tup [.int (p.1.1:Int),.int (p.1.2:Int)],.int ((p.2:Nat):Int)]) (λp _ R r=>by simpa using r) ?_;rw [sN];refine MN ?_ (by rw [zW];omega) ?_
 ·rw [lZ];exact xC (λ_ _ h=>F8 h) (hL▸eS t ds _ _)
 refine eU (λp:Nat×Nat=>K6 (en t 0 p.1) L p.1 p.2 (ds.getD p.1 0) ((aG t ds).getD p.2 0)) (λp hp=>?_) ?_
 ·obtain⟨g1,g2⟩:=hLm p hp;refine RL (fj t 0 p.1 g2) ∅ g1 ∅ h0 λx hx=>?_;have:=ok p (by rw [hL];exact hp) x hx;rw [hL] at this;exact this
 ·have:Zj t ds (aG t ds)=L.map λp:Nat×Nat=>K6 (en t 0 p.1) L p.1 p.2 (ds.getD p.1 0) ((aG t ds).getD p.2 0):=by unfold Zj;rw [hL]
  rw [<- this];exact q
end My
variable {l:List Int}
namespace My
open PySem PySem.Spec PyProof.Rows L2 PL FL
theorem gB:∀(t:Tr) (o x:Nat) (p:V),x < t.size->(x=t.size-1/\jd t o x p=p)\/∃a u v,x < a/\a < t.size/\jd t o x p=.int ((o+a:Nat):Int)/\en t o a=.pair u v/\(u=o+x\/v=o+x)
 | .leaf _,o,x,p,h=>.inl ⟨by have:x < 1:=h;show x=0;omega,rfl⟩
 | .node l r,o,x,p,h=>by
  have es:(Tr.node l r).size=l.size+r.size+1:=rfl;have top:en (.node l r) o (l.size+r.size)=.pair (o+l.size-1) (o+l.size+r.size-1):=by rw [en,if_neg ∅,if_neg ∅]
  by_cases c1:x < l.size
  ·rw [show jd (.node l r) o x p=jd l o x (.int (o+l.size+r.size:Nat)) by rw [jd,if_pos c1]];rcases gB l o x (.int (o+l.size+r.size:Nat)) c1 with⟨h1,h2⟩ | ⟨a,u,v,h1,h2,h3,h4,h5⟩
   ·exact .inr ⟨l.size+r.size,_,_,by omega,by omega,by rw [h2,A5],top,.inl ∅⟩
   ·exact .inr ⟨a,u,v,h1,by omega,h3,by rw [en,if_pos h2];exact h4,h5⟩
  ·by_cases c2:x < l.size+r.size
   ·rw [show jd (.node l r) o x p=jd r (o+l.size) (x-l.size) (.int (o+l.size+r.size:Nat)) by rw [jd,if_neg c1,if_pos c2]];rcases gB r (o+l.size) (x-l.size) (.int (o+l.size+r.size:Nat)) ∅ with⟨h1,h2⟩ | ⟨a,u,v,h1,h2,h3,h4,h5⟩
    ·exact .inr ⟨l.size+r.size,_,_,by omega,by omega,by rw [h2,A5],top,.inr ∅⟩
    ·refine .inr ⟨l.size+a,u,v,by omega,by omega,by rw [h3,A5],?_,by omega⟩;rw [en,if_neg ∅,if_pos ∅,Bh];exact h4
   ·exact .inl ⟨by omega,by rw [jd,if_neg c1,if_neg c2]⟩
theorem iq:∀(t:Tr) (o j:Nat) (p:V) (a b:Nat),j < t.size->en t o j=.pair a b->o<=a/\o<=b/\a < o+j/\b < o+j/\a < b/\jd t o (a-o) p=.int ((o+j:Nat):Int)/\jd t o (b-o) p=.int ((o+j:Nat):Int)
 | .leaf _,o,j,p,a,b,h,e=>by rw [en] at e;cases e
 | .node l r,o,j,p,a,b,h,e=>by
  have es:(Tr.node l r).size=l.size+r.size+1:=rfl;have lp:=l.size_pos;have rp:=r.size_pos;by_cases c1:j < l.size
  ·rw [en,if_pos c1] at e;obtain⟨h1,h2,h3,h4,h5,h6,h7⟩:=iq l o j (.int (o+l.size+r.size:Nat)) a b c1 e;refine⟨h1,h2,h3,h4,h5,?_,?_⟩
   ·rw [jd,if_pos ∅];exact h6
   ·rw [jd,if_pos ∅];exact h7
  ·by_cases c2:j < l.size+r.size
   ·rw [en,if_neg c1,if_pos c2] at e;obtain⟨h1,h2,h3,h4,h5,h6,h7⟩:=iq r (o+l.size) (j-l.size) (.int (o+l.size+r.size:Nat)) a b ∅ e;refine⟨by omega,by omega,by omega,by omega,h5,?_,?_⟩
    ·rw [jd,if_neg ∅,if_pos ∅,Fi,h6,show o+l.size+(j-l.size)=o+j by omega]
    ·rw [jd,if_neg ∅,if_pos ∅,Fi,h7,show o+l.size+(j-l.size)=o+j by omega]
   ·rw [en,if_neg c1,if_neg c2] at e;injection e with e1 e2;subst e1;subst e2;have hj:j=l.size+r.size:=by omega
    subst hj;have â:∀(t:Tr) (o:Nat) (p:V),jd t o (t.size-1) p=p:=λt o p=>by
     have tp:=t.size_pos;rcases gB t o (t.size-1) p ∅ with⟨_,h⟩ | ⟨a,_,_,h1,h2,_⟩
     ·exact h
     ·omega
    refine⟨by omega,by omega,by omega,by omega,by omega,?_,?_⟩
    ·rw [jd,if_pos ∅,show o+l.size-1-o=l.size-1 by omega,â,A5]
    ·rw [jd,if_neg ∅,if_pos ∅,show o+l.size+r.size-1-o-l.size=r.size-1 by omega,â,A5]
structure DD (t:Tr) (ds:List Int):Prop where
 len:ds.length=t.size
 leaf:∀j w,j < t.size->en t 0 j=.word w->ds.getD j 0=0
 pair:∀j a b,j < t.size->en t 0 j=.pair a b->ds.getD a 0 < ds.getD j 0/\ds.getD b 0 < ds.getD j 0/\1<=ds.getD j 0
 nd:(G8 t ds).Nodup
def DD.of (h:Tp t ds=true):DD t ds:=by
 unfold Tp at h;rw [AO,AO,decide_eq_true_iff,decide_eq_true_iff] at h;obtain⟨h1,h2,h3⟩:=h;have h4:∀j,j < t.size->okJ t ds j=true:=λj hj=>CF.mp h3 j (Aw.mpr hj);refine⟨h1,λj w hj e=>?_,λj a b hj e=>?_,h2⟩
 ·have:=h4 j hj;unfold okJ at this;rw [e] at this;exact eq_of_beq this
 ·have:=h4 j hj;unfold okJ at this;rw [e] at this;rw [AO,AO,AO,decide_eq_true_iff,decide_eq_true_iff,decide_eq_true_iff,decide_eq_true_iff] at this;exact⟨this.1.1.1,this.1.1.2,this.1.2⟩
def DD.mem (D:DD t ds) (hj:j < t.size):ds.getD j 0∈aG t ds:=by
 cases e:en t 0 j with
 | word w=>rw [D.leaf j w hj e];exact .head _
 | pair a b=>
  refine AW _ (vK.mpr ?_);exact Ar.mpr ⟨j,Ay.mpr ⟨Aw.mpr hj,by rw [e];rfl⟩,rfl⟩
theorem sh (l:List Int):(sortI l).Pairwise (·<=·):=(ED (le:=λa b=>decide (a<=b)) (λa b c=>by simp;omega) (λa b=>by simp;omega) l).imp (by simp)
theorem DD.inc (D:DD t ds):(aG t ds).Pairwise (· < ·):=by
 unfold aG;refine Ef.mpr ⟨λx hx=>?_,?_⟩
 ·have hx:=vK.mp hx;unfold G8 splits at hx;obtain⟨j,hj,rfl⟩:=Ar.mp hx;obtain⟨h1,h2⟩:=Ay.mp hj;cases e:en t 0 j with
  | word w=>rw [e] at h2;cases h2
  | pair a b=>have:=(D.pair j a b (Aw.mp h1) e).2.2;omega
 ·have nd:(sortI (G8 t ds)).Nodup:=(Cc _ _).nodup_iff.mpr D.nd;exact (List.Pairwise.and (sh _) nd).imp λ⟨h1,h2⟩=>Int.lt_iff_le_and_ne.mpr ⟨h1,h2⟩
theorem tI (h:l.Pairwise (· < ·)) (hn:n < l.length) {x:Int} (hx:x∈l) (lt:x < l.getD n 0):1<=n/\x<=l.getD (n-1) 0:=by
 obtain⟨i,hi,rfl⟩:=CA hx;have gd:∀{k} (hk:k < l.length),l.getD k 0=l[k]:=λ{k} hk=>by rw [Al,Ad hk];rfl
 rw [gd hn] at lt;have c:i < n:=by
  rcases CW i n with c | c
  ·exact c
  ·rcases Ec c with c | c
   ·subst c;omega
   ·have:=A9.mp h _ _ hn hi c;omega
 refine⟨by omega,?_⟩;rw [gd ∅];rcases Ec (show i<=n-1 by omega) with c2 | c2
 ·subst c2;exact DJ _
 ·have:=A9.mp h _ _ hi ∅ c2;omega
theorem xS (h:l.Pairwise (· < ·)) (hn:n < l.length) (hi:i < n):l.getD i 0 < l.getD n 0:=by
 have gd:∀{k} (hk:k < l.length),l.getD k 0=l[k]:=λ{k} hk=>by rw [Al,Ad hk];rfl
 rw [gd hn,gd ∅];exact A9.mp h _ _ ∅ hn hi
theorem bN {t:Tr}{ds bs:List Int}:∀{m:Nat}{j n:Nat},(j,n)∈aJ t ds bs m↔n < m/\j < t.size/\stB t ds (bs.getD n 0) j=true
 | 0,j,n=>by simp [aJ]
 | m+1,j,n=>by
  rw [aJ,AY,bN];unfold zx;rw [Ar]
  constructor
  ·rintro (⟨h1,h2,h3⟩ | ⟨k,hk,e⟩)
   ·exact⟨by omega,h2,h3⟩
   ·obtain⟨h1,h2⟩:=Ay.mp hk;injection e with e1 e2;subst e1;subst e2;exact⟨by omega,Aw.mp h1,h2⟩
  ·rintro⟨h1,h2,h3⟩;by_cases c:n=m
   ·subst c;exact .inr ⟨j,Ay.mpr ⟨Aw.mpr h2,h3⟩,rfl⟩
   ·exact .inl ⟨by omega,h2,h3⟩
theorem gF {b:Int} (hj:j < t.size):stB t ds b j=true↔ds.getD j 0<=b/\∀a,jd t 0 j .aV=.int ((a:Nat):Int)->b < ds.getD a 0:=by
 unfold stB;rw [AO,decide_eq_true_iff];rcases gB t 0 j .aV hj with⟨_,e⟩ | ⟨a,u,v,_,ha,e,_,_⟩
 ·rw [e];exact⟨λh=>⟨h.1,λa z=>by cases z⟩,λh=>⟨h.1,rfl⟩⟩
 ·rw [AG] at e;rw [e];refine⟨λh=>⟨h.1,λa' z=>?_⟩,λh=>⟨h.1,?_⟩⟩
  ·injection z with z;have:a=a':=by omega
   subst this;simpa using h.2
  ·simpa using h.2 a rfl
theorem DD.ok (D:DD t ds):okD t ds (aG t ds):=by
 rintro⟨j,n⟩ hp x hx;obtain⟨hn,hj,hs⟩:=bN.mp hp;obtain⟨Hc,rD⟩:=(gF hj).mp hs;have inc:=D.inc;show 1<=n/\(x,n-1)∈_;unfold qr at hx;by_cases c:ds.getD j 0 < (aG t ds).getD n 0
 ·rw [if_pos c] at hx;have:x=j:=by simpa using hx
  subst this;obtain⟨g1,g2⟩:=tI inc hn (D.mem hj) c;have lt:=xS inc hn (show n-1 < n by omega);exact⟨g1,bN.mpr ⟨by omega,hj,(gF hj).mpr ⟨g2,λa e=>by have:=rD a e;omega⟩⟩⟩
 ·rw [if_neg c] at hx;cases e:en t 0 j with
  | word w=>rw [e] at hx;cases hx
  | pair a b=>
   rw [e] at hx;obtain⟨p1,p2,p3⟩:=D.pair j a b hj e;obtain⟨_,_,a1,a2,_,a3,a4⟩:=iq t 0 j .aV a b hj e;rw [AG,Dh] at *;have hx:x=a\/x=b:=by simpa using hx
   have key:x < t.size/\ds.getD x 0 < ds.getD j 0/\jd t 0 x .aV=.int ((j:Nat):Int):=by
    rcases hx with rfl | rfl
    ·exact⟨by omega,p1,a3⟩
    ·exact⟨by omega,p2,a4⟩
   obtain⟨k1,k2,k3⟩:=key;obtain⟨g1,g2⟩:=tI inc hn (D.mem k1) ∅;have lt:=xS inc hn (show n-1 < n by omega);refine⟨g1,bN.mpr ⟨by omega,k1,(gF k1).mpr ⟨g2,λa' e'=>?_⟩⟩⟩;rw [k3] at e';injection e' with e';have:j=a':=by omega
   subst this;omega
theorem yk:∀(t:Tr) (o:Nat),∃w,en t o 0=.word w
 | .leaf w,o=>⟨w,rfl⟩
 | .node l r,o=>by rw [en,if_pos (show 0 < l.size from l.size_pos)];exact yk l o
theorem DD.ne (D:DD t ds):aJ t ds (aG t ds) (aG t ds).length≠[]:=by
 intro z;have:(0,0)∈aJ t ds (aG t ds) (aG t ds).length:=by
  obtain⟨w,e⟩:=yk t 0;refine bN.mpr ⟨by simp [aG],t.size_pos,(gF t.size_pos).mpr ⟨?_,λa ea=>?_⟩⟩
  ·rw [D.leaf 0 w t.size_pos e];exact DJ _
  ·rcases gB t 0 0 .aV t.size_pos with⟨_,e⟩ | ⟨a',u,v,_,ha,e,ep,_⟩
   ·rw [e] at ea;cases ea
   ·rw [e,AG] at ea;injection ea with ea;have:a'=a:=by omega
    subst this;have:=(D.pair a' u v ha ep).2.2;show (0:Int) < _;omega
 rw [z] at this;cases this
def GQ (D:DD t ds) (hz:t.size<=25):(j3 t.pv (.tup (dm ds))).le (.ret (.tup (Zj t ds (aG t ds)))):=QB t ds D.len hz D.ne D.ok
def V3 (t:Tr):List PV:=(Ax t.size).map λj=>.tup (av (up t 0 j []))
@[simp] theorem Ry (t:Tr):(V3 t).length=t.size:=by unfold V3;simp
def JN (t:Tr) (h:j < t.size):(V3 t)[j]?=ap (.tup (av (up t 0 j []))):=by unfold V3;simp [h]
theorem V0 (t:Tr):∀(k j:Nat),j+k+1=t.size->(up t 0 j []).length<=k+1:=λk=>by
 induction k using C4 with
 | ind k ih=>
  intro j hj;rcases jO t 0 j .aV [] ∅ with⟨q1,q2,q3⟩ | ⟨a,q1,q2,q3,q4⟩
  ·rw [q3];show 1<=k+1;omega
  ·rw [q4,Ap];have:=ih (t.size-a-1) ∅ a ∅;omega
theorem ZE (t:Tr) (h:j < t.size):(up t 0 j []).length<=t.size:=by
 have:=V0 t (t.size-j-1) j ∅;omega
def Hk (t:Tr) (i:Nat):List PV:=(Ax t.size).map λj=>if j+i < t.size then .tup [] else .tup (av (up t 0 j []))
def qX (t:Tr) (i:Nat):(Hk t i).length=t.size:=by unfold Hk;simp
def JM (t:Tr) (i:Nat) (h:j < t.size) (c:¬j+i < t.size):(Hk t i)[j]?=ap (.tup (av (up t 0 j []))):=by unfold Hk;simp [h,c]
theorem Rv (t:Tr) (i j:Nat) (h:j+i+1=t.size):(Hk t i).set j (.tup (av (up t 0 j [])))=Hk t (i+1):=by
 apply A1;intro k;by_cases hk:k < t.size
 ·by_cases e:j=k
  ·subst e;rw [Bw (by rw [qX];exact hk),JM t (i+1) hk ∅]
  ·rw [Bd e];unfold Hk;simp only [Ae,AR hk,Cp];by_cases c:k+i < t.size
   ·rw [if_pos c,if_pos ∅]
   ·rw [if_neg c,if_neg ∅]
 ·rw [Av (by rw [B1,qX];omega),Av (by rw [qX];omega)]
def ZF (t:Tr):Hk t 0=Am t.size (.tup []):=by
 apply A1;intro k;unfold Hk;by_cases hk:k < t.size
 ·simp [hk]
 ·simp [hk]
theorem Rx (t:Tr):Hk t t.size=V3 t:=by
 apply Bj;intro j _;rw [if_neg ∅]
theorem O6 (t:Tr) (hz:t.size<=900):(hJ t.pv).le (.ret (V3 t)):=λQ q=>by
 unfold hJ;simp only [f8,ce];refine W.le.use (GW t hz) ?_;simp only [ay,ev];refine HV (λ_=>.tup []) (λx hx=>rfl) ?_;have e0:(Zm t).map (λ_=>PV.tup [])=Hk t 0:=by rw [DT,Lf,ZF]
 have en:(((t.size:Nat):Int)-1 - -1).toNat=t.size:=by omega
 rw [e0];simp only [cx,Lf,f8,pR,ev,ke,KY,en];refine⟨⟨trivial,cR ∅ ∅⟩,?_⟩;show (dY _ _ _).run _;refine kd (λi s=>s=Hk t i) rfl (λi x s hx hs=>?_) (λs hs=>?_)
 ·subst hs;obtain⟨hi,rfl⟩:=pV hx;obtain⟨j,hj⟩:∃j:Nat,j=t.size-1-i:=⟨_,rfl⟩;have ej:(((t.size:Nat):Int)-1-(i:Int))=(j:Int):=by omega
  rw [ej];have KN:j < t.size:=by omega
  have fin:∀l:List PV,l.length<=900->.int (j:Int)::l=av (up t 0 j [])->(am (addW (.tup [.int (j:Int)]) (.tup l)) λx=>gq (Hk t i) (.int (j:Int)) x).run λs=>s=Hk t (i+1):=λl hl he=>by
   rw [yi,pr (a8 (by simp;omega))];show (gq _ _ (.tup (.int (j:Int)::l))).run _;rw [he,jU (by rw [qX];exact KN),Rv t i j ∅];rfl
  simp only [f8,ce,fB (Lg t KN),ev];rcases jO t 0 j .aV [] KN with⟨_,e,e2⟩ | ⟨a,ha1,ha,e,e2⟩
  ·rw [e];simp only [vp,pS,PV.mH,bA,ev,if_true];have:=fin [] (by simp) (by rw [e2,AG];rfl);simpa using this
  ·rw [AG] at e;rw [e];have i2:KA (Hk t i) (.int (a:Int))=.ret (.tup (av (up t 0 a []))):=fB (JM t i ha ∅);simp only [vp,pS,PV.mH,bA,ev,An,if_false,i2,f8];have ua:=ZE t ha;have:=fin (av (up t 0 a [])) (by rw [bh];omega) (by rw [e2];simp);simpa using this
 ·subst hs;have el:(mL (((t.size:Nat):Int)-1) t.size).length=t.size:=by unfold mL;simp
  rw [el,Rx];exact q
def UA (t:Tr) (j:Nat):List Nat:=(Ax t.size).filter λk=>!decide (k∈up t 0 j [])&&!decide (j∈up t 0 k [])
theorem QT (t:Tr) (hz:t.size<=900) (hj:j < t.size):(eV (.cl (V3 t)) (.int (j:Int))).le (.ret (.tup (av (UA t j)))):=λQ q=>by
 unfold eV;simp only [f8,ce,fR,Ry,gJ,pr (cR (i:=0) (j:=(t.size:Int)) ∅ ∅),ev,A2,pK];refine sZ (λk=>!decide (k∈up t 0 j [])&&!decide (j∈up t 0 k [])) (λk hk=>?_) q;have hk:=Aw.mp hk;simp only [f8,bC,fB (JN t hj),fB (JN t hk),ay,Ik,if_true];by_cases c1:k∈up t 0 j []
 ·simp [c1]
 ·by_cases c2:j∈up t 0 k []
  ·simp [c1,c2]
  ·simp [c1,c2]
def vS:Ent->List Nat
 | .word _=>[]
 | .pair a b=>[a,b]
def vU (e:Ent):dA e.pv=.ret (.tup (av (vS e))):=by
 unfold dA;cases e with
 | word w=>simp [Ent.pv,vS]
 | pair a b=>simp [Ent.pv,vS]
def SV (h:es[j]?=ap e):eM (.tup (es.map Ent.pv)) (.int (j:Int))=.ret (pA e j):=by
 have i1:KA (es.map Ent.pv) (.int (j:Int))=.ret e.pv:=fB (by rw [Ae,h];rfl);unfold eM;cases e with
 | word w=>simp only [f8,ay,i1];rfl
 | pair a b=>simp only [f8,ay,i1];rfl
def grS (t:Tr) (j:Nat):PV:=.tup [pA (en t 0 j) j,.int 0,.tup (av (vS (en t 0 j))),.tup (av (UA t j))]
def grL (t:Tr):List PV:=(Ax t.size).map (grS t)
theorem vV (t:Tr) (hz:t.size<=900):(jC t.pv).le (.ret (.tup (grL t))):=λQ q=>by
 unfold jC;simp only [f8,ce];refine W.le.use (nY t hz) ?_;refine W.le.use (O6 t hz) ?_;simp only [cx,cB,ev,gJ,pr (cR (i:=0) (j:=(t.size:Int)) ∅ ∅),A2,pK];unfold av;refine eU (grS t) (λj hj R r=>?_) q;have hj:=Aw.mp hj;have i1:KA ((t.nd 0).map Ent.pv) (.int (j:Int))=.ret (en t 0 j).pv:=fB (by rw [Ae,fj t 0 j hj];rfl);simp only [SV (fj t 0 j hj),f8,ay,i1,vU,ce,ev];exact W.le.use (QT t hz hj) r
end My
variable {F:List (List Bool)}
namespace My
open PySem PySem.Spec PyProof.Rows L2 PL FL
structure Sy where
 nm:PV
 lv:Nat
 un:List Nat
 be:List Nat
def Sy.pv (s:Sy):PV:=.tup [s.nm,.int (s.lv:Int),.tup (av s.un),.tup (av s.be)]
def gC (g:List Sy):PV:=.tup (g.map Sy.pv)
def sy (g:List Sy) (i:Nat):Sy:=g.getD i ⟨.aV,0,[],[]⟩
def Hv {g:List Sy} (h:i < g.length):g[i]?=ap (sy g i):=by
 unfold sy;rw [Al,Ad h];rfl
def Mm {g:List Sy} (h:i < g.length):KA (g.map Sy.pv) (.int (i:Int))=.ret (sy g i).pv:=fB (by rw [Ae,Hv h];rfl)
def pH (w:Str):PV->Bool
 | .str s=>s==w
 | _=>false
def hm (g:List Sy) (i:Nat) (w:Str):Bool:=(sy g i).un.isEmpty&&pH w (sy g i).nm
inductive Q4 (g:List Sy):Nat->Nat->Prop
 | refl (i:Nat):Q4 g i i
 | step {i u j:Nat}:u∈(sy g i).un->Q4 g u j->Q4 g i j
structure WG (g:List Sy) (ws:List Str):Prop where
 pos:0 < g.length
 len:g.length<=300
 dn:∀i,i < g.length->∀u∈(sy g i).un,u < i
 oY:∀i,i < g.length->(sy g i).un.length<=2
 be:∀i,i < g.length->∀u∈(sy g i).be,u < g.length
 Uu:∀i,i < g.length->(sy g i).be.length<=30
 nm:∀i,i < g.length->(∃s,(sy g i).nm=.str s)\/∃n,(sy g i).nm=.int n
 aff:∀w∈ws,∃i,i < g.length/\Q4 g (g.length-1) i/\hm g i w=true
def nC {g:List Sy} (h:i < g.length):c7 (gC g) (.int (i:Int))=.ret (.tup (av (sy g i).un)):=by
 unfold c7 gC;simp only [f8,ay,Mm h];rfl
def Na {g:List Sy} (h:i < g.length):f7 (gC g) (.int (i:Int))=.ret (.tup (av (sy g i).be)):=by
 unfold f7 gC;simp only [f8,ay,Mm h];rfl
theorem eq_nil (l:List Nat) (h:l.length<=1000):of2 dQ (.tup (av l)) (.tup [])=.ret (.bl l.isEmpty):=by
 have fk:gh (av l)=true:=gc.mpr λx hx=>by
  obtain⟨n,_,rfl⟩:=Ar.mp hx;simp
 have fd:eP (av l)<=1:=gj λx hx=>by
  obtain⟨n,_,rfl⟩:=Ar.mp hx;simp
 rw [uc,pr ⟨by simp [fk],by simp,by simp;omega⟩];cases l with
 | nil=>simp
 | cons a l=>simp [gI]
def VD (h:(∃s,x=.str s)\/∃n,x=.int n) (w:Str):of2 dQ x (.str w)=.ret (.bl (pH w x)):=by
 rcases h with⟨s,rfl⟩ | ⟨n,rfl⟩
 ·rw [uc,pr ⟨by simp,by simp,by simp⟩,P5];rfl
 ·rw [uc,pr ⟨by simp,by simp,by simp⟩];simp [iM,pH]
theorem TJ {g:List Sy} (G:WG g ws) (h:i < g.length) (w:Str):jA (gC g) (.int (i:Int)) (.str w)=.ret (.bl (hm g i w)):=by
 unfold jA;have l2:=G.oY i h;have i0:cq [(sy g i).nm,PV.int ((sy g i).lv:Int),.tup (av (sy g i).un),.tup (av (sy g i).be)] 0=ap (sy g i).nm:=rfl;simp only [f8,nC h,eq_nil _ (show (sy g i).un.length<=1000 by omega)];unfold gC hm;cases e:(sy g i).un.isEmpty with
 | false=>simp
 | true=>simp only [gL,ay,f8,Mm h,Sy.pv,bb,i0,sw,VD (G.nm i h) w,Fx]
abbrev Dd:=Str×Nat×Nat
def d3 (d:Dd):PV:=.tup [.str d.1,.int (d.2.1:Int),.int (d.2.2:Int)]
def d2 (d:Dd):PV:=.tup [.str d.1,.tup [.int (d.2.1:Int),.int (d.2.2:Int)]]
abbrev dbl (i:Nat):Dd:=("doubled",i,i)
abbrev ovr (i o:Nat):List Dd:=[("over",i,o),("over",o,i)]
def spl:List Nat->List Dd
 | [a,b]=>[("split",a,b),("split",b,a)]
 | _=>[]
def Hf (g:List Sy) (i:Nat):List Dd:=dbl i::(spl (sy g i).un++(sy g i).be.flatMap (ovr i))
theorem tZ (i:Nat):∀l:List Nat,(l.flatMap (ovr i)).length=2*l.length
 | []=>rfl
 | a::l=>by rw [List.flatMap_cons,Af,tZ i l];simp;omega
def xa (l:List Nat):(spl l).length<=2:=by unfold spl;split <;> simp
theorem Uo {g:List Sy} (G:WG g ws) (h:i < g.length):(Hf g i).length<=63:=by
 unfold Hf;rw [Ap,Af,tZ];have:=xa (sy g i).un;have:=G.Uu i h;omega
theorem QA {g:List Sy} (G:WG g ws) (h:i < g.length) {d:Dd} (hd:d∈Hf g i):d.2.1 < g.length/\d.2.2 < g.length:=by
 rcases AA.mp hd with rfl | hd
 ·exact⟨h,h⟩
 rcases AY.mp hd with hd | hd
 ·have hu:=G.dn i h;revert hu hd;generalize (sy g i).un=l;intro hd hu
  match l with
  | [a,b]=>
   have h1:=hu a (by simp);have h2:=hu b (by simp);simp [spl] at hd;rcases hd with rfl | rfl
   ·exact⟨by show a < _;omega,by show b < _;omega⟩
   ·exact⟨by show b < _;omega,by show a < _;omega⟩
  | []=>simp [spl] at hd
  | [_]=>simp [spl] at hd
  | _::_::_::_=>simp [spl] at hd
 ·obtain⟨o,ho,hd⟩:=CD.mp hd;have:=G.be i h o ho;simp at hd;rcases hd with rfl | rfl
  ·exact⟨h,this⟩
  ·exact⟨this,h⟩
theorem L1 {g:List Sy} (G:WG g ws) (h:i < g.length):(eY (gC g) (.int (i:Int))).le (.ret ((Hf g i).map d3)):=λQ q=>by
 unfold eY gC;have l1:=xa (sy g i).un;have l3:=G.Uu i h;have i1:∀a b:Nat,cq [PV.int (a:Int),PV.int (b:Int)] 1=ap (.int (b:Int)):=λ_ _=>rfl;simp only [f8,ce,ay,Mm h,ev,Sy.pv,Yg,cx,bh,dD,bA];have fin:∀s:List PV,s=(dbl i::spl (sy g i).un).map d3->(dY (av (sy g i).be) s λjq RY=>am (t6 RY [.tup [.str "over",.int (i:Int),jq],.tup [.str "over",jq,.int (i:Int)]]) λox=>bd ox).run Q:=λs hs=>by
  refine kd (λk s=>s=(dbl i::(spl (sy g i).un++((sy g i).be.take k).flatMap (ovr i))).map d3) (by rw [hs];simp) (λk x s hx hs=>?_) (λs hs=>?_)
  ·subst hs;unfold av at hx;rw [Ae] at hx;cases eo:(sy g i).be[k]? with
   | none=>rw [eo] at hx;cases hx
   | some o=>
   rw [eo] at hx;have ex:=Option.some.inj hx;subst ex;have et:(sy g i).be.take (k+1)=(sy g i).be.take k++[o]:=by rw [Ed,eo];rfl
   unfold t6;rw [pr (a8 (by simp only [Ag,Ap,Af,tZ];simp;omega))];rw [et,Ce];simp [d3]
  ·subst hs;rw [bh,List.take_length];exact q
 have hu:=G.oY i h;revert fin hu;generalize (sy g i).un=l;intro fin hu
 match l,hu with
 | [],_=>
  exact fin _ rfl
 | [a],_=>
  exact fin _ rfl
 | [a,b],_=>
  refine⟨a8 (by simp),?_⟩;exact fin _ rfl
def uP (F:List (List Bool)):List PV:=F.map λr=>.cl (r.map PV.bl)
def fa (F:List (List Bool)) (j i:Nat):Bool:=(F.getD j []).getD i false
structure FW (g:List Sy) (F:List (List Bool)) (n:Nat):Prop where
 len:n<=F.length
 row:∀j,j < n->(F.getD j []).length=g.length
theorem wZ {g:List Sy} (fw:FW g F n) (hj:j < n) (hi:i < g.length):(bj (am (bj (bd (uP F)) (bd (.int (j:Int)))) aw) (bd (.int (i:Int))))=.ret (.bl (fa F j i)):=by
 have Rg:=AB hj fw.len;have e1:F[j]?=ap (F.getD j []):=by rw [Al,Ad Rg];rfl
 have i1:KA (uP F) (.int (j:Int))=.ret (.cl ((F.getD j []).map PV.bl)):=fB (by unfold uP;rw [Ae,e1];rfl);have hl:=fw.row j hj;have e2:(F.getD j [])[i]?=ap (fa F j i):=by unfold fa;generalize F.getD j []=r at hl;rw [Al,Ad ∅];rfl
 have i2:KA ((F.getD j []).map PV.bl) (.int (i:Int))=.ret (.bl (fa F j i)):=fB (by rw [Ae,e2];rfl);simp only [f8,i1,bC,i2]
def lD (g:List Sy) (F:List (List Bool)) (e:Ent) (i:Nat):List Dd:=match e with
 | .word w=>if hm g i w=true then [("found",i,i)] else []
 | .pair a b=>(Hf g i).filter λd=>fa F a d.2.1&&fa F b d.2.2
def qx (n:Nat):Ent->Prop
 | .word _=>True
 | .pair a b=>a < n/\b < n
theorem lB {g:List Sy} (G:WG g ws) (he:es[j]?=ap e) (hi:i < g.length) (fw:FW g F n) (hn:qx n e) :
  (cD (gC g) (.cl (es.map Ent.pv)) (.cl (uP F)) (.int (j:Int)) (.int (i:Int))).le (.ret ((lD g F e i).map d3)):=λQ q=>by
 unfold cD;have ie:KA (es.map Ent.pv) (.int (j:Int))=.ret e.pv:=fB (by rw [Ae,he];rfl);simp only [f8,ce,bC,ie,ev];cases e with
 | word w=>
  have l2:=G.oY i hi;have i0:cq [(sy g i).nm,PV.int ((sy g i).lv:Int),.tup (av (sy g i).un),.tup (av (sy g i).be)] 0=ap (sy g i).nm:=rfl;have i2:cq [(sy g i).nm,PV.int ((sy g i).lv:Int),.tup (av (sy g i).un),.tup (av (sy g i).be)] 2=ap (.tup (av (sy g i).un)):=rfl;have fin:∀b:Bool,hm g i w=b->(zF [PV.tup [.str "found",.int (i:Int),.int (i:Int)]] (.int (if b then 1 else 0))).run Q:=λb hb=>by
   have q:Q ((if hm g i w=true then [(("found",i,i):Dd)] else []).map d3):=q;rw [hb] at q;cases b with
   | true=>
    exact⟨⟨by decide,by decide,a8 (by simp)⟩,q⟩
   | false=>
    exact⟨⟨by decide,by decide,a8 (by simp)⟩,q⟩
  simp only [Ent.pv,fc,fU,aY,ev,if_true,gC,ay,f8,Mm hi,Sy.pv,bb,i0,i2,sw,ce,eq_nil _ (show (sy g i).un.length<=1000 by omega),VD (G.nm i hi) w];cases c:(sy g i).un.isEmpty with
  | false=>
   simp only [K1,ev,oC];exact fin false (by unfold hm;rw [c];rfl)
  | true=>
   simp only [gL,ev,oC];exact fin _ (by unfold hm;rw [c];rfl)
 | pair a b=>
  obtain⟨ha,hb⟩:=hn;have j0:cq [PV.int (a:Int),PV.int (b:Int)] 0=ap (.int a):=rfl;have j1:cq [PV.int (a:Int),PV.int (b:Int)] 1=ap (.int b):=rfl;simp only [Ent.pv,d7,gK,aY,ev,An,if_false,ay,bb,j0,j1,sw,f8,ce];refine W.le.use (L1 G hi) ?_;refine xK (λd:Dd=>if (fa F a d.2.1&&fa F b d.2.2)=true then ap (d3 d) else bm) (λd hd R r=>?_) ?_
  ·obtain⟨h1,h2⟩:=QA G hi hd;have k1:cq [PV.str d.1,PV.int (d.2.1:Int),PV.int (d.2.2:Int)] 1=ap (.int (d.2.1:Int)):=rfl;have k2:cq [PV.str d.1,PV.int (d.2.1:Int),PV.int (d.2.2:Int)] 2=ap (.int (d.2.2:Int)):=rfl;have t1:=wZ fw ha h1;have t2:=wZ fw hb h2;simp only [f8,bb] at t1 t2;simp only [d3,ay,f8,bb,k1,k2,sw,t1,t2,aY];cases c1:fa F a d.2.1 with
   | false=>simpa [c1] using r
   | true=>
    cases c2:fa F b d.2.2 with
    | false=>simpa [c1,c2] using r
    | true=>simpa [c1,c2,d3] using r
  ·rw [KU];exact q
def iz (g:List Sy) (f:Nat->Bool):Nat->List Bool
 | 0=>[]
 | k+1=>iz g f k++[(sy g k).un.any (λl=>(iz g f k).getD l false)||f k]
@[simp] theorem iX (g:List Sy) (f:Nat->Bool):∀k,(iz g f k).length=k
 | 0=>rfl
 | k+1=>by rw [iz,Af,iX g f k];rfl
def jF {l m:List α}{d:α} (h:i < l.length):(l++m).getD i d=l.getD i d:=by
 rw [Al,AE h,<- Al]
def mr {l m:List α}{d:α} (h:l.length<=i):(l++m).getD i d=m.getD (i-l.length) d:=by
 rw [Al,AI h,<- Al]
theorem xh (g:List Sy) (f:Nat->Bool):∀{k:Nat},i < k->(iz g f k).getD i false=(iz g f (i+1)).getD i false
 | 0,h=>by omega
 | k+1,h=>by
  by_cases c:i=k
  ·subst c;rfl
  ·rw [iz,jF (by rw [iX];omega)];exact xh g f ∅
theorem aac (g:List Sy) (f:Nat->Bool) (dn:∀i,i < g.length->∀u∈(sy g i).un,u < i) (h:i < g.length):(iz g f g.length).getD i false=((sy g i).un.any (λl=>(iz g f g.length).getD l false)||f i):=by
 rw [xh g f h,iz,mr (by rw [iX];exact Ao _),iX,Cu];show (_||_)=_;congr 1;rw [Cr,BK,BK];have key:∀l∈(sy g i).un,(iz g f i).getD l false=(iz g f g.length).getD l false:=λl hl=>by
  have:=dn i h l hl;rw [xh g f this,xh g f (show l < g.length by omega)]
 exact⟨λ⟨l,h1,h2⟩=>⟨l,h1,by rw [<- key l h1];exact h2⟩,λ⟨l,h1,h2⟩=>⟨l,h1,by rw [key l h1];exact h2⟩⟩
def Hd (es:List Ent) (j:Nat):Ent:=es.getD j (.word "")
def tab (g:List Sy) (es:List Ent):Nat->List (List Bool)
 | 0=>[]
 | j+1=>tab g es j++[iz g (λi=>!(lD g (tab g es j) (Hd es j) i).isEmpty) g.length]
@[simp] theorem cu (g:List Sy) (es:List Ent):∀j,(tab g es j).length=j
 | 0=>rfl
 | j+1=>by rw [tab,Af,cu g es j];rfl
theorem nI (g:List Sy) (es:List Ent):∀{k:Nat},i < k->(tab g es k).getD i []=iz g (λx=>!(lD g (tab g es i) (Hd es i) x).isEmpty) g.length
 | 0,h=>by omega
 | k+1,h=>by
  by_cases c:i=k
  ·subst c;rw [tab,mr (by rw [cu];exact Ao _),cu,Cu];rfl
  ·rw [tab,jF (by rw [cu];omega)];exact nI g es ∅
def Ht (g:List Sy) (es:List Ent) (n:Nat):FW g (tab g es n) n:=⟨by rw [cu];exact Ao _,λj hj=>by rw [nI g es hj,iX]⟩
def F7 {g:List Sy}{F':List (List Bool)} (h:qx n e) (hf:∀j,j < n->F.getD j []=F'.getD j []):lD g F e i=lD g F' e i:=by
 cases e with
 | word w=>rfl
 | pair a b=>
  dsimp only [lD,fa];rw [hf a h.1,hf b h.2]
theorem RF (g:List Sy) (es:List Ent) (h:j<=k):∀x,x < j->(tab g es j).getD x []=(tab g es k).getD x []:=λx hx=>by rw [nI g es hx,nI g es (show x < k by omega)]
theorem abT {g:List Sy} (G:WG g ws) (hj:j < n) (hi:i < g.length) (he:qx j (Hd es j)):fa (tab g es n) j i=((sy g i).un.any (λl=>fa (tab g es n) j l)||!(lD g (tab g es n) (Hd es j) i).isEmpty):=by
 have e1:∀x,fa (tab g es n) j x=(iz g (λx=>!(lD g (tab g es j) (Hd es j) x).isEmpty) g.length).getD x false:=λx=>by unfold fa;rw [nI g es hj]
 have e2:(λl=>fa (tab g es n) j l)=λl=>(iz g (λx=>!(lD g (tab g es j) (Hd es j) x).isEmpty) g.length).getD l false:=funext e1;rw [e2,e1,aac g _ G.dn hi,F7 (F':=tab g es n) he (RF g es ∅)]
def wX (b:Bool):sd (.bl b)=.ret (.bl b):=pr (by rw [PV.dat] <;> simp)
def any_map' (f:Nat->Bool) (l:List Nat):QU (l.map λx=>.bl (f x))=.ret (.bl (l.any f)):=by
 have:(l.map λx=>PV.bl (f x))=(l.map f).map PV.bl:=by rw [AH];rfl
 rw [this,UB,FN];rfl
def jm (F:List (List Bool)):List (List PV):=F.map λr=>r.map PV.bl
def NK (F:List (List Bool)):(jm F).map PV.cl=uP F:=by unfold jm uP;rw [AH];rfl
theorem S6 {g:List Sy} (G:WG g ws) (hz:es.length<=900) (hes:∀j,j < es.length->qx j (Hd es j)):(hZ (gC g) (.cl (es.map Ent.pv))).le (.ret (uP (tab g es es.length))):=λQ q=>by
 have gl:=G.len;unfold hZ;simp only [f8,ce,fR,Ag,gJ,pr (cR (i:=0) (j:=(es.length:Int)) ∅ ∅),ev,A2];refine oy (λj s=>s.2=jm (tab g es j)) rfl (λj s hj hs=>?_) (λs hs=>?_)
 ·obtain⟨s1,s2⟩:=s;replace hs:s2=jm (tab g es j):=hs;subst hs;have e1:qc cY [gC g]=.ret (.int (g.length:Int)):=by unfold gC;rw [cx,Ag]
  have e2:zF [PV.bl false] (.int (g.length:Int))=.ret ((Am g.length false).map PV.bl):=by
   rw [Qa,pr ⟨by omega,by omega,a8 (by simp;omega)⟩,A2];congr 1;simp
  have afv:es[j]?=ap (Hd es j):=by unfold Hd;rw [Al,Ad hj];rfl
  simp only [f8,e1,e2,ce,ev];refine⟨by show (jm (tab g es j)).length < sizeLine;unfold jm;rw [Ag,cu];have:=a8 (n:=901) ∅;omega,?_⟩;intro b9 _;simp only [gJ,pr (cR (i:=0) (j:=(g.length:Int)) ∅ ∅),ev,A2,ce]
  let f:Nat->Bool:=λx=>!(lD g (tab g es j) (Hd es j) x).isEmpty
  refine oy (λi s=>s.2=jm (tab g es j++[iz g f i++Am (g.length-i) false])) (by show _++_=_;simp [jm,iz]) (λi s hi hs=>?_) (λs hs=>?_)
  ·obtain⟨s1,s2⟩:=s;replace hs:s2=_:=hs;subst hs;generalize hF:tab g es j++[iz g f i++Am (g.length-i) false]=F;have fw:FW g F (j+1):=by
    subst hF;refine⟨by simp,λx hx=>?_⟩;by_cases c:x=j
    ·subst c;rw [mr (by rw [cu];exact Ao _),cu,Cu];show (iz g f i++_).length=_;rw [Af,iX,Bf];omega
    ·rw [jF (by rw [cu];omega)];exact (Ht g es j).row x ∅
   have ff:∀l,l < i->fa F j l=(iz g f i).getD l false:=λl hl=>by
    subst hF;unfold fa;rw [mr (by rw [cu];exact Ao _),cu,Cu];show (iz g f i++_).getD l false=_;rw [jF (by rw [iX];exact hl)]
   have fd:lD g F (Hd es j) i=lD g (tab g es j) (Hd es j) i:=F7 (hes j hj) λx hx=>by
    subst hF;rw [jF (by rw [cu];exact hx)]
   have un:KA (g.map Sy.pv) (.int (i:Int))=.ret (sy g i).pv:=Mm hi;have i2:cq [(sy g i).nm,PV.int ((sy g i).lv:Int),.tup (av (sy g i).un),.tup (av (sy g i).be)] 2=ap (.tup (av (sy g i).un)):=rfl;simp only [NK,gC,ay,f8,un,Sy.pv,bb,i2,sw,ce,ev,bC];refine md (λl=>.bl (fa F j l)) (λl hl=>?_) ?_
   ·have:=G.dn i hi l hl;have:=wZ fw (show j < j+1 by omega) (show l < g.length by omega);simpa using this
   ·rw [any_map'];have eA:(sy g i).un.any (fa F j)=(sy g i).un.any λl=>(iz g f i).getD l false:=by
     rw [Cr,BK,BK];exact⟨λ⟨l,h1,h2⟩=>⟨l,h1,by rw [<- ff l (G.dn i hi l h1)];exact h2⟩,λ⟨l,h1,h2⟩=>⟨l,h1,by rw [ff l (G.dn i hi l h1)];exact h2⟩⟩
    have fin:(am (Tj (jm F) (.int (j:Int))) λj25=>am (gq j25.2 (.int (i:Int)) (.bl ((sy g i).un.any (fa F j)||f i))) λXA=>bd ((s1,(jm F).set j25.1 XA):List ci×List (List PV))).run λs=>s.2=jm (tab g es j++[iz g f (i+1)++Am (g.length-(i+1)) false]):=by
     have Rg:j < (jm F).length:=by unfold jm;rw [Ag];have:=fw.len;omega
     have e3:(jm F)[j]?=ap ((iz g f i++Am (g.length-i) false).map PV.bl):=by
      subst hF;unfold jm;rw [Ae,AI (by rw [cu];exact Ao _),cu,Cu];rfl
     have e4:Tj (jm F) (.int (j:Int))=.ret (j,(iz g f i++Am (g.length-i) false).map PV.bl):=by
      show W.OT ((oh (jm F).length (j:Int)).bind λj=>(jm F)[j]?.map λl=>(j,l))=_;rw [KC Rg];show W.OT ((jm F)[j]?.map _)=_;rw [e3];rfl
     rw [e4];simp only [f8];rw [jU (by rw [Ag,Af,iX,Bf];omega)];subst hF;unfold jm;rw [eA];apply A1;intro x;have er:g.length-i=(g.length-(i+1))+1:=by omega
     by_cases c:x=j
     ·subst c;congr 1;rw [iz,er,BA,<- ET,Fc _ _ (by rw [iX];exact Ao _),iX,Cu];simp
     ·rw [Bd (BL c),Ae,Ae];by_cases c2:x < j
      ·rw [AE (by rw [cu];exact c2),AE (by rw [cu];exact c2)]
      ·rw [Av (by rw [Af,cu];simp;omega),Av (by rw [Af,cu];simp;omega)]
    simp only [ev,wX];cases cA:(sy g i).un.any (fa F j) with
    | true=>
     rw [cA] at fin;simp only [Qb,ev,wX];simpa using fin
    | false=>
     rw [cA] at fin;simp only [Qc,ce];refine W.le.use (lB G (F:=F) afv hi fw (by have:=hes j hj;revert this;cases Hd es j with | word w=>exact id | pair a b=>exact λz=>⟨Di z.1,Di z.2⟩)) ?_;have e5:(!((lD g F (Hd es j) i).map d3).isEmpty)=f i:=by rw [fd,EH]
     simp only [ev,e5,wX];simpa using fin
  ·rw [hs,tab,Cu];simp [f]
 ·show Q (s.2.map PV.cl);rw [hs,NK];exact q
end My
variable {u i0:Nat}{g:List My.Sy}{d:My.Dd}
namespace My
open PySem PySem.Spec PyProof.Rows L2 PL FL
def Ch (g:List Sy):List Nat->Prop
 | []=>False
 | [i]=>i < g.length
 | i::k::r=>i < g.length/\k∈(sy g i).un/\Ch g (k::r)
theorem Ch.snoc (hu:u∈(sy g i).un) (hg:u < g.length):∀{p:List Nat},Ch g (p++[i])->Ch g (p++[i]++[u])
 | [],h=>⟨h,hu,hg⟩
 | [a],h=>⟨h.1,h.2.1,h.2.2,hu,hg⟩
 | a::b::p,h=>⟨h.1,h.2.1,Ch.snoc hu hg (p:=b::p) h.2.2⟩
theorem Ch.last:∀{p:List Nat},Ch g (p++[i])->i < g.length
 | [],h=>h
 | [a],h=>h.2.2
 | a::b::p,h=>Ch.last (p:=b::p) h.2.2
theorem Ch.lt:∀{p:List Nat},Ch g p->∀x∈p,x < g.length
 | [i],h,x,hx=>by rw [A3.mp hx];exact h
 | i::k::r,h,x,hx=>by
  rcases AA.mp hx with rfl | hx
  ·exact h.1
  ·exact Ch.lt (p:=k::r) h.2.2 x hx
def Ch.cons {g:List Sy}{a i:Nat}{r:List Nat} (h:Ch g (i::r)) (ha:a < g.length) (hi:i∈(sy g a).un):Ch g (a::i::r):=⟨ha,hi,h⟩
theorem Ch.len (G:WG g ws):∀{p:List Nat}{i:Nat},Ch g (i::p)->p.length<=i
 | [],i,_=>Bb _
 | k::r,i,h=>by
  have h1:=G.dn i h.1 k h.2.1;have h2:=Ch.len G (p:=r) (i:=k) h.2.2;rw [Ap];omega
def abG (h:i < g.length):cq (g.map Sy.pv) (i:Int)=ap (sy g i).pv:=bM (by rw [Ae,Hv h];rfl)
def NQ (s:Sy):cq [s.nm,PV.int (s.lv:Int),.tup (av s.un),.tup (av s.be)] 2=ap (.tup (av s.un)):=(rfl)
def mh (q:List Nat) (l:Nat):cq (av (q++[l])) (-1)=ap (.int (l:Int)):=by rw [n5];exact QR _ _
structure PI (g:List Sy) (F:List (List Bool)) (j i0:Nat) (q:List Nat) (l:Nat):Prop where
 ch:Ch g (q++[l])
 hd:(q++[l]).head?=ap i0
 f:fa F j l=true
 m:q.length+l<=i0
theorem PI.next (G:WG g ws) {l:Nat}{q:List Nat} (P:PI g F j i0 q l) (hu:u∈(sy g l).un) (hf:fa F j u=true):PI g F j i0 (q++[l]) u:=by
 have hl:=P.ch.last;have:=G.dn l hl u hu;have:=P.m;refine⟨P.ch.snoc hu ∅,?_,hf,by rw [Af];simp;omega⟩;rw [List.head?_append,P.hd];rfl
section
variable {g:List Sy}{ws:List Str}{F:List (List Bool)}{es:List Ent}{j n:Nat}{e:Ent}
theorem OQ (G:WG g ws) (fw:FW g F n) (hj:j < n) {l:Nat} (hl:l < g.length) {Q:List PV->Prop} (q:Q (av ((sy g l).un.filter λu=>fa F j u))) :
  (kJ (av (sy g l).un) λp8=>Hb (am (bj (am (bj (bd (uP F)) (bd (.int (j:Int)))) aw) (bd p8)) cI) (bd p8)).run Q:=by
 refine sZ (λu=>fa F j u) (λu hu=>?_) q;have:=G.dn l hl u hu;rw [wZ fw hj (show u < g.length by omega)];cases fa F j u <;> simp
theorem vL (G:WG g ws) (he:es[j]?=ap e) (fw:FW g F n) (hj:j < n) (hn:qx n e) (hc:∀i,i < g.length->fa F j i=((sy g i).un.any (λl=>fa F j l)||!(lD g F e i).isEmpty)) (h0:i0 < g.length) (f0:fa F j i0=true)
  (q:∀p l,Ch g (p++[l])->(p++[l]).head?=ap i0->lD g F e l≠[]->Q (.tup (av (p++[l])))) :
  (eN (gC g) (.cl (es.map Ent.pv)) (.cl (uP F)) (.int (j:Int)) (.int (i0:Int))).run Q:=by
 have gl:=G.len;have e1:qc cY [gC g]=.ret (.int (g.length:Int)):=by unfold gC;rw [cx,Ag]
 unfold eN;simp only [f8,ce,e1,ev,gJ,pr (cR (i:=0) (j:=(g.length:Int)) ∅ ∅),A2];refine oy (λ_ s=>∃p l,s=av (p++[l])/\PI g F j i0 p l) ⟨[],i0,rfl,h0,rfl,f0,by simp⟩ (λk s hk hs=>?_) (λs hs=>?_)
 ·obtain⟨p,l,rfl,P⟩:=hs;have hl:=P.ch.last;have oY:=G.oY l hl;have pm:=P.m;have step:∀x∈av ((sy g l).un.filter λu=>fa F j u),(kn (av (p++[l])) x).run λs=>∃p l,s=av (p++[l])/\PI g F j i0 p l:=λx hx=>by
   obtain⟨u,hu,rfl⟩:=Ar.mp hx;obtain⟨ĭ,Ĭ⟩:=Ay.mp hu;rw [iw (by rw [bh,Af];simp;omega)];exact⟨p++[l],u,by simp,P.next G ĭ Ĭ⟩
  simp only [ke,bb,mh,sw,f8,ce,ev];simp only [gC,ay,bC,abG hl,sw,f8,ev,Sy.pv,NQ];have on:=@OQ g ws F j n G fw hj l hl;refine on ?_;refine W.le.use (lB G he hl fw hn) ?_;have stop:∃p' l',av (p++[l])=av (p'++[l'])/\PI g F j i0 p' l':=⟨p,l,rfl,P⟩;have go:∀b:Bool,(dG (uO (am (am (bd (.cl (av ((sy g l).un.filter λu=>fa F j u)))) sY) λL3=>bd (!L3.isEmpty)) (am (bd (.bl b)) cI)) (am (am (bd (.cl (av ((sy g l).un.filter λu=>fa F j u)))) λwM=>bJ wM) λrQ=>am (kn (av (p++[l])) rQ) λgG=>bd gG) (bd (av (p++[l])))).run λs=>∃p l,s=av (p++[l])/\PI g F j i0 p l:=λb=>by
   generalize hon:av ((sy g l).un.filter λu=>fa F j u)=on at step;have onl:on.length<=1000:=by
    rw [<- hon,bh];have:=Bg (λu=>fa F j u) (sy g l).un;omega
   cases on with
   | nil=>simpa using stop
   | cons x r=>
    cases b with
    | false=>simpa using stop
    | true=>
     refine pick_run (by simp) onl λy hy=>?_;simpa using step y hy
  cases cd:((lD g F e l).map d3).isEmpty with
  | true=>
   simp only [ev,Qb];simpa using go true
  | false=>
   simp only [ev,Qc,ce,da 3 ⋯ ⋯];refine bD λd _ _=>?_;simp only [dD,ev];simpa using go (d==0)
 ·obtain⟨p,l,rfl,P⟩:=hs;refine gU (λm s=>∃p,s=av (p++[m])/\PI g F j i0 p m) ⟨p,rfl,P⟩ ?_;rintro l s ⟨p,rfl,P⟩;have hl:=P.ch.last;have oY:=G.oY l hl;have pm:=P.m;simp only [ke,bb,mh,sw,f8,ce,ev];refine W.le.use (lB G he hl fw hn) ?_;cases cd:((lD g F e l).map d3).isEmpty with
  | false=>
   refine q p l P.ch P.hd λz=>?_;rw [z] at cd;cases cd
  | true=>
   have on:=@OQ g ws F j n G fw hj l hl;simp only [f8,bb] at on;simp only [gC,ay,bC,abG hl,sw,f8,ev,Sy.pv,NQ];refine on ?_;have Ŀ:=hc l hl;rw [P.f] at Ŀ;have lz:(lD g F e l).isEmpty=true:=by rw [EH] at cd;exact cd
   rw [lz] at Ŀ;have ha:(sy g l).un.any (λu=>fa F j u)=true:=by simpa using Ŀ.symm
   obtain⟨u,hu,hfu⟩:=BK.mp ha;have mem:=Ay.mpr ⟨hu,hfu⟩;refine pick_run (λz=>?_) (by rw [bh];have:=Bg (λu=>fa F j u) (sy g l).un;omega) λx hx=>?_
   ·have:=congrArg B2 z;rw [bh] at this;rw [EG.mp this] at mem;cases mem
   ·obtain⟨v,hv,rfl⟩:=Ar.mp hx;obtain⟨hv1,ī⟩:=Ay.mp hv;rw [iw (by rw [bh,Af];simp;omega)];exact⟨v,G.dn l hl v hv1,p++[l],by simp,P.next G hv1 ī⟩
end
def ht:Tr->Nat->Nat
 | .leaf _,_=>0
 | .node l r,j=>if j < l.size then ht l j else if j < l.size+r.size then ht r (j-l.size) else (Tr.node l r).depth
theorem Po:∀(t:Tr) (j:Nat),ht t j<=t.depth
 | .leaf _,_=>Ao _
 | .node l r,j=>by
  have e:(Tr.node l r).depth=max l.depth r.depth+1:=rfl;have h1:=Po l j;have h2:=Po r (j-l.size);rw [ht]
  split
  ·omega
  ·split <;> omega
theorem KJ (t:Tr):ht t (t.size-1)=t.depth:=by
 cases t with
 | leaf _=>rfl
 | node l r=>
  have es:(Tr.node l r).size=l.size+r.size+1:=rfl;rw [ht,if_neg ∅,if_neg ∅]
theorem Pp:∀(t:Tr) (o j a b:Nat),j < t.size->en t o j=.pair a b->ht t (a-o) < ht t j/\ht t (b-o) < ht t j
 | .leaf _,o,j,a,b,h,e=>by rw [en] at e;cases e
 | .node l r,o,j,a,b,h,e=>by
  have es:(Tr.node l r).size=l.size+r.size+1:=rfl;have lp:=l.size_pos;have rp:=r.size_pos;by_cases c1:j < l.size
  ·rw [en,if_pos c1] at e;obtain⟨h1,h2,h3,h4,_⟩:=iq l o j .aV a b c1 e;have:=Pp l o j a b c1 e;have q1:∀x,x < l.size->ht (.node l r) x=ht l x:=λx hx=>by rw [ht,if_pos hx]
   rw [q1 (a-o) ∅,q1 (b-o) ∅,q1 j c1];exact this
  ·by_cases c2:j < l.size+r.size
   ·rw [en,if_neg c1,if_pos c2] at e;obtain⟨h1,h2,h3,h4,_⟩:=iq r (o+l.size) (j-l.size) .aV a b ∅ e;have:=Pp r (o+l.size) (j-l.size) a b ∅ e;have q1:∀x,¬x < l.size->x < l.size+r.size->ht (.node l r) x=ht r (x-l.size):=λx h1 h2=>by rw [ht,if_neg h1,if_pos h2]
    rw [q1 (a-o) ∅ ∅,q1 (b-o) ∅ ∅,q1 j c1 c2,Fi,Fi];exact this
   ·rw [en,if_neg c1,if_neg c2] at e;injection e with e1 e2;subst e1;subst e2;have er:(Tr.node l r).depth=max l.depth r.depth+1:=rfl;have ej:ht (.node l r) j=(Tr.node l r).depth:=by rw [ht,if_neg c1,if_neg c2]
    have e3:ht (.node l r) (o+l.size-1-o)=l.depth:=by rw [ht,if_pos ∅,show o+l.size-1-o=l.size-1 by omega,KJ]
    have e4:ht (.node l r) (o+l.size+r.size-1-o)=r.depth:=by rw [ht,if_neg ∅,if_pos ∅,show o+l.size+r.size-1-o-l.size=r.size-1 by omega,KJ]
    omega
theorem iR:∀(t:Tr) (o j:Nat) (w:Str),j < t.size->en t o j=.word w->w∈t.ax
 | .leaf x,o,j,w,h,e=>by
  rw [en] at e;injection e with e;subst e;simp [Tr.ax]
 | .node l r,o,j,w,h,e=>by
  have es:(Tr.node l r).size=l.size+r.size+1:=rfl;by_cases c1:j < l.size
  ·rw [en,if_pos c1] at e;exact BG _ (iR l o j w c1 e)
  ·by_cases c2:j < l.size+r.size
   ·rw [en,if_neg c1,if_pos c2] at e;exact AN _ (iR r _ (j-l.size) w ∅ e)
   ·rw [en,if_neg c1,if_neg c2] at e;cases e
inductive Nu (g:List Sy) (t:Tr):Nat->List Nat->PV->Prop
 | leaf {j:Nat}{p:List Nat}{i:Nat}{w:Str}:en t 0 j=.word w->Ch g (p++[i])->hm g i w=true->Nu g t j (p++[i]) (.tup [.tup (av (p++[i])),.str "found"])
 | node {j:Nat}{p:List Nat}{i a b:Nat}{nm:Str}{x y:Nat}{p1 p2:List Nat}{wa wb:PV}:en t 0 j=.pair a b->Ch g (p++[i])->(nm,x,y)∈Hf g i->Nu g t a (x::p1) wa->Nu g t b (y::p2) wb->Nu g t j (p++[i]) (.tup [.tup (av (p++[i])),.str nm,wa,wb])
def Yv (h:d∈Hf g i):(d.1==("found":Str))=false:=by
 have k1:(("doubled":Str)==("found":Str))=false:=by decide +kernel
 have k2:(("split":Str)==("found":Str))=false:=by decide +kernel
 have k3:(("over":Str)==("found":Str))=false:=by decide +kernel
 rcases AA.mp h with rfl | h
 ·exact k1
 rcases AY.mp h with h | h
 ·revert h;generalize (sy g i).un=l;intro h;unfold spl at h
  split at h
  ·simp at h;rcases h with rfl | rfl <;> exact k2
  ·cases h
 ·obtain⟨o,_,h⟩:=CD.mp h;simp at h;rcases h with rfl | rfl <;> exact k3
def HK (t:Tr) (h:j < t.size):Hd (t.nd 0) j=en t 0 j:=by unfold Hd;rw [Al,fj t 0 j h];rfl
def wo (t:Tr) (h:j < t.size):qx j (en t 0 j):=by
 cases e:en t 0 j with
 | word w=>trivial
 | pair a b=>exact cV t h e
section
abbrev gX (g:List Sy) (t:Tr):List (List Bool):=tab g (t.nd 0) t.size
def T3 (G:WG g ws) (hj:j < t.size) (hi:i < g.length):fa (gX g t) j i=((sy g i).un.any (λl=>fa (gX g t) j l)||!(lD g (gX g t) (en t 0 j) i).isEmpty):=by
 have:=abT G (es:=t.nd 0) (n:=t.size) hj hi (by rw [HK t hj];exact wo t hj);rw [HK t hj] at this;exact this
def rA {m:Nat} (h:qx m e) (hm:m<=n):qx n e:=by
 cases e with
 | word w=>trivial
 | pair a b=>exact⟨AB h.1 hm,AB h.2 hm⟩
theorem sX (G:WG g ws):∀(n j:Nat),ht t j < n->j < t.size->∀(p:List Nat) (i:Nat),Ch g (p++[i])->lD g (gX g t) (en t 0 j) i≠[]->∀{Q:PV->Prop},(∀w,Nu g t j (p++[i]) w->Q w)->
  (c8 n (gC g) (.cl ((t.nd 0).map Ent.pv)) (.cl (uP (gX g t))) (.int (j:Int)) (.tup (av (p++[i])))).run Q
 | 0,j,h,_,_,_,_,_,_,_=>by omega
 | n+1,j,h,hj,p,i,hc,hd,Q,q=>by
  have hi:=hc.last;have fw:=Ht g (t.nd 0) t.size;have ej:=fj t 0 j hj;unfold c8;simp only [f8,ce,ke,ay,bb,mh,sw,ev];refine W.le.use (lB G ej hi fw (rA (wo t hj) ∅)) ?_;have ll:(lD g (gX g t) (en t 0 j) i).length<=63:=by
   cases e:en t 0 j with
   | word w=>unfold lD;simp only;split <;> simp
   | pair a b=>unfold lD;exact A4 (Bg _ _) (Uo G hi)
  refine pick_run (λz=>hd (Ft.mp z)) (by rw [Ag];omega) λx hx=>?_;obtain⟨d,TN,rfl⟩:=Ar.mp hx;have e1:∀s:Str,of2 dQ (.str s) (.str "found")=.ret (.bl (s==("found":Str))):=λs=>by rw [uc,pr ⟨by simp,by simp,by simp⟩,P5]
  simp only [d3,Yh,ev,e1,f8,bA];cases e:en t 0 j with
  | word w=>
   rw [e] at TN hd;have TN:d∈(if hm g i w=true then [(("found",i,i):Dd)] else []):=TN;have hh:hm g i w=true:=by
    cases c:hm g i w with
    | true=>rfl
    | false=>rw [c] at TN;cases TN
   rw [if_pos hh] at TN;have:=A3.mp TN;subst this;simp only [beq_self_eq_true,if_true,ev];exact q _ (.leaf e hc hh)
  | pair a b=>
   rw [e] at TN hd;obtain⟨õ,Í⟩:=Ay.mp TN;rw [AO] at Í;obtain⟨l1,l2⟩:=QA G hi õ;obtain⟨a1,b1⟩:=cV t hj e;obtain⟨t1,t2⟩:=Pp t 0 j a b hj e;rw [Dh] at t1 t2;have ha:a < t.size:=by omega
   have hb:b < t.size:=by omega
   have j0:cq [PV.int (a:Int),PV.int (b:Int)] 0=ap (.int a):=rfl;have j1:cq [PV.int (a:Int),PV.int (b:Int)] 1=ap (.int b):=rfl;simp only [Yv õ,An,if_false,bC,f8,ce,bb,HL t hj,e,Ent.pv,sw,ev,ay,j0,j1];have Vv:∀(k:Nat),k < t.size->∀i,i < g.length->fa (gX g t) k i=((sy g i).un.any (λl=>fa (gX g t) k l)||!(lD g (gX g t) (en t 0 k) i).isEmpty):=λk hk i hi=>T3 G hk hi;refine vL G (fj t 0 a ha) fw ha (rA (wo t ha) ∅) (Vv a ha) l1 Í.1 λp1 m1 c1 h1 k1=>?_;refine sX G n a ∅ ha p1 m1 c1 k1 λwa Wa=>?_;refine vL G (fj t 0 b hb) fw hb (rA (wo t hb) ∅) (Vv b hb) l2 Í.2 λp2 m2 c2 h2 k2=>?_;refine sX G n b ∅ hb p2 m2 c2 k2 λwb Wb=>?_;obtain⟨r1,e1⟩:∃r,p1++[m1]=d.2.1::r:=by
    cases hx:p1++[m1] with
    | nil=>rw [hx] at h1;cases h1
    | cons y r=>rw [hx] at h1;cases h1;exact⟨r,rfl⟩
   obtain⟨r2,e2⟩:∃r,p2++[m2]=d.2.2::r:=by
    cases hx:p2++[m2] with
    | nil=>rw [hx] at h2;cases h2
    | cons y r=>rw [hx] at h2;cases h2;exact⟨r,rfl⟩
   rw [e1] at Wa;rw [e2] at Wb;exact q _ (.node e hc õ Wa Wb)
theorem Q4.fa (G:WG g ws) (hj:j < t.size) (r:Q4 g i k):i < g.length->My.fa (gX g t) j k=true->My.fa (gX g t) j i=true:=by
 induction r with
 | refl i=>intro _ h;exact h
 | @step i u k hu _ ih=>
  intro hi h;have:=G.dn i hi u hu;have h1:=ih ∅ h;rw [T3 G hj hi,E9];exact .inl (BK.mpr ⟨u,hu,h1⟩)
theorem V7 (G:WG g ws) (hw:∀w∈t.ax,w∈ws):∀j,j < t.size->fa (gX g t) j (g.length-1)=true/\∃i,i < g.length/\lD g (gX g t) (en t 0 j) i≠[]:=λj=>by
 have gp:=G.pos
 induction j using C4 with
 | ind j ih=>
  intro hj;cases e:en t 0 j with
  | word w=>
   obtain⟨i,hi,r,hh⟩:=G.aff w (hw w (iR t 0 j w hj e));have ne:lD g (gX g t) (.word w) i≠[]:=by
    show (if hm g i w=true then _ else _)≠[];rw [if_pos hh];simp
   refine⟨r.fa G hj ∅ ?_,i,hi,ne⟩;rw [T3 G hj hi,e,E9];refine .inr ?_;cases c:lD g (gX g t) (.word w) i with
   | nil=>exact absurd c ne
   | cons _ _=>rfl
  | pair a b=>
   obtain⟨ha,hb⟩:=cV t hj e;have h1:=(ih a ha ∅).1;have h2:=(ih b hb ∅).1;have mem:dbl (g.length-1)∈lD g (gX g t) (.pair a b) (g.length-1):=Ay.mpr ⟨.head _,by show (My.fa _ _ _&&My.fa _ _ _)=true;rw [h1,h2];rfl⟩;have ne:lD g (gX g t) (.pair a b) (g.length-1)≠[]:=λz=>by rw [z] at mem;cases mem
   refine⟨?_,g.length-1,by omega,ne⟩;rw [T3 G hj ∅,e,E9];refine .inr ?_;cases c:lD g (gX g t) (.pair a b) (g.length-1) with
   | nil=>exact absurd c ne
   | cons _ _=>rfl
theorem whole_run (G:WG g ws) (hw:∀w∈t.ax,w∈ws) (hd:t.depth < 12) (hz:t.size<=900) (q:∀i w,Nu g t (t.size-1) [i] w->Q w):(cS (gC g) t.pv).run Q:=by
 have tp:=t.size_pos;have gl:=G.len;have nl:=t.bx 0;have fw:=Ht g (t.nd 0) t.size;have e1:qc cY [gC g]=.ret (.int (g.length:Int)):=by unfold gC;rw [cx,Ag]
 have hr:t.size-1 < t.size:=by omega
 unfold cS;simp only [f8,ce];refine W.le.use (gN 12 t hd hz) ?_;refine W.le.use (S6 G (es:=t.nd 0) ∅ λj hj=>by rw [nl] at hj;rw [HK t hj];exact wo t hj) ?_;rw [nl];have el:((t.size:Int)-1)=((t.size-1:Nat):Int):=by omega
 simp only [fR,cB,ev,pR,el,e1,gJ,pr (cR (i:=0) (j:=(g.length:Int)) ∅ ∅),A2,pK];have ej:=fj t 0 (t.size-1) hr;unfold av;refine xK (λi:Nat=>if (!(lD g (gX g t) (en t 0 (t.size-1)) i).isEmpty)=true then ap (PV.int (i:Int)) else bm) (λi hi R r=>?_) ?_
 ·have hi:=Aw.mp hi;simp only [ce];refine W.le.use (lB G ej hi fw (rA (wo t hr) ∅)) ?_;rw [EH];cases c:(lD g (gX g t) (en t 0 (t.size-1)) i).isEmpty with
  | false=>simpa [c] using r
  | true=>simpa [c] using r
 ·rw [KU];obtain⟨_,i,hi,ne⟩:=V7 G hw (t.size-1) hr;refine pick_run (λz=>?_) ?_ λx hx=>?_
  ·have mem:i∈(Ax g.length).filter λi=>!(lD g (gX g t) (en t 0 (t.size-1)) i).isEmpty:=Ay.mpr ⟨Aw.mpr hi,by cases c:lD g (gX g t) (en t 0 (t.size-1)) i with | nil=>exact absurd c ne | cons _ _=>rfl⟩;rw [Ft.mp z] at mem;cases mem
  ·rw [Ag];have:=Bg (λi=>!(lD g (gX g t) (en t 0 (t.size-1)) i).isEmpty) (Ax g.length);rw [BM] at this;omega
  ·obtain⟨k,hk,rfl⟩:=Ar.mp hx;obtain⟨ĺ,Č⟩:=Ay.mp hk;have ĺ:=Aw.mp ĺ;refine sX G 12 (t.size-1) (by have:=Po t (t.size-1);omega) hr [] k ĺ (λz=>?_) λw h=>q k w h;rw [z] at Č;cases Č
end
end My
variable {P:Nat->List Nat}{w:BZ}{p:List Nat}
namespace My
open PySem PySem.Spec PyProof.Rows L2 PL FL
def VO (g:List Sy) (t:Tr) (V:Nat->PV) (P:Nat->List Nat) (j:Nat):Prop:=
 ∃q i,P j=q++[i]/\Ch g (q++[i])/\((∃w,en t 0 j=.word w/\hm g i w=true/\V j=.tup [.tup (av (P j)),.str "found"])\/
  ∃a b nm x y r1 r2,en t 0 j=.pair a b/\(nm,x,y)∈Hf g i/\P a=x::r1/\P b=y::r2/\V j=.tup [.tup (av (P j)),.str nm,V a,V b])
def VO.congr {V V':Nat->PV}{P':Nat->List Nat} (h:VO g t V P j) (h0:V' j=V j/\P' j=P j) (h1:∀a b,en t 0 j=.pair a b->(V' a=V a/\P' a=P a)/\V' b=V b/\P' b=P b):VO g t V' P' j:=by
 obtain⟨q,i,e,c,h⟩:=h;refine⟨q,i,by rw [h0.2];exact e,c,?_⟩;rcases h with⟨w,e1,e2,e3⟩ | ⟨a,b,nm,x,y,r1,r2,e1,e2,e3,e4,e5⟩
 ·exact .inl ⟨w,e1,e2,by rw [h0.1,h0.2];exact e3⟩
 ·obtain⟨⟨k1,k2⟩,k3,k4⟩:=h1 a b e1;exact .inr ⟨a,b,nm,x,y,r1,r2,e1,e2,by rw [k2];exact e3,by rw [k4];exact e4,by rw [h0.1,h0.2,k1,k3];exact e5⟩
theorem wR:∀(s:Tr) (o:Nat),(∀k,k < s.size->en t 0 (o+k)=en s o k)->∀p w,Nu g t (o+s.size-1) p w->∃(V:Nat->PV) (P:Nat->List Nat),V (o+s.size-1)=w/\P (o+s.size-1)=p/\∀k,o<=k->k < o+s.size->VO g t V P k
 | .leaf x,o,hs,p,w,h=>by
  have e0:en t 0 o=.word x:=hs 0 (by show 0 < 1;decide);have ei:o+(Tr.leaf x).size-1=o:=by show o+1-1=o;omega
  rw [ei] at h ⊢;cases h with
  | leaf e c hh=>exact⟨λ_=>_,λ_=>_,rfl,rfl,λk k1 k2=>by
    have:k=o:=by have:k < o+1:=k2;omega
    subst this;exact⟨_,_,rfl,c,.inl ⟨_,e,hh,rfl⟩⟩⟩
  | node e _ _ _ _=>rw [e0] at e;cases e
 | .node l r,o,hs,p,w,h=>by
  have es:(Tr.node l r).size=l.size+r.size+1:=rfl;have lp:=l.size_pos;have rp:=r.size_pos;have er:en t 0 (o+(l.size+r.size))=.pair (o+l.size-1) (o+l.size+r.size-1):=by rw [hs _ ∅,en,if_neg ∅,if_neg ∅]
  have ei:o+(Tr.node l r).size-1=o+(l.size+r.size):=by omega
  rw [ei] at h ⊢;have hl:∀k,k < l.size->en t 0 (o+k)=en l o k:=λk hk=>by rw [hs k ∅,en,if_pos hk]
  have hr:∀k,k < r.size->en t 0 (o+l.size+k)=en r (o+l.size) k:=λk hk=>by rw [A5,hs _ ∅,en,if_neg ∅,if_pos ∅,Bh]
  cases h with
  | leaf e _ _=>rw [er] at e;cases e
  | @node _ q i a b nm x y p1 p2 wa wb e c hd h1 h2=>
  rw [er] at e;injection e with ea eb;subst ea;subst eb;obtain⟨V1,P1,a1,a2,a3⟩:=wR l o hl _ _ h1;obtain⟨V2,P2,b1,b2,b3⟩:=wR r (o+l.size) hr _ _ h2
  let V:Nat->PV:=λk=>if k < o+l.size then V1 k else if k < o+l.size+r.size then V2 k else .tup [.tup (av (q++[i])),.str nm,wa,wb]
  let P:Nat->List Nat:=λk=>if k < o+l.size then P1 k else if k < o+l.size+r.size then P2 k else q++[i]
  have v1:∀k,k < o+l.size->V k=V1 k/\P k=P1 k:=λk hk=>⟨if_pos hk,if_pos hk⟩;have v2:∀k,o+l.size<=k->k < o+l.size+r.size->V k=V2 k/\P k=P2 k:=λk h1 h2=>⟨(if_neg ∅).trans (if_pos h2),(if_neg ∅).trans (if_pos h2)⟩;have v3:V (o+(l.size+r.size))=.tup [.tup (av (q++[i])),.str nm,wa,wb]/\P (o+(l.size+r.size))=q++[i]:=⟨(if_neg ∅).trans (if_neg ∅),(if_neg ∅).trans (if_neg ∅)⟩;refine⟨V,P,v3.1,v3.2,λk k1 k2=>?_⟩;by_cases c1:k < o+l.size
  ·refine (a3 k k1 c1).congr (v1 k c1) λa b ek=>?_;have:=hl (k-o) ∅;rw [show o+(k-o)=k by omega,ek] at this;obtain⟨m1,m2,m3,m4,_⟩:=iq l o (k-o) .aV a b ∅ this.symm;exact⟨v1 a ∅,v1 b ∅⟩
  ·by_cases c2:k < o+l.size+r.size
   ·refine (b3 k ∅ c2).congr (v2 k ∅ c2) λa b ek=>?_;have:=hr (k-(o+l.size)) ∅;rw [show o+l.size+(k-(o+l.size))=k by omega,ek] at this;obtain⟨m1,m2,m3,m4,_⟩:=iq r (o+l.size) (k-(o+l.size)) .aV a b ∅ this.symm;exact⟨v2 a ∅ ∅,v2 b ∅ ∅⟩
   ·have:k=o+(l.size+r.size):=by omega
    subst this;refine⟨q,i,v3.2,c,.inr ⟨_,_,nm,x,y,p1,p2,er,hd,?_,?_,?_⟩⟩
    ·rw [(v1 (o+l.size-1) ∅).2];exact a2
    ·rw [(v2 (o+l.size+r.size-1) ∅ ∅).2];exact b2
    ·rw [v3.1,v3.2,(v1 (o+l.size-1) ∅).1,(v2 (o+l.size+r.size-1) ∅ ∅).1,a1,b1]
def QD (l:List PV) (h:a<=l.length):kK l (ap (a:Int)) bm=l.drop a:=by
 unfold kK;rw [HT.zB,HT.RX,Nat.min_eq_left h,Bv (by simp)]
theorem RM (h:i < g.length):jy (gC g) (.int (i:Int))=.ret (.bl true):=by
 unfold jy gC;have c1:(0:Int)<=(i:Int):=by omega
 have c2:(i:Int) < (g.length:Int):=by omega
 simp only [f8,NC,gL,Qf,cx,Ag,Gz,c1,c2,decide_true,v9]
theorem zQ:∀{p:List Nat},Ch g p->(mapW (gE (av p) (av (p.drop 1))) λKh=>am (oY Kh) λRa=>am (am (c7 (gC g) Ra.1) aw) λl=>am (tK false Ra.2 l) blW).le (.ret ((Am (p.length-1) true).map PV.bl))
 | [i],h=>λQ q=>by
  have e:gE (av [i]) (av ([i].drop 1))=[]:=by show gE [PV.int (i:Int)] []=[];rw [gE];simp
  rw [e];exact q
 | i::k::r,h=>λQ q=>by
  show (am (am (oY _) _) λy=>am (mapW _ _) λm=>bd (y::m)).run Q;simp only [lL,f8,nC h.1,ay,Ik,h.2.1,decide_true,An,if_false,abW,ce];exact W.le.use (zQ (p:=k::r) h.2.2) q
def Ch.ne (h:Ch g p):1<=p.length:=by
 cases p with
 | nil=>exact h.elim
 | cons a p=>simp
theorem Kf (G:WG g ws) (h:Ch g p):(jz (gC g) (.tup (av p))).le (.ret (.bl true)):=λQ q=>by
 have hn:=h.ne;have hl:p.length<=301:=by
  cases p with
  | nil=>simp
  | cons a p=>have:=h.len G;have:=h.lt a (.head _);have:=G.len;rw [Ap];omega
 unfold jz;have c0:((p.length:Int)==0)=false:=beq_eq_false_iff_ne.mpr ∅;simp only [f8,ce,d7,yh,aY,ev,Bz,An,if_false,cx,bh,dD,bA,c0,ay];refine md (λ_=>.bl true) (λk hk=>RM (h.lt k hk)) ?_;have e1:p.map (λ_=>PV.bl true)=(p.map λ_=>true).map PV.bl:=by rw [AH];rfl
 have e2:(p.map λ_=>true).all id=true:=by simp
 rw [e1,oT,e2];have e3:kK (av p) (ap 1) bm=av (p.drop 1):=by
  have:=QD (av p) (a:=1) (by rw [bh];exact hn);rw [show ((1:Nat):Int)=1 from rfl] at this;rw [this];unfold av;rw [List.map_drop]
 simp only [ev,aY,Bz,An,if_false,iO,lN,e3,ay,ce];refine⟨a8 (by rw [bh];omega),?_⟩;show (mapW _ _).run _;refine W.le.use (zQ h) ?_;rw [oT];have e4:(Am (p.length-1) true).all id=true:=by simp
 rw [e4];exact q
def Mt (G:WG g ws) {V:Nat->PV} (h:VO g t V P j):(f6 (gC g) (en t 0 j).pv (V j)).le (.ret (.bl true)):=λQ q=>by
 obtain⟨p,i,e,c,h⟩:=h;unfold f6;rcases h with⟨w,e1,e2,e3⟩ | ⟨a,b,nm,x,y,r1,r2,e1,e2,e3,e4,e5⟩
 ·have j0:cq [PV.tup (av (P j)),.str "found"] 0=ap (.tup (av (P j))):=rfl;have j1:cq [PV.tup (av (P j)),.str "found"] 1=ap (.str "found"):=rfl;rw [e1,e3];simp only [Ent.pv,f8,fc,fU,aY,if_true,HB,Ap,Bx];show (Nb (.bl true) _).run Q;simp only [gL,ay,f8,bb,j0,j1,sw,ce];rw [e];refine W.le.use (Kf G c) ?_;simp only [gL,fc,fU];exact q
 ·have j0:cq [PV.tup (av (P j)),.str nm,V a,V b] 0=ap (.tup (av (P j))):=rfl;have j1:cq [PV.tup (av (P j)),.str nm,V a,V b] 1=ap (.str nm):=rfl;rw [e1,e5];simp only [Ent.pv,f8,d7,gK,aY,An,if_false,HB,Ap,Bx];show (Nb (.bl true) _).run Q;simp only [gL,ay,f8,bb,j0,j1,sw,ce];rw [e];refine W.le.use (Kf G c) ?_;exact q
def pb (t:Tr) (k m:Nat):Bool:=match jd t 0 k .aV with
 | .int a=>decide ((m:Int)<=a)
 | _=>true
def zw (t:Tr) (V:Nat->PV) (m:Nat):List PV:=(Ax t.size).map λk=>if pb t k m=true then V k else .aV
@[simp] theorem JW (t:Tr) (V:Nat->PV) (m:Nat):(zw t V m).length=t.size:=by unfold zw;simp
def qZ (t:Tr) (V:Nat->PV) (m:Nat) (h:k < t.size):(zw t V m)[k]?=ap (if pb t k m=true then V k else .aV):=by unfold zw;simp [h]
def zP (h:k < t.size):(k=t.size-1/\∀m,pb t k m=true)\/∃a u v,k < a/\a < t.size/\en t 0 a=.pair u v/\(u=k\/v=k)/\∀m,pb t k m=decide (m<=a):=by
 rcases gB t 0 k .aV h with⟨h1,h2⟩ | ⟨a,u,v,h1,h2,h3,h4,h5⟩
 ·exact .inl ⟨h1,λm=>by unfold pb;rw [h2]⟩
 ·rw [AG] at h3 h5;refine .inr ⟨a,u,v,h1,h2,h4,h5,λm=>?_⟩;unfold pb;rw [h3];rw [Cr];simp
theorem Lv (t:Tr) (V:Nat->PV):((Ax t.size).map λ_=>PV.aV).set (t.size-1) (V (t.size-1))=zw t V t.size:=by
 apply A1;intro k;by_cases hk:k < t.size
 ·rw [qZ t V _ hk];rcases zP hk with⟨h1,h2⟩ | ⟨a,u,v,h1,h2,h3,h4,h5⟩
  ·rw [h2,if_pos rfl,<- h1,Bw (by simp;exact hk)]
  ·rw [h5,decide_eq_false ∅,Bd ∅];simp [hk]
 ·rw [Av (by simp;omega),Av (by simp;omega)]
theorem NS {V:Nat->PV} (e:en t 0 j=.word w):zw t V (j+1)=zw t V j:=by
 unfold zw;refine Bj λk hk=>?_;have hk:=Aw.mp hk;rcases zP hk with⟨h1,h2⟩ | ⟨a,u,v,h1,h2,h3,h4,h5⟩
 ·rw [h2,h2]
 ·have:a≠j:=λz=>by subst z;rw [h3] at e;cases e
  rw [h5,h5];have:decide (j+1<=a)=decide (j<=a):=by rw [Cr];simp;omega
  rw [this]
theorem NT {V:Nat->PV} (hj:j < t.size) (e:en t 0 j=.pair a b):((zw t V (j+1)).set a (V a)).set b (V b)=zw t V j:=by
 obtain⟨h1,h2,h3,h4,h5,h6,h7⟩:=iq t 0 j .aV a b hj e;rw [AG,Dh] at *;have pk:∀k,jd t 0 k .aV=.int ((j:Nat):Int)->pb t k j=true:=λk hk=>by unfold pb;rw [hk];simp
 apply A1;intro k;by_cases hk:k < t.size
 ·rw [qZ t V j hk];by_cases cb:b=k
  ·subst cb;rw [Bw (by simp;exact hk),pk b h7,if_pos rfl]
  ·rw [Bd cb];by_cases ca:a=k
   ·subst ca;rw [Bw (by simp;exact hk),pk a h6,if_pos rfl]
   ·rw [Bd ca,qZ t V _ hk];rcases zP hk with⟨k1,k2⟩ | ⟨a',u,v,k1,k2,k3,k4,k5⟩
    ·rw [k2,k2]
    ·have:a'≠j:=λz=>by
      subst z;rw [k3] at e;injection e with e1 e2;rcases k4 with rfl | rfl
      ·exact ca e1.symm
      ·exact cb e2.symm
     rw [k5,k5];have:decide (j+1<=a')=decide (j<=a'):=by rw [Cr];simp;omega
     rw [this]
 ·rw [Av (by simp;omega),Av (by simp;omega)]
def RN (t:Tr) (V:Nat->PV):zw t V 0=(Ax t.size).map V:=by
 refine Bj λk hk=>?_;rcases zP (Aw.mp hk) with⟨h1,h2⟩ | ⟨a,u,v,h1,h2,h3,h4,h5⟩
 ·rw [h2,if_pos rfl]
 ·rw [h5,decide_eq_true (Bb _),if_pos rfl]
theorem Rt (G:WG g ws) (hz:t.size<=900) {V:Nat->PV} (h:∀k,k < t.size->VO g t V P k):(df (gC g) (.tup ((t.nd 0).map Ent.pv)) (V (t.size-1))).le (.ret (.cl ((Ax t.size).map V))):=λQ q=>by
 have tp:=t.size_pos;unfold df;simp only [f8,ce,ay];refine HV (λ_=>.aV) (λx hx=>rfl) ?_;have e0:((t.nd 0).map Ent.pv).map (λ_=>PV.aV)=(Ax t.size).map λ_=>PV.aV:=by rw [DT,DT,cB,BM]
 have ei:oh t.size (-1)=ap (t.size-1):=by
  unfold oh;rw [if_neg ∅,if_pos ∅];congr 1;omega
 have es:∀v,gq ((Ax t.size).map λ_=>PV.aV) (.int (-1)) v=.ret (((Ax t.size).map λ_=>PV.aV).set (t.size-1) v):=λv=>by
  show (match oh ((Ax t.size).map λ_=>PV.aV).length (-1) with | some j=>_ | none=>_)=_;rw [Ag,BM,ei]
 have Ň:(((t.size:Nat):Int)-1 - -1).toNat=t.size:=by omega
 rw [e0];simp only [ke,ev,es,Lv,cx,cB,pR,KY,Ň];refine⟨⟨trivial,cR ∅ ∅⟩,?_⟩;refine KR (λi s=>i<=t.size/\s=zw t V (t.size-i)) ⟨Bb _,rfl⟩ (λi x s hx hs=>?_) (λs hs=>?_)
 ·obtain⟨_,rfl⟩:=hs;obtain⟨hi,rfl⟩:=pV hx;obtain⟨j,hj⟩:∃j:Nat,j=t.size-1-i:=⟨_,rfl⟩;have ej:(((t.size:Nat):Int)-1-(i:Int))=(j:Int):=by omega
  have KN:j < t.size:=by omega
  rw [ej,show t.size-i=j+1 by omega,show t.size-(i+1)=j by omega];have at1:cq (zw t V (j+1)) (j:Int)=ap (V j):=bM (by
   rw [qZ t V _ KN];rcases zP KN with⟨_,h2⟩ | ⟨a,u,v,h1,h2,h3,h4,h5⟩
   ·rw [h2,if_pos rfl]
   ·rw [h5,decide_eq_true ∅,if_pos rfl])
  simp only [bb,HL t KN,sw,ev,at1,ce];refine W.le.use (Mt G (h j KN)) ?_;simp only [aY,ev,Bz,An,if_false,ce,vU,ay,iO];obtain⟨p,ii,e,c,hh⟩:=h j KN;rcases hh with⟨w,e1,e2,e3⟩ | ⟨a,b,nm,x,y,r1,r2,e1,e2,e3,e4,e5⟩
  ·have ec:kK [PV.tup (av (P j)),.str "found"] (ap 2) bm=[]:=rfl;rw [e1,e3];simp only [lN,ec,ev,ay,vS,ly];have ez:rP [] []=.ret []:=by unfold rP;rw [pr (a8 (by simp))];congr 1
   rw [ez];exact⟨by omega,NS e1⟩
  ·have ec:kK [PV.tup (av (P j)),.str nm,V a,V b] (ap 2) bm=[V a,V b]:=rfl;rw [e1,e5];obtain⟨ha,hb⟩:=cV t KN e1;simp only [lN,ec,ev,ay,vS,ma,ly];have ez:rP [PV.int (a:Int),PV.int (b:Int)] [V a,V b]=.ret [.tup [.int (a:Int),V a],.tup [.int (b:Int),V b]]:=by
    unfold rP;rw [pr (a8 (by simp))];congr 1
   have s1:gq (zw t V (j+1)) (.int (a:Int)) (V a)=.ret ((zw t V (j+1)).set a (V a)):=jU (by rw [JW];omega);have s2:gq ((zw t V (j+1)).set a (V a)) (.int (b:Int)) (V b)=.ret (((zw t V (j+1)).set a (V a)).set b (V b)):=jU (by rw [B1,JW];omega);rw [ez];simp only [ev,dY,lL,f8,s1,s2,ce];exact⟨by omega,NT KN e1⟩
 ·obtain⟨_,rfl⟩:=hs;have el:(mL (((t.size:Nat):Int)-1) t.size).length=t.size:=by unfold mL;simp
  rw [el,Cu,RN];exact q
def dl (g:List Sy) (i:Nat):List Dd:=dbl i::(spl (sy g i).un++((sy g i).be.map (λo=>(("over",i,o):Dd))++(sy g i).be.map (λo=>(("over",o,i):Dd))))
def Yw (h:d∈Hf g i):d∈dl g i:=by
 rcases AA.mp h with rfl | h
 ·exact .head _
 refine AW _ ?_;rcases AY.mp h with h | h
 ·exact BG _ h
 ·obtain⟨o,ho,h⟩:=CD.mp h;refine AN _ ?_;simp at h;rcases h with rfl | rfl
  ·exact BG _ (Ar.mpr ⟨o,ho,rfl⟩)
  ·exact AN _ (Ar.mpr ⟨o,ho,rfl⟩)
theorem Yt (G:WG g ws) (h:i < g.length):(dl g i).length<=63:=by
 unfold dl;simp only [Ap,Af,Ag];have:=xa (sy g i).un;have:=G.Uu i h;omega
theorem Ul (d:Dd):pJ (d2 d)=true:=rfl
def IK (d:Dd):PV.kG (d2 d)=true:=by simp [d2]
def TZ (d:Dd):PV.i9 (d2 d)<=2:=by simp [d2]
def Mc (p:Nat×Nat):PV:=.tup [.int (p.1:Int),.int (p.2:Int)]
def NV (G:WG g ws) (h:i < g.length):fY (gC g) (.int (i:Int))=.ret ((spl (sy g i).un).map λd=>Mc (d.2.1,d.2.2)):=by
 unfold fY;simp only [f8,nC h];have hu:=G.oY i h;revert hu;generalize (sy g i).un=l;intro hu
 match l,hu with
 | [],_=>simp only [cx,ma,ly,Ap,Bx,dD,f8,bA];rfl
 | [a],_=>simp only [cx,ma,ly,Ap,Bx,dD,f8,bA];rfl
 | [a,b],_=>
  have i0:cq [PV.int (a:Int),PV.int (b:Int)] 0=ap (.int (a:Int)):=rfl;have i1:cq [PV.int (a:Int),PV.int (b:Int)] 1=ap (.int (b:Int)):=rfl;simp only [cx,ma,ly,Ap,Bx,dD,f8,bA,ay,bb,i0,i1,sw];rfl
theorem Sx (G:WG g ws) (h:i < g.length):hE (gC g) (.int (i:Int))=.ret ((sy g i).be.map (λo=>Mc (i,o))++(sy g i).be.map (λo=>Mc (o,i))):=by
 unfold hE;have l3:=G.Uu i h;simp only [f8,Na h,ay];rw [rz (g:=λo=>Mc (i,o)) λk hk=>rfl];rw [rz (g:=λo=>Mc (o,i)) λk hk=>rfl];simp only [f8];rw [lQ (by simp;omega)]
theorem MP (G:WG g ws) (h:i < g.length) {Q:List PV->Prop} (q:∀m:List PV,m.Perm ((dl g i).map d2)->Q m):(fv (gC g) (Ent.pair a b).pv (.int (i:Int))).run Q:=by
 have l63:=Yt G h;unfold fv;simp only [Ent.pv,f8,ce,d7,gK,aY,ev,An,if_false,NV G h,Sx G h];refine eU (λd:Dd=>.tup [.str "split",Mc (d.2.1,d.2.2)]) (λd _ R r=>r) ?_;have em:(sy g i).be.map (λo=>Mc (i,o))++(sy g i).be.map (λo=>Mc (o,i))=((sy g i).be.map (λo=>((i,o):Nat×Nat))++(sy g i).be.map (λo=>(o,i))).map Mc:=by
  rw [AU,AH,AH];rfl
 rw [em];refine eU (λp:Nat×Nat=>.tup [.str "over",Mc p]) (λp _ R r=>r) ?_;simp only [ev,oB,f8];have es:(spl (sy g i).un).map (λd=>PV.tup [.str "split",Mc (d.2.1,d.2.2)])=(spl (sy g i).un).map d2:=by
  refine Bj λd hd=>?_;have:d.1=("split":Str):=by
   revert hd;generalize (sy g i).un=l;intro hd;unfold spl at hd
   split at hd
   ·simp at hd;rcases hd with rfl | rfl <;> rfl
   ·cases hd
  unfold d2 Mc;rw [this]
 have eo:((sy g i).be.map (λo=>((i,o):Nat×Nat))++(sy g i).be.map (λo=>(o,i))).map (λp=>PV.tup [.str "over",Mc p])=((sy g i).be.map (λo=>(("over",i,o):Dd))++(sy g i).be.map (λo=>(("over",o,i):Dd))).map d2:=by
  simp only [AU,AH];rfl
 rw [es,eo];have ll:(dl g i).length=1+(spl (sy g i).un).length+((sy g i).be.map (λo=>(("over",i,o):Dd))++(sy g i).be.map (λo=>(("over",o,i):Dd))).length:=by
  unfold dl;simp only [Ap,Af];omega
 rw [lQ (by simp only [Ag,Ap,Bx];omega)];simp only [ev];rw [lQ (by simp only [Ag,Af,Ap,Bx] at *;omega)];have e:([PV.tup [.str "doubled",.tup [.int (i:Int),.int (i:Int)]]]++(spl (sy g i).un).map d2)++((sy g i).be.map (λo=>(("over",i,o):Dd))++(sy g i).be.map (λo=>(("over",o,i):Dd))).map d2=(dl g i).map d2:=by
  unfold dl;simp only [Az,AU,Be];rfl
 simp only [ev];rw [e];refine⟨⟨by rw [Ag];omega,CF.mpr λx hx=>?_⟩,λm hm=>q m hm⟩;obtain⟨d,_,rfl⟩:=Ar.mp hx;exact Ul d
def Pl {l:List Dd} (hp:m.Perm (l.map d2)) (hd:d∈l):tK false (d2 d) m=.ret true:=by
 have h1:tL (d2 d) m:=⟨IK d,gc.mpr λx hx=>by
  obtain⟨k,_,rfl⟩:=Ar.mp (hp.mem_iff.mp hx);exact IK k,A4 (gj (n:=2) λx hx=>by
  obtain⟨k,_,rfl⟩:=Ar.mp (hp.mem_iff.mp hx);exact TZ k) ⋯⟩
 have h2:m6 (d2 d) m=true:=BK.mpr ⟨d2 d,hp.mem_iff.mpr (Ar.mpr ⟨d,hd,rfl⟩),Gx _ (IK d)⟩;unfold tK;rw [pr h1,h2];rfl
theorem Uj (G:WG g ws) {V:Nat->PV} (hj:j < t.size) (H:∀k,k < t.size->VO g t V P k):(jB (gC g) (en t 0 j).pv (V j)).le (.ret (.bl true)):=λQ q=>by
 obtain⟨p,i,e,c,h⟩:=H j hj;have hi:=c.last;unfold jB n8 fu;rcases h with⟨w,e1,e2,e3⟩ | ⟨a,b,nm,x,y,r1,r2,e1,e2,e3,e4,e5⟩
 ·have j0:cq [PV.tup (av (P j)),.str "found"] 0=ap (.tup (av (P j))):=rfl;have j1:cq [PV.tup (av (P j)),.str "found"] 1=ap (.str "found"):=rfl;have ec:kK [PV.tup (av (P j)),.str "found"] (ap 2) bm=[]:=rfl;have em:∀f,mapW [] f=.ret []:=λ_=>rfl;rw [e1,e3];simp only [f8,ce,ay,bb,j0,j1,sw,ev,iO,lN,ec,em,lM,ke];rw [e];simp only [mh,sw,ev];unfold fv;simp only [Ent.pv,f8,ce,fc,fU,aY,ev,if_true,TJ G hi,e2];have h1:tL (.tup [.str "found",.tup []]) [PV.tup [.str "found",.tup []]]:=⟨by simp,by simp,by simp⟩;refine⟨h1,?_⟩;exact q
 ·have j0:cq [PV.tup (av (P j)),.str nm,V a,V b] 0=ap (.tup (av (P j))):=rfl;have j1:cq [PV.tup (av (P j)),.str nm,V a,V b] 1=ap (.str nm):=rfl;have ec:kK [PV.tup (av (P j)),.str nm,V a,V b] (ap 2) bm=[V a,V b]:=rfl;obtain⟨ha,hb⟩:=cV t hj e1;have Ú:∀k z r,k < t.size->P k=z::r->dB (V k)=.ret (.int (z:Int)):=λk z r hk hz=>by
   obtain⟨_,_,_,_,hh⟩:=H k hk;have:∃l,V k=.tup (.tup (av (z::r))::l):=by
    rcases hh with⟨w,_,_,e3⟩ | ⟨a,b,nm,x,y,r1,r2,_,_,_,_,e5⟩
    ·exact⟨_,by rw [e3,hz]⟩
    ·exact⟨_,by rw [e5,hz]⟩
   obtain⟨l,el⟩:=this;have k0:cq (PV.tup (av (z::r))::l) 0=ap (.tup (av (z::r))):=bM (j:=0) rfl;have k1:cq (av (z::r)) 0=ap (.int (z:Int)):=bM (j:=0) rfl;unfold dB;rw [el];simp only [f8,ay,bb,k0,k1,sw]
  have c1:=Ú a x r1 ∅ e3;have c2:=Ú b y r2 ∅ e4;have em:mapW [V a,V b] (λp5=>dB p5)=.ret [.int (x:Int),.int (y:Int)]:=by
   show am (dB (V a)) (λu=>am (am (dB (V b)) λv=>[]\λm=>bd (v::m)) λm=>bd (u::m))=_;rw [c1,c2];rfl
  rw [e1,e5];simp only [f8,ce,ay,bb,j0,j1,sw,ev,iO,lN,ec,em,lM,ke];rw [e];simp only [mh,sw,ev];refine MP G hi λm hm=>?_;have:=Pl (d:=(nm,x,y)) hm (Yw e2);have e6:d2 (nm,x,y)=.tup [.str nm,.tup [.int (x:Int),.int (y:Int)]]:=rfl;rw [e6] at this;rw [this];exact q
theorem Rn (t:Tr) (f:Nat->PV):gE ((t.nd 0).map Ent.pv) ((Ax t.size).map f)=(Ax t.size).map λj=>PV.tup [(en t 0 j).pv,f j]:=by
 refine A1 λj=>?_;have hz:(gE ((t.nd 0).map Ent.pv) ((Ax t.size).map f)).length=t.size:=by rw [lS];simp [t.bx]
 by_cases hj:j < t.size
 ·have hl:j < (gE ((t.nd 0).map Ent.pv) ((Ax t.size).map f)).length:=by omega
  obtain⟨x,y,hx,hy,e⟩:=nv (Ad hl);rw [Ae,fj t 0 j hj] at hx;have uH:=Option.some.inj hx;rw [Ae,AR hj] at hy;have Tw:=Option.some.inj hy;rw [Ad hl,e,<- uH,<- Tw,Ae,AR hj];rfl
 ·rw [Av ∅,Av (by simp;omega)]
def RB (hw:t.Ws) (hz:t.size<=900):(me t.pv).le (.ret (.bl true)):=λQ q=>by
 exact PM t hw true (.inl rfl) hz Q q
theorem F9 (G:WG g ws) (hw:t.Ws) (hz:t.size<=900) {w:PV} (h:Nu g t (t.size-1) p w):(jx (gC g) t.pv w).le (.ret (.bl ((p.length:Int)==1))):=λQ q=>by
 have tp:=t.size_pos;obtain⟨V,P,v1,v2,H⟩:=wR t 0 (λk hk=>by rw [AG]) p w (by rw [AG];exact h);rw [AG] at v1 v2;have H:∀k,k < t.size->VO g t V P k:=λk hk=>H k (Bb _) ∅;subst v1;subst v2;unfold jx;simp only [f8,ce];refine W.le.use (RB hw hz) ?_;simp only [aY,ev,Bz,An,if_false,ce];refine W.le.use (nY t hz) ?_;refine W.le.use (Rt G hz H) ?_;obtain⟨l,el⟩:∃l,V (t.size-1)=.tup (.tup (av (P (t.size-1)))::l):=by
  obtain⟨_,_,_,_,hh⟩:=H (t.size-1) ∅;rcases hh with⟨w,_,_,e3⟩ | ⟨a,b,nm,x,y,r1,r2,_,_,_,_,e5⟩
  ·exact⟨_,e3⟩
  ·exact⟨_,e5⟩
 have k0:cq (PV.tup (av (P (t.size-1)))::l) 0=ap (.tup (av (P (t.size-1)))):=bM (j:=0) rfl;rw [el];simp only [pS,PV.mH,bA,ev,An,if_false,ay,bb,k0,sw,cx,bh,yg,f8];cases c:((P (t.size-1)).length:Int)==1 with
 | false=>
  rw [c] at q;simpa using q
 | true=>
  rw [c] at q;simp only [Bz,An,if_false,bC,ce,ev];refine⟨a8 (by rw [cB];omega),?_⟩;show (mapW _ _).run _;rw [Rn];refine eU (λ_=>.bl true) (λj hj R r=>?_) ?_
  ·have hj:=Aw.mp hj;simp only [lL,f8];exact Uj G hj H R r
  ·have e1:(Ax t.size).map (λ_=>PV.bl true)=((Ax t.size).map λ_=>true).map PV.bl:=by rw [AH];rfl
   have e2:((Ax t.size).map λ_=>true).all id=true:=by simp
   rw [e1,oT,e2];exact q
theorem Dt.isD {d:Int} (D:Dt t ds [] d) (h:d<=99):Tp t ds=true:=by
 unfold Tp;rw [AO,AO,decide_eq_true_iff,decide_eq_true_iff];refine⟨D.len,?_,CF.mpr λj hj=>?_⟩
 ·unfold G8;have hp:(splits t).Pairwise (· < ·):=by unfold splits;exact List.Pairwise.filter _ Dk
  rw [List.nodup_iff_pairwise_ne,Er];refine List.Pairwise.imp_of_mem (λ{x y} hx hy lt e=>?_) hp;obtain⟨x1,x2⟩:=Ay.mp hx;obtain⟨y1,y2⟩:=Ay.mp hy;have:=D.inj x y (Aw.mp x1) (Aw.mp y1) (by simp) (by simp) x2 y2 e;omega
 ·have hj':=Aw.mp hj;unfold okJ;cases e:en t 0 j with
  | word w=>
   rw [D.zero j hj' (.inl (by rw [e];rfl))];rfl
  | pair a b=>
   obtain⟨_,_,h1,h2,h3,h4⟩:=D.up j hj' (by simp) a b e;show (decide (ds.getD a 0 < ds.getD j 0)&&decide (ds.getD b 0 < ds.getD j 0)&&decide (1<=ds.getD j 0)&&decide (ds.getD j 0<=99))=true;rw [decide_eq_true h1,decide_eq_true h2,decide_eq_true h3,decide_eq_true ∅];rfl
theorem uq:∀(t:Tr) (o:Nat),(t.nd o).countP tG+1=t.ax.length
 | .leaf _,_=>rfl
 | .node l r,o=>by
  have h1:=uq l o;have h2:=uq r (o+l.size);rw [Tr.nd,List.countP_append,List.countP_append];show _+(List.countP tG [Ent.pair _ _])+1=(l.ax++r.ax).length;simp [tG];omega
theorem Xm (t:Tr):t.nd 0=(Ax t.size).map (en t 0):=by
 refine A1 λj=>?_;by_cases h:j < t.size
 ·rw [fj t 0 j h,Ae,AR h];rfl
 ·rw [Av (by rw [t.bx];omega),Av (by simp;omega)]
def Hx (t:Tr):(splits t).length+1=t.ax.length:=by
 rw [<- uq t 0,Xm t,E8];unfold splits;rw [<- List.countP_eq_length_filter];rfl
def Q4.snoc (r:Q4 g i j) (hu:u∈(sy g j).un):Q4 g i u:=by
 induction r with
 | refl i=>exact .step hu (.refl _)
 | step h _ ih=>exact .step h (ih hu)
def gS (t:Tr):List Sy:=(Ax t.size).map λj=>⟨pA (en t 0 j) j,0,vS (en t 0 j),UA t j⟩
def ik (t:Tr) (h:j < t.size):sy (gS t) j=⟨pA (en t 0 j) j,0,vS (en t 0 j),UA t j⟩:=by
 unfold sy gS;rw [Al,Ae,AR h];rfl
@[simp] theorem fC (t:Tr):(gS t).length=t.size:=by unfold gS;simp
def Vy (t:Tr):gC (gS t)=.tup (grL t):=by
 unfold gC gS grL;rw [AH];congr 1
def Va (e:Ent) (j:Nat):(∃s,pA e j=.str s)\/∃n,pA e j=.int n:=by
 cases e with
 | word w=>exact .inl ⟨w,rfl⟩
 | pair a b=>exact .inr ⟨_,rfl⟩
def X0 (e:Ent):(vS e).length<=2:=by cases e <;> simp [vS]
theorem rB:∀(s:Tr) (t:Tr) (o:Nat) (w:Str),(∀k,k < s.size->en t 0 (o+k)=en s o k)->o+s.size<=t.size->w∈s.ax->∃i,i < t.size/\Q4 (gS t) (o+s.size-1) i/\en t 0 i=.word w
 | .leaf x,t,o,w,hs,hz,hw=>by
  have e0:en t 0 o=.word x:=hs 0 (by show 0 < 1;decide);have hz:o+1<=t.size:=hz;have:w=x:=by simpa [Tr.ax] using hw
  subst this;exact⟨o,by omega,.refl _,e0⟩
 | .node l r,t,o,w,hs,hz,hw=>by
  have es:(Tr.node l r).size=l.size+r.size+1:=rfl;have er:en t 0 (o+(l.size+r.size))=.pair (o+l.size-1) (o+l.size+r.size-1):=by rw [hs _ ∅,en,if_neg ∅,if_neg ∅]
  have ei:o+(Tr.node l r).size-1=o+(l.size+r.size):=by omega
  have hl:∀k,k < l.size->en t 0 (o+k)=en l o k:=λk hk=>by rw [hs k ∅,en,if_pos hk]
  have hr:∀k,k < r.size->en t 0 (o+l.size+k)=en r (o+l.size) k:=λk hk=>by rw [A5,hs _ ∅,en,if_neg ∅,if_pos ∅,Bh]
  have un:(sy (gS t) (o+(l.size+r.size))).un=[o+l.size-1,o+l.size+r.size-1]:=by rw [ik t ∅,er];rfl
  rw [ei];rcases AY.mp (show w∈l.ax++r.ax from hw) with hw | hw
  ·obtain⟨i,h1,h2,h3⟩:=rB l t o w hl ∅ hw;exact⟨i,h1,.step (by rw [un];simp) h2,h3⟩
  ·obtain⟨i,h1,h2,h3⟩:=rB r t (o+l.size) w hr ∅ hw;exact⟨i,h1,.step (by rw [un];simp) h2,h3⟩
theorem vt (hz:t.size<=30):WG (gS t) t.ax:=by
 have tp:=t.size_pos;refine⟨by rw [fC];omega,by rw [fC];omega,λi hi u hu=>?_,λi hi=>?_,λi hi u hu=>?_,λi hi=>?_,λi hi=>?_,λw hw=>?_⟩
 ·rw [fC] at hi;rw [ik t hi] at hu;cases e:en t 0 i with
  | word w=>rw [e] at hu;cases hu
  | pair a b=>
   rw [e] at hu;have:=cV t hi e;have hu:u=a\/u=b:=by simpa [vS] using hu
   omega
 ·rw [fC] at hi;rw [ik t hi];exact X0 _
 ·rw [fC] at hi ⊢;rw [ik t hi] at hu;exact Aw.mp (Ay.mp hu).1
 ·rw [fC] at hi;rw [ik t hi];have:=Bg (λk=>!decide (k∈up t 0 i [])&&!decide (i∈up t 0 k [])) (Ax t.size);rw [BM] at this;show (UA t i).length<=30;unfold UA;omega
 ·rw [fC] at hi;rw [ik t hi];exact Va _ _
 ·obtain⟨i,h1,h2,h3⟩:=rB t t 0 w (λk hk=>by rw [AG]) ∅ hw;rw [AG] at h2;refine⟨i,by rw [fC];exact h1,by rw [fC];exact h2,?_⟩;unfold hm;rw [ik t h1,h3];simp [vS,pA,pH]
def dS (t:Tr) (ds bs:List Int):List Sy:=(aJ t ds bs bs.length).map λp=>⟨pA (en t 0 p.1) p.1,p.2,(qr (en t 0 p.1) p.1 (ds.getD p.1 0) (bs.getD p.2 0)).map λx=>(aJ t ds bs bs.length).idxOf (x,p.2-1),Ut (aJ t ds bs bs.length) p.1 p.2⟩
def VJ (t:Tr) (ds bs:List Int):gC (dS t ds bs)=.tup (Zj t ds bs):=by
 unfold gC dS Zj;rw [AH];congr 1
@[simp] theorem Jg (t:Tr) (ds bs:List Int):(dS t ds bs).length=(aJ t ds bs bs.length).length:=by unfold dS;rw [Ag]
theorem p0 (t:Tr) (ds bs:List Int):∀m,(aJ t ds bs m).Pairwise λp q=>p.2<=q.2
 | 0=>.nil
 | m+1=>by
  rw [aJ];have Lx:∀p∈zx t ds (bs.getD m 0) m t.size,p.2=m:=λp hp=>by
   obtain⟨k,_,rfl⟩:=Ar.mp hp;rfl
  refine List.pairwise_append.mpr ⟨p0 t ds bs m,?_,λa ha b hb=>?_⟩
  ·exact A9.mpr λi j hi hj _=>by rw [Lx _ (BJ hi),Lx _ (BJ hj)];exact Ao _
  ·have h1:=(eg ha).1;rw [Lx b hb];omega
theorem vN (t:Tr) (ds bs:List Int) (n:Nat):∀m,((aJ t ds bs m).filter λp=>decide (p.2=n)).length<=t.size
 | 0=>Bb _
 | m+1=>by
  rw [aJ,List.filter_append,Af];have ih:=vN t ds bs n m;by_cases c:n=m
  ·subst c;have z:(aJ t ds bs n).filter (λp=>decide (p.2=n))=[]:=by
    rw [EW];intro p hp;have:=(eg hp).1;simp;omega
   rw [z];have h1:=Bg (λp:Nat×Nat=>decide (p.2=n)) (zx t ds (bs.getD n 0) n t.size);have h2:=w9 t ds (bs.getD n 0) n t.size;simp only [Bx];omega
  ·have z:(zx t ds (bs.getD m 0) m t.size).filter (λp=>decide (p.2=n))=[]:=by
    rw [EW];intro p hp;obtain⟨k,_,rfl⟩:=Ar.mp hp;simp;omega
   rw [z];simpa using ih
section
theorem DD.above (D:DD t ds) (h:(j,n)∈aJ t ds (aG t ds) (aG t ds).length) (hn:n+1 < (aG t ds).length):∃a,(a,n+1)∈aJ t ds (aG t ds) (aG t ds).length/\j∈qr (en t 0 a) a (ds.getD a 0) ((aG t ds).getD (n+1) 0):=by
 obtain⟨hnl,hj,hs⟩:=bN.mp h;obtain⟨s1,s2⟩:=(gF hj).mp hs;have inc:=D.inc;have lt:=xS inc hn (show n < n+1 by omega);have Ø:(∀a,jd t 0 j .aV=.int ((a:Nat):Int)->(aG t ds).getD (n+1) 0 < ds.getD a 0)->∃a,(a,n+1)∈aJ t ds (aG t ds) (aG t ds).length/\j∈qr (en t 0 a) a (ds.getD a 0) ((aG t ds).getD (n+1) 0):=λhx=>
  ⟨j,bN.mpr ⟨hn,hj,(gF hj).mpr ⟨by omega,hx⟩⟩,by unfold qr;rw [if_pos ∅];exact .head _⟩
 rcases gB t 0 j .aV hj with⟨_,e⟩ | ⟨a,u,v,ja,ha,e,ep,Vo⟩
 ·exact Ø λa z=>by rw [e] at z;cases z
 ·rw [AG] at e Vo;by_cases c:(aG t ds).getD (n+1) 0 < ds.getD a 0
  ·refine Ø λa' z=>?_;rw [e] at z;injection z with z;have:a=a':=by omega
   subst this;exact c
  ·have sa:=s2 a e;have eq:ds.getD a 0=(aG t ds).getD (n+1) 0:=by
    rcases Int.lt_or_eq_of_le (show ds.getD a 0<=(aG t ds).getD (n+1) 0 by omega) with c2 | c2
    ·have:=(tI inc hn (D.mem ha) c2).2;rw [Nat.add_sub_cancel] at this;omega
    ·exact c2
   refine⟨a,bN.mpr ⟨hn,ha,(gF ha).mpr ⟨by omega,λa2 e2=>?_⟩⟩,?_⟩
   ·rcases gB t 0 a .aV ha with⟨_,e3⟩ | ⟨a3,u3,v3,_,h3,e3,ep3,abf⟩
    ·rw [e3] at e2;cases e2
    ·rw [e3] at e2;injection e2 with e2;rw [AG] at e2 abf;have:a3=a2:=by omega
     subst this;have:=D.pair a3 u3 v3 h3 ep3;rcases abf with rfl | rfl <;> omega
   ·unfold qr;rw [if_neg ∅,ep];rcases Vo with rfl | rfl <;> simp
theorem DD.last (D:DD t ds) (h:(j,n)∈aJ t ds (aG t ds) (aG t ds).length) (hn:n+1=(aG t ds).length):j=t.size-1:=by
 obtain⟨hnl,hj,hs⟩:=bN.mp h;obtain⟨s1,s2⟩:=(gF hj).mp hs;rcases gB t 0 j .aV hj with⟨e,_⟩ | ⟨a,u,v,ja,ha,e,ep,Vo⟩
 ·exact e
 ·exfalso;rw [AG] at e;have sa:=s2 a e;have inc:=D.inc;obtain⟨i,hi,ei⟩:=CA (D.mem ha);have gd:(aG t ds).getD i 0=ds.getD a 0:=by rw [Al,Ad hi];exact ei
  rcases CW i n with c | c
  ·have:=xS inc hnl c;omega
  ·have:i=n:=by omega
   subst this;omega
def pM [BEq α] [LawfulBEq α] {l:List α} (nd:l.Nodup) {x:α} (h:l[i]?=ap x):l.idxOf x=i:=by
 obtain⟨hi,e⟩:=Ak.mp h;rw [<- e];exact nd.idxOf_getElem i hi
def uB [BEq α] [LawfulBEq α] {l:List α}{x:α} (h:x∈l):l[l.idxOf x]?=ap x:=by
 have:=BS h;rw [Ad this,List.getElem_idxOf this]
theorem zf (D:DD t ds) (hz:t.size<=15) (hb:(aG t ds).length<=16):WG (dS t ds (aG t ds)) t.ax:=by
 have nd:=eS t ds (aG t ds) (aG t ds).length;have ě:=p0 t ds (aG t ds) (aG t ds).length;have lay:=λn=>vN t ds (aG t ds) n (aG t ds).length;have ok:=D.ok;have ne:=D.ne;have ll:=jT t ds (aG t ds) (aG t ds).length;have above:=λj n=>D.above (j:=j) (n:=n);have last:=λj n=>D.last (j:=j) (n:=n);have ħ:=@bN t ds (aG t ds) (aG t ds).length;unfold okD at ok;have hS:∀i p,(aJ t ds (aG t ds) (aG t ds).length)[i]?=ap p->sy (dS t ds (aG t ds)) i=⟨pA (en t 0 p.1) p.1,p.2,(qr (en t 0 p.1) p.1 (ds.getD p.1 0) ((aG t ds).getD p.2 0)).map λx=>(aJ t ds (aG t ds) (aG t ds).length).idxOf (x,p.2-1),Ut (aJ t ds (aG t ds) (aG t ds).length) p.1 p.2⟩:=λi p hp=>by
  unfold sy dS;rw [Al,Ae,hp];rfl
 have hL:(dS t ds (aG t ds)).length=(aJ t ds (aG t ds) (aG t ds).length).length:=Jg t ds _;have hmul:=Nat.mul_le_mul hb hz;generalize aJ t ds (aG t ds) (aG t ds).length=L at *;have get:∀i,i < (dS t ds (aG t ds)).length->∃p,L[i]?=ap p/\p∈L:=λi hi=>by
  rw [hL] at hi;exact⟨L[i],Ad hi,BJ hi⟩
 have pos:=Fu.mpr ne;have Ò:∀(i a:Nat) (p r:Nat×Nat),L[i]?=ap p->L[a]?=ap r->r.2 < p.2->a < i:=λi a p r h1 h2 lt=>by
  rcases CW a i with c | c
  ·exact c
  ·exfalso;obtain⟨g1,e1⟩:=Ak.mp h1;obtain⟨g2,e2⟩:=Ak.mp h2;rcases Ec c with c | c
   ·subst c;rw [h1] at h2;cases h2;omega
   ·have:=A9.mp ě i a g1 g2 c;rw [e1,e2] at this;omega
 refine⟨by rw [hL];exact pos,by rw [hL];omega,λi hi u hu=>?_,λi hi=>?_,λi hi u hu=>?_,λi hi=>?_,λi hi=>?_,λw hw=>?_⟩
 ·obtain⟨p,hp,hm⟩:=get i hi;rw [hS i p hp] at hu;obtain⟨x,hx,rfl⟩:=Ar.mp hu;obtain⟨n1,xm⟩:=ok p hm x hx;exact Ò i _ p (x,p.2-1) hp (uB xm) (by show p.2-1 < p.2;omega)
 ·obtain⟨p,hp,hm⟩:=get i hi;rw [hS i p hp];unfold qr
  split
  ·simp
  ·cases en t 0 p.1 <;> simp
 ·obtain⟨p,hp,hm⟩:=get i hi;rw [hS i p hp] at hu;unfold Ut at hu;obtain⟨x,hx,rfl⟩:=Ar.mp hu;rw [hL];exact BS (Ay.mp hx).1
 ·obtain⟨p,hp,hm⟩:=get i hi;rw [hS i p hp];unfold Ut;rw [Ag];have h1:=lay p.2;have h2:(L.filter λq=>decide (q.2=p.2)&&!decide (q.1=p.1)).length<=(L.filter λq=>decide (q.2=p.2)).length:=by
   have e:L.filter (λq=>decide (q.2=p.2)&&!decide (q.1=p.1))=(L.filter λq=>decide (q.2=p.2)).filter λq=>!decide (q.1=p.1):=by
    rw [List.filter_filter];refine congrArg (λf=>L.filter f) (funext λq=>Bool.and_comm _ _)
   rw [e];exact Bg _ _
  omega
 ·obtain⟨p,hp,hm⟩:=get i hi;rw [hS i p hp];exact Va _ _
 ·
  have ã:∀k i,i+k+1=L.length->Q4 (dS t ds (aG t ds)) (L.length-1) i:=λk=>by
   induction k using C4 with
   | ind k ih=>
    intro i hk;obtain⟨⟨j,n⟩,hp,hm⟩:=get i (by rw [hL];omega);have nl:=(ħ.mp hm).1;by_cases c:n+1 < (aG t ds).length
    ·obtain⟨a,ha,hb⟩:=above j n hm c;have ia:=uB ha;have lt:=Ò _ i (a,n+1) (j,n) ia hp (by show n < n+1;omega);have il:=BS ha;have r:=ih (L.length-L.idxOf (a,n+1)-1) ∅ (L.idxOf (a,n+1)) ∅;refine r.snoc ?_;rw [hS _ _ ia];refine Ar.mpr ⟨j,hb,?_⟩;exact pM nd hp
    ·have hj:=last j n hm ∅;have:i=L.length-1:=by
      obtain⟨⟨j2,n2⟩,xU,Y7⟩:=get (L.length-1) (by rw [hL];omega);have n2l:=(ħ.mp Y7).1;rcases CW n2 n with c2 | c2
      ·have:=Ò i (L.length-1) _ _ hp xU c2;omega
      ·have en2:n2=n:=by omega
       have Pt:=last j2 n2 Y7 ∅;subst en2;rw [Pt,<- hj] at xU;exact (pM nd hp).symm.trans (pM nd xU)
     rw [this];exact .refl _
  obtain⟨j,hj,_,ej⟩:=rB t t 0 w (λk hk=>by rw [AG]) ∅ hw;have b0:(aG t ds).getD 0 0=0:=rfl;have mem:(j,0)∈L:=ħ.mpr ⟨by simp [aG],hj,(gF hj).mpr ⟨by rw [D.leaf j w hj ej,b0];exact DJ _,λa ea=>by
   rcases gB t 0 j .aV hj with⟨_,e⟩ | ⟨a',u,v,_,ha,e,ep,_⟩
   ·rw [e] at ea;cases ea
   ·rw [e,AG] at ea;injection ea with ea;have:a'=a:=by omega
    subst this;have:=(D.pair a' u v ha ep).2.2;rw [b0];omega⟩⟩
  have il:=BS mem;refine⟨L.idxOf (j,0),by rw [hL];exact il,by rw [hL];exact ã (L.length-L.idxOf (j,0)-1) _ ∅,?_⟩;unfold hm;rw [hS _ _ (uB mem)];unfold qr;rw [b0,D.leaf j w hj ej,if_neg ∅,ej];simp [pA,pH]
end
end My
variable {f:PL.PV->FL.W PL.PV}
namespace My
open PySem PySem.Spec PyProof.Rows L2 PL FL
def Iv (q:∀t:Tr,qu t->Q t.pv):eX.run Q:=Mi q
theorem Fl {S:PV->Prop}:∀{l:List PV},(∀x∈l,∀R:PV->Prop,(∀v,S v->R v)->(f x).run R)->∀{Q:List PV->Prop},(∀m,m.length=l.length->(∀v∈m,S v)->Q m)->(mapW l f).run Q
 | [],_,Q,q=>q [] rfl (λ_ h=>nomatch h)
 | x::l,h,Q,q=>by
  show (am (f x) λy=>am (mapW l f) λm=>bd (y::m)).run Q;simp only [ce];refine h x (.head _) _ λv hv=>?_;refine Fl (λy hy=>h y (.tail _ hy)) λm hm hs=>?_;exact q (v::m) (by simp [hm]) λu hu=>by
   rcases AA.mp hu with rfl | hu
   ·exact hv
   ·exact hs u hu
theorem JU:∀{m:List PV}{ls:List Str},(∀v∈m,∃w∈ls,v=PV.str w)->∃ws:List Str,m=ws.map PV.str/\∀w∈ws,w∈ls
 | [],_,_=>⟨[],rfl,λ_ h=>nomatch h⟩
 | v::m,ls,h=>by
  obtain⟨w,hw,rfl⟩:=h v (.head _);obtain⟨ws,rfl,h2⟩:=JU (m:=m) (ls:=ls) λu hu=>h u (.tail _ hu);exact⟨w::ws,rfl,λx hx=>by
   rcases AA.mp hx with rfl | hx
   ·exact hw
   ·exact h2 x hx⟩
theorem LC (g:qu t) (q:∀s:Tr,(∀w∈s.ax,w∈t.ax)->s.ax.length<=10->Q s.pv):(eW t.pv).run Q:=by
 have hz:=g.size;have hdp:=g.depth;unfold eW;simp only [f8,ce];refine W.le.use (gN 12 t ∅ ∅) ?_
 let f:PV->Option PV:=λx=>match x with | .str w=>ap (.str w) | _=>bm
 have el:(t.nd 0).map Ent.pv=(Ax t.size).map λj=>(en t 0 j).pv:=by
  apply A1;intro i;by_cases hi:i < t.size
  ·rw [Ae,fj t 0 i hi,Ae,AR hi];rfl
  ·rw [Av (by rw [cB];omega),Av (by simp;omega)]
 rw [el];refine xK (λj=>match en t 0 j with | .word w=>ap (PV.str w) | .pair _ _=>bm) (λj hj R r=>?_) ?_
 ·cases e:en t 0 j with
  | word w=>rw [e] at r;simpa [Ent.pv] using r
  | pair a b=>rw [e] at r;simpa [Ent.pv] using r
 generalize hL:(Ax t.size).filterMap (λj=>match en t 0 j with | .word w=>ap (PV.str w) | .pair _ _=>bm)=L;have Lm:∀v∈L,∃w∈t.ax,v=PV.str w:=λv hv=>by
  rw [<- hL] at hv;obtain⟨j,hj,e⟩:=C8.mp hv;have hj:=Aw.mp hj;cases e2:en t 0 j with
  | word w=>
   rw [e2] at e;exact⟨w,iR t 0 j w hj e2,(Option.some.inj e).symm⟩
  | pair a b=>rw [e2] at e;cases e
 have Ll:L.length<=1000:=by
  rw [<- hL];have:=List.length_filterMap_le (λj=>match en t 0 j with | .word w=>ap (PV.str w) | .pair _ _=>bm) (Ax t.size);rw [BM] at this;omega
 have Ln:L≠[]:=λz=>by
  obtain⟨w,e⟩:=yk t 0;have:PV.str w∈L:=by
   rw [<- hL];exact C8.mpr ⟨0,Aw.mpr t.size_pos,by rw [e]⟩
  rw [z] at this;cases this
 simp only [da 8 ⋯ ⋯];refine bD λd d0 d1=>?_;obtain⟨n,hn,n0,n1⟩:∃n:Int,cq [PV.int 6,PV.int 10] (if (d==0)=true then 1 else 0)=ap (.int n)/\0 < n/\n<=10:=by
  by_cases h:d=0
  ·subst h;exact⟨10,rfl,by decide,by decide⟩
  ·have e:(d==0)=false:=by simpa using h
   rw [e];exact⟨6,rfl,by decide,by decide⟩
 simp only [dD,ev,oC,bb,hn,sw,da n n0 ∅];refine bD λk k0 k1=>?_;obtain⟨m,hm⟩:∃m:Nat,1+k=(m:Int):=⟨(1+k).toNat,by omega⟩;simp only [fV,ev,hm,gJ,pr (cR (i:=0) (j:=(m:Int)) ∅ ∅),A2];refine Fl (S:=λv=>∃w∈t.ax,v=PV.str w) (λx _ R r=>pick_run Ln Ll λv hv=>r v (Lm v hv)) λms hl hs=>?_;obtain⟨ws,rfl,hw⟩:=JU hs;rw [jD,Ag] at hl;refine zk (λz=>by rw [z] at hl;simp at hl;omega) ∅ λs hp=>q s (λw h=>hw w (hp.mem_iff.mp h)) (by rw [hp.length_eq];omega)
inductive WT where
 | lf (p:List Nat) (i:Nat)
 | nd (p:List Nat) (i:Nat) (nm:Str) (a b:WT)
namespace WT
def path:WT->List Nat
 | .lf p i=>p++[i]
 | .nd p i _ _ _=>p++[i]
def at':WT->Nat
 | .lf _ i=>i
 | .nd _ i _ _ _=>i
def deed:WT->Str
 | .lf _ _=>"found"
 | .nd _ _ nm _ _=>nm
def kids:WT->List WT
 | .lf _ _=>[]
 | .nd _ _ _ a b=>[a,b]
def pv:WT->PV
 | .lf p i=>.tup [.tup (av (p++[i])),.str "found"]
 | .nd p i nm a b=>.tup [.tup (av (p++[i])),.str nm,a.pv,b.pv]
def size:WT->Nat
 | .lf _ _=>1
 | .nd _ _ _ a b=>a.size+b.size+1
def depth:WT->Nat
 | .lf _ _=>0
 | .nd _ _ _ a b=>max a.depth b.depth+1
def post:WT->List WT
 | .lf p i=>[.lf p i]
 | .nd p i nm a b=>a.post++b.post++[.nd p i nm a b]
def plc (u:WT):PV:=.tup [.int (u.at':Int),.str u.deed]
def Ok (g:List Sy):WT->Tr->Prop
 | .lf p i,.leaf w=>Ch g (p++[i])/\hm g i w=true
 | .nd p i nm a b,.node l r=>Ch g (p++[i])/\(∃x y r1 r2,(nm,x,y)∈Hf g i/\a.path=x::r1/\b.path=y::r2)/\a.Ok g l/\b.Ok g r
 | _,_=>False
def pv_eq (u:WT):u.pv=.tup (.tup (av u.path)::.str u.deed::u.kids.map pv):=by cases u <;> rfl
def path_eq (u:WT):∃p,u.path=p++[u.at']:=by cases u <;> exact⟨_,rfl⟩
def size_pos (u:WT):0 < u.size:=by cases u <;> simp [size]
theorem post_len:∀u:WT,u.post.length=u.size
 | .lf _ _=>rfl
 | .nd _ _ _ a b=>by simp [post,size,post_len a,post_len b];omega
def posts (l:List WT):List WT:=l.flatMap post
def sizes (l:List WT):Nat:=(l.map size).sum
def posts_kids (u:WT):u.post=posts u.kids++[u]:=by cases u <;> simp [post,posts,kids]
def size_kids (u:WT):u.size=sizes u.kids+1:=by cases u <;> simp [size,sizes,kids]
def posts_len (l:List WT):(posts l).length=sizes l:=by
 induction l with
 | nil=>rfl
 | cons x l ih=>
  have e:posts (x::l)=x.post++posts l:=rfl;have e2:sizes (x::l)=x.size+sizes l:=rfl;rw [e,e2,Af,ih,post_len]
theorem len_sizes (l:List WT):l.length<=sizes l:=by
 induction l with
 | nil=>exact Ao _
 | cons x l ih=>
  have e2:sizes (x::l)=x.size+sizes l:=rfl;have:=x.size_pos;rw [Ap,e2];omega
def posts_app (l m:List WT):posts (l++m)=posts l++posts m:=by simp [posts]
def sizes_app (l m:List WT):sizes (l++m)=sizes l+sizes m:=by simp [sizes]
def kids_len (u:WT):u.kids.length<=2:=by cases u <;> simp [kids]
def cut2 (u:WT):kK (.tup (av u.path)::.str u.deed::u.kids.map pv) (ap 2) bm=u.kids.map pv:=by
 have:=QD (.tup (av u.path)::.str u.deed::u.kids.map pv) (a:=2) (by simp);rw [show ((2:Nat):Int)=2 from rfl] at this;rw [this];rfl
end WT
theorem wok_wt:∀(s:Tr) (o:Nat),(∀k,k < s.size->en t 0 (o+k)=en s o k)->∀p w,Nu g t (o+s.size-1) p w->∃u:WT,u.pv=w/\u.path=p/\u.Ok g s
 | .leaf x,o,hs,p,w,h=>by
  have e0:en t 0 o=.word x:=hs 0 (by show 0 < 1;decide);have ei:o+(Tr.leaf x).size-1=o:=by show o+1-1=o;omega
  rw [ei] at h;cases h with
  | @leaf _ q i w e c hh=>
   rw [e0] at e;cases e;exact⟨.lf q i,rfl,rfl,c,hh⟩
  | node e _ _ _ _=>rw [e0] at e;cases e
 | .node l r,o,hs,p,w,h=>by
  have es:(Tr.node l r).size=l.size+r.size+1:=rfl;have er:en t 0 (o+(l.size+r.size))=.pair (o+l.size-1) (o+l.size+r.size-1):=by rw [hs _ ∅,en,if_neg ∅,if_neg ∅]
  have ei:o+(Tr.node l r).size-1=o+(l.size+r.size):=by omega
  rw [ei] at h;have hl:∀k,k < l.size->en t 0 (o+k)=en l o k:=λk hk=>by rw [hs k ∅,en,if_pos hk]
  have hr:∀k,k < r.size->en t 0 (o+l.size+k)=en r (o+l.size) k:=λk hk=>by rw [A5,hs _ ∅,en,if_neg ∅,if_pos ∅,Bh]
  cases h with
  | leaf e _ _=>rw [er] at e;cases e
  | @node _ q i a b nm x y p1 p2 wa wb e c hd h1 h2=>
  rw [er] at e;injection e with ea eb;subst ea;subst eb;obtain⟨u1,a1,a2,a3⟩:=wok_wt l o hl _ _ h1;obtain⟨u2,b1,b2,b3⟩:=wok_wt r (o+l.size) hr _ _ h2;exact⟨.nd q i nm u1 u2,by rw [WT.pv,a1,b1],rfl,c,⟨x,y,p1,p2,hd,a2,b2⟩,a3,b3⟩
def wok_root {w:PV} (h:Nu g t (t.size-1) p w):∃u:WT,u.pv=w/\u.path=p/\u.Ok g t:=
 wok_wt t 0 (λk _=>by rw [AG]) p w (by rw [AG];exact h)
def WT.Ok.size:∀{u:WT}{s:Tr},u.Ok g s->u.size=s.size
 | .lf _ _,.leaf _,_=>rfl
 | .nd _ _ _ a b,.node l r,h=>by
  show a.size+b.size+1=l.size+r.size+1;rw [h.2.2.1.size,h.2.2.2.size]
def WT.Ok.depth:∀{u:WT}{s:Tr},u.Ok g s->u.depth=s.depth
 | .lf _ _,.leaf _,_=>rfl
 | .nd _ _ _ a b,.node l r,h=>by
  show max a.depth b.depth+1=max l.depth r.depth+1;rw [h.2.2.1.depth,h.2.2.2.depth]
def WT.done_ev (u:WT):fu u.pv=.ret (.int (u.at':Int)):=by
 obtain⟨p,e⟩:=u.path_eq;have k0:∀(x:PV) (l:List PV),cq (x::l) 0=ap x:=λ_ _=>bM (j:=0) rfl;rw [u.pv_eq,e];unfold fu;simp only [f8,ay,bb,k0,sw,ke,mh]
theorem within_le (t:WT) (hz:t.size<=900):(m_ways_within t.pv).le (.ret (t.post.map WT.pv)):=λQ q=>by
 refine gU (λn s=>∃ts bs:List WT,n=WT.sizes ts/\s=(bs.map WT.pv,ts.map WT.pv)/\WT.posts ts++bs.reverse=t.post) ⟨[t],[],rfl,rfl,by simp [WT.posts]⟩ ?_;rintro n s ⟨ts,bs,rfl,rfl,hp⟩;have hs:=congrArg B2 hp;rw [Af,WT.posts_len,Cd,t.post_len] at hs;by_cases he:ts=[]
 ·subst he;have Ĵ:bs.reverse=t.post:=hp;simp;rw [<- List.map_reverse,Ĵ];exact q
 ·obtain⟨us,u,rfl⟩:=xf he;have Mf:=WT.len_sizes us;have hk:=u.kids_len;have hsu:=u.size_kids;have e0:WT.sizes [u]=u.size:=by simp [WT.sizes]
  rw [WT.sizes_app,e0] at hs;have ea:kn (bs.map WT.pv) u.pv=.ret (bs.map WT.pv++[u.pv]):=iw (by rw [Ag];omega);have ex:t6 (us.map WT.pv) (u.kids.map WT.pv)=.ret (us.map WT.pv++u.kids.map WT.pv):=pr (a8 (by simp;omega));have ne:(us.map WT.pv++[u.pv]).isEmpty=false:=by simp
  simp only [f8,ev,AU,Az,Dl,ne,Eh,if_true,ce,IL,ea];rw [u.pv_eq];simp only [iO,f8,lN,u.cut2,ay,ev,ex];refine⟨_,?_,us++u.kids,bs++[u],rfl,?_,?_⟩
  ·rw [WT.sizes_app,WT.sizes_app,e0];omega
  ·rw [<- u.pv_eq];simp
  ·rw [<- hp,WT.posts_app,WT.posts_app,CZ];have e1:WT.posts [u]=WT.posts u.kids++[u]:=by rw [<- WT.posts_kids];simp [WT.posts]
   rw [e1];simp
theorem mapW_map' {c:α->PV}{k:α->PV}:∀{l:List α},(∀x∈l,f (c x)=.ret (k x))->mapW (l.map c) f=.ret (l.map k)
 | [],_=>rfl
 | x::r,h=>by
  show am (f (c x)) (λy=>am (mapW (r.map c) f) λm=>bd (y::m))=_;rw [h x (.head _),mapW_map' λy hy=>h y (.tail _ hy)];rfl
def places_le (t:WT) (hz:t.size<=900):(m_places t.pv).le (.ret (.tup (t.post.map WT.plc))):=λQ q=>by
 have k1:∀(x y:PV) (l:List PV),cq (x::y::l) 1=ap y:=λ_ _ _=>bM (j:=1) rfl;unfold m_places;simp only [f8,ce];refine W.le.use (within_le t hz) ?_;rw [mapW_map' (c:=WT.pv) (k:=WT.plc) λx _=>by
  simp only [f8,WT.done_ev];rw [x.pv_eq];simp only [f8,ay,bb,k1,sw];rfl]
 exact q
inductive Sm:Nat->PV->Prop
 | str {n:Nat}{s:Str}:Sm (n+1) (.str s)
 | int {n:Nat}{i:Int}:Sm (n+1) (.int i)
 | tup {n:Nat}{l:List PV}:(∀x∈l,Sm n x)->l.length<=900->Sm (n+1) (.tup l)
theorem zip_self:∀l:List PV,gE l l=l.map λx=>PV.tup [x,x]
 | []=>by rw [gE];rfl;simp
 | x::l=>by rw [gE,zip_self l];rfl
theorem same_self:∀{n:Nat}{x:PV},Sm n x->(m__law_same n x x).le (.ret (.bl true))
 | _,_,@Sm.str n s=>λQ q=>by
  unfold m__law_same;have e:of2 dQ (.str s) (.str s)=.ret (.bl true):=by rw [uc,pr ⟨by simp,by simp,by simp⟩,P5];simp
  simp only [f8,ce,fc,KZ,aY,ev,An,if_false,fU,if_true,Yo,beq_self_eq_true,gL,e];exact q
 | _,_,@Sm.int n i=>λQ q=>by
  unfold m__law_same;simp only [f8,ce,K0,T7,T8,aY,ev,An,if_false,pS,PV.mH,bA,T9,Ua,Yj,Eh,gL,dD,beq_self_eq_true];exact q
 | _,_,@Sm.tup n l h hl=>λQ q=>by
  unfold m__law_same;simp only [f8,ce,d7,yh,aY,ev,if_true,Bz,An,if_false,cx,yg,beq_self_eq_true,bA,ay];refine⟨a8 ∅,?_⟩;show (mapW (gE l l) _).run _;rw [zip_self];refine eU (λ_=>.bl true) (λx hx R r=>?_) ?_
  ·exact same_self (h x hx) R r
  ·have e:l.map (λ_=>PV.bl true)=(l.map λ_=>true).map PV.bl:=by rw [AH];rfl
   rw [e,oT];have e2:(l.map λ_=>true).all id=true:=by simp
   rw [e2];exact q
def prV (p:Nat×Nat):PV:=.tup [.int (p.1:Int),.int (p.2:Int)]
theorem prP_eq (l:List (Nat×Nat)):zL l=l.map prV:=rfl
theorem feq_pr (p q:Nat×Nat):iM (prV q) (prV p)=(q==p):=by
 unfold prV;simp only [abN,Yb,P6,Yc,Bool.and_true];obtain⟨a,b⟩:=p;obtain⟨c,d⟩:=q;rw [Cr];simp
 constructor
 ·rintro⟨h1,h2⟩;exact⟨by omega,by omega⟩
 ·rintro⟨h1,h2⟩;exact⟨by omega,by omega⟩
def idx_pr {l:List (Nat×Nat)}{p:Nat×Nat} (h:p∈l):Im (zL l) (prV p)=.ret (.int ((l.idxOf p:Nat):Int)):=by
 unfold Im;have ok:tL (prV p) (zL l):=⟨by simp [prV],gc.mpr λx hx=>by
  obtain⟨q,_,rfl⟩:=Ar.mp hx;simp,gj λx hx=>by
  obtain⟨q,_,rfl⟩:=Ar.mp hx;simp⟩
 have hs:m6 (prV p) (zL l)=true:=by
  unfold m6;rw [prP_eq,FN,BK];exact⟨p,h,by simp only [Dx,feq_pr];simp⟩
 rw [pr ⟨ok,hs⟩];congr 3;unfold tM List.idxOf;rw [prP_eq,List.findIdx_map];congr 1;funext q;simp only [Dx,feq_pr]
end My
variable {u:My.WT}
namespace My
open PySem PySem.Spec PyProof.Rows L2 PL FL
namespace WT
def pre:WT->List Nat
 | .lf p _=>p
 | .nd p _ _ _ _=>p
def path_pre (u:WT):u.path=u.pre++[u.at']:=by cases u <;> rfl
end WT
def twoN (g:List Sy) (i:Nat):Bool:=decide ((sy g i).un.length=2)
def losN (g:List Sy) (p:List Nat):Nat:=(p.filter (twoN g)).length
def lost (g:List Sy) (l:List WT):Nat:=(l.map λx=>losN g x.pre).sum
def cnt (nm:Str) (l:List WT):Nat:=l.countP λx=>x.deed==nm
def Kn (g:List Sy) (x:WT):Prop:=(x.deed="split"\/x.deed="doubled"\/x.deed="over"\/x.deed="found")/\(∀i∈x.pre,i < g.length)/\x.pre.length<=300
def dds_kn (h:d∈Hf g i):d.1="split"\/d.1="doubled"\/d.1="over":=by
 rcases AA.mp h with rfl | h
 ·exact .inr (.inl rfl)
 rcases AY.mp h with h | h
 ·revert h;generalize (sy g i).un=l;intro h;unfold spl at h
  split at h
  ·simp at h;rcases h with rfl | rfl <;> exact .inl rfl
  ·cases h
 ·obtain⟨o,_,h⟩:=CD.mp h;simp at h;rcases h with rfl | rfl <;> exact .inr (.inr rfl)
theorem ch_pre (G:WG g ws) (c:Ch g (p++[i])):(∀i∈p,i < g.length)/\p.length<=300:=by
 refine⟨λj hj=>c.lt j (BG _ hj),?_⟩;have gl:=G.len;cases p with
 | nil=>simp
 | cons a p=>
  have h1:=Ch.len G (p:=p++[i]) (i:=a) c;have h2:=c.lt a (by simp);simp at h1 ⊢;omega
theorem ok_kn (G:WG g ws):∀{u:WT}{s:Tr},u.Ok g s->∀x∈u.post,Kn g x
 | .lf p i,.leaf w,h,x,hx=>by
  have:=A3.mp hx;subst this;exact⟨.inr (.inr (.inr rfl)),ch_pre G h.1⟩
 | .nd p i nm a b,.node l r,h,x,hx=>by
  rcases AY.mp hx with hx | hx
  ·rcases AY.mp hx with hx | hx
   ·exact ok_kn G h.2.2.1 x hx
   ·exact ok_kn G h.2.2.2 x hx
  ·have:=A3.mp hx;subst this;obtain⟨_,_,_,_,hd,_⟩:=h.2.1;refine⟨?_,ch_pre G h.1⟩;rcases dds_kn hd with e | e | e
   ·exact .inl e
   ·exact .inr (.inl e)
   ·exact .inr (.inr (.inl e))
theorem cut_last (l:List PV) (x:PV):kK (l++[x]) bm (ap (-1))=l:=by
 have e:HT.d6 (l++[x]).length (l++[x]).length (ap (-1))=l.length:=by
  simp [HT.d6];try omega
 unfold kK;rw [HT.zB,e];simp
def path_cut (u:WT):kK (av u.path) bm (ap (-1))=av u.pre:=by
 rw [u.path_pre,n5];exact cut_last _ _
theorem loston_le (h:∀i∈u.pre,i < g.length):m_lost_on (gC g) (.tup (av u.path))=.ret (.int (losN g u.pre)):=by
 unfold m_lost_on;simp only [f8,ke,iO,lN,path_cut,ay];rw [Ib (p:=twoN g) λk hk=>by
  simp only [nC (h k hk),f8,cx,bh,dD,bA];have e:((((sy g k).un.length:Nat):Int)==2)=twoN g k:=by
   unfold twoN;rw [Cr];simp;omega
  rw [e];cases twoN g k <;> rfl]
 simp only [f8,ub,bh];rfl
def cnt_ev (l:List WT) (nm:Str):Ur (l.map λx=>PV.str x.deed) (.str nm)=.ret (.int (cnt nm l)):=by
 unfold Ur;rw [pr ⟨by simp,gc.mpr λx hx=>by obtain⟨y,_,rfl⟩:=Ar.mp hx;simp,gj λx hx=>by obtain⟨y,_,rfl⟩:=Ar.mp hx;simp⟩];congr 2;unfold Yx cnt;rw [E8];congr 1
def dueP (g:List Sy) (l:List WT):PV:=.tup [.int (cnt "split" l),.int (cnt "doubled" l),.int (cnt "over" l),.int (lost g l)]
theorem sum_cast (l:List Nat):(l.map λ(n:Nat)=>(n:Int)).sum=((l.sum:Nat):Int):=by
 induction l with
 | nil=>rfl
 | cons a l ih=>rw [Az,List.sum_cons,List.sum_cons,ih];omega
theorem counted_le (u:WT) (hz:u.size<=300) (hk:∀x∈u.post,Kn g x):(m_counted (gC g) u.pv).le (.ret (dueP g u.post)):=λQ q=>by
 have k0:∀(x:PV) (l:List PV),cq (x::l) 0=ap x:=λ_ _=>bM (j:=0) rfl;have k1:∀(x y:PV) (l:List PV),cq (x::y::l) 1=ap y:=λ_ _ _=>bM (j:=1) rfl;unfold m_counted;simp only [f8,ce];refine W.le.use (within_le u ∅) ?_;simp only [bC,ev];rw [mapW_map' (c:=WT.pv) (k:=λx=>.str x.deed) λx _=>by
  rw [x.pv_eq];simp only [f8,ay,bb,k1,sw]]
 rw [mapW_map' (c:=WT.pv) (k:=λx=>.int (losN g x.pre:Nat)) λx hx=>by
  rw [x.pv_eq];simp only [f8,ay,bb,k0,sw,loston_le (hk x hx).2.1]]
 have e1:u.post.map (λx=>PV.int (losN g x.pre:Nat))=((u.post.map λx=>losN g x.pre).map λ(n:Nat)=>(n:Int)).map PV.int:=by simp
 rw [e1];unfold sumLW;simp only [ev,ce,ml,sum_cast];rw [mapW_map' (c:=PV.str) (k:=λnm=>.int (cnt nm u.post)) λnm _=>by
  simp only [f8,oB,cnt_ev]]
 simp only [ev];rw [lQ (by simp)];exact q
end My
variable {x:Nat}{g':List My.Sy}{f:Nat->Nat}{ω:BZ->BZ}
namespace My
open PySem PySem.Spec PyProof.Rows L2 PL FL
structure Hm (g' g:List Sy) (f:Nat->Nat) (ω:Str->Str):Prop where
 lt:∀i,i < g'.length->f i < g.length
 un:∀i,i < g'.length->(∃u,(sy g' i).un=[u]/\f u=f i)\/(sy g (f i)).un=(sy g' i).un.map f\/(sy g (f i)).un=((sy g' i).un.map f).reverse
 dn:∀i,i < g.length->∀u∈(sy g i).un,u < i
 be:∀i,i < g'.length->∀o∈(sy g' i).be,f o∈(sy g (f i)).be
 hom:∀i,i < g'.length->∀w,hm g' i w=true->hm g (f i) (ω w)=true
def pf (f:Nat->Nat):List Nat->Nat->List Nat
 | [],_=>[]
 | x::r,i=>if f x=f (r.headD i) then pf f r i else f x::pf f r i
theorem xo (f:Nat->Nat):∀(p:List Nat) (i:Nat),∃r,pf f p i++[f i]=f (p.headD i)::r
 | [],i=>⟨[],rfl⟩
 | x::r,i=>by
  show ∃r',(if f x=f (r.headD i) then pf f r i else f x::pf f r i)++[f i]=f x::r'
  split
  ·next h=>rw [h];exact xo f r i
  ·exact⟨_,rfl⟩
def Lb:∀{r:List Nat}{x i:Nat},Ch g (x::(r++[i]))->x < g.length/\r.headD i∈(sy g x).un/\Ch g (r++[i])
 | [],_,_,h=>h
 | _::_,_,_,h=>h
theorem Hm.step {g' g:List Sy}{f:Nat->Nat}{ω:Str->Str} (M:Hm g' g f ω) {x n:Nat} (hx:x < g'.length) (hn:n∈(sy g' x).un):(f x=f n/\twoN g' x=false)\/(f x≠f n/\f n∈(sy g (f x)).un/\twoN g' x=twoN g (f x)):=by
 have key:(sy g' x).un.map f ⊆ (sy g (f x)).un->(sy g (f x)).un.length=(sy g' x).un.length->(f x=f n/\twoN g' x=false)\/(f x≠f n/\f n∈(sy g (f x)).un/\twoN g' x=twoN g (f x)):=λe1 e2=>by
  have h:f n∈(sy g (f x)).un:=e1 (Ar.mpr ⟨n,hn,rfl⟩);have:=M.dn _ (M.lt x hx) _ h;exact .inr ⟨by omega,h,by unfold twoN;rw [e2]⟩
 rcases M.un x hx with⟨u,e1,e2⟩ | e | e
 ·rw [e1] at hn;rw [A3.mp hn,e2];exact .inl ⟨rfl,by unfold twoN;rw [e1];rfl⟩
 ·exact key (by rw [e];exact λ_ h=>h) (by rw [e,Ag])
 ·exact key (by rw [e];exact λ_ h=>List.mem_reverse.mpr h) (by rw [e,Cd,Ag])
def Hm.ch (M:Hm g' g f ω):∀{p:List Nat}{i:Nat},Ch g' (p++[i])->Ch g (pf f p i++[f i])/\losN g (pf f p i)=losN g' p
 | [],i,h=>⟨M.lt i h,rfl⟩
 | x::r,i,h=>by
  obtain⟨hx,hn,hr⟩:=Lb h;obtain⟨c,lo⟩:=M.ch hr;rcases M.step hx hn with⟨e,tw⟩ | ⟨e,m,tw⟩
  ·have ep:pf f (x::r) i=pf f r i:=if_pos e;rw [ep];refine⟨c,?_⟩;rw [lo];unfold losN;rw [Ci,tw];rfl
  ·have ep:pf f (x::r) i=f x::pf f r i:=if_neg e;obtain⟨r',er⟩:=xo f r i;rw [ep];refine⟨?_,?_⟩
   ·show Ch g (f x::(pf f r i++[f i]));rw [er] at c ⊢;exact c.cons (M.lt x hx) m
   ·unfold losN at lo ⊢;rw [Ci,Ci,tw]
    split <;> simp [lo]
theorem Hm.Hf (M:Hm g' g f ω) {nm:Str} (hi:i < g'.length) (h:(nm,x,y)∈Hf g' i):(nm,f x,f y)∈Hf g (f i):=by
 unfold My.Hf at h ⊢;rcases AA.mp h with h | h
 ·cases h;exact .head _
 refine AW _ ?_;rcases AY.mp h with h | h
 ·refine BG _ ?_;have hu:=M.un i hi;revert h hu;generalize (sy g' i).un=l;generalize (sy g (f i)).un=m;intro h hu
  match l,h,hu with
  | [a,b],h,hu=>
   simp [spl] at h;rcases hu with⟨u,e,_⟩ | e | e
   ·cases e
   ·rw [e];rcases h with⟨rfl,rfl,rfl⟩ | ⟨rfl,rfl,rfl⟩ <;> simp [spl]
   ·rw [e];rcases h with⟨rfl,rfl,rfl⟩ | ⟨rfl,rfl,rfl⟩ <;> simp [spl]
  | [],h,_=>simp [spl] at h
  | [_],h,_=>simp [spl] at h
  | _::_::_::_,h,_=>simp [spl] at h
 ·obtain⟨o,ho,h⟩:=CD.mp h;refine AN _ (CD.mpr ⟨f o,M.be i hi o ho,?_⟩);simp at h;rcases h with⟨rfl,rfl,rfl⟩ | ⟨rfl,rfl,rfl⟩ <;> simp
def wm (f:Nat->Nat):WT->WT
 | .lf p i=>.lf (pf f p i) (f i)
 | .nd p i nm a b=>.nd (pf f p i) (f i) nm (wm f a) (wm f b)
def JJ (f:Nat->Nat) {r:List Nat} (h:u.path=x::r):∃r',(wm f u).path=f x::r':=by
 have key:∀(p:List Nat) (i:Nat),p++[i]=x::r->∃r',pf f p i++[f i]=f x::r':=λp i e=>by
  obtain⟨r',e'⟩:=xo f p i;have:p.headD i=x:=by
   cases p with
   | nil=>cases e;rfl
   | cons a p=>cases e;rfl
  rw [this] at e';exact⟨r',e'⟩
 cases u with
 | lf p i=>exact key p i h
 | nd p i nm a b=>exact key p i h
def cm (ω:Str->Str):Tr->Tr
 | .leaf w=>.leaf (ω w)
 | .node l r=>.node (cm ω l) (cm ω r)
def Hm.ok (M:Hm g' g f ω):∀{u:WT}{s:Tr},u.Ok g' s->(wm f u).Ok g (cm ω s)
 | .lf p i,.leaf w,h=>⟨(M.ch h.1).1,M.hom i h.1.last w h.2⟩
 | .nd p i nm a b,.node l r,h=>by
  obtain⟨c,⟨x,y,r1,r2,hd,h1,h2⟩,ha,hb⟩:=h;obtain⟨q1,e1⟩:=JJ f h1;obtain⟨q2,e2⟩:=JJ f h2;exact⟨(M.ch c).1,⟨f x,f y,q1,q2,M.Hf c.last hd,e1,e2⟩,M.ok ha,M.ok hb⟩
theorem nA (f:Nat->Nat):∀u:WT,(wm f u).post=u.post.map (wm f)
 | .lf _ _=>rfl
 | .nd p i nm a b=>by
  show (wm f a).post++(wm f b).post++[_]=(a.post++b.post++[_]).map (wm f);rw [nA f a,nA f b];simp [wm]
def JK (f:Nat->Nat) (u:WT):(wm f u).deed=u.deed:=by cases u <;> rfl
def ZA (f:Nat->Nat) (u:WT):(wm f u).at'=f u.at':=by cases u <;> rfl
theorem Kl:∀{u:WT}{s:Tr},u.Ok g s->∀x∈u.post,Ch g x.path
 | .lf p i,.leaf w,h,x,hx=>by rw [A3.mp hx];exact h.1
 | .nd p i nm a b,.node l r,h,x,hx=>by
  rcases AY.mp (show x∈a.post++b.post++[_] from hx) with hx | hx
  ·rcases AY.mp hx with hx | hx
   ·exact Kl h.2.2.1 x hx
   ·exact Kl h.2.2.2 x hx
  ·rw [A3.mp hx];exact h.1
def Hm.due (M:Hm g' g f ω) {s:Tr} (h:u.Ok g' s):dueP g (wm f u).post=dueP g' u.post:=by
 have hc:∀nm,cnt nm (wm f u).post=cnt nm u.post:=λnm=>by
  unfold cnt;rw [nA,E8];congr 1;funext x;simp only [Dx,JK]
 have hl:lost g (wm f u).post=lost g' u.post:=by
  unfold lost;rw [nA,AH];congr 1;refine Bj λx hx=>?_;have c:=Kl h x hx;cases x with
  | lf p i=>exact (M.ch c).2
  | nd p i nm a b=>exact (M.ch c).2
 unfold dueP;rw [hc,hc,hc,hl]
def tu (ω:Str->Str):Tr->Tr
 | .leaf w=>.leaf (ω w)
 | .node l r=>.node (tu ω r) (tu ω l)
def bw:Tr->Nat->Nat
 | .leaf _,_=>0
 | .node l r,j=>if j < l.size then r.size+bw l j else if j < l.size+r.size then bw r (j-l.size) else l.size+r.size
def J9 {l r:Tr} (h:j < l.size):bw (.node l r) j=r.size+bw l j:=if_pos h
def J8 {l r:Tr} (h:¬j < l.size) (h2:j < l.size+r.size):bw (.node l r) j=bw r (j-l.size):=(if_neg h).trans (if_pos h2)
section
theorem ba:∀t:Tr,(tu ω t).size=t.size
 | .leaf _=>rfl
 | .node l r=>by
  show (tu ω r).size+(tu ω l).size+1=l.size+r.size+1;rw [ba l,ba r];omega
theorem rY:∀t:Tr,(tu ω t).depth=t.depth
 | .leaf _=>rfl
 | .node l r=>by
  show max (tu ω r).depth (tu ω l).depth+1=max l.depth r.depth+1;rw [rY l,rY r,Nat.max_comm]
theorem cJ:∀(t:Tr) (j:Nat),j < t.size->bw t j < t.size
 | .leaf _,_,_=>Nat.one_pos
 | .node l r,j,h=>by
  have es:(Tr.node l r).size=l.size+r.size+1:=rfl;rw [bw];by_cases c:j < l.size
  ·rw [if_pos c];have:=cJ l j c;omega
  ·rw [if_neg c];by_cases c2:j < l.size+r.size
   ·rw [if_pos c2];have:=cJ r (j-l.size) ∅;omega
   ·rw [if_neg c2];omega
theorem sD:∀t:Tr,bw t (t.size-1)=t.size-1
 | .leaf _=>rfl
 | .node l r=>by
  have es:(Tr.node l r).size=l.size+r.size+1:=rfl;rw [bw,es,if_neg ∅,if_neg ∅];omega
theorem fX:∀(t:Tr) (j:Nat),j < t.size->bw (tu ω t) (bw t j)=j
 | .leaf _,j,h=>by have:j < 1:=h;show 0=j;omega
 | .node l r,j,h=>by
  have es:(Tr.node l r).size=l.size+r.size+1:=rfl;show (if bw (.node l r) j < (tu ω r).size then (tu ω l).size+bw (tu ω r) (bw (.node l r) j) else if bw (.node l r) j < (tu ω r).size+(tu ω l).size then bw (tu ω l) (bw (.node l r) j-(tu ω r).size) else (tu ω r).size+(tu ω l).size)=j;rw [ba,ba,bw];by_cases c:j < l.size
  ·have:=cJ l j c;rw [if_pos c,if_neg ∅,if_pos ∅,Bh,fX l j c]
  ·rw [if_neg c];by_cases c2:j < l.size+r.size
   ·have:=cJ r (j-l.size) ∅;rw [if_pos c2,if_pos ∅,fX r _ ∅];omega
   ·rw [if_neg c2,if_neg ∅,if_neg ∅];omega
def R3 (ω:Str->Str) (m:Nat->Nat):Ent->Ent
 | .word w=>.word (ω w)
 | .pair a b=>.pair (m b) (m a)
theorem Ql:∀(t:Tr) (o o' j:Nat),j < t.size->en (tu ω t) o' (bw t j)=R3 ω (λa=>o'+bw t (a-o)) (en t o j)
 | .leaf _,o,o',j,h=>rfl
 | .node l r,o,o',j,h=>by
  have es:(Tr.node l r).size=l.size+r.size+1:=rfl;have lp:=l.size_pos;have rp:=r.size_pos;have e1:∀k,en (tu ω (.node l r)) o' k=if k < r.size then en (tu ω r) o' k else if k < r.size+l.size then en (tu ω l) (o'+r.size) (k-r.size) else .pair (o'+r.size-1) (o'+r.size+l.size-1):=λk=>by
   show en (.node (tu ω r) (tu ω l)) o' k=_;rw [en,ba,ba]
  rw [e1,en];by_cases c:j < l.size
  ·have j8:=cJ l j c;have er:bw (.node l r) j=r.size+bw l j:=by rw [bw,if_pos c]
   rw [er,if_neg ∅,if_pos ∅,Bh,if_pos c,Ql l o (o'+r.size) j c];cases e:en l o j with
   | word w=>rfl
   | pair a b=>
    obtain⟨h1,h2,h3,h4,_⟩:=iq l o j .aV a b c e;show Ent.pair (o'+r.size+bw l (b-o)) (o'+r.size+bw l (a-o))=Ent.pair (o'+bw (.node l r) (b-o)) (o'+bw (.node l r) (a-o));rw [J9 ∅,J9 ∅,A5,A5]
  ·rw [if_neg c];by_cases c2:j < l.size+r.size
   ·have j8:=cJ r (j-l.size) ∅;have er:bw (.node l r) j=bw r (j-l.size):=by rw [bw,if_neg c,if_pos c2]
    rw [er,if_pos ∅,if_pos c2,Ql r (o+l.size) o' (j-l.size) ∅];cases e:en r (o+l.size) (j-l.size) with
    | word w=>rfl
    | pair a b=>
     obtain⟨h1,h2,h3,h4,_⟩:=iq r (o+l.size) (j-l.size) .aV a b ∅ e;show Ent.pair (o'+bw r (b-(o+l.size))) (o'+bw r (a-(o+l.size)))=Ent.pair (o'+bw (.node l r) (b-o)) (o'+bw (.node l r) (a-o));rw [J8 ∅ ∅,J8 ∅ ∅,show b-o-l.size=b-(o+l.size) by omega,show a-o-l.size=a-(o+l.size) by omega]
   ·have er:bw (.node l r) j=l.size+r.size:=by rw [bw,if_neg c,if_neg c2]
    rw [er,if_neg ∅,if_neg ∅,if_neg c2];show Ent.pair (o'+r.size-1) (o'+r.size+l.size-1)=Ent.pair (o'+bw (.node l r) (o+l.size+r.size-1-o)) (o'+bw (.node l r) (o+l.size-1-o));rw [J8 ∅ ∅,J9 ∅,show o+l.size+r.size-1-o-l.size=r.size-1 by omega,show o+l.size-1-o=l.size-1 by omega,sD,sD];congr 1 <;> omega
def kf (h:j < t.size):en (tu ω t) 0 (bw t j)=R3 ω (bw t) (en t 0 j):=by
 rw [Ql t 0 0 j h];congr 1;funext a;simp
theorem nP:∀(t:Tr) (j:Nat),j < t.size->bw t (bw (tu ω t) j)=j
 | .leaf _,j,h=>by have:j < 1:=h;show 0=j;omega
 | .node l r,j,h=>by
  have es:(Tr.node l r).size=l.size+r.size+1:=rfl;have e:bw (tu ω (.node l r)) j=if j < r.size then l.size+bw (tu ω r) j else if j < r.size+l.size then bw (tu ω l) (j-r.size) else r.size+l.size:=by
   show bw (.node (tu ω r) (tu ω l)) j=_;rw [bw,ba,ba]
  rw [e];by_cases c:j < r.size
  ·have:=cJ (tu ω r) j (by rw [ba];exact c);rw [ba] at this;rw [if_pos c,J8 ∅ ∅,Bh,nP r j c]
  ·rw [if_neg c];by_cases c2:j < r.size+l.size
   ·have:=cJ (tu ω l) (j-r.size) (by rw [ba];omega);rw [ba] at this;rw [if_pos c2,J9 ∅,nP l _ ∅];omega
   ·rw [if_neg c2,bw,if_neg ∅,if_neg ∅];omega
def nN (hj:j < t.size) (hk:k < t.size) (e:bw t j=bw t k):j=k:=by
 rw [<- fX (ω:=id) t j hj,<- fX (ω:=id) t k hk,e]
theorem QW (h:j < t.size):(jd t 0 j .aV=.aV/\jd (tu ω t) 0 (bw t j) .aV=.aV)\/∃a,j < a/\a < t.size/\jd t 0 j .aV=.int (a:Int)/\jd (tu ω t) 0 (bw t j) .aV=.int (bw t a:Int):=by
 have ts:=ba (ω:=ω) t;rcases gB t 0 j .aV h with⟨h1,h2⟩ | ⟨a,u,v,h1,h2,h3,h4,h5⟩
 ·refine .inl ⟨h2,?_⟩;rw [h1,sD];rcases gB (tu ω t) 0 (t.size-1) .aV (by rw [ts];have:=t.size_pos;omega) with⟨_,k⟩ | ⟨a,u,v,k1,k2,_⟩
  ·exact k
  ·omega
 ·rw [AG] at h3 h5;refine .inr ⟨a,h1,h2,h3,?_⟩;have e:=kf (ω:=ω) h2;rw [h4] at e;have hra:=cJ t a h2;obtain⟨_,_,_,_,_,k6,k7⟩:=iq (tu ω t) 0 (bw t a) .aV _ _ (by rw [ts];exact hra) e;rw [AG,Dh] at k6 k7;rcases h5 with rfl | rfl
  ·exact k7
  ·exact k6
theorem ZD:∀(k j:Nat),j+k+1=t.size->up (tu ω t) 0 (bw t j) []=(up t 0 j []).map (bw t):=λk=>by
 have ts:=ba (ω:=ω) t
 induction k using C4 with
 | ind k ih=>
  intro j hk;have hr:=cJ t j ∅;rcases QW (ω:=ω) (show j < t.size by omega) with⟨h1,h2⟩ | ⟨a,ja,ha,h1,h2⟩
  ·rcases jO t 0 j .aV [] ∅ with⟨_,_,e⟩ | ⟨a,_,_,e,_⟩
   ·rcases jO (tu ω t) 0 (bw t j) .aV [] (by rw [ts];exact hr) with⟨_,_,e'⟩ | ⟨a,_,_,e',_⟩
    ·rw [e,e'];simp
    ·rw [h2] at e';cases e'
   ·rw [h1] at e;cases e
  ·rcases jO t 0 j .aV [] ∅ with⟨_,e,_⟩ | ⟨a1,_,_,e,u1⟩
   ·rw [h1] at e;cases e
   ·rcases jO (tu ω t) 0 (bw t j) .aV [] (by rw [ts];exact hr) with⟨_,e',_⟩ | ⟨a2,_,_,e',u2⟩
    ·rw [h2] at e';cases e'
    ·rw [h1] at e;rw [h2] at e';injection e with e;injection e' with e';have x1:a1=a:=by omega
     have x2:a2=bw t a:=by omega
     subst x1;subst x2;rw [u1,u2,ih (t.size-a1-1) ∅ a1 ∅];simp
theorem YG (hj:j < t.size) (h:k∈UA t j):bw t k∈UA (tu ω t) (bw t j):=by
 obtain⟨h1,h2⟩:=Ay.mp h;have hk:=Aw.mp h1;simp at h2;refine Ay.mpr ⟨Aw.mpr (by rw [ba];exact cJ t k hk),?_⟩;have key:∀{j k:Nat},j < t.size->k < t.size->k∉up t 0 j []->bw t k∉up (tu ω t) 0 (bw t j) []:=λ{j k} hj hk hn hx=>by
  rw [ZD (t.size-j-1) j ∅] at hx;obtain⟨x,hx,e⟩:=Ar.mp hx;have Ĩ:x < t.size:=by
   rcases NG t 0 j [] x hx with z | z
   ·omega
   ·cases z
  rw [nN Ĩ hk e] at hx;exact hn hx
 simp [key hj hk h2.1,key hk hj h2.2]
def pU (ω:Str->Str) (t:Tr) (ds:List Int):List Int:=(Ax t.size).map λj=>ds.getD (bw (tu ω t) j) 0
def kg (h:j < t.size):(pU ω t ds).getD (bw t j) 0=ds.getD j 0:=by
 unfold pU;rw [Al,Ae,AR (cJ t j h)];show ds.getD (bw (tu ω t) (bw t j)) 0=_;rw [fX t j h]
def Hr (ω:Str->Str) {P:Nat->Prop} (h:∀j,j < t.size->P (bw t j)):∀j,j < t.size->P j:=λj hj=>by
 have:=cJ (tu ω t) j (by rw [ba];exact hj);rw [ba] at this;have:=h _ this;rw [nP t j hj] at this;exact this
def Ly (t:Tr):(splits (tu ω t)).Perm ((splits t).map (bw t)):=by
 have nd:∀t:Tr,(splits t).Nodup:=λt=>EE.filter _;have Ġ:((splits t).map (bw t)).Nodup:=by
  refine List.Pairwise.map _ (λa b n=>n) ?_;refine (A9.mpr λi j hi hj Vr e=>?_);have m1:=(Ay.mp (BJ hi)).1;have m2:=(Ay.mp (BJ hj)).1;have:=nN (Aw.mp m1) (Aw.mp m2) e;have:=(A9.mp (nd t)) i j hi hj Vr
  contradiction
 refine (Ee (nd _) Ġ).mpr λx=>⟨λhx=>?_,λhx=>?_⟩
 ·obtain⟨h1,h2⟩:=Ay.mp hx;have hx:=Aw.mp h1;rw [ba] at hx;revert h2;refine Hr ω (P:=λx=>tG (en (tu ω t) 0 x)=true->x∈(splits t).map (bw t)) (λj hj h2=>?_) x hx;rw [kf hj] at h2;refine Ar.mpr ⟨j,Ay.mpr ⟨Aw.mpr hj,?_⟩,rfl⟩;cases e:en t 0 j with
  | word w=>rw [e] at h2;cases h2
  | pair a b=>rfl
 ·obtain⟨j,hj,rfl⟩:=Ar.mp hx;obtain⟨h1,h2⟩:=Ay.mp hj;have hj:=Aw.mp h1;refine Ay.mpr ⟨Aw.mpr (by rw [ba];exact cJ t j hj),?_⟩;rw [kf hj];cases e:en t 0 j with
  | word w=>rw [e] at h2;cases h2
  | pair a b=>rfl
def NX:(G8 (tu ω t) (pU ω t ds)).Perm (G8 t ds):=by
 unfold G8;refine ((Ly t).map _).trans ?_;rw [AH];refine List.Perm.of_eq (Bj λj hj=>?_);exact kg (Aw.mp (Ay.mp hj).1)
def LA {m:List Int} (h:l.Perm m):sortI l=sortI m:=by
 refine List.Perm.eq_of_pairwise (le:=(·<=·)) (λa b _ _ h1 h2=>Int.le_antisymm h1 h2) (sh l) (sh m) ?_;exact ((Cc l _).trans h).trans (Cc m _).symm
def yG:aG (tu ω t) (pU ω t ds)=aG t ds:=by unfold aG;rw [LA NX]
theorem DD.tu (D:DD t ds):DD (My.tu ω t) (pU ω t ds):=by
 have ts:=ba (ω:=ω) t;refine⟨by unfold pU;rw [Ag,BM,ts],λj w hj e=>?_,λj a b hj e=>?_,NX.nodup_iff.mpr D.nd⟩
 ·rw [ts] at hj;revert e;refine Hr ω (P:=λj=>en (My.tu ω t) 0 j=.word w->(pU ω t ds).getD j 0=0) (λj hj e=>?_) j hj;rw [kf hj] at e;rw [kg hj];cases e2:en t 0 j with
  | word x=>exact D.leaf j x hj e2
  | pair a b=>rw [e2] at e;cases e
 ·rw [ts] at hj;revert e;refine Hr ω (P:=λj=>en (My.tu ω t) 0 j=.pair a b->(pU ω t ds).getD a 0 < (pU ω t ds).getD j 0/\(pU ω t ds).getD b 0 < (pU ω t ds).getD j 0/\1<=(pU ω t ds).getD j 0) (λj hj e=>?_) j hj;rw [kf hj] at e;rw [kg hj];cases e2:en t 0 j with
  | word x=>rw [e2] at e;cases e
  | pair x y=>
   rw [e2] at e;obtain⟨h1,h2⟩:=cV t hj e2;have:=D.pair j x y hj e2;cases e;rw [kg ∅,kg ∅];exact⟨this.2.1,this.1,this.2.2⟩
def Wj {b:Int} (hj:j < t.size):stB (tu ω t) (pU ω t ds) b (bw t j)=stB t ds b j:=by
 unfold stB;rw [kg hj];rcases QW (ω:=ω) hj with⟨h1,h2⟩ | ⟨a,_,ha,h1,h2⟩
 ·rw [h1,h2]
 ·rw [h1,h2];show (_&&decide (b < (pU ω t ds).getD (bw t a) 0))=(_&&decide (b < ds.getD a 0));rw [kg ha]
def NR {m:Nat} (hj:j < t.size):(bw t j,n)∈aJ (tu ω t) (pU ω t ds) bs m↔(j,n)∈aJ t ds bs m:=by
 rw [bN,bN,ba,Wj hj];exact⟨λh=>⟨h.1,hj,h.2.2⟩,λh=>⟨h.1,cJ t j hj,h.2.2⟩⟩
end
theorem wt_wok:∀(s:Tr) (o:Nat),(∀k,k < s.size->en t 0 (o+k)=en s o k)->∀u:WT,u.Ok g s->Nu g t (o+s.size-1) u.path u.pv
 | .leaf x,o,hs,.lf p i,h=>by
  have e0:en t 0 o=.word x:=hs 0 (by show 0 < 1;decide);exact .leaf e0 h.1 h.2
 | .node l r,o,hs,.nd p i nm a b,h=>by
  have es:(Tr.node l r).size=l.size+r.size+1:=rfl;have er:en t 0 (o+(l.size+r.size))=.pair (o+l.size-1) (o+l.size+r.size-1):=by rw [hs _ ∅,en,if_neg ∅,if_neg ∅]
  have hl:∀k,k < l.size->en t 0 (o+k)=en l o k:=λk hk=>by rw [hs k ∅,en,if_pos hk]
  have hr:∀k,k < r.size->en t 0 (o+l.size+k)=en r (o+l.size) k:=λk hk=>by rw [A5,hs _ ∅,en,if_neg ∅,if_pos ∅,Bh]
  obtain⟨x,y,r1,r2,hd,q1,q2⟩:=h.2.1;have w1:=wt_wok l o hl a h.2.2.1;have w2:=wt_wok r (o+l.size) hr b h.2.2.2;rw [q1] at w1;rw [q2] at w2;exact .node er h.1 hd w1 w2
def ok_root (h:u.Ok g t):Nu g t (t.size-1) u.path u.pv:=by
 have:=wt_wok (g:=g) (t:=t) t 0 (λk _=>by rw [AG]) u h
 rwa [AG] at this
theorem ym:∀(t:Tr) (o j k:Nat) (w:Str),t.ax.Nodup->j < t.size->k < t.size->en t o j=.word w->en t o k=.word w->j=k
 | .leaf _,o,j,k,w,_,hj,hk,_,_=>by
  have:j < 1:=hj;have:k < 1:=hk;omega
 | .node l r,o,j,k,w,nd,hj,hk,e1,e2=>by
  have es:(Tr.node l r).size=l.size+r.size+1:=rfl;obtain⟨n1,n2,n3⟩:=Cv.mp (show (l.ax++r.ax).Nodup from nd);have key:∀j,j < (Tr.node l r).size->en (.node l r) o j=.word w->(j < l.size/\en l o j=.word w)\/(¬j < l.size/\j < l.size+r.size/\en r (o+l.size) (j-l.size)=.word w):=λj hj e=>by
   rw [en] at e;by_cases c:j < l.size
   ·rw [if_pos c] at e;exact .inl ⟨c,e⟩
   ·rw [if_neg c] at e;by_cases c2:j < l.size+r.size
    ·rw [if_pos c2] at e;exact .inr ⟨c,c2,e⟩
    ·rw [if_neg c2] at e;cases e
  rcases key j hj e1 with⟨a1,a2⟩ | ⟨a1,a2,a3⟩ <;> rcases key k hk e2 with⟨b1,b2⟩ | ⟨b1,b2,b3⟩
  ·exact ym l o j k w n1 a1 b1 a2 b2
  ·exact absurd rfl (n3 w (iR l o j w a1 a2) w (iR r _ _ w ∅ b3))
  ·exact absurd rfl (n3 w (iR l o k w b1 b2) w (iR r _ _ w ∅ a3))
  ·have:=ym r _ (j-l.size) (k-l.size) w n2 ∅ ∅ a3 b3;omega
theorem Pm (nd:t.ax.Nodup) (hj:j < t.size) (e:en t 0 j=.word w):Im ((t.nd 0).map Ent.pv) (.str w)=.ret (.int (j:Int)):=by
 have gt:∀k (h:k < ((t.nd 0).map Ent.pv).length),((t.nd 0).map Ent.pv)[k]=(en t 0 k).pv:=λk h=>by
  have:=Ad h;rw [Ae,fj t 0 k (by rw [cB] at h;exact h)] at this;exact (Option.some.inj this).symm
 have fq:∀k,iM (en t 0 k).pv (.str w)=true->en t 0 k=.word w:=λk h=>by
  cases c:en t 0 k with
  | word x=>rw [c] at h;simp [Ent.pv] at h;rw [h]
  | pair a b=>rw [c] at h;simp [Ent.pv,iM] at h
 have hl:j < ((t.nd 0).map Ent.pv).length:=by rw [cB];exact hj
 have ok:tL (.str w) ((t.nd 0).map Ent.pv):=⟨by simp,gc.mpr λx hx=>by
  obtain⟨q,_,rfl⟩:=Ar.mp hx;cases q <;> simp [Ent.pv],A4 (gj (n:=2) λx hx=>by
  obtain⟨q,_,rfl⟩:=Ar.mp hx;cases q <;> simp [Ent.pv]) ⋯⟩
 have pj:iM ((t.nd 0).map Ent.pv)[j] (.str w)=true:=by rw [gt j hl,e];simp [Ent.pv]
 have hs:m6 (.str w) ((t.nd 0).map Ent.pv)=true:=BK.mpr ⟨_,BJ hl,pj⟩;unfold Im;rw [pr ⟨ok,hs⟩];have:tM (.str w) ((t.nd 0).map Ent.pv)=j:=by
  unfold tM;refine (List.findIdx_eq hl).mpr ⟨pj,λk hk=>?_⟩;cases c:iM ((t.nd 0).map Ent.pv)[k] (.str w) with
  | false=>rfl
  | true=>
   rw [gt k ∅] at c;have:=ym t 0 k j w nd (by rw [cB] at hl;omega) hj (fq k c) e;omega
 rw [this]
def HM {H:List Nat} (h:k < H.length):KA (av H) (.int (k:Int))=.ret (.int ((H.getD k 0:Nat):Int)):=fB (by
 unfold av;rw [Ae,Al,Ad h];rfl)
def VY (f:Nat->Nat) (h:u.path=[i]):(wm f u).path=[f i]:=by
 have key:∀(p:List Nat) (j:Nat),p++[j]=[i]->pf f p j++[f j]=[f i]:=λp j e=>by
  cases p with
  | nil=>cases e;rfl
  | cons a p=>simp at e
 cases u with
 | lf p j=>exact key p j h
 | nd p j nm a b=>exact key p j h
end My
variable {L L':List (Nat×Nat)}
namespace My
open PySem PySem.Spec PyProof.Rows L2 PL FL
def om (w:Str):Str:=("w":Str)++CV w bm (ap 7)
def Z4:∀n,n < 9->Builtin.Str.strSliceIndices bm (ap 7) 1 n=Ax (min 7 n):=by decide +kernel
theorem KS (a:Array Nat):∀k,(Ax k).filterMap (λi=>a[i]?)=a.toList.take k
 | 0=>rfl
 | k+1=>by
  rw [DR,List.filterMap_append,KS a k,Ed,Cn,BB];cases a[k]? <;> rfl
theorem Wl (h:w.length<=8):(CV w bm (ap 7)).cps.toList=w.cps.toList.take 7:=by
 have hl:w.cps.toList.length=w.length:=by simp [FA]
 unfold CV;rw [Z4 w.length ∅]
 split
 ·next c=>
  have:min 7 w.length=w.length:=by simpa using c
  rw [Bv ∅]
 ·show (List.filterMap _ _).toArray.toList=_;rw [List.toList_toArray,KS];rcases CW w.length 7 with c | c
  ·rw [Bv ∅,Bv ∅]
  ·rw [Nat.min_eq_left c]
def OS (h:w.length<=8):(om w).cps.toList=119::w.cps.toList.take 7:=by
 have:(om w).cps.toList=("w":Str).cps.toList++(CV w bm (ap 7)).cps.toList:=by
  unfold om;show (("w":Str).cps++(CV w bm (ap 7)).cps).toList=_;rw [Fv]
 rw [this,Wl h];rfl
theorem aaJ (h:Wd w):Wd (om w):=by
 obtain⟨h1,h2,h3⟩:=h;have e:=OS h2;have hl:(om w).length=(119::w.cps.toList.take 7).length:=by rw [<- e];simp [FA]
 have hw:w.cps.toList.length=w.length:=by simp [FA]
 refine⟨?_,?_,λc hc=>?_⟩
 ·rw [hl,Ap];omega
 ·rw [hl,Ap,Cg];omega
 ·rw [e] at hc;rcases AA.mp hc with rfl | hc
  ·decide
  ·exact h3 c (List.mem_of_mem_take hc)
theorem aaK (h:Wd w) (hb:b<=1):(om w).cps[b+1]?=w.cps[b]?:=by
 rw [<- Cn,OS h.2.1,EJ,List.getElem?_take,if_pos ∅,Cn]
theorem oZ (ω:Str->Str):∀t:Tr,(tu ω t).ax=(t.ax.map ω).reverse
 | .leaf _=>rfl
 | .node l r=>by
  show (tu ω r).ax++(tu ω l).ax=((l.ax++r.ax).map ω).reverse;rw [oZ ω l,oZ ω r,AU,CZ]
def ZG (g:qu t):(tu om t).ax.Nodup:=by
 obtain⟨b,hb,nd⟩:=g.sg;rw [oZ];refine (List.reverse_perm _).nodup_iff.mpr (nX (g:=λx:Str=>x.cps[b+1]?) ?_);rw [AH];have:t.ax.map ((λx:Str=>x.cps[b+1]?)∘om)=t.ax.map λx=>x.cps[b]?:=Bj λx hx=>aaK (g.ws x hx) hb;rw [this];exact nd
theorem pW (ω:Str->Str):∀t:Tr,(cm ω t).ax=t.ax.map ω
 | .leaf _=>rfl
 | .node l r=>by
  show (cm ω l).ax++(cm ω r).ax=(l.ax++r.ax).map ω;rw [pW ω l,pW ω r,AU]
theorem rJ (ω:Str->Str):∀t:Tr,(cm ω t).size=t.size
 | .leaf _=>rfl
 | .node l r=>by
  show (cm ω l).size+(cm ω r).size+1=l.size+r.size+1;rw [rJ ω l,rJ ω r]
theorem mx {q:Bool}:∀(n:Nat) (t:Tr),t.depth < n->t.Ws->(aZ n t.pv (.int (if q then 1 else 0))).le (.ret (if q then tu om t else cm om t).pv)
 | 0,_,h,_=>absurd h (E6 _)
 | n+1,.leaf w,h,hw=>λQ r=>by
  have wd:=hw w (by simp [Tr.ax]);have e:(if q then tu om (.leaf w) else cm om (.leaf w)).pv=.str (om w):=by cases q <;> rfl
  rw [e] at r;unfold aZ;simp only [Tr.pv,f8,fc,fU,aY,if_true,iO,ce];have hl:(CV w bm (ap 7)).length<=8:=A4 (DY w _ _) wd.2.1;refine⟨a8 (by have:=wd.2.1;omega),?_⟩;rw [ev,K2];exact⟨a8 (by have:("w":Str).length=1:=rfl;omega),r⟩
 | n+1,.node l r,h,hw=>λQ k=>by
  have i0:cq [l.pv,r.pv] 0=ap l.pv:=rfl;have i1:cq [l.pv,r.pv] 1=ap r.pv:=rfl;have Px:max l.depth r.depth+1 < n+1:=h;unfold aZ;simp only [Tr.pv,f8,d7,gK,aY,An,if_false,ay,bb,i0,i1,sw,ce];refine W.le.use (mx n l ∅ λw hx=>hw w (BG _ hx)) ?_;refine W.le.use (mx n r ∅ λw hx=>hw w (AN _ hx)) ?_;cases q <;> exact k
def nV:Tr->Nat->List Nat
 | .leaf _,o=>[o]
 | .node l r,o=>nV r (o+l.size)++nV l o++[o+l.size+r.size]
theorem lY (ω:Str->Str):∀(t:Tr) (o:Nat),nV t o=(Ax t.size).map λj=>o+bw (tu ω t) j
 | .leaf _,o=>rfl
 | .node l r,o=>by
  have es:(Tr.node l r).size=r.size+l.size+1:=by show l.size+r.size+1=_;omega
  have e:∀j,bw (tu ω (.node l r)) j=if j < r.size then l.size+bw (tu ω r) j else if j < r.size+l.size then bw (tu ω l) (j-r.size) else r.size+l.size:=λj=>by
   show bw (.node (tu ω r) (tu ω l)) j=_;rw [bw,ba,ba]
  rw [nV,lY ω l,lY ω r,es,DR,List.range_add,AU,AU,AH,Eg];refine congr (congrArg _ (congr (congrArg _ (Bj λj hj=>?_)) (Bj λj hj=>?_))) ?_
  ·have hj:=Aw.mp hj;rw [e,if_pos hj];omega
  ·have hj:=Aw.mp hj;simp only [Dx];rw [e,if_neg ∅,if_pos ∅,Bh]
  ·rw [e,if_neg ∅,if_neg ∅];congr 1;omega
def g8 (t:Tr) (o:Nat):(nV t o).length=t.size:=by rw [lY id];simp
theorem mX:∀(n:Nat) (t:Tr) (o:Nat),t.depth < n->t.size<=300->(bp n t.pv (.int (o:Int))).le (.ret (av (nV t o)))
 | 0,_,_,h,_=>absurd h (E6 _)
 | n+1,.leaf w,o,h,_=>λQ q=>by
  unfold bp;simp only [Tr.pv,f8,fc,fU,aY,if_true];exact q
 | n+1,.node l r,o,h,hz=>λQ q=>by
  have i0:cq [l.pv,r.pv] 0=ap l.pv:=rfl;have i1:cq [l.pv,r.pv] 1=ap r.pv:=rfl;have Px:max l.depth r.depth+1 < n+1:=h;have hz:l.size+r.size+1<=300:=hz;unfold bp;simp only [Tr.pv,f8,d7,gK,aY,An,if_false,ay,bb,i0,i1,sw,ce];refine W.le.use (mX n l o ∅ ∅) ?_;have e1:(o:Int)+(l.size:Int)=((o+l.size:Nat):Int):=rfl;have e2:((o+l.size:Nat):Int)+(r.size:Int)=((o+l.size+r.size:Nat):Int):=rfl;simp only [fR,bh,g8,ev,fV,e1];refine W.le.use (mX n r (o+l.size) ∅ ∅) ?_;simp only [oB,fR,bh,g8,ev,fV,e1,e2];rw [lQ (by rw [bh,bh,g8,g8];omega)];simp only [ev];rw [lQ (by rw [Af,bh,bh,g8,g8];simp;omega)];have e3:av (nV r (o+l.size))++av (nV l o)++[.int ((o+l.size+r.size:Nat):Int)]=av (nV (.node l r) o):=by rw [nV,n5,n5];rfl
  rw [e3];exact q
structure Gd (t:Tr) (g:List Sy) (L:List (Nat×Nat)):Prop where
 len:g.length=L.length
 at':∀i p,L[i]?=ap p->(sy g i).nm=pA (en t 0 p.1) p.1/\(sy g i).lv=p.2/\p.1 < t.size
def Gd.get (G:Gd t g L) (h:i < g.length):∃p,L[i]?=ap p/\p∈L:=by
 rw [G.len] at h;exact⟨L[i],Ad h,BJ h⟩
theorem Vx (g:List Sy):g.map Sy.pv=(Ax g.length).map λi=>(sy g i).pv:=by
 apply A1;intro i;by_cases h:i < g.length
 ·rw [Ae,Ae,AR h,Hv h];rfl
 ·rw [Av (by simp;omega),Av (by simp;omega)]
def Gb (nd:t.ax.Nodup) (hj:j < t.size) {s:Sy} (hs:s.nm=pA (en t 0 j) j):cC (.cl ((t.nd 0).map Ent.pv)) s.pv=.ret (.int (j:Int)):=by
 have k0:∀(x:PV) (l:List PV),cq (x::l) 0=ap x:=λ_ _=>bM (j:=0) rfl;unfold cC;simp only [Sy.pv,f8,ay,bb,k0,sw,oB,hs];cases e:en t 0 j with
 | word w=>simp only [pA,fc,fU,f8,aY,if_true,Pm nd hj e]
 | pair a b=>simp only [pA,K0,f8];rfl
def G9 (ω:Str->Str) (t:Tr) (q:Nat×Nat):Nat×Nat:=(bw (tu ω t) q.1,q.2)
def NW (ω:Str->Str) (t:Tr) (L L':List (Nat×Nat)):List Nat:=L.map λp=>(L'.map (G9 ω t)).idxOf p
def qz (ω:Str->Str) (t:Tr) (L L':List (Nat×Nat)) (i:Nat):Nat:=(NW ω t L L').getD i 0
def zy (hL:∀q∈L',q.1 < t.size) (h:L[i]?=ap (j,n)) (hj:j < t.size) (hm:(bw t j,n)∈L'):L'[qz ω t L L' i]?=ap (bw t j,n):=by
 have e:qz ω t L L' i=(L'.map (G9 ω t)).idxOf (j,n):=by
  unfold qz NW;rw [Al,Ae,h];rfl
 have mm:(j,n)∈L'.map (G9 ω t):=Ar.mpr ⟨_,hm,by unfold G9;rw [fX t j hj]⟩;have:=uB mm;rw [<- e,Ae] at this;cases c:L'[qz ω t L L' i]? with
 | none=>rw [c] at this;cases this
 | some q=>
  rw [c] at this;have hq:=hL q (A7 c);have e1:G9 ω t q=(j,n):=Option.some.inj this;have e2:bw (tu ω t) q.1=j:=congrArg FH e1;have e3:q.2=n:=congrArg Prod.snd e1;obtain⟨a,b⟩:=q;rw [<- e2,nP t a hq,<- e3]
structure UI (t:Tr) (g g':List Sy) (L L':List (Nat×Nat)):Prop where
 wg:WG g t.ax
 UT:∃ws,WG g' ws
 gd:Gd t g L
 gd':Gd (tu om t) g' L'
 nd:L.Nodup
 fw:∀p∈L,(bw t p.1,p.2)∈L'
 bk:∀q∈L',G9 om t q∈L
 nd':L'.Nodup
 hm:Hm g g' (qz om t L L') om
def UI.lt' (P:UI t g g' L L'):∀q∈L',q.1 < t.size:=λq hq=>by
 obtain⟨i,hi,e⟩:=CA hq;have:=(P.gd'.at' i q (by rw [Ad hi,e])).2.2;rw [ba] at this;exact this
def UI.len (P:UI t g g' L L'):L'.length=L.length:=by
 have Ġ:(L'.map (G9 om t)).Nodup:=by
  refine List.Pairwise.map _ (λa b n=>n) ?_;refine A9.mpr λi j hi hj Vr e=>?_;have l1:=P.lt' _ (BJ hi);have l2:=P.lt' _ (BJ hj);have e1:bw (tu om t) L'[i].1=bw (tu om t) L'[j].1:=congrArg FH e;have e2:=congrArg Prod.snd e;have e2:L'[i].2=L'[j].2:=e2;have e3:=nN (by rw [ba];exact l1) (by rw [ba];exact l2) e1;exact (A9.mp P.nd') i j hi hj Vr (Prod.ext e3 e2)
 have:(L'.map (G9 om t)).Perm L:=(Ee Ġ P.nd).mpr λp=>⟨λh=>by
  obtain⟨q,hq,rfl⟩:=Ar.mp h;exact P.bk q hq,λh=>by
  obtain⟨i,hi,e⟩:=CA h;have hl:=(P.gd.at' i p (by rw [Ad hi,e])).2.2;exact Ar.mpr ⟨_,P.fw p h,by unfold G9;rw [fX t p.1 hl]⟩⟩
 rw [<- this.length_eq,Ag]
theorem UI.ne (P:UI t g g' L L') (hx:x < g.length) (hn:n∈(sy g x).un):qz om t L L' x≠qz om t L L' n:=λe=>by
 have lt:=P.wg.dn x hx n hn;obtain⟨⟨j,m⟩,h1,m1⟩:=P.gd.get hx;obtain⟨⟨k,o⟩,h2,m2⟩:=P.gd.get (show n < g.length by omega);have l1:=(P.gd.at' _ _ h1).2.2;have l2:=(P.gd.at' _ _ h2).2.2;have a1:=zy (ω:=om) P.lt' h1 l1 (P.fw _ m1);have a2:=zy (ω:=om) P.lt' h2 l2 (P.fw _ m2);rw [e,a2] at a1;injection a1 with a1;have e1:bw t k=bw t j:=congrArg FH a1;have e2:o=m:=congrArg Prod.snd a1;have e3:=nN l2 l1 e1;subst e3;subst e2;have i1:=pM P.nd h1;have i2:=pM P.nd h2;have:=i1.symm.trans i2;omega
theorem OB (hf:∀x,x < g.length->∀n∈(sy g x).un,f x≠f n):∀{p:List Nat}{i:Nat},Ch g (p++[i])->pf f p i=p.map f
 | [],i,h=>rfl
 | x::r,i,h=>by
  obtain⟨hx,hn,hr⟩:=Lb h;rw [pf,if_neg (hf x hx _ hn),OB hf hr];rfl
theorem LQ (D:DD t ds) (hz:t.size<=15) (hb:(aG t ds).length<=16):UI t (dS t ds (aG t ds)) (dS (tu om t) (pU om t ds) (aG t ds)) (aJ t ds (aG t ds) (aG t ds).length) (aJ (tu om t) (pU om t ds) (aG t ds) (aG t ds).length):=by
 have ts:=ba (ω:=om) t;have ok:=D.ok;unfold okD at ok;have nd:=eS t ds (aG t ds) (aG t ds).length;have nd':=eS (tu om t) (pU om t ds) (aG t ds) (aG t ds).length;have wg:=zf D hz hb;have UT:=zf (D.tu (ω:=om)) ∅ (by rw [yG];exact hb);rw [yG] at UT;have st:=λ(j n:Nat)=>NR (ω:=om) (t:=t) (ds:=ds) (bs:=aG t ds) (m:=(aG t ds).length) (j:=j) (n:=n);have mem:=λp=>@eg t ds (aG t ds) (aG t ds).length p;have aaV:=λp=>@eg (tu om t) (pU om t ds) (aG t ds) (aG t ds).length p;have hS:∀(t:Tr) (ds bs:List Int) i p,(aJ t ds bs bs.length)[i]?=ap p->sy (dS t ds bs) i=⟨pA (en t 0 p.1) p.1,p.2,(qr (en t 0 p.1) p.1 (ds.getD p.1 0) (bs.getD p.2 0)).map λx=>(aJ t ds bs bs.length).idxOf (x,p.2-1),Ut (aJ t ds bs bs.length) p.1 p.2⟩:=λt ds bs i p hp=>by
  unfold sy dS;rw [Al,Ae,hp];rfl
 have s1:=hS t ds (aG t ds);have s2:=hS (tu om t) (pU om t ds) (aG t ds);have hL:=Jg t ds (aG t ds);have hL':=Jg (tu om t) (pU om t ds) (aG t ds);generalize aJ t ds (aG t ds) (aG t ds).length=L at *;generalize aJ (tu om t) (pU om t ds) (aG t ds) (aG t ds).length=L' at *;have lt':∀q∈L',q.1 < t.size:=λq hq=>by have:=(aaV q hq).2;rw [ts] at this;exact this
 have get:∀i,i < (dS t ds (aG t ds)).length->∃p,L[i]?=ap p/\p∈L:=λi hi=>by
  rw [hL] at hi;exact⟨L[i],Ad hi,BJ hi⟩
 have fw:∀p∈L,(bw t p.1,p.2)∈L':=λp hp=>(st p.1 p.2 (mem p hp).2).mpr hp;have fI:∀{j n:Nat},(j,n)∈L->qz om t L L' (L.idxOf (j,n))=L'.idxOf (bw t j,n):=λ{j n} h=>(pM nd' (zy lt' (uB h) (mem _ h).2 (fw _ h))).symm;refine⟨wg,⟨_,UT⟩,⟨hL,λi p hp=>?_⟩,⟨hL',λi p hp=>?_⟩,nd,fw,λq hq=>?_,nd',⟨λi hi=>?_,λi hi=>?_,UT.dn,λi hi o ho=>?_,λi hi w hw=>?_⟩⟩
 ·rw [s1 i p hp];exact⟨rfl,rfl,(mem p (A7 hp)).2⟩
 ·rw [s2 i p hp];exact⟨rfl,rfl,(aaV p (A7 hp)).2⟩
 ·have hl:=lt' q hq;have hr:=cJ (tu om t) q.1 (by rw [ts];exact hl);rw [ts] at hr;refine (st _ _ hr).mp ?_;rw [nP t q.1 hl];exact hq
 all_goals
  obtain⟨⟨j,n⟩,hp,Ķ⟩:=get i hi;have hj:=(mem _ Ķ).2;have a1:=zy (ω:=om) lt' hp hj (fw _ Ķ)
 ·rw [hL'];exact (Ak.mp a1).1
 ·right
  have okp:=ok _ Ķ;rw [s1 i _ hp,s2 _ _ a1];show (qr (en (tu om t) 0 (bw t j)) (bw t j) ((pU om t ds).getD (bw t j) 0) ((aG t ds).getD n 0)).map (λx=>L'.idxOf (x,n-1))=((qr (en t 0 j) j (ds.getD j 0) ((aG t ds).getD n 0)).map λx=>L.idxOf (x,n-1)).map (qz om t L L')\/(qr (en (tu om t) 0 (bw t j)) (bw t j) ((pU om t ds).getD (bw t j) 0) ((aG t ds).getD n 0)).map (λx=>L'.idxOf (x,n-1))=(((qr (en t 0 j) j (ds.getD j 0) ((aG t ds).getD n 0)).map λx=>L.idxOf (x,n-1)).map (qz om t L L')).reverse;rw [kg hj,kf hj];have fx:∀x,x∈qr (en t 0 j) j (ds.getD j 0) ((aG t ds).getD n 0)->qz om t L L' (L.idxOf (x,n-1))=L'.idxOf (bw t x,n-1):=λx hx=>fI (okp x hx).2;revert fx;unfold qr
  split
  ·intro fx
   left
   show [_]=[_];rw [fx j (.head _)]
  ·cases en t 0 j with
   | word w=>exact λ_=>.inl rfl
   | pair x y=>
    intro fx
    right
    show [L'.idxOf (bw t y,n-1),L'.idxOf (bw t x,n-1)]=[qz om t L L' (L.idxOf (y,n-1)),qz om t L L' (L.idxOf (x,n-1))];rw [fx x (by simp),fx y (by simp)]
 ·rw [s1 i _ hp] at ho;obtain⟨⟨k,m⟩,hx,rfl⟩:=Ar.mp (show o∈Ut L j n from ho);obtain⟨xL,h2⟩:=Ay.mp hx;simp at h2;obtain⟨rfl,kj⟩:=h2;rw [s2 _ _ a1,fI xL];refine Ar.mpr ⟨(bw t k,m),Ay.mpr ⟨fw _ xL,?_⟩,rfl⟩;have:bw t k≠bw t j:=λz=>kj (nN (mem _ xL).2 hj z);simp [this]
 ·unfold hm at hw ⊢;rw [s1 i _ hp] at hw;rw [s2 _ _ a1];revert hw;show ((((qr (en t 0 j) j (ds.getD j 0) ((aG t ds).getD n 0)).map λx=>L.idxOf (x,n-1)).isEmpty&&pH w (pA (en t 0 j) j))=true)->(((qr (en (tu om t) 0 (bw t j)) (bw t j) ((pU om t ds).getD (bw t j) 0) ((aG t ds).getD n 0)).map λx=>L'.idxOf (x,n-1)).isEmpty&&pH (om w) (pA (en (tu om t) 0 (bw t j)) (bw t j)))=true;rw [kg hj,kf hj];unfold qr
  split
  ·intro h;cases h
  ·cases en t 0 j with
   | word x=>
    intro h;have:x=w:=by simpa [pA,pH] using h
    subst this;simp [R3,pA,pH]
   | pair x y=>intro h;cases h
def LB (n:Nat):List (Nat×Nat):=(Ax n).map λj=>(j,0)
theorem Q5 {p:Nat×Nat} (h:(LB n)[i]?=ap p):i < n/\p=(i,0):=by
 unfold LB at h;rw [Ae] at h;by_cases c:i < n
 ·rw [AR c] at h;exact⟨c,(Option.some.inj h).symm⟩
 ·rw [Av (by simp;omega)] at h;cases h
def YQ (h:i < n):(LB n)[i]?=ap (i,0):=by
 unfold LB;rw [Ae,AR h];rfl
def JI (h:j < n):(j,0)∈LB n:=Ar.mpr ⟨j,Aw.mpr h,rfl⟩
theorem OM (hz:t.size<=30):UI t (gS t) (gS (tu om t)) (LB t.size) (LB t.size):=by
 have ts:=ba (ω:=om) t;have wg:=vt hz;have UT:=vt (show (tu om t).size<=30 by omega);have lt':∀q∈LB t.size,q.1 < t.size/\q.2=0:=λq hq=>by
  obtain⟨j,hj,rfl⟩:=Ar.mp hq;exact⟨Aw.mp hj,rfl⟩
 have nd:(LB t.size).Nodup:=xC (λx y h=>congrArg FH h) EE;have fw:∀p∈LB t.size,(bw t p.1,p.2)∈LB t.size:=λp hp=>by
  obtain⟨h1,h2⟩:=lt' p hp;rw [h2];exact JI (cJ t _ h1)
 have fE:∀{i},i < t.size->qz om t (LB t.size) (LB t.size) i=bw t i:=λ{i} hi=>by
  have:=zy (ω:=om) (λq hq=>(lt' q hq).1) (YQ hi) hi (JI (cJ t i hi));have:=(Q5 this).2;exact (congrArg FH this).symm
 refine⟨wg,⟨_,UT⟩,⟨by rw [fC];simp [LB],λi p hp=>?_⟩,⟨by rw [fC,ts];simp [LB],λi p hp=>?_⟩,nd,fw,λq hq=>?_,nd,⟨λi hi=>?_,λi hi=>?_,UT.dn,λi hi o ho=>?_,λi hi w hw=>?_⟩⟩
 ·obtain⟨h1,rfl⟩:=Q5 hp;rw [ik t h1];exact⟨rfl,rfl,h1⟩
 ·obtain⟨h1,rfl⟩:=Q5 hp;rw [<- ts] at h1;rw [ik _ h1];exact⟨rfl,rfl,h1⟩
 ·obtain⟨h1,h2⟩:=lt' q hq;have hr:=cJ (tu om t) q.1 (by rw [ts];exact h1);rw [ts] at hr;unfold G9;rw [h2];exact JI hr
 all_goals
  rw [fC] at hi;have hr:bw t i < (tu om t).size:=by rw [ts];exact cJ t i hi
  rw [fE hi]
 ·rw [fC];exact hr
 ·right
  rw [ik _ hr,ik t hi];show vS (en (tu om t) 0 (bw t i))=(vS (en t 0 i)).map _\/vS (en (tu om t) 0 (bw t i))=((vS (en t 0 i)).map _).reverse;rw [kf hi];cases e:en t 0 i with
  | word w=>exact .inl rfl
  | pair a b=>
   obtain⟨h1,h2⟩:=cV t hi e
   right
   show [bw t b,bw t a]=[qz om t _ _ b,qz om t _ _ a];rw [fE ∅,fE ∅]
 ·rw [ik t hi] at ho;have ho:o∈UA t i:=ho;rw [ik _ hr,fE (Aw.mp (Ay.mp ho).1)];exact YG hi ho
 ·unfold hm at hw ⊢;rw [ik t hi] at hw;rw [ik _ hr];revert hw;show ((vS (en t 0 i)).isEmpty&&pH w (pA (en t 0 i) i))=true->((vS (en (tu om t) 0 (bw t i))).isEmpty&&pH (om w) (pA (en (tu om t) 0 (bw t i)) (bw t i)))=true;rw [kf hi];cases en t 0 i with
  | word x=>
   intro h;have:x=w:=by simpa [pA,pH,vS] using h
   subst this;simp [R3,pA,pH,vS]
  | pair x y=>intro h;cases h
theorem sT {S:List Nat} (hf:∀i,f i=S.getD i 0) (hl:S.length=g.length) (hn:∀x,x < g.length->∀n∈(sy g x).un,f x≠f n):∀(n:Nat) {u:WT}{s:Tr},u.Ok g s->u.depth < n->(bF n u.pv (.cl (av S))).le (.ret (wm f u).pv)
 | 0,_,_,_,h=>absurd h (E6 _)
 | n+1,u,s,h,hd=>λQ q=>by
  have i0:∀(a:PV) (l:List PV),cq (a::l) 0=ap a:=λ_ _=>bM (j:=0) rfl;have i1:∀(a b:PV) (l:List PV),cq (a::b::l) 1=ap b:=λ_ _ _=>bM (j:=1) rfl;have path:∀{p:List Nat}{i:Nat},Ch g (p++[i])->∀{R:List PV->Prop},R (av (pf f p i++[f i]))->(mapW (av (p++[i])) λp3=>KA (av S) p3).run R:=λ{p i} c R r=>by
   refine md (λk=>.int (f k:Int)) (λk hk=>by rw [hf];exact HM (by rw [hl];exact c.lt k hk)) ?_;have:(p++[i]).map (λk=>PV.int (f k:Int))=av (pf f p i++[f i]):=by
    rw [OB hn c];unfold av;simp
   rw [this];exact r
  unfold bF;rw [u.pv_eq];simp only [f8,ay,bb,i0,i1,sw,ce,bC,iO,lN,u.cut2]
  match u,s,h,hd,q with
  | .lf p i,.leaf w,h,hd,q=>
   refine path h.1 ?_;have em:∀k,mapW ([]:List PV) k=.ret []:=λ_=>rfl;simp only [WT.kids,Dl,em,lM,ev,yi];exact⟨a8 (by simp),q⟩
  | .nd p i nm a b,.node l r,h,hd,q=>
   have Px:max a.depth b.depth+1 < n+1:=hd;refine path h.1 ?_;simp only [lM,ev,WT.kids,Az,Dl];show (am (bF n a.pv _) λy=>am (am (bF n b.pv _) λz=>[]\λm=>bd (z::m)) λm=>bd (y::m)).run _;simp only [ce];refine W.le.use (sT hf hl hn n h.2.2.1 ∅) ?_;refine W.le.use (sT hf hl hn n h.2.2.2 ∅) ?_;simp only [ev,lM,yi];exact⟨a8 (by simp),q⟩
theorem law24_ok:∀ns:List Int,ns.length<=63->(n6 (.cl (ns.map PV.int))).run (·=.bl true):=λns hn=>by
 unfold n6;simp only [f8,ce,fR,Ag,Yk,Yl,ev];obtain⟨k,hk,k1⟩:∃k:Nat,(if (if (6:Int) < (ns.length:Int) then (6:Int) else (ns.length:Int)) > 1 then (if (6:Int) < (ns.length:Int) then (6:Int) else (ns.length:Int)) else 1)=(k:Int)/\k<=6:=by
  refine⟨(if (if (6:Int) < (ns.length:Int) then (6:Int) else (ns.length:Int)) > 1 then (if (6:Int) < (ns.length:Int) then (6:Int) else (ns.length:Int)) else 1).toNat,?_,?_⟩ <;> split <;> split <;> omega
 rw [hk];simp only [gJ,pr (cR (i:=0) (j:=(k:Int)) ∅ ∅),ev,A2];refine PX (λ_ _=>True) trivial (λi _ hi _=>?_) (λ_ _=>rfl);simp only [ce];refine Sg ∅ λl hl=>⟨hl,?_⟩;simp only [ce];refine Iv λt gr=>?_;have hz:=gr.size;have hdp:=gr.depth;have ts:=ba (ω:=om) t;have td:=rY (ω:=om) t;have c1:(aZ 12 t.pv (.int 1)).le (.ret (tu om t).pv):=mx (q:=true) 12 t ∅ gr.ws;refine W.le.use c1 ?_;refine W.le.use (mX 12 t 0 ∅ ∅) ?_;simp only [ev,lL];refine W.le.use (gN 12 t ∅ ∅) ?_;refine W.le.use (gN 12 (tu om t) ∅ ∅) ?_;refine W.le.use (vV t ∅) ?_;refine W.le.use (vV (tu om t) ∅) ?_;rw [<- Vy,<- Vy];simp only [da 2 ⋯ ⋯];refine bD λd _ _=>?_;simp only [dD,bA,ev];have hN:(nV t 0).length=t.size:=g8 t 0;have hNa:∀j,j < t.size->(nV t 0).getD j 0=bw (tu om t) j:=λj hj=>by
  rw [lY om,Al,Ae,AR hj];show 0+_=_;rw [AG]
 refine W.mono _ (Q:=λs=>∃g g' L L',s=(gC g,gC g')/\UI t g g' L L') (λs hs=>?_) ?_
 ·obtain⟨g,g',L,L',rfl,P⟩:=hs;have k1:∀(a b:PV) (l:List PV),cq (a::b::l) 1=ap b:=λ_ _ _=>bM (j:=1) rfl;have pl:=P.len;have gl:=P.gd.len;have gl':=P.gd'.len;have e1:aw (gC g')=.ret ((Ax g'.length).map λi=>(sy g' i).pv):=by unfold gC;rw [ay,Vx]
  have e2:aw (gC g)=.ret ((Ax g.length).map λi=>(sy g i).pv):=by unfold gC;rw [ay,Vx]
  simp only [e1,ev,ce];refine eU (λi=>prV (G9 om t (L'.getD i (0,0)))) (λi hi R r=>?_) ?_
  ·have hi:=Aw.mp hi;obtain⟨q,hq,mq⟩:=P.gd'.get hi;obtain⟨n1,n2,n3⟩:=P.gd'.at' i q hq;rw [Al,hq] at r;have Ĳ:=P.lt' q mq;have r:R (.tup [.int (bw (tu om t) q.1:Int),.int (q.2:Int)]):=r;rw [Gb (ZG gr) n3 n1];simp only [f8,bC,HM (show q.1 < (nV t 0).length by omega),hNa q.1 Ĳ,Sy.pv,ay,bb,k1,sw,n2];exact r
  ·have e3:(Ax g'.length).map (λi=>prV (G9 om t (L'.getD i (0,0))))=zL (L'.map (G9 om t)):=by
    rw [prP_eq,gl',AH];apply A1;intro i;by_cases h:i < L'.length
    ·rw [Ae,AR h,Ae,Ad h];simp [Al,Ad h]
    ·rw [Av (by simp;omega),Av (by simp;omega)]
   rw [e3];simp only [e2,ev,ce,oB];refine eU (λi=>.int (qz om t L L' i:Int)) (λi hi R r=>?_) ?_
   ·have hi:=Aw.mp hi;obtain⟨q,hq,mq⟩:=P.gd.get hi;obtain⟨n1,n2,n3⟩:=P.gd.at' i q hq;have em:q∈L'.map (G9 om t):=Ar.mpr ⟨_,P.fw q mq,by unfold G9;rw [fX t q.1 n3]⟩;have es:qz om t L L' i=(L'.map (G9 om t)).idxOf q:=by
     unfold qz NW;rw [Al,Ae,hq];rfl
    rw [es] at r;rw [Gb gr.nd n3 n1];simp only [f8,Sy.pv,ay,bb,k1,sw,n2];have:=idx_pr em;unfold prV at this;rw [this];exact r
   ·have e4:(Ax g.length).map (λi=>PV.int (qz om t L L' i:Int))=av (NW om t L L'):=by
     have hs:(NW om t L L').length=g.length:=by unfold NW;rw [Ag,gl]
     rw [<- hs];unfold av;apply A1;intro i;by_cases h:i < (NW om t L L').length
     ·rw [Ae,AR h,Ae,Ad h];unfold qz;simp [Al,Ad h]
     ·rw [Av (by simp;omega),Av (by simp;omega)]
    rw [e4];have hs:(NW om t L L').length=g.length:=by unfold NW;rw [Ag,gl]
    have hf:∀i,qz om t L L' i=(NW om t L L').getD i 0:=λi=>rfl;have M:=P.hm;have KL:∀x,x < g.length->∀n∈(sy g x).un,qz om t L L' x≠qz om t L L' n:=λx hx n hn=>P.ne hx hn;have G:=P.wg;obtain⟨pZ,G'⟩:=P.UT;generalize qz om t L L'=f at M hf KL;generalize NW om t L L'=S at hs hf ⊢;refine LC gr λu hu hul=>?_;have uz:u.size<=300:=by have:=u.size_eq;omega
    have ud:u.depth < 12:=by have:=u.oI;omega
    have uw:u.Ws:=λw hw=>gr.ws w (hu w hw);refine whole_run G hu ud ∅ λi0 w0 W0=>?_;obtain⟨v,rfl,vp,ok⟩:=wok_root W0;have vz:=ok.size;have vd:=ok.depth;refine W.le.use (sT hf hs KL 12 ok ∅) ?_;have ğ:=M.ok ok;have vz2:=ğ.size;rw [rJ] at vz2;have W2:=ok_root ğ;rw [VY f vp] at W2;have uw2:(cm om u).Ws:=λw hw=>by
     rw [pW] at hw;obtain⟨x,hx,rfl⟩:=Ar.mp hw;exact aaJ (uw x hx)
    have x1:((([i0]:List Nat).length:Int)==1)=true:=rfl;have x2:((([f i0]:List Nat).length:Int)==1)=true:=rfl;refine W.le.use (F9 G uw ∅ W0) ?_;simp only [x1,v8,beq_self_eq_true,Bz,bA,ev,An,if_false,ce];have c0:(aZ 12 u.pv (.int 0)).le (.ret (cm om u).pv):=mx (q:=false) 12 u ∅ uw;refine W.le.use c0 ?_;refine W.le.use (F9 G' uw2 (by rw [rJ];omega) W2) ?_;simp only [x2,v8,beq_self_eq_true,Bz,bA,ev,An,if_false,ce];refine W.le.use (counted_le (wm f v) ∅ (ok_kn G' ğ)) ?_;refine W.le.use (counted_le v ∅ (ok_kn G ok)) ?_;rw [M.due ok];have sm:(m__law_same 4 (dueP g v.post) (dueP g v.post)).le (.ret (.bl true)):=same_self (.tup (λx hx=>by
     simp at hx;rcases hx with rfl | rfl | rfl | rfl <;> exact .int) (by simp))
    refine W.le.use sm ?_;have l1:qc cY [gC g]=.ret (.int (g.length:Int)):=by unfold gC;rw [cx,Ag]
    have l2:qc cY [gC g']=.ret (.int (g.length:Int)):=by unfold gC;rw [cx,Ag,gl',pl,<- gl]
    simp only [aY,ev,Bz,An,if_false,ce,l1,l2,yg,beq_self_eq_true,bA];refine W.le.use (places_le (wm f v) ∅) ?_;refine W.le.use (places_le v ∅) ?_;simp only [ay,ev];refine eU (λx=>(wm f x).plc) (λx hx R r=>?_) ?_
    ·obtain⟨p,ep⟩:=x.path_eq;have c:=Kl ok x hx;rw [ep] at c;have r:R (.tup [.int ((wm f x).at':Int),.str (wm f x).deed]):=r;rw [ZA,JK,hf] at r;simp only [WT.plc,lL,f8,bC,HM (show x.at' < S.length by rw [hs];exact c.last)];exact r
    ·have em:v.post.map (λx=>(wm f x).plc)=(wm f v).post.map WT.plc:=by rw [nA,AH];rfl
     rw [em];simp only [lM,ev];have pl:=(wm f v).post_len;have sm2:(m__law_same 4 (.tup ((wm f v).post.map WT.plc)) (.tup ((wm f v).post.map WT.plc))).le (.ret (.bl true)):=same_self (.tup (λx hx=>by
      obtain⟨y,_,rfl⟩:=Ar.mp hx;exact .tup (λz hz=>by
       simp at hz;rcases hz with rfl | rfl
       ·exact .int
       ·exact .str) (by simp)) (by rw [Ag];omega))
     refine W.le.use sm2 ?_;simp only [aY,ev,Bz,An,if_false]
 ·cases d==0 with
  | false=>exact⟨_,_,_,_,rfl,OM ∅⟩
  | true=>
   simp only [if_true,ce];refine MR t ∅ λds d D ajI=>?_;have TC:(splits t).length<=7:=by have:=Hx t;have:=gr.few;omega
   have Ĕ:=DD.of (D.isD ∅);have hb:(aG t ds).length<=16:=by unfold aG;rw [Ap,o5];have:=J4 t ds;omega
   refine W.le.use (GQ Ĕ ∅) ?_;simp only [bC,ay,ev];refine md (λk=>.int (ds.getD k 0)) (λk hk=>?_) ?_
   ·have hk:k < ds.length:=by
     rw [lY om] at hk;obtain⟨j,hj,rfl⟩:=Ar.mp hk;have:=cJ (tu om t) j (by rw [ts];exact Aw.mp hj);rw [Ĕ.len];omega
    exact fB (by unfold dm;rw [Ae,Al,Ad hk];rfl)
   ·have e5:(nV t 0).map (λk=>PV.int (ds.getD k 0))=dm (pU om t ds):=by
     rw [lY om];unfold dm pU;rw [AH,AH];refine Bj λj _=>?_;simp [Dx]
    rw [e5];simp only [lM,ev];refine W.le.use (GQ (Ĕ.tu (ω:=om)) ∅) ?_;rw [yG,<- VJ,<- VJ];exact⟨_,_,_,_,rfl,LQ Ĕ hz hb⟩
end My
variable {kY vA JR zm NP JT JS NN vB:PySem.Tok}{rK:BV}
namespace My
section
open PySem PySem.Spec PyProof.Rows L2 PL FL
def top (i:Nat):tt:=PySem.Challenge.pw_treewithin_k24_whole_great_trees_turned.main.body.getD i (.Pass ⟨0,0,0,0⟩)
def sc_is_whole:aq ["thing"] ["thing"] (ag (top 1)):=fh
def sc_is_row:aq ["thing","many"] ["thing","many"] (ag (top 2)):=fh
abbrev N_is_word:List Str:=["thing"]
def sc_is_word:aq N_is_word ["thing"] (ag (top 6)):=fh
abbrev lsc_is_word_0:lm:=jL [("sign",lo),("LETTERS",gi)]
def lc_is_word_0:aA (ag (top 6)) N_is_word lsc_is_word_0 ["sign"] [bm]:=lcs
def sc_is_grown:aq ["thing","is_leaf","often","seen","waiting","part"] ["thing","is_leaf","often"] (ag (top 7)):=fh
def sc_is_tree:aq ["thing"] ["thing"] (ag (top 8)):=fh
def sc_parts_of:aq ["tree","backward","waiting","part"] ["tree"] (ag (top 9)):=fh
def sc_nodes:aq ["tree","told","loose","part","other","one"] ["tree"] (ag (top 10)):=fh
def sc_halves:aq ["node"] ["node"] (ag (top 11)):=fh
abbrev N_ahead_of:List Str:=["tree","told","node","ahead","number","half"]
def sc_ahead_of:aq N_ahead_of ["tree"] (ag (top 12)):=fh
abbrev lsc_ahead_of_0:lm:=jL [("node",lo)]
def lc_ahead_of_0:aA (ag (top 12)) N_ahead_of lsc_ahead_of_0 ["node"] [bm]:=lcs
def sc_under_at:aq ["stays","stay"] ["stays","stay"] (ag (top 17)):=fh
def sc_beside_at:aq ["stays","stay"] ["stays","stay"] (ag (top 18)):=fh
def sc_is_home:aq ["stays","stay","word"] ["stays","stay","word"] (ag (top 19)):=fh
def sc_name_of:aq ["houses","house"] ["houses","house"] (ag (top 20)):=fh
abbrev N_lines_up:List Str:=["great","ahead","house","lines","above"]
def sc_lines_up:aq N_lines_up ["great"] (ag (top 21)):=fh
abbrev lsc_lines_up_0:lm:=jL [("house",lo)]
def lc_lines_up_0:aA (ag (top 21)) N_lines_up lsc_lines_up_0 ["house"] [bm]:=lcs
abbrev N_apart_from:List Str:=["lines","house"]
def sc_apart_from:aq N_apart_from ["lines","house"] (ag (top 22)):=fh
abbrev lsc_apart_from_0:lm:=jL [("far",lo),("house",fr),("lines",fr)]
def lc_apart_from_0:aA (ag (top 22)) N_apart_from lsc_apart_from_0 ["far","house","lines"] [bm,ap 1,ap 0]:=lcs
abbrev N_ground:List Str:=["great","houses","lines"]
def sc_ground:aq N_ground ["great"] (ag (top 23)):=fh
abbrev lsc_ground_0:lm:=jL [("house",lo),("name_of",gi),("halves",gi),("apart_from",gi),("houses",fr),("lines",fr)]
def lc_ground_0:aA (ag (top 23)) N_ground lsc_ground_0 ["house","houses","lines"] [bm,ap 1,ap 2]:=lcs
def sc_comes_in:aq ["way"] ["way"] (ag (top 30)):=fh
def sc_done_at:aq ["way"] ["way"] (ag (top 31)):=fh
abbrev N_ins_of:List Str:=["way"]
def sc_ins_of:aq N_ins_of ["way"] (ag (top 32)):=fh
abbrev lsc_ins_of_0:lm:=jL [("half",lo),("comes_in",gi)]
def lc_ins_of_0:aA (ag (top 32)) N_ins_of lsc_ins_of_0 ["half"] [bm]:=lcs
def sc_split_ins:aq ["ground","stay","under"] ["ground","stay"] (ag (top 33)):=fh
abbrev N_over_ins:List Str:=["ground","stay","beside"]
def sc_over_ins:aq N_over_ins ["ground","stay"] (ag (top 34)):=fh
abbrev lsc_over_ins_0:lm:=jL [("far",lo),("stay",fr)]
abbrev lsc_over_ins_1:lm:=jL [("far",lo),("stay",fr)]
def lc_over_ins_0:aA (ag (top 34)) N_over_ins lsc_over_ins_0 ["far","stay"] [bm,ap 1]:=lcs
def lc_over_ins_1:aA (ag (top 34)) N_over_ins lsc_over_ins_1 ["far","stay"] [bm,ap 1]:=lcs
abbrev N_deeds_at:List Str:=["ground","node","stay","split","over"]
def sc_deeds_at:aq N_deeds_at ["ground","node","stay"] (ag (top 35)):=fh
abbrev lsc_deeds_at_0:lm:=jL [("ins",lo),("SPLIT",gi)]
abbrev lsc_deeds_at_1:lm:=jL [("ins",lo),("OVER",gi)]
def lc_deeds_at_0:aA (ag (top 35)) N_deeds_at lsc_deeds_at_0 ["ins"] [bm]:=lcs
def lc_deeds_at_1:aA (ag (top 35)) N_deeds_at lsc_deeds_at_1 ["ins"] [bm]:=lcs
def sc_is_stay:aq ["ground","thing"] ["ground","thing"] (ag (top 36)):=fh
abbrev N_is_path:List Str:=["ground","thing"]
def sc_is_path:aq N_is_path ["ground","thing"] (ag (top 37)):=fh
abbrev lsc_is_path_0:lm:=jL [("stay",lo),("is_stay",gi),("ground",fr)]
abbrev lsc_is_path_1:lm:=jL [("stay",lo),("below",lo),("under_at",gi),("ground",fr)]
def lc_is_path_0:aA (ag (top 37)) N_is_path lsc_is_path_0 ["stay","ground"] [bm,ap 0]:=lcs
def lc_is_path_1:aA (ag (top 37)) N_is_path lsc_is_path_1 ["stay","below","ground"] [bm,bm,ap 0]:=lcs
def sc_is_formed:aq ["ground","node","thing","many"] ["ground","node","thing"] (ag (top 38)):=fh
abbrev N_ways_of_nodes:List Str:=["ground","told","thing","node","ways","number","way","half","part"]
def sc_ways_of_nodes:aq N_ways_of_nodes ["ground","told","thing"] (ag (top 39)):=fh
abbrev lsc_ways_of_nodes_0:lm:=jL [("node",lo)]
def lc_ways_of_nodes_0:aA (ag (top 39)) N_ways_of_nodes lsc_ways_of_nodes_0 ["node"] [bm]:=lcs
def sc_is_done:aq ["ground","node","way"] ["ground","node","way"] (ag (top 40)):=fh
abbrev N_is_way:List Str:=["ground","small","thing","told","ways"]
def sc_is_way:aq N_is_way ["ground","small","thing"] (ag (top 41)):=fh
abbrev lsc_is_way_0:lm:=jL [("node",lo),("way",lo),("is_done",gi),("ground",fr)]
def lc_is_way_0:aA (ag (top 41)) N_is_way lsc_is_way_0 ["node","way","ground"] [bm,bm,ap 0]:=lcs
def sc_ways_within:aq ["way","backward","waiting","part"] ["way"] (ag (top 42)):=fh
abbrev N_places:List Str:=["way"]
def sc_places:aq N_places ["way"] (ag (top 43)):=fh
abbrev lsc_places_0:lm:=jL [("part",lo),("done_at",gi)]
def lc_places_0:aA (ag (top 43)) N_places lsc_places_0 ["part"] [bm]:=lcs
abbrev N_split_dates:List Str:=["houses","dates"]
def sc_split_dates:aq N_split_dates ["houses","dates"] (ag (top 45)):=fh
abbrev lsc_split_dates_0:lm:=jL [("house",lo),("date",lo),("isinstance",gi),("str",gi)]
def lc_split_dates_0:aA (ag (top 45)) N_split_dates lsc_split_dates_0 ["house","date"] [bm,bm]:=lcs
def sc_standing:aq ["great","dates","begins","ahead","pairs","number","begin","house","date"] ["great","dates","begins"] (ag (top 46)):=fh
abbrev N_stay_of:List Str:=["houses","dates","begins","numbers","pair","house","layer","goes_on","below","under","beside"]
def sc_stay_of:aq N_stay_of ["houses","dates","begins","numbers","pair"] (ag (top 47)):=fh
abbrev lsc_stay_of_0:lm:=jL [("each",lo),("layer",fr),("numbers",fr)]
abbrev lsc_stay_of_1:lm:=jL [("far",lo),("house",fr),("layer",fr),("numbers",fr)]
def lc_stay_of_0:aA (ag (top 47)) N_stay_of lsc_stay_of_0 ["each","layer","numbers"] [bm,ap 6,ap 3]:=lcs
def lc_stay_of_1:aA (ag (top 47)) N_stay_of lsc_stay_of_1 ["far","house","layer","numbers"] [bm,ap 5,ap 6,ap 3]:=lcs
abbrev N_dated:List Str:=["great","dates","houses","begins","pairs","numbers"]
def sc_dated:aq N_dated ["great","dates"] (ag (top 48)):=fh
abbrev lsc_dated_0:lm:=jL [("number",lo),("pair",lo)]
abbrev lsc_dated_1:lm:=jL [("pair",lo),("stay_of",gi),("begins",fr),("dates",fr),("houses",fr),("numbers",fr)]
def lc_dated_0:aA (ag (top 48)) N_dated lsc_dated_0 ["number","pair"] [bm,bm]:=lcs
def lc_dated_1:aA (ag (top 48)) N_dated lsc_dated_1 ["pair","begins","dates","houses","numbers"] [bm,ap 3,ap 1,ap 2,ap 5]:=lcs
abbrev N_lost_on:List Str:=["ground","path"]
def sc_lost_on:aq N_lost_on ["ground","path"] (ag (top 50)):=fh
abbrev lsc_lost_on_0:lm:=jL [("stay",lo),("len",gi),("under_at",gi),("ground",fr)]
def lc_lost_on_0:aA (ag (top 50)) N_lost_on lsc_lost_on_0 ["stay","ground"] [bm,ap 0]:=lcs
abbrev N_counted:List Str:=["ground","way","parts","done","lost"]
def sc_counted:aq N_counted ["ground","way"] (ag (top 51)):=fh
abbrev lsc_counted_0:lm:=jL [("part",lo)]
abbrev lsc_counted_1:lm:=jL [("part",lo),("lost_on",gi),("ground",fr)]
abbrev lsc_counted_2:lm:=jL [("deed",lo),("done",fr)]
def lc_counted_0:aA (ag (top 51)) N_counted lsc_counted_0 ["part"] [bm]:=lcs
def lc_counted_1:aA (ag (top 51)) N_counted lsc_counted_1 ["part","ground"] [bm,ap 0]:=lcs
def lc_counted_2:aA (ag (top 51)) N_counted lsc_counted_2 ["deed","done"] [bm,ap 3]:=lcs
def sc__law_pot:aq ["_law_script","_law_k","_law_cell","_law_digits"] ["_law_script","_law_k"] (ag (top 53)):=fh
def sc__law_take:aq ["_law_pot_here","_law_many","_law_digit","_law_mixed"] ["_law_pot_here","_law_many"] (ag (top 54)):=fh
def sc__law_pick:aq ["_law_pot_here","_law_some"] ["_law_pot_here","_law_some"] (ag (top 55)):=fh
def sc__law_words:aq ["_law_pot_here","_law_many","_law_letters","_law_first","_law_turn","_law_stem","_law_ends","_law_found","_law_k","_law_letter"] ["_law_pot_here","_law_many"] (ag (top 56)):=fh
def sc__law_tree:aq ["_law_pot_here","_law_words_here","_law_some","_law_way_here","_law_at","_law_pair"] ["_law_pot_here","_law_words_here"] (ag (top 57)):=fh
def sc__law_great:aq ["_law_pot_here"] ["_law_pot_here"] (ag (top 58)):=fh
def sc__law_nodes:aq ["_law_tree_here","_law_rows","_law_many","_law_row"] ["_law_tree_here"] (ag (top 59)):=fh
abbrev N__law_dates:List Str:=["_law_pot_here","_law_rows","_law_dates_here","_law_house","_law_left","_law_date","_law_ready"]
def sc__law_dates:aq N__law_dates ["_law_pot_here","_law_rows"] (ag (top 60)):=fh
abbrev lsc__law_dates_0:lm:=jL [("_law_house",lo),("_law_row",lo),("isinstance",gi),("str",gi)]
abbrev lsc__law_dates_1:lm:=jL [("_law_house",lo),("_law_left",fr),("_law_rows",fr)]
def lc__law_dates_0:aA (ag (top 60)) N__law_dates lsc__law_dates_0 ["_law_house","_law_row"] [bm,bm]:=lcs
def lc__law_dates_1:aA (ag (top 60)) N__law_dates lsc__law_dates_1 ["_law_house","_law_left","_law_rows"] [bm,ap 4,ap 1]:=lcs
abbrev N__law_small:List Str:=["_law_pot_here","_law_great_here","_law_words_here","_law_many"]
def sc__law_small:aq N__law_small ["_law_pot_here","_law_great_here"] (ag (top 61)):=fh
abbrev lsc__law_small_0:lm:=jL [("_law_row",lo),("isinstance",gi),("str",gi)]
abbrev lsc__law_small_1:lm:=jL [("_law_k",lo),("_law_pick",gi),("_law_pot_here",fr),("_law_words_here",fr)]
def lc__law_small_0:aA (ag (top 61)) N__law_small lsc__law_small_0 ["_law_row"] [bm]:=lcs
def lc__law_small_1:aA (ag (top 61)) N__law_small lsc__law_small_1 ["_law_k","_law_pot_here","_law_words_here"] [bm,ap 0,ap 2]:=lcs
def sc__law_deeds:aq ["_law_stays","_law_stay","_law_name","_law_level","_law_under","_law_beside","_law_found","_law_other"] ["_law_stays","_law_stay"] (ag (top 62)):=fh
abbrev N__law_done:List Str:=["_law_stays","_law_rows","_law_can_here","_law_node","_law_stay","_law_row"]
def sc__law_done:aq N__law_done ["_law_stays","_law_rows","_law_can_here","_law_node","_law_stay"] (ag (top 63)):=fh
abbrev lsc__law_done_0:lm:=jL [("_law_one",lo),("_law_can_here",fr),("_law_row",fr)]
def lc__law_done_0:aA (ag (top 63)) N__law_done lsc__law_done_0 ["_law_one","_law_can_here","_law_row"] [bm,ap 2,ap 5]:=lcs
abbrev N__law_can:List Str:=["_law_stays","_law_rows","_law_found","_law_node","_law_stay","_law_on"]
def sc__law_can:aq N__law_can ["_law_stays","_law_rows"] (ag (top 64)):=fh
abbrev lsc__law_can_0:lm:=jL [("_law_low",lo),("_law_found",fr),("_law_node",fr)]
def lc__law_can_0:aA (ag (top 64)) N__law_can lsc__law_can_0 ["_law_low","_law_found","_law_node"] [bm,ap 2,ap 3]:=lcs
abbrev N__law_path:List Str:=["_law_pot_here","_law_stays","_law_rows","_law_can_here","_law_node","_law_stay","_law_path_here","_law_turn","_law_on","_law_ends"]
def sc__law_path:aq N__law_path ["_law_pot_here","_law_stays","_law_rows","_law_can_here","_law_node","_law_stay"] (ag (top 65)):=fh
abbrev lsc__law_path_0:lm:=jL [("_law_low",lo),("_law_can_here",fr),("_law_node",fr)]
abbrev lsc__law_path_1:lm:=jL [("_law_low",lo),("_law_can_here",fr),("_law_node",fr)]
def lc__law_path_0:aA (ag (top 65)) N__law_path lsc__law_path_0 ["_law_low","_law_can_here","_law_node"] [bm,ap 3,ap 4]:=lcs
def lc__law_path_1:aA (ag (top 65)) N__law_path lsc__law_path_1 ["_law_low","_law_can_here","_law_node"] [bm,ap 3,ap 4]:=lcs
def sc__law_way:aq ["_law_pot_here","_law_stays","_law_rows","_law_can_here","_law_node","_law_path_here","_law_deed","_law_one","_law_other","_law_row","_law_first"] ["_law_pot_here","_law_stays","_law_rows","_law_can_here","_law_node","_law_path_here"] (ag (top 66)):=fh
abbrev N__law_whole_way:List Str:=["_law_pot_here","_law_stays","_law_small_here","_law_rows","_law_can_here","_law_last","_law_some"]
def sc__law_whole_way:aq N__law_whole_way ["_law_pot_here","_law_stays","_law_small_here"] (ag (top 67)):=fh
abbrev lsc__law_whole_way_0:lm:=jL [("_law_stay",lo),("_law_done",gi),("_law_can_here",fr),("_law_last",fr),("_law_rows",fr),("_law_stays",fr)]
def lc__law_whole_way_0:aA (ag (top 67)) N__law_whole_way lsc__law_whole_way_0 ["_law_stay","_law_can_here","_law_last","_law_rows","_law_stays"] [bm,ap 4,ap 5,ap 3,ap 1]:=lcs
abbrev N__law_same:List Str:=["_law_found","_law_due"]
def sc__law_same:aq N__law_same ["_law_found","_law_due"] (ag (top 68)):=fh
abbrev lsc__law_same_0:lm:=jL [("_law_one",lo),("_law_other",lo),("_law_same",gi)]
def lc__law_same_0:aA (ag (top 68)) N__law_same lsc__law_same_0 ["_law_one","_law_other"] [bm,bm]:=lcs
def kZ:aq ["_law_tree_here","_law_turn","_law_one","_law_other"] ["_law_tree_here","_law_turn"] (ag (top 69)):=fh
def gs:aq ["_law_tree_here","_law_first","_law_one","_law_other"] ["_law_tree_here","_law_first"] (ag (top 70)):=fh
def o7:aq ["_law_rows","_law_stay"] ["_law_rows","_law_stay"] (ag (top 71)):=fh
abbrev kA:List Str:=["_law_way_here","_law_spots","_law_path_here"]
def mF:aq kA ["_law_way_here","_law_spots"] (ag (top 72)):=fh
abbrev pE:lm:=jL [("_law_stay",lo),("_law_spots",fr)]
abbrev pD:lm:=jL [("_law_part",lo),("_law_moved",gi),("_law_spots",fr)]
def kC:aA (ag (top 72)) kA pE ["_law_stay","_law_spots"] [bm,ap 1]:=lcs
def kB:aA (ag (top 72)) kA pD ["_law_part","_law_spots"] [bm,ap 1]:=lcs
abbrev N_law:List Str:=["_law_script","_law_k","_law_pot_here","_law_great_here","_law_other","_law_numbers_here","_law_rows","_law_other_rows","_law_stays","_law_others","_law_dates_here","_law_there","_law_spots","_law_small_here","_law_way_here","_law_moved_here"]
def sc_law:aq N_law ["_law_script"] (ag (top 73)):=fh
abbrev lsc_law_0:lm:=jL [("_law_house",lo),("_law_dates_here",fr)]
abbrev lsc_law_1:lm:=jL [("_law_stay",lo),("_law_house_of",gi),("_law_numbers_here",fr),("_law_other_rows",fr)]
abbrev LY:lm:=jL [("_law_stay",lo),("_law_house_of",gi),("_law_rows",fr),("_law_there",fr)]
abbrev LX:lm:=jL [("_law_stay",lo),("_law_deed",lo),("_law_spots",fr)]
def lc_law_0:aA (ag (top 73)) N_law lsc_law_0 ["_law_house","_law_dates_here"] [bm,ap 10]:=lcs
def lc_law_1:aA (ag (top 73)) N_law lsc_law_1 ["_law_stay","_law_numbers_here","_law_other_rows"] [bm,ap 5,ap 7]:=lcs
def F6:aA (ag (top 73)) N_law LY ["_law_stay","_law_rows","_law_there"] [bm,ap 6,ap 11]:=lcs
def tj:aA (ag (top 73)) N_law LX ["_law_stay","_law_deed","_law_spots"] [bm,bm,ap 12]:=lcs
structure NB (v:EV):Prop where
 isinstance:v.mg "isinstance"=bm
 bool:v.mg "bool"=bm
 int:v.mg "int"=bm
 len:v.mg "len"=bm
 tuple:v.mg "tuple"=bm
 str:v.mg "str"=bm
 all:v.mg "all"=bm
 list:v.mg "list"=bm
 reversed:v.mg "reversed"=bm
 enumerate:v.mg "enumerate"=bm
 range:v.mg "range"=bm
 sorted:v.mg "sorted"=bm
 zip:v.mg "zip"=bm
 dict:v.mg "dict"=bm
 sum:v.mg "sum"=bm
 abs:v.mg "abs"=bm
 any:v.mg "any"=bm
 min:v.mg "min"=bm
 max:v.mg "max"=bm
variable {v:EV}
abbrev d_is_whole:DF:=⟨"is_whole",top 1,["thing"],1,λK=>eJ K [.v] (ck 1 hU)⟩
def k_is_whole (D:DI v d_is_whole) (q:NB v):D.O:=
 mB (m:=hU) D sc_is_whole λaU _ _ _ _ _ _ hr=>
 (SF.bO (mK (cL rfl .int rfl q.isinstance (ae 0) rfl q.int boot_int) (mJ (VE (cL rfl .bool rfl q.isinstance (ae 0) rfl q.bool boot_bool)))) λ_=>rfl)
abbrev d_is_row:DF:=⟨"is_row",top 2,["thing","many"],1,λK=>eJ K [.v,.v] (ck 2 fZ)⟩
def k_is_row (D:DI v d_is_row) (q:NB v):D.O:=
 pB (m:=fZ) D sc_is_row λaU ju _ _ _ _ _ _ hr=>
 (SF.bO (mK (cL rfl .tup rfl q.isinstance (ae 0) rfl q.tuple boot_tuple) (mJ (iT (eO rfl (aQ hr)) (cH rfl rfl q.len (ae 0)) (ae 1)))) λ_=>rfl)
abbrev d_is_word:DF:=⟨"is_word",top 6,["thing"],1,λK=>eJ K [.v] (ck 1 jw)⟩
def k_is_word (D:DI v d_is_word) (q:NB v) (cW:v.mg "LONGEST_WORD"=ap (.int 8 kY)) (gQ:v.mg "LETTERS"=ap (.str "abcdefghijklmnopqrstuvwxyz" vA)):D.O:=
 mB (m:=jw) D sc_is_word λaU _ _ _ _ _ _ hr=>
 (SF.y7 (qV.t (nG (iE (bH rfl (cL rfl .str rfl q.isinstance (ae 0) rfl q.str re) (λ_=>rfl))) (jQ (iE (RG Ky Ky ao (cH rfl rfl q.len (ae 0)) (yn cW rfl))))))
 (SF.bO lO λ_=>rfl)
 (SF.bO (GH rfl rfl rfl q.all (bP (c9 rfl lc_is_word_0 (XU (ae 0)) (λ_ _ _ _ _=>(de 0 lc_is_word_0.nd)) (λ_ _ _ _ _ p2=>(iT (XQ rfl) (ae 0) (uh gQ rfl))) rfl))) λ_=>rfl))
abbrev d_is_grown (ip:ci):DF:=⟨"is_grown",top 7,["thing","is_leaf","often"],2,λK=>eJ K [.v,.f ip,.v] (ck 2 hV)⟩
theorem k_is_grown {ip:ci} (D:DI v (d_is_grown ip)) (Iy:YU v.P v.w v.K v.mg v.base ip d_is_word.k d_is_word.ps (d_is_word.sp v.K)) (tT:d_is_row.C v):D.O:=
 pB (m:=hV) D sc_is_grown λaU HF _ _ _ _ _ _ hr=>
 (SF.ael (i:=3) sc_is_grown.nd rfl (CI rfl)
 (sl 4 sc_is_grown.nd (a9 (n:=1) (af (ae 0) ak) rfl) λcQ=>
 (SF.rS (hd:=(λ(s4:List (Key×PV)×List PV)=>([ap (.val aU),ap (.adr ip),ap (.val HF),ap (.od s4.1),ap (.ol bm s4.2),bm]:bG))) (s0:=([],cQ)) (inj:=id) AQ (.refl _) (λs4=>(NL rfl (cn 4) (λ_=>rfl))) (λ_=>trivial) (λs4=>
 (SF.sH 4 5 rfl ⋯ rfl rfl (.inl rfl) sc_is_grown.nd rfl (CI rfl) λt7=>
 (SF.Y4 (bH rfl (eC tT hr (af (ae 5) (af ao ak))) (λ_=>rfl))
 (SF.extend 4 rfl rfl rfl (.inl rfl) (ar (ae 5)) λdu=>
 (SF.gw rfl (.keep (.keep (.keep (.keep (.keep (.drop (.refl _)))))))))
 (SF.Y4 (qV.t (nG (iE (bH rfl (Ui 1 Iy hr (by first | exact Dn rfl | omega) rfl (af (ae 5) ak) rfl) (λ_=>rfl))) (jQ (qV.t (kX (ZI 3 rfl (aQ hr) (ae 5)) (iD (iE (bH rfl (ae 2) (λ_=>rfl)))))))))
 (SF.ret (k:=λkI=>(Lp.out kI)) lO λ_=>rfl)
 (SF.putD 3 rfl (aQ hr) rfl (.inl rfl) lO (ae 5) λJ5=>
 (SF.gw rfl (.keep (.keep (.keep (.keep (.keep (.drop (.refl _))))))))))))) λs4=>
 (SF.bO lO λ_=>rfl))))
abbrev d_is_tree:DF:=⟨"is_tree",top 8,["thing"],3,λK=>eJ K [.v] (ck 1 me)⟩
def k_is_tree (D:DI v d_is_tree) {t4:ci} (Nc:v.mg "is_word"=ap (.ref t4)) (IE:(d_is_grown t4).C v):D.O:=
 mB (m:=me) D sc_is_tree λaU _ _ _ _ _ _ hr=>
 (SF.bO (eC IE hr (af (ae 0) (af6 rfl Nc (af lO ak)))) λ_=>rfl)
abbrev d_parts_of:DF:=⟨"parts_of",top 9,["tree"],1,λK=>fo K [.v] (ck 1 jZ)⟩
def k_parts_of (D:DI v d_parts_of) (q:NB v):D.O:=
 S1 (m:=jZ) D sc_parts_of λjk _ _ _ _ _ _ hr=>
 (sl 1 sc_parts_of.nd (a9 (n:=0) ak rfl) λeG=>
 (sl 2 sc_parts_of.nd (a9 (n:=1) (af (ae 0) ak) rfl) λcQ=>
 (SF.zd (hd:=(λ(s4:List PV×List PV)=>([ap (.val jk),ap (.ol bm s4.1),ap (.ol bm s4.2),bm]:bG))) (s0:=(eG,cQ)) AQ (.refl _) (λs4=>(NL rfl (cn 2) (λ_=>rfl))) (λs4=>
 (SF.sH 2 3 rfl ⋯ rfl rfl (.inl rfl) sc_parts_of.nd rfl (CI rfl) λt7=>
 (SF.append 1 rfl rfl rfl (.inl rfl) (ae 3) λfF=>
 (SF.Y4 (iE (bH rfl (cL rfl .str rfl q.isinstance (ae 3) rfl q.str re) (λ_=>rfl)))
 (SF.extend 2 rfl rfl rfl (.inl rfl) (ar (ae 3)) λdu=>
 (SF.gw rfl (.keep (.keep (.keep (.drop (.refl _)))))))
 (SF.gw rfl (.keep (.keep (.keep (.drop (.refl _)))))))))) λs4=>
 (SF.iG (Vf rfl rfl rfl q.list rfl q.reversed (xj 1)) λ_=>rfl))))
abbrev d_nodes:DF:=⟨"nodes",top 10,["tree"],2,λK=>eJ K [.v] (ck 1 iK)⟩
def k_nodes (D:DI v d_nodes) (q:NB v) (IA:d_parts_of.C v):D.O:=
 mB (m:=iK) D sc_nodes λjk _ _ _ _ _ _ hr=>
 (sl 1 sc_nodes.nd (a9 (n:=0) ak rfl) λjS=>
 (sl 2 sc_nodes.nd (a9 (n:=0) ak rfl) λxF=>
 (SF.ye (hd:=(λ(s4:List PV×List PV)=>([ap (.val jk),ap (.ol bm s4.1),ap (.ol bm s4.2),bm,bm,bm]:bG))) (s0:=(jS,xF)) AQ rfl (bq rfl (tN (lC IA hr (af (ae 0) ak)))) (.refl _) (de 3 sc_nodes.nd) (λs4 xr=>
 (SF.ifS (out1:=λ(Wt:List PV×List PV)=>.nx ([ap (.val jk),ap (.ol bm Wt.1),ap (.ol bm Wt.2),ap (.val xr),bm,bm]:bG)) (bH rfl (cL rfl .str rfl q.isinstance (ae 3) rfl q.str re) (λ_=>rfl))
 (SF.append 1 rfl rfl rfl (.inl rfl) (ae 3) λJQ=>
 (SF.nil rfl (.refl _)))
 (SF.sH 2 4 rfl ⋯ rfl rfl (.inl rfl) sc_nodes.nd rfl (CI rfl) λt20=>
 (SF.sH 2 5 rfl ⋯ rfl rfl (.inl rfl) sc_nodes.nd rfl (CI rfl) λt22=>
 (SF.append 1 rfl rfl rfl (.inl rfl) (aR (n:=2) (af (ae 5) (af (ae 4) ak)) rfl) λJP=>
 (SF.nil rfl (.keep (.keep (.keep (.keep (.drop (.drop (.refl _)))))))))))
 λWt=>(SF.append 2 rfl rfl rfl (.inl rfl) (oE (ng rfl rfl q.len (cn 1)) ao) λF3=>
 (SF.gw rfl (.keep (.keep (.keep (.drop (.refl _))))))))) λs4=>
 (SF.bO (cP rfl rfl q.tuple (cn 1)) λ_=>rfl))))
abbrev d_halves:DF:=⟨"halves",top 11,["node"],1,λK=>eJ K [.v] (ck 1 dA)⟩
def k_halves (D:DI v d_halves) (q:NB v):D.O:=
 mB (m:=dA) D sc_halves λcp _ _ _ _ _ _ hr=>
 (SF.bO (IZ (bH rfl (cL rfl .str rfl q.isinstance (ae 0) rfl q.str re) (λ_=>rfl)) (aR (n:=0) ak rfl) (ae 0)) λ_=>rfl)
abbrev d_ahead_of:DF:=⟨"ahead_of",top 12,["tree"],3,λK=>eJ K [.v] (ck 1 fy)⟩
def k_ahead_of (D:DI v d_ahead_of) (q:NB v) (j9:d_nodes.C v) (ig:d_halves.C v):D.O:=
 mB (m:=fy) D sc_ahead_of λjk _ _ _ _ _ _ hr=>
 (sv 1 sc_ahead_of.nd (eC j9 hr (af (ae 0) ak)) λjS=>
 (SF.nM (i:=3) rfl sc_ahead_of.nd rfl rfl lc_ahead_of_0 (bq rfl (br (ae 1))) (λ_ _ _ _ _=>(de 0 lc_ahead_of_0.nd)) (λ_ _ _ _ _ p5=>ug) rfl λyK=>
 (SF.TY (hd:=(λ(s7:List PV)=>([ap (.val jk),ap (.val jS),bm,ap (.ol bm s7),bm,bm]:bG))) (s0:=yK) AQ rfl (oj rfl rfl q.enumerate (br (ae 1))) (.refl _) (λ_=>(Ms rfl (eB rfl (aN (de 4 sc_ahead_of.nd) (aN (de 2 sc_ahead_of.nd) c6))))) (λs7 t9=>
 (SF.ye (hd:=(λ(qA:List PV)=>([ap (.val jk),ap (.val jS),ap (.val t9.2),ap (.ol bm qA),ap (.val t9.1),bm]:bG))) (s0:=s7) AQ rfl (bq rfl (br (eC ig hr (af (ae 2) ak)))) (.refl _) (de 5 sc_ahead_of.nd) (λqA KP=>
 (SF.HA 3 rfl rfl (.inl rfl) (ae 4) (ae 5) λGX=>
 (SF.gw rfl (.keep (.keep (.keep (.keep (.keep (.drop (.refl _)))))))))) λqA=>
 (SF.gw rfl (.keep (.keep (.drop (.keep (.drop (.refl _))))))))) λs7=>
 (SF.bO (cP rfl rfl q.tuple (cn 3)) λ_=>rfl))))
abbrev d_under_at:DF:=⟨"under_at",top 17,["stays","stay"],1,λK=>eJ K [.v,.v] (ck 2 c7)⟩
def k_under_at (D:DI v d_under_at) (oJ:v.mg "UNDER"=ap (.int 2 JR)):D.O:=
 pB (m:=c7) D sc_under_at λaK a7 _ _ _ _ _ _ hr=>
 (SF.bO (aE rfl (ar (aE rfl (ar (ae 0)) (ae 1))) (yn oJ rfl)) λ_=>rfl)
abbrev d_beside_at:DF:=⟨"beside_at",top 18,["stays","stay"],1,λK=>eJ K [.v,.v] (ck 2 f7)⟩
def k_beside_at (D:DI v d_beside_at) (lR:v.mg "BESIDE"=ap (.int 3 zm)):D.O:=
 pB (m:=f7) D sc_beside_at λaK a7 _ _ _ _ _ _ hr=>
 (SF.bO (aE rfl (ar (aE rfl (ar (ae 0)) (ae 1))) (yn lR rfl)) λ_=>rfl)
abbrev d_is_home:DF:=⟨"is_home",top 19,["stays","stay","word"],2,λK=>eJ K [.v,.v,.v] (ck 3 jA)⟩
def k_is_home (D:DI v d_is_home) (uv:v.mg "NAME"=ap (.int 0 NP)) (eF:d_under_at.C v):D.O:=
 O0 (m:=jA) D sc_is_home λaK a7 US _ _ _ _ _ _ hr=>
 (SF.bO (mK (iT (eO rfl (aQ hr)) (eC eF hr (af (ae 0) (af (ae 1) ak))) (aR (n:=0) ak rfl)) (mJ (iT (eO rfl (aQ hr)) (aE rfl (ar (aE rfl (ar (ae 0)) (ae 1))) (yn uv rfl)) (ae 2)))) λ_=>rfl)
abbrev d_name_of:DF:=⟨"name_of",top 20,["houses","house"],1,λK=>eJ K [.v,.v] (ck 2 eM)⟩
def k_name_of (D:DI v d_name_of) (q:NB v):D.O:=
 pB (m:=eM) D sc_name_of λfP lH _ _ _ _ _ _ hr=>
 (SF.bO (IZ (bH rfl (cL rfl .str rfl q.isinstance (aE rfl (ar (ae 0)) (ae 1)) rfl q.str re) (λ_=>rfl)) (aE rfl (ar (ae 0)) (ae 1)) (ae 1)) λ_=>rfl)
abbrev d_lines_up:DF:=⟨"lines_up",top 21,["great"],4,λK=>fo K [.v] (ck 1 hJ)⟩
def k_lines_up (D:DI v d_lines_up) (q:NB v) (m8:d_ahead_of.C v):D.O:=
 S1 (m:=hJ) D sc_lines_up λdM _ _ _ _ _ _ hr=>
 (sv 1 sc_lines_up.nd (eC m8 hr (af (ae 0) ak)) λd8=>
 (SF.nM (i:=3) rfl sc_lines_up.nd rfl rfl lc_lines_up_0 (bq rfl (br (ae 1))) (λ_ _ _ _ _=>(de 0 lc_lines_up_0.nd)) (λ_ _ _ _ _ p5=>(aR (n:=0) ak rfl)) rfl λmf=>
 (SF.ye (hd:=(λ(s9:List PV)=>([ap (.val dM),ap (.val d8),bm,ap (.ol bm s9),bm]:bG))) (s0:=mf) AQ rfl (KD rfl q.range (oE (cH rfl rfl q.len (ae 1)) ao) (kH ao) (kH ao)) (.refl _) (de 2 sc_lines_up.nd) (λs9 lG=>
 (sv 4 sc_lines_up.nd (IZ (dr xQ (aE rfl (ar (ae 1)) (ae 2)) ug) (aR (n:=0) ak rfl) (aE rfl (cn 3) (aE rfl (ar (ae 1)) (ae 2)))) λGY=>
 (SF.HA 3 rfl rfl (.inl rfl) (bR rfl (aR (n:=1) (af (ae 2) ak) rfl) (ae 4)) (ae 2) λF5=>
 (SF.gw rfl (.keep (.keep (.drop (.keep (.drop (.refl _)))))))))) λs9=>
 (SF.Ob 3 rfl rfl))))
abbrev d_apart_from:DF:=⟨"apart_from",top 22,["lines","house"],1,λK=>eJ K [.v,.v] (ck 2 eV)⟩
def k_apart_from (D:DI v d_apart_from) (q:NB v):D.O:=
 pB (m:=eV) D sc_apart_from λxH lH _ _ _ _ _ _ hr=>
 (SF.bO (cP rfl rfl q.tuple (dw (vO rfl lc_apart_from_0 (gH rfl q.range (cH rfl rfl q.len (ae 0))) (λ_ _ _ _ _=>(de 0 lc_apart_from_0.nd)) (λ_ _ _ _ _ p3=>(qV.t (kX (w4 rfl (aQ hr) (ae 0) (ar (aE rfl (ar (ae 2)) (ae 1)))) (iD (w4 rfl (aQ hr) (ae 1) (ar (aE rfl (ar (ae 2)) (ae 0)))))))) (λ_ _ _ _ _ p3=>(ae 0)) rfl))) λ_=>rfl)
abbrev d_ground:DF:=⟨"ground",top 23,["great"],5,λK=>eJ K [.v] (ck 1 jC)⟩
def k_ground (D:DI v d_ground) (q:NB v) (j9:d_nodes.C v) (IC:d_lines_up.C v) (pN:d_name_of.C v) (ig:d_halves.C v) (xX:d_apart_from.C v):D.O:=
 mB (m:=jC) D sc_ground λdM _ _ _ _ _ _ hr=>
 (sv 1 sc_ground.nd (eC j9 hr (af (ae 0) ak)) λgb=>
 (sl 2 sc_ground.nd (lC IC hr (af (ae 0) ak)) λmf=>
 SF.cT 2 rfl (SF.bO (cP rfl rfl q.tuple (dw (c9 rfl lc_ground_0 (gH rfl q.range (cH rfl rfl q.len (ae 1))) (λ_ _ _ _ _=>(de 0 lc_ground_0.nd)) (λ_ _ _ _ _ p7=>(aR (n:=4) (af (eC pN hr (af (ae 1) (af (ae 0) ak))) (af ao (af (eC ig hr (af (aE rfl (ar (ae 1)) (ae 0)) ak)) (af (eC xX hr (af (ae 2) (af (ae 0) ak))) ak)))) rfl)) rfl))) λ_=>rfl)))
abbrev d_comes_in:DF:=⟨"comes_in",top 30,["way"],1,λK=>eJ K [.v] (ck 1 dB)⟩
def k_comes_in (D:DI v d_comes_in):D.O:=
 mB (m:=dB) D sc_comes_in λgW _ _ _ _ _ _ hr=>
 (SF.bO (aE rfl (ar (aE rfl (ar (ae 0)) ao)) ao) λ_=>rfl)
abbrev d_done_at:DF:=⟨"done_at",top 31,["way"],1,λK=>eJ K [.v] (ck 1 fu)⟩
def k_done_at (D:DI v d_done_at):D.O:=
 mB (m:=fu) D sc_done_at λgW _ _ _ _ _ _ hr=>
 (SF.bO (aE rfl (ar (aE rfl (ar (ae 0)) ao)) (kH ao)) λ_=>rfl)
abbrev d_ins_of:DF:=⟨"ins_of",top 32,["way"],2,λK=>eJ K [.v] (ck 1 n8)⟩
def k_ins_of (D:DI v d_ins_of) (q:NB v) (IH:d_comes_in.C v):D.O:=
 mB (m:=n8) D sc_ins_of λgW _ _ _ _ _ _ hr=>
 (SF.bO (cP rfl rfl q.tuple (dw (c9 rfl lc_ins_of_0 (bq rfl (br (wq rfl (ae 0) (mV ao) mW))) (λ_ _ _ _ _=>(de 0 lc_ins_of_0.nd)) (λ_ _ _ _ _ p5=>(eC IH hr (af (ae 0) ak))) rfl))) λ_=>rfl)
abbrev d_split_ins:DF:=⟨"split_ins",top 33,["ground","stay"],2,λK=>fo K [.v,.v] (ck 2 fY)⟩
def k_split_ins (D:DI v d_split_ins) (q:NB v) (eF:d_under_at.C v):D.O:=
 LW (m:=fY) D sc_split_ins λaP a7 _ _ _ _ _ _ hr=>
 (sv 2 sc_split_ins.nd (eC eF hr (af (ae 0) (af (ae 1) ak))) λnF=>
 (SF.iG (aaY (dr (eO rfl (aQ hr)) (cH rfl rfl q.len (ae 2)) ao) (a9 (n:=2) (af (ae 2) (af (aR (n:=2) (af (aE rfl (ar (ae 2)) ao) (af (aE rfl (ar (ae 2)) ao) ak)) rfl) ak)) rfl) (a9 (n:=0) ak rfl)) λ_=>rfl))
abbrev d_over_ins:DF:=⟨"over_ins",top 34,["ground","stay"],2,λK=>fo K [.v,.v] (ck 2 hE)⟩
def k_over_ins (D:DI v d_over_ins) (Gp:d_beside_at.C v):D.O:=
 LW (m:=hE) D sc_over_ins λaP a7 _ _ _ _ _ _ hr=>
 (sv 2 sc_over_ins.nd (eC Gp hr (af (ae 0) (af (ae 1) ak))) λux=>
 (SF.iG (qe rfl (bP (c9 rfl lc_over_ins_0 (bq rfl (br (ae 2))) (λ_ _ _ _ _=>(de 0 lc_over_ins_0.nd)) (λ_ _ _ _ _ p5=>(aR (n:=2) (af (ae 1) (af (ae 0) ak)) rfl)) rfl)) (bP (c9 rfl lc_over_ins_1 (bq rfl (br (ae 2))) (λ_ _ _ _ _=>(de 0 lc_over_ins_1.nd)) (λ_ _ _ _ _ p9=>(aR (n:=2) (af (ae 0) (af (ae 1) ak)) rfl)) rfl))) λ_=>rfl))
abbrev d_deeds_at:DF:=⟨"deeds_at",top 35,["ground","node","stay"],3,λK=>fo K [.v,.v,.v] (ck 3 fv)⟩
def k_deeds_at (D:DI v d_deeds_at) (q:NB v) (oM:v.mg "FOUND"=ap (.str "found" JT)) (oK:v.mg "SPLIT"=ap (.str "split" JS)) (uu:v.mg "OVER"=ap (.str "over" NN)) (jH:v.mg "DOUBLED"=ap (.str "doubled" vB)) (Mq:d_is_home.C v) (Gi:d_split_ins.C v) (IB:d_over_ins.C v):D.O:=
 aaU (m:=fv) D sc_deeds_at λaP cp a7 _ _ _ _ _ _ hr=>
 (SF.y7 (bH rfl (cL rfl .str rfl q.isinstance (ae 1) rfl q.str re) (λ_=>rfl))
 (SF.iG (aaY (bH rfl (eC Mq hr (af (ae 0) (af (ae 2) (af (ae 1) ak)))) (λ_=>rfl)) (a9 (n:=1) (af (aR (n:=2) (af (uh oM rfl) (af (aR (n:=0) ak rfl) ak)) rfl) ak) rfl) (a9 (n:=0) ak rfl)) λ_=>rfl)
 (SF.nM (i:=3) rfl sc_deeds_at.nd rfl rfl lc_deeds_at_0 (bq rfl (tN (lC Gi hr (af (ae 0) (af (ae 2) ak))))) (λ_ _ _ _ _=>(de 0 lc_deeds_at_0.nd)) (λ_ _ _ _ _ Kh=>(aR (n:=2) (af (uh oK rfl) (af (ae 0) ak)) rfl)) rfl λJZ=>
 SF.cT 3 rfl (SF.nM (i:=4) rfl sc_deeds_at.nd rfl rfl lc_deeds_at_1 (bq rfl (tN (lC IB hr (af (ae 0) (af (ae 2) ak))))) (λ_ _ _ _ _=>(de 0 lc_deeds_at_1.nd)) (λ_ _ _ _ _ p18=>(aR (n:=2) (af (uh uu rfl) (af (ae 0) ak)) rfl)) rfl λKi=>
 SF.cT 4 rfl (SF.iG (S8 rfl (aQ hr) rfl q.sorted (bP (qe rfl (bP (qe rfl (bP (a9 (n:=1) (af (aR (n:=2) (af (uh jH rfl) (af (aR (n:=2) (af (ae 2) (af (ae 2) ak)) rfl) ak)) rfl) ak) rfl)) (lh (ae 3)))) (lh (ae 4))))) λ_=>rfl))))
abbrev d_is_stay:DF:=⟨"is_stay",top 36,["ground","thing"],2,λK=>eJ K [.v,.v] (ck 2 jy)⟩
def k_is_stay (D:DI v d_is_stay) (q:NB v) (ID:d_is_whole.C v):D.O:=
 pB (m:=jy) D sc_is_stay λaP aU _ _ _ _ _ _ hr=>
 (SF.bO (mK (eC ID hr (af (ae 1) ak)) (mJ (Ug Ky Kx ao (ae 1) (cH rfl rfl q.len (ae 0))))) λ_=>rfl)
abbrev d_is_path:DF:=⟨"is_path",top 37,["ground","thing"],3,λK=>eJ K [.v,.v] (ck 2 jz)⟩
def k_is_path (D:DI v d_is_path) (q:NB v) (Mo:d_is_stay.C v) (eF:d_under_at.C v):D.O:=
 pB (m:=jz) D sc_is_path λaP aU _ _ _ _ _ _ hr=>
 (SF.y7 (qV.t (nG (iE (bH rfl (cL rfl .tup rfl q.isinstance (ae 1) rfl q.tuple boot_tuple) (λ_=>rfl))) (jQ (dr (eO rfl (aQ hr)) (cH rfl rfl q.len (ae 1)) ao))))
 (SF.bO lO λ_=>rfl)
 (SF.y7 (iE (bH rfl (GH rfl rfl rfl q.all (bP (c9 rfl lc_is_path_0 (bq rfl (br (ae 1))) (λ_ _ _ _ _=>(de 0 lc_is_path_0.nd)) (λ_ _ _ _ _ p2=>(eC Mo hr (af (ae 1) (af (ae 0) ak)))) rfl))) (λ_=>rfl)))
 (SF.bO lO λ_=>rfl)
 (SF.bO (GH rfl rfl rfl q.all (bP (tq rfl lc_is_path_1 (tF rfl rfl q.zip (br (ae 1)) (br (wq rfl (ae 1) (mV ao) mW))) (λ_ _ _ _ _=>(Ms rfl (eB rfl (aN (de 0 lc_is_path_1.nd) (aN (de 1 lc_is_path_1.nd) c6))))) (λ_ _ _ _ _ Ra=>(VF rfl (aQ hr) (ae 1) (ar (eC eF hr (af (ae 2) (af (ae 0) ak)))))) (Ie rfl rfl ⋯) ⋯))) λ_=>rfl)))
abbrev d_is_formed:DF:=⟨"is_formed",top 38,["ground","node","thing"],4,λK=>eJ K [.v,.v,.v] (ck 3 f6)⟩
def k_is_formed (D:DI v d_is_formed) (q:NB v) (Mp:d_is_path.C v) (tT:d_is_row.C v):D.O:=
 O0 (m:=f6) D sc_is_formed λaP cp aU _ _ _ _ _ _ hr=>
 (sv 3 sc_is_formed.nd (IZ (bH rfl (cL rfl .str rfl q.isinstance (ae 1) rfl q.str re) (λ_=>rfl)) ao ao) λO3=>
 (SF.bO (mK (eC tT hr (af (ae 2) (af (ae 3) ak))) (mK (eC Mp hr (af (ae 0) (af (aE rfl (ar (ae 2)) ao) ak))) (mJ (cL rfl .str rfl q.isinstance (aE rfl (ar (ae 2)) ao) rfl q.str re)))) λ_=>rfl))
abbrev d_ways_of_nodes:DF:=⟨"ways_of_nodes",top 39,["ground","told","thing"],5,λK=>eJ K [.v,.v,.v] (ck 3 df)⟩
def k_ways_of_nodes (D:DI v d_ways_of_nodes) (q:NB v) (Gm:d_is_formed.C v) (ig:d_halves.C v):D.O:=
 O0 (m:=df) D sc_ways_of_nodes λaP vv aU _ _ _ _ _ _ hr=>
 (SF.nM (i:=4) rfl sc_ways_of_nodes.nd rfl rfl lc_ways_of_nodes_0 (bq rfl (br (ae 1))) (λ_ _ _ _ _=>(de 0 lc_ways_of_nodes_0.nd)) (λ_ _ _ _ _ p3=>ug) rfl λND=>
 (SF.HA 4 rfl rfl (.inl rfl) (ae 2) (kH ao) λmS=>
 (SF.Vz (hd:=(λ(RZ:List PV)=>([ap (.val aP),ap (.val vv),ap (.val aU),bm,ap (.ol bm RZ),bm,bm,bm,bm]:bG))) (s0:=mS) (inj:=id) AQ rfl (KD rfl q.range (oE (cH rfl rfl q.len (ae 1)) ao) (kH ao) (kH ao)) (.refl _) (de 5 sc_ways_of_nodes.nd) (λ_=>trivial) (λRZ lX=>
 (sv 3 sc_ways_of_nodes.nd (aE rfl (ar (ae 1)) (ae 5)) λrq=>
 (sv 6 sc_ways_of_nodes.nd (aE rfl (cn 4) (ae 5)) λwU=>
 (SF.y7 (iE (bH rfl (eC Gm hr (af (ae 0) (af (ae 3) (af (ae 6) ak)))) (λ_=>rfl)))
 (SF.ret (k:=λwO=>(Lp.out wO)) ug λ_=>rfl)
 (SF.TY (hd:=(λ(Wq:List PV)=>([ap (.val aP),ap (.val vv),ap (.val aU),ap (.val rq),ap (.ol bm Wq),ap (.val lX),ap (.val wU),bm,bm]:bG))) (s0:=RZ) AQ rfl (tF rfl rfl q.zip (br (eC ig hr (af (ae 3) ak))) (br (wq rfl (ae 6) (mV ao) mW))) (.refl _) (λ_=>(Ms rfl (eB rfl (aN (de 7 sc_ways_of_nodes.nd) (aN (de 8 sc_ways_of_nodes.nd) c6))))) (λWq Ę=>
 (SF.HA 4 rfl rfl (.inl rfl) (ae 8) (ae 7) λJL=>
 (SF.gw rfl (.keep (.keep (.keep (.keep (.keep (.keep (.keep (.drop (.drop (.refl _))))))))))))) λWq=>
 (SF.gw rfl (.keep (.keep (.keep (.drop (.keep (.drop (.drop (.refl _)))))))))))))) λRZ=>
 (SF.cT 4 rfl (SF.bO (ae 4) λ_=>rfl)))))
abbrev d_is_done:DF:=⟨"is_done",top 40,["ground","node","way"],4,λK=>eJ K [.v,.v,.v] (ck 3 jB)⟩
def k_is_done (D:DI v d_is_done) (PR:d_ins_of.C v) (IG:d_deeds_at.C v) (pO:d_done_at.C v):D.O:=
 O0 (m:=jB) D sc_is_done λaP cp gW _ _ _ _ _ _ hr=>
 (SF.bO (VF rfl (aQ hr) (aR (n:=2) (af (aE rfl (ar (ae 2)) ao) (af (eC PR hr (af (ae 2) ak)) ak)) rfl) (dw (lC IG hr (af (ae 0) (af (ae 1) (af (eC pO hr (af (ae 2) ak)) ak)))))) λ_=>rfl)
abbrev d_is_way:DF:=⟨"is_way",top 41,["ground","small","thing"],6,λK=>eJ K [.v,.v,.v] (ck 3 jx)⟩
def k_is_way (D:DI v d_is_way) (q:NB v) (Mn:d_is_tree.C v) (j9:d_nodes.C v) (qM:d_ways_of_nodes.C v) (Mr:d_is_done.C v):D.O:=
 O0 (m:=jx) D sc_is_way λaP Hy aU _ _ _ _ _ _ hr=>
 (SF.y7 (iE (bH rfl (eC Mn hr (af (ae 1) ak)) (λ_=>rfl)))
 (SF.bO lO λ_=>rfl)
 (sv 3 sc_is_way.nd (eC j9 hr (af (ae 1) ak)) λHs=>
 (sv 4 sc_is_way.nd (eC qM hr (af (ae 0) (af (ae 3) (af (ae 2) ak)))) λmS=>
 (SF.y7 (qV.t (nG (dr xQ (ae 4) ug) (jQ (dr (Kw rfl (aQ hr)) (cH rfl rfl q.len (aE rfl (ar (ae 2)) ao)) ao))))
 (SF.bO lO λ_=>rfl)
 (SF.bO (GH rfl rfl rfl q.all (bP (tq rfl lc_is_way_0 (tF rfl rfl q.zip (br (ae 3)) (br (ae 4))) (λ_ _ _ _ _=>(Ms rfl (eB rfl (aN (de 0 lc_is_way_0.nd) (aN (de 1 lc_is_way_0.nd) c6))))) (λ_ _ _ _ _ Ra=>(eC Mr hr (af (ae 2) (af (ae 0) (af (ae 1) ak))))) (Ie rfl rfl ⋯) ⋯))) λ_=>rfl)))))
abbrev d_ways_within:DF:=⟨"ways_within",top 42,["way"],1,λK=>fo K [.v] (ck 1 m_ways_within)⟩
def k_ways_within (D:DI v d_ways_within) (q:NB v):D.O:=
 S1 (m:=m_ways_within) D sc_ways_within λgW _ _ _ _ _ _ hr=>
 (sl 1 sc_ways_within.nd (a9 (n:=0) ak rfl) λeG=>
 (sl 2 sc_ways_within.nd (a9 (n:=1) (af (ae 0) ak) rfl) λcQ=>
 (SF.zd (hd:=(λ(s4:List PV×List PV)=>([ap (.val gW),ap (.ol bm s4.1),ap (.ol bm s4.2),bm]:bG))) (s0:=(eG,cQ)) AQ (.refl _) (λs4=>(NL rfl (cn 2) (λ_=>rfl))) (λs4=>
 (SF.sH 2 3 rfl ⋯ rfl rfl (.inl rfl) sc_ways_within.nd rfl (CI rfl) λt7=>
 (SF.append 1 rfl rfl rfl (.inl rfl) (ae 3) λfF=>
 (SF.extend 2 rfl rfl rfl (.inl rfl) (ar (wq rfl (ae 3) (mV ao) mW)) λdu=>
 (SF.gw rfl (.keep (.keep (.keep (.drop (.refl _)))))))))) λs4=>
 (SF.iG (Vf rfl rfl rfl q.list rfl q.reversed (xj 1)) λ_=>rfl))))
abbrev d_places:DF:=⟨"places",top 43,["way"],2,λK=>eJ K [.v] (ck 1 m_places)⟩
def k_places (D:DI v d_places) (q:NB v) (i8:d_ways_within.C v) (pO:d_done_at.C v):D.O:=
 mB (m:=m_places) D sc_places λgW _ _ _ _ _ _ hr=>
 (SF.bO (cP rfl rfl q.tuple (dw (c9 rfl lc_places_0 (bq rfl (tN (lC i8 hr (af (ae 0) ak)))) (λ_ _ _ _ _=>(de 0 lc_places_0.nd)) (λ_ _ _ _ _ p3=>(aR (n:=2) (af (eC pO hr (af (ae 0) ak)) (af (aE rfl (ar (ae 0)) ao) ak)) rfl)) rfl))) λ_=>rfl)
abbrev d_split_dates:DF:=⟨"split_dates",top 45,["houses","dates"],1,λK=>fo K [.v,.v] (ck 2 dR)⟩
def k_split_dates (D:DI v d_split_dates) (q:NB v):D.O:=
 LW (m:=dR) D sc_split_dates λfP dN _ _ _ _ _ _ hr=>
 (SF.iG (Vi rfl lc_split_dates_0 (tF rfl rfl q.zip (br (ae 0)) (br (ae 1))) (λ_ _ _ _ _=>(Ms rfl (eB rfl (aN (de 0 lc_split_dates_0.nd) (aN (de 1 lc_split_dates_0.nd) c6))))) (λ_ _ _ _ _ t5=>(iE (bH rfl (cL rfl .str rfl q.isinstance (ae 0) rfl q.str re) (λ_=>rfl)))) (λ_ _ _ _ _ t5=>(ae 1)) (Ie rfl rfl ⋯) ⋯) λ_=>rfl)
abbrev d_standing:DF:=⟨"standing",top 46,["great","dates","begins"],4,λK=>fo K [.v,.v,.v] (ck 3 g9)⟩
def k_standing (D:DI v d_standing) (q:NB v) (m8:d_ahead_of.C v):D.O:=
 aaU (m:=g9) D sc_standing λdM dN km _ _ _ _ _ _ hr=>
 (sv 3 sc_standing.nd (eC m8 hr (af (ae 0) ak)) λd8=>
 (sl 4 sc_standing.nd (a9 (n:=0) ak rfl) λxu=>
 (SF.TY (hd:=(λ(s5:List PV)=>([ap (.val dM),ap (.val dN),ap (.val km),ap (.val d8),ap (.ol bm s5),bm,bm,bm,bm]:bG))) (s0:=xu) AQ rfl (oj rfl rfl q.enumerate (br (ae 2))) (.refl _) (λ_=>(Ms rfl (eB rfl (aN (de 5 sc_standing.nd) (aN (de 6 sc_standing.nd) c6))))) (λs5 t7=>
 (SF.TY (hd:=(λ(s9:List PV)=>([ap (.val dM),ap (.val dN),ap (.val km),ap (.val d8),ap (.ol bm s9),ap (.val t7.1),ap (.val t7.2),bm,bm]:bG))) (s0:=s5) AQ rfl (oj rfl rfl q.enumerate (br (ae 1))) (.refl _) (λ_=>(Ms rfl (eB rfl (aN (de 7 sc_standing.nd) (aN (de 8 sc_standing.nd) c6))))) (λs9 ZZ=>
 (SF.Y4 (qV.t (kX (dr Ky (ae 8) (ae 6)) (iD (qV.t (nG (dr xQ (aE rfl (ar (ae 3)) (ae 7)) ug) (jQ (dr Kx (ae 6) (aE rfl (ar (ae 1)) (aE rfl (ar (ae 3)) (ae 7))))))))))
 (SF.append 4 rfl rfl rfl (.inl rfl) (aR (n:=2) (af (ae 7) (af (ae 5) ak)) rfl) λzS=>
 (SF.gw rfl (.keep (.keep (.keep (.keep (.keep (.keep (.keep (.drop (.drop (.refl _))))))))))))
 (SF.gw rfl (.keep (.keep (.keep (.keep (.keep (.keep (.keep (.drop (.drop (.refl _))))))))))))) λs9=>
 (SF.gw rfl (.keep (.keep (.keep (.keep (.keep (.drop (.drop (.refl _))))))))))) λs5=>
 (SF.Ob 4 rfl rfl))))
abbrev d_stay_of:DF:=⟨"stay_of",top 47,["houses","dates","begins","numbers","pair"],2,λK=>eJ K [.v,.v,.v,.v,.v] (ck 5 jv)⟩
def k_stay_of (D:DI v d_stay_of) (q:NB v) (ig:d_halves.C v) (pN:d_name_of.C v):D.O:=
 aaS (m:=jv) D sc_stay_of λfP dN km nU OL _ _ _ _ _ _ hr=>
 (sv 5 sc_stay_of.nd (aE rfl (ar (ae 4)) ao) λmn=>
 (sv 6 sc_stay_of.nd (aE rfl (ar (ae 4)) ao) λoe=>
 (sv 7 sc_stay_of.nd (iT Kx (aE rfl (ar (ae 1)) (ae 5)) (aE rfl (ar (ae 2)) (ae 6))) λvW=>
 (sv 8 sc_stay_of.nd (IZ (bH rfl (ae 7) (λ_=>rfl)) (aR (n:=1) (af (ae 5) ak) rfl) (eC ig hr (af (aE rfl (ar (ae 0)) (ae 5)) ak))) λbelow_4=>
 (sv 9 sc_stay_of.nd (cP rfl rfl q.tuple (dw (c9 rfl lc_stay_of_0 (bq rfl (br (ae 8))) (λ_ _ _ _ _=>(de 0 lc_stay_of_0.nd)) (λ_ _ _ _ _ p9=>(Qv (aQ hr) (ae 2) (aR (n:=2) (af (ae 0) (af (oE (ae 1) ao) ak)) rfl) (λ_ _=>rfl))) rfl))) λJO=>
 (sv 10 sc_stay_of.nd (cP rfl rfl q.tuple (dw (vO rfl lc_stay_of_1 (Tn (ae 3)) (λ_ _ _ _ _=>(de 0 lc_stay_of_1.nd)) (λ_ _ _ _ _ æ=>(qV.t (kX (dr (eO rfl (aQ hr)) (aE rfl (ar (ae 0)) ao) (ae 2)) (iD (dr (Kw rfl (aQ hr)) (aE rfl (ar (ae 0)) ao) (ae 1)))))) (λ_ _ _ _ _ æ=>(Qv (aQ hr) (ae 3) (ae 0) (λ_ _=>rfl))) rfl))) λwD=>
 (SF.bO (aR (n:=4) (af (eC pN hr (af (ae 0) (af (ae 5) ak))) (af (ae 6) (af (ae 9) (af (ae 10) ak)))) rfl) λ_=>rfl)))))))
abbrev d_dated:DF:=⟨"dated",top 48,["great","dates"],5,λK=>eJ K [.v,.v] (ck 2 j3)⟩
def k_dated (D:DI v d_dated) (q:NB v) (j9:d_nodes.C v) (u9:d_split_dates.C v) (Iz:d_standing.C v) (Mk:d_stay_of.C v):D.O:=
 pB (m:=j3) D sc_dated λdM dN _ _ _ _ _ _ hr=>
 (sv 2 sc_dated.nd (eC j9 hr (af (ae 0) ak)) λgb=>
 (sl 3 sc_dated.nd (qe rfl (bP (a9 (n:=1) (af ao ak) rfl)) (bP (S9 rfl rfl q.sorted (bP (lC u9 hr (af (ae 2) (af (ae 1) ak))))))) λuy=>
 SF.cT 3 rfl (sl 4 sc_dated.nd (lC Iz hr (af (ae 0) (af (ae 1) (af (ae 3) ak)))) λxt=>
 SF.cT 4 rfl (sv 5 sc_dated.nd (afZ (Uq rfl rfl (aQ hr) rfl q.dict (bP (tq rfl lc_dated_0 (oj rfl rfl q.enumerate (br (ae 4))) (λ_ _ _ _ _=>(Ms rfl (eB rfl (aN (de 0 lc_dated_0.nd) (aN (de 1 lc_dated_0.nd) c6))))) (λ_ _ _ _ _ ę=>(aR (n:=2) (af (ae 1) (af (ae 0) ak)) rfl)) (Ie rfl rfl ⋯) ⋯)))) λsL=>
 (SF.bO (cP rfl rfl q.tuple (dw (c9 rfl lc_dated_1 (bq rfl (br (ae 4))) (λ_ _ _ _ _=>(de 0 lc_dated_1.nd)) (λ_ _ _ _ _ p21=>(eC Mk hr (af (ae 3) (af (ae 2) (af (ae 1) (af (ae 4) (af (ae 0) ak))))))) rfl))) λ_=>rfl)))))
abbrev d_lost_on:DF:=⟨"lost_on",top 50,["ground","path"],2,λK=>eJ K [.v,.v] (ck 2 m_lost_on)⟩
def k_lost_on (D:DI v d_lost_on) (q:NB v) (eF:d_under_at.C v):D.O:=
 pB (m:=m_lost_on) D sc_lost_on λaP U7 _ _ _ _ _ _ hr=>
 (SF.bO (ng rfl rfl q.len (dw (vO rfl lc_lost_on_0 (bq rfl (br (wq rfl (ae 1) mW (mV (kH ao))))) (λ_ _ _ _ _=>(de 0 lc_lost_on_0.nd)) (λ_ _ _ _ _ p5=>(dr (eO rfl (aQ hr)) (cH rfl rfl q.len (eC eF hr (af (ae 1) (af (ae 0) ak)))) ao)) (λ_ _ _ _ _ p5=>(ae 0)) rfl))) λ_=>rfl)
abbrev d_counted:DF:=⟨"counted",top 51,["ground","way"],3,λK=>eJ K [.v,.v] (ck 2 m_counted)⟩
def k_counted (D:DI v d_counted) (q:NB v) (oO:v.mg "DEEDS"=ap (.ref rK)) (xO:TupK v.K rK ["split","doubled","over"]) (i8:d_ways_within.C v) (Ml:d_lost_on.C v):D.O:=
 pB (m:=m_counted) D sc_counted λaP gW _ _ _ _ _ _ hr=>
 (sl 2 sc_counted.nd (lC i8 hr (af (ae 1) ak)) λxq=>
 SF.cT 2 rfl (sl 3 sc_counted.nd (c9 rfl lc_counted_0 (bq rfl (br (ae 2))) (λ_ _ _ _ _=>(de 0 lc_counted_0.nd)) (λ_ _ _ _ _ p5=>(aE rfl (ar (ae 0)) ao)) rfl) λQy=>
 SF.cT 3 rfl (sv 4 sc_counted.nd (Yq rfl rfl rfl q.sum (bP (c9 rfl lc_counted_1 (bq rfl (br (ae 2))) (λ_ _ _ _ _=>(de 0 lc_counted_1.nd)) (λ_ _ _ _ _ p8=>(eC Ml hr (af (ae 1) (af (aE rfl (ar (ae 0)) ao) ak)))) rfl))) λO4=>
 (SF.bO (cP rfl rfl q.tuple (dw (qe rfl (bP (c9 rfl lc_counted_2 (it_mt rfl oO xO) (λ_ _ _ _ _=>(de 0 lc_counted_2.nd)) (λ_ _ _ _ _ Ā=>(Ue rfl (aQ hr) (lh (ae 1)) (ae 0))) rfl)) (bP (a9 (n:=1) (af (ae 4) ak) rfl))))) λ_=>rfl))))
abbrev d__law_pot:DF:=⟨"_law_pot",top 53,["_law_script","_law_k"],1,λK=>fo K [.v,.v] (ck 2 hX)⟩
def k__law_pot (D:DI v d__law_pot) (q:NB v):D.O:=
 LW (m:=hX) D sc__law_pot λfK k_ _ _ _ _ _ _ hr=>
 (sv 2 sc__law_pot.nd ao λQI=>
 (SF.ifS (out1:=λ(s3:PV)=>.nx ([ap (.val fK),ap (.val k_),ap (.val s3),bm]:bG)) (dr Kx (ae 1) (cH rfl rfl q.len (ae 0)))
 (sv 2 sc__law_pot.nd (ab8 rfl q.abs (aE rfl (ar (ae 0)) (ae 1))) λQH=>
 (SF.nil rfl (.refl _)))
 (SF.nil rfl (.refl _))
 λs3=>(sv 3 sc__law_pot.nd (qj (oG (ae 2) (qj (Qn ao ao) (Qn ao ao))) (rG rfl q.int (iT aa3 (ae 2) (Qn ao ao)))) λoH=>
 (SF.iG (a9 (n:=3) (af (ae 3) (af (oG (bR rfl (bR rfl (ae 2) (qj ao (ae 1))) ao) ao) (af ao ak))) rfl) λ_=>rfl))))
abbrev d__law_take:DF:=⟨"_law_take",top 54,["_law_pot_here","_law_many"],1,λK=>eJ K [.p (iC gZ),.v] (ck 1 bz)⟩
def k__law_take (D:DI v d__law_take):D.O:=
 WS (n:=1) (fnO (n:=1) (m:=f9) D.fn sc__law_take rfl λad dE l hl=>match l,hl with | [ju],_=>λ_ _ _ _ _ _ hr=>show SF _ _ _ [ap (.ol (ap ad) dE),ap (.val ju),bm,bm] _ (f9 dE ju) _ from
 (SF.y7 (dr Vm (aE rfl (cn 0) ao) ao)
 (sv 2 sc__law_take.nd (oG (aE rfl (cn 0) ao) (ae 1)) λK7=>
 (SF.HA 0 rfl rfl (.inl rfl) (VG (aE rfl (cn 0) ao) (ae 1)) ao λmT=>
 (SF.aae 0 (k:=λx5=>(x5,mT)) rfl (ae 2) λ_=>rfl)))
 (SF.af4 0 rfl rfl rfl (.inl rfl) ao ao XW aa5 λgY=>
 (sv 3 sc__law_take.nd (oG (bR rfl (bR rfl (qj (aE rfl (cn 0) ao) ao) (qj ao (aE rfl (cn 0) ao))) ao) ao) λsU=>
 (SF.HA 0 rfl rfl (.inl rfl) (oG (qj (ae 3) (bR rfl (bR rfl (oG (ae 3) ao) (qj ao (aE rfl (cn 0) ao))) ao)) ao) ao λiH=>
 (SF.aae 0 (k:=λkI=>(kI,iH)) rfl (oG (VG (aE rfl (cn 0) ao) ao) (ae 1)) λ_=>rfl)))))) RE
abbrev d__law_pick:DF:=⟨"_law_pick",top 55,["_law_pot_here","_law_some"],2,λK=>eJ K [.p (iC gZ),.v] (ck 1 bJ)⟩
def k__law_pick (D:DI v d__law_pick) (q:NB v) (aM:d__law_take.C v):D.O:=
 mB (m:=bJ) D sc__law_pick λN3 _ _ _ _ _ _ hr=>
 (SF.bO (aE rfl (ar (ae 1)) (eC aM hr (bU 0 (af (cH rfl rfl q.len (ae 1)) ak)))) λ_=>rfl)
abbrev d__law_words:DF:=⟨"_law_words",top 56,["_law_pot_here","_law_many"],2,λK=>fo K [.p (iC gZ),.v] (ck 1 dF)⟩
def k__law_words (D:DI v d__law_words) (q:NB v) (aM:d__law_take.C v):D.O:=
 S1 (m:=dF) D sc__law_words λju _ _ _ _ _ _ hr=>
 (sv 2 sc__law_words.nd ir λpF=>
 (sv 3 sc__law_words.nd (eC aM hr (bU 0 (af ao ak))) λrF=>
 (sv 4 sc__law_words.nd (aE rfl (dw (a9 (n:=6) (af ao (af ao (af ao (af ao (af ao (af ao ak)))))) rfl)) (eC aM hr (bU 0 (af ao ak)))) λHq=>
 (sv 5 sc__law_words.nd (aE rfl (dw (a9 (n:=2) (af ir (af ir ak)) rfl)) (eC aM hr (bU 0 (af ao ak)))) λw5=>
 (sl 6 sc__law_words.nd (a9 (n:=4) (af ir (af ir (af ir (af ir ak)))) rfl) λyj=>
 SF.cT 6 rfl (sl 7 sc__law_words.nd (a9 (n:=0) ak rfl) λtV=>
 (SF.ye (hd:=(λ(Wr:List PV)=>([ap (.kM (iC gZ)),ap (.val ju),ap (.val pF),ap (.val rF),ap (.val Hq),ap (.val w5),ap (.val (.cl yj)),ap (.ol bm Wr),bm,bm]:bG))) (s0:=tV) AQ rfl (gH rfl q.range (ae 1)) (.refl _) (de 8 sc__law_words.nd) (λWr XN=>
 (sv 9 sc__law_words.nd (ab5 (ae 2) (oG (bR rfl (ae 3) (qj (ae 4) (ae 8))) ao) (λ_ _=>rfl)) λvM=>
 (SF.append 7 rfl rfl rfl (.inl rfl) (bR rfl (bR rfl (ae 5) (ae 9)) (aE rfl (ar (ae 6)) (oG (bR rfl (ae 3) (ae 8)) ao))) λGu=>
 (SF.gw rfl (.keep (.keep (.keep (.keep (.keep (.keep (.keep (.keep (.drop (.drop (.refl _))))))))))))))) λWr=>
 (SF.Ob 7 rfl rfl))))))))
abbrev d__law_tree:DF:=⟨"_law_tree",top 57,["_law_pot_here","_law_words_here"],2,λK=>eJ K [.p (iC gZ),.v] (ck 1 fN)⟩
def k__law_tree (D:DI v d__law_tree) (q:NB v) (aM:d__law_take.C v):D.O:=
 mB (m:=fN) D sc__law_tree λeI _ _ _ _ _ _ hr=>
 (sl 2 sc__law_tree.nd (Xw rfl rfl q.list (ar (ae 1))) λsi=>
 (sv 3 sc__law_tree.nd (eC aM hr (bU 0 (af ao ak))) λgV=>
 (SF.zd (hd:=(λ(s4:List PV)=>([ap (.kM (iC gZ)),ap (.val eI),ap (.ol bm s4),ap (.val gV),bm,bm]:bG))) (s0:=si) AQ (.refl _) (λs4=>(dr Vm (ng rfl rfl q.len (cn 2)) ao)) (λs4=>
 (sv 4 sc__law_tree.nd (aE rfl (dw (a9 (n:=4) (af (eC aM hr (bU 0 (af (oE (ng rfl rfl q.len (cn 2)) ao) ak))) (af (oE (ng rfl rfl q.len (cn 2)) ao) (af ao (af ao ak)))) rfl)) (ae 3)) λnk=>
 (sv 5 sc__law_tree.nd (aR (n:=2) (af (aE rfl (cn 2) (ae 4)) (af (aE rfl (cn 2) (bR rfl (ae 4) ao)) ak)) rfl) λrj=>
 (SF.ifS (out1:=λ(YY:PV)=>.nx ([ap (.kM (iC gZ)),ap (.val eI),ap (.ol bm s4),ap (.val gV),ap (.val nk),ap (.val YY)]:bG)) (qV.t (kX (dr (eO rfl (aQ hr)) (ae 3) ao) (iD (dr (eO rfl (aQ hr)) (eC aM hr (bU 0 (af ao ak))) ao))))
 (sv 5 sc__law_tree.nd (aR (n:=2) (af (aE rfl (cn 2) (bR rfl (ae 4) ao)) (af (aE rfl (cn 2) (ae 4)) ak)) rfl) λrh=>
 (SF.nil rfl (.refl _)))
 (SF.nil rfl (.refl _))
 λYY=>(SF.Z3 2 rfl rfl (.inl rfl) (a9 (n:=1) (af (ae 5) ak) rfl) (ae 4) (bR rfl (ae 4) ao) λq8=>
 (SF.gw rfl (.keep (.keep (.keep (.keep (.drop (.drop (.refl _))))))))))))) λs4=>
 (SF.bO (aE rfl (cn 2) ao) λ_=>rfl))))
abbrev d__law_great:DF:=⟨"_law_great",top 58,["_law_pot_here"],3,λK=>eJ K [.p (iC gZ)] (ck 0 eX)⟩
def k__law_great (D:DI v d__law_great) (q:NB v) (lI:d__law_tree.C v) (xY:d__law_words.C v) (aM:d__law_take.C v):D.O:=
 aeF (m:=eX) D sc__law_great λ_ _ _ _ _ _ hr=>
 (SF.bO (eC lI hr (bU 0 (af (qk (lC xY hr (bU 0 (af (bR rfl ao (eC aM hr (bU 0 (af (aE rfl (dw (a9 (n:=2) (af ao (af ao ak)) rfl)) (rG rfl q.int (iT (eO rfl (aQ hr)) (eC aM hr (bU 0 (af ao ak))) ao))) ak)))) ak)))) ak))) λ_=>rfl)
abbrev d__law_nodes:DF:=⟨"_law_nodes",top 59,["_law_tree_here"],12,λK=>fo K [.v] (ck 1 (bf 12))⟩
theorem k__law_nodes (D:DI v d__law_nodes) (q:NB v):∀n,fH v.P v.w v.K v.mg v.base kN (n+0) D.f D.fd ["_law_tree_here"] (fo v.K [.v] (ck 1 (bf n)))
 | 0=>vY (J1 λl Q hl=>match l,hl with | [aH],_=>λh=>h.elim)
 | n+1=>have bZ:=D.cN (k__law_nodes D q n)
  fnL (k:=n+0) (n:=1) (m:=bf (n+1)) D.fn sc__law_nodes rfl (eL cO) λl hl=>match l,hl with | [aH],_=>λ_ _ _ _ _ _ hr=>show SF _ _ _ [ap (.val aH),bm,bm,bm] _ (bf (n+1) aH) _ from
 (SF.y7 (bH rfl (cL rfl .str rfl q.isinstance (ae 0) rfl q.str re) (λ_=>rfl))
 (SF.iG (a9 (n:=1) (af (ae 0) ak) rfl) λ_=>rfl)
 (sl 1 sc__law_nodes.nd (lC bZ hr (af (aE rfl (ar (ae 0)) ao) ak)) λxi=>
 (sv 2 sc__law_nodes.nd (ng rfl rfl q.len (cn 1)) λsW=>
 (SF.ye (hd:=(λ(s6:List PV)=>([ap (.val aH),ap (.ol bm s6),ap (.val sW),bm]:bG))) (s0:=xi) AQ rfl (bq rfl (tN (lC bZ hr (af (aE rfl (ar (ae 0)) ao) ak)))) (.refl _) (de 3 sc__law_nodes.nd) (λs6 zC=>
 (SF.append 1 rfl rfl rfl (.inl rfl) (IZ (bH rfl (cL rfl .str rfl q.isinstance (ae 3) rfl q.str re) (λ_=>rfl)) (ae 3) (aR (n:=2) (af (bR rfl (aE rfl (ar (ae 3)) ao) (ae 2)) (af (bR rfl (aE rfl (ar (ae 3)) ao) (ae 2)) ak)) rfl)) λOa=>
 (SF.gw rfl (.keep (.keep (.keep (.drop (.refl _)))))))) λs6=>
 (SF.iG (qe rfl (xj 1) (bP (a9 (n:=1) (af (aR (n:=2) (af (oE (ae 2) ao) (af (oE (ng rfl rfl q.len (cn 1)) ao) ak)) rfl) ak) rfl))) λ_=>rfl)))))
abbrev d__law_dates:DF:=⟨"_law_dates",top 60,["_law_pot_here","_law_rows"],3,λK=>eJ K [.p (iC gZ),.v] (ck 1 eZ)⟩
def k__law_dates (D:DI v d__law_dates) (q:NB v) (bL:d__law_pick.C v) (aM:d__law_take.C v):D.O:=
 mB (m:=eZ) D sc__law_dates λbI _ _ _ _ _ _ hr=>
 (sl 2 sc__law_dates.nd (O9 (a9 (n:=1) (af ao ak) rfl) (cH rfl rfl q.len (ae 1))) λkh=>
 (sl 4 sc__law_dates.nd (Vi rfl lc__law_dates_0 (oj rfl rfl q.enumerate (br (ae 1))) (λ_ _ _ _ _=>(Ms rfl (eB rfl (aN (de 0 lc__law_dates_0.nd) (aN (de 1 lc__law_dates_0.nd) c6))))) (λ_ _ _ _ _ t9=>(iE (bH rfl (cL rfl .str rfl q.isinstance (ae 1) rfl q.str re) (λ_=>rfl)))) (λ_ _ _ _ _ t9=>(ae 0)) (Ie rfl rfl ⋯) ⋯) λIa=>
 (sv 5 sc__law_dates.nd ao λyB=>
 (SF.zd (hd:=(λ(qA:List PV×List PV×PV)=>([ap (.kM (iC gZ)),ap (.val bI),ap (.ol bm qA.1),bm,ap (.ol bm qA.2.1),ap (.val qA.2.2),bm]:bG))) (s0:=(kh,Ia,yB)) AQ (.refl _) (λqA=>(NM rfl (aQ hr) (xj 4))) (λqA=>
 (SF.as (YF 4 rfl (YE (i:=6) rfl sc__law_dates.nd rfl rfl lc__law_dates_1 (bq rfl (br (ae 4))) (λ_ _ _ _ _=>(de 0 lc__law_dates_1.nd)) (λ_ _ _ _ _ å=>(qV.t (kX (w4 rfl (aQ hr) (aE rfl (ar (aE rfl (ar (ae 2)) (ae 0))) ao) (ar (ae 1))) (iD (w4 rfl (aQ hr) (aE rfl (ar (aE rfl (ar (ae 2)) (ae 0))) ao) (ar (ae 1))))))) (λ_ _ _ _ _ å=>(ae 0)) rfl)) λzG=>
 SF.cT 6 rfl (sv 3 sc__law_dates.nd (eC bL hr (bU 0 (af (ae 6) ak))) λtP=>
 (sv 5 sc__law_dates.nd (bR rfl (bR rfl (ae 5) ao) (eC aM hr (bU 0 (af (aE rfl (dw (a9 (n:=3) (af ao (af ao (af ao ak))) rfl)) (eC aM hr (bU 0 (af ao ak)))) ak)))) λyA=>
 (SF.HA 2 rfl rfl (.inl rfl) (ae 5) (ae 3) λmM=>
 (SF.remove 4 rfl rfl rfl (.inr (.inl rfl)) (ae 3) λKq=>
 (SF.gw rfl (.keep (.keep (.keep (.drop (.keep (.keep (.drop (.refl _))))))))))))))) λqA=>
 (SF.bO (cP rfl rfl q.tuple (cn 2)) λ_=>rfl)))))
abbrev d__law_small:DF:=⟨"_law_small",top 61,["_law_pot_here","_law_great_here"],13,λK=>eJ K [.p (iC gZ),.v] (ck 1 eW)⟩
def k__law_small (D:DI v d__law_small) (q:NB v) (bZ:d__law_nodes.C v) (aM:d__law_take.C v) (lI:d__law_tree.C v) (bL:d__law_pick.C v):D.O:=
 mB (m:=eW) D sc__law_small λqh _ _ _ _ _ _ hr=>
 (sl 2 sc__law_small.nd (vO rfl lc__law_small_0 (bq rfl (tN (lC bZ hr (af (ae 1) ak)))) (λ_ _ _ _ _=>(de 0 lc__law_small_0.nd)) (λ_ _ _ _ _ p4=>(bH rfl (cL rfl .str rfl q.isinstance (ae 0) rfl q.str re) (λ_=>rfl))) (λ_ _ _ _ _ p4=>(ae 0)) rfl) λny=>
 SF.cT 2 rfl (sv 3 sc__law_small.nd (bR rfl ao (eC aM hr (bU 0 (af (aE rfl (dw (a9 (n:=2) (af ao (af ao ak)) rfl)) (rG rfl q.int (iT (eO rfl (aQ hr)) (eC aM hr (bU 0 (af ao ak))) ao))) ak)))) λO2=>
 (SF.bO (eC lI hr (bU 0 (af (qk (c9 rfl lc__law_small_1 (gH rfl q.range (ae 3)) (λ_ _ _ _ _=>(de 0 lc__law_small_1.nd)) (λ_ _ _ _ _ Ā=>(eC bL hr (bU 1 (af (ae 2) ak)))) rfl)) ak))) λ_=>rfl)))
abbrev d__law_deeds:DF:=⟨"_law_deeds",top 62,["_law_stays","_law_stay"],1,λK=>fo K [.v,.v] (ck 2 eY)⟩
def k__law_deeds (D:DI v d__law_deeds) (q:NB v):D.O:=
 LW (m:=eY) D sc__law_deeds λaK a7 _ _ _ _ _ _ hr=>
 (SF.RV (aE rfl (ar (ae 0)) (ae 1)) (g_4 rfl (eB rfl (aN (de 2 sc__law_deeds.nd) (aN (de 3 sc__law_deeds.nd) (aN (de 4 sc__law_deeds.nd) (aN (de 5 sc__law_deeds.nd) c6)))))) λt3=>
 (sl 6 sc__law_deeds.nd (a9 (n:=1) (af (aR (n:=3) (af ir (af (ae 1) (af (ae 1) ak))) rfl) ak) rfl) λyd=>
 (SF.ifS (out1:=λ(à:List PV)=>.nx ([ap (.val aK),ap (.val a7),ap (.val t3.1),ap (.val t3.2.1),ap (.val t3.2.2.1),ap (.val t3.2.2.2),ap (.ol bm à),bm]:bG)) (dr (eO rfl (aQ hr)) (cH rfl rfl q.len (ae 4)) ao)
 (SF.extend 6 rfl rfl rfl (.inl rfl) (dw (a9 (n:=2) (af (aR (n:=3) (af ir (af (aE rfl (ar (ae 4)) ao) (af (aE rfl (ar (ae 4)) ao) ak))) rfl) (af (aR (n:=3) (af ir (af (aE rfl (ar (ae 4)) ao) (af (aE rfl (ar (ae 4)) ao) ak))) rfl) ak)) rfl)) λGv=>
 (SF.nil rfl (.refl _)))
 (SF.nil rfl (.refl _))
 λà=>(SF.ye (hd:=(λ(RY:List PV)=>([ap (.val aK),ap (.val a7),ap (.val t3.1),ap (.val t3.2.1),ap (.val t3.2.2.1),ap (.val t3.2.2.2),ap (.ol bm RY),bm]:bG))) (s0:=à) AQ rfl (bq rfl (br (ae 5))) (.refl _) (de 7 sc__law_deeds.nd) (λRY jq=>
 (SF.extend 6 rfl rfl rfl (.inl rfl) (dw (a9 (n:=2) (af (aR (n:=3) (af ir (af (ae 1) (af (ae 7) ak))) rfl) (af (aR (n:=3) (af ir (af (ae 7) (af (ae 1) ak))) rfl) ak)) rfl)) λox=>
 (SF.gw rfl (.keep (.keep (.keep (.keep (.keep (.keep (.keep (.drop (.refl _)))))))))))) λRY=>
 (SF.Ob 6 rfl rfl)))))
abbrev d__law_done:DF:=⟨"_law_done",top 63,["_law_stays","_law_rows","_law_can_here","_law_node","_law_stay"],2,λK=>fo K [.v,.v,.v,.v,.v] (ck 5 cD)⟩
def k__law_done (D:DI v d__law_done) (q:NB v) (yb:d__law_deeds.C v):D.O:=
 aeG (m:=cD) D sc__law_done λaK bI a6 cp a7 _ _ _ _ _ _ hr=>
 (sv 5 sc__law_done.nd (aE rfl (ar (ae 1)) (ae 3)) λzD=>
 (SF.y7 (bH rfl (cL rfl .str rfl q.isinstance (ae 5) rfl q.str re) (λ_=>rfl))
 (SF.iG (O9 (a9 (n:=1) (af (aR (n:=3) (af ir (af (ae 4) (af (ae 4) ak))) rfl) ak) rfl) (rG rfl q.int (mK (iT (eO rfl (aQ hr)) (aE rfl (ar (aE rfl (ar (ae 0)) (ae 4))) ao) (aR (n:=0) ak rfl)) (mJ (iT (eO rfl (aQ hr)) (aE rfl (ar (aE rfl (ar (ae 0)) (ae 4))) ao) (ae 5)))))) λ_=>rfl)
 (SF.iG (vO rfl lc__law_done_0 (bq rfl (tN (lC yb hr (af (ae 0) (af (ae 4) ak))))) (λ_ _ _ _ _=>(de 0 lc__law_done_0.nd)) (λ_ _ _ _ _ Kh=>(qV.t (kX (bH rfl (aE rfl (ar (aE rfl (ar (ae 1)) (aE rfl (ar (ae 2)) ao))) (aE rfl (ar (ae 0)) ao)) (λ_=>rfl)) (iD (bH rfl (aE rfl (ar (aE rfl (ar (ae 1)) (aE rfl (ar (ae 2)) ao))) (aE rfl (ar (ae 0)) ao)) (λ_=>rfl)))))) (λ_ _ _ _ _ Kh=>(ae 0)) rfl) λ_=>rfl)))
abbrev d__law_can:DF:=⟨"_law_can",top 64,["_law_stays","_law_rows"],3,λK=>fo K [.v,.v] (ck 2 hZ)⟩
def k__law_can (D:DI v d__law_can) (q:NB v) (cG:d__law_done.C v):D.O:=
 LW (m:=hZ) D sc__law_can λaK bI _ _ _ _ _ _ hr=>
 (SF.Z7 (i:=2) sc__law_can.nd rfl (Cy rfl)
 (SF.ye (hd:=(λ(s3:(List ci×List (List PV)))=>([ap (.val aK),ap (.val bI),ap (.rk s3.1 s3.2),bm,bm,bm]:bG))) (s0:=(([]:List ci),([]:List (List PV)))) AQ rfl (gH rfl q.range (cH rfl rfl q.len (ae 1))) (.refl _) (de 3 sc__law_can.nd) (λs3 sP=>
 (SF.QS 2 rfl rfl rfl (.inr (.inl rfl)) (O9 (a9 (n:=1) (af lO ak) rfl) (cH rfl rfl q.len (ae 0))) λb9 tW=>
 (SF.ye (hd:=(λ(Np:(List ci×List (List PV)))=>([ap (.val aK),ap (.val bI),ap (.rk Np.1 Np.2),ap (.val sP),bm,bm]:bG))) (s0:=(b9,tW)) AQ rfl (gH rfl q.range (cH rfl rfl q.len (ae 0))) (.refl _) (de 4 sc__law_can.nd) (λNp qY=>
 (sv 5 sc__law_can.nd (K5 2 rfl (VH 2 rfl (ab7 rfl rfl rfl q.any (bP (c9 rfl lc__law_can_0 (bq rfl (br (aE rfl (ar (aE rfl (ar (ae 0)) (ae 4))) ao))) (λ_ _ _ _ _=>(de 0 lc__law_can_0.nd)) (λ_ _ _ _ _ ÿ=>(aE rfl (ar (aE rfl (ar (ae 1)) (ae 2))) (ae 0))) rfl))))) λU9=>
 (SF.Z8 2 rfl rfl rfl (.inr (.inl rfl)) (K5 2 rfl (VH 2 rfl (ab0 (ae 5) (mJ (ab1 rfl (aQ hr) (bP (lC cG hr (af (ae 0) (af (ae 1) (af (ae 2) (af (ae 3) (af (ae 4) ak)))))))))))) (ae 3) (ae 4) (λ_ _=>rfl) λGs=>
 (SF.gw rfl (.keep (.keep (.keep (.keep (.drop (.drop (.refl _))))))))))) λNp=>
 (SF.gw rfl (.keep (.keep (.keep (.drop (.refl _))))))))) λs3=>
 (SF.abH 2 rfl (SF.Ob 2 rfl rfl))))
abbrev d__law_path:DF:=⟨"_law_path",top 65,["_law_pot_here","_law_stays","_law_rows","_law_can_here","_law_node","_law_stay"],3,λK=>eJ K [.p (iC gZ),.v,.v,.v,.v,.v] (ck 5 eN)⟩
def k__law_path (D:DI v d__law_path) (q:NB v) (aM:d__law_take.C v) (cG:d__law_done.C v) (bL:d__law_pick.C v):D.O:=
 aaS (m:=eN) D sc__law_path λaK bI a6 cp a7 _ _ _ _ _ _ hr=>
 (sl 6 sc__law_path.nd (a9 (n:=1) (af (ae 5) ak) rfl) λeK=>
 (SF.ye (hd:=(λ(s4:List PV)=>([ap (.kM (iC gZ)),ap (.val aK),ap (.val bI),ap (.val a6),ap (.val cp),ap (.val a7),ap (.ol bm s4),bm,bm,bm]:bG))) (s0:=eK) AQ rfl (gH rfl q.range (cH rfl rfl q.len (ae 1))) (.refl _) (de 7 sc__law_path.nd) (λs4 V5=>
 (SF.N6 (i:=8) rfl sc__law_path.nd rfl rfl lc__law_path_0 (bq rfl (br (aE rfl (ar (aE rfl (ar (ae 1)) (aE rfl (cn 6) (kH ao)))) ao))) (λ_ _ _ _ _=>(de 0 lc__law_path_0.nd)) (λ_ _ _ _ _ p8=>(bH rfl (aE rfl (ar (aE rfl (ar (ae 1)) (ae 2))) (ae 0)) (λ_=>rfl))) (λ_ _ _ _ _ p8=>(ae 0)) rfl λXg=>
 SF.cT 8 rfl (sv 9 sc__law_path.nd (ab0 (ab6 rfl (aQ hr) (bP (lC cG hr (af (ae 1) (af (ae 2) (af (ae 3) (af (ae 4) (af (aE rfl (cn 6) (kH ao)) ak)))))))) (mJ (iT (eO rfl (aQ hr)) (eC aM hr (bU 0 (af ao ak))) ao))) λQk=>
 (SF.Y4 (qV.t (kX (NM rfl (aQ hr) (lh (ae 8))) (iD (bH rfl (ae 9) (λ_=>rfl)))))
 (SF.append 6 rfl rfl rfl (.inl rfl) (eC bL hr (bU 0 (af (ae 8) ak))) λgG=>
 (SF.gw rfl (.keep (.keep (.keep (.keep (.keep (.keep (.keep (.drop (.drop (.drop (.refl _)))))))))))))
 (SF.gw rfl (.keep (.keep (.keep (.keep (.keep (.keep (.keep (.drop (.drop (.drop (.refl _)))))))))))))))) λs4=>
 (SF.zd (hd:=(λ(N8:List PV)=>([ap (.kM (iC gZ)),ap (.val aK),ap (.val bI),ap (.val a6),ap (.val cp),ap (.val a7),ap (.ol bm N8),bm,bm,bm]:bG))) (s0:=s4) AQ (.refl _) (λN8=>(ZJ rfl (aQ hr) (bP (lC cG hr (af (ae 1) (af (ae 2) (af (ae 3) (af (ae 4) (af (aE rfl (cn 6) (kH ao)) ak))))))))) (λN8=>
 (SF.append 6 rfl rfl rfl (.inl rfl) (eC bL hr (bU 0 (af (qk (vO rfl lc__law_path_1 (bq rfl (br (aE rfl (ar (aE rfl (ar (ae 1)) (aE rfl (cn 6) (kH ao)))) ao))) (λ_ _ _ _ _=>(de 0 lc__law_path_1.nd)) (λ_ _ _ _ _ þ=>(bH rfl (aE rfl (ar (aE rfl (ar (ae 1)) (ae 2))) (ae 0)) (λ_=>rfl))) (λ_ _ _ _ _ þ=>(ae 0)) rfl)) ak))) λnS=>
 (SF.gw rfl (.refl _)))) λN8=>
 (SF.bO (cP rfl rfl q.tuple (cn 6)) λ_=>rfl))))
abbrev d__law_way:DF:=⟨"_law_way",top 66,["_law_pot_here","_law_stays","_law_rows","_law_can_here","_law_node","_law_path_here"],15,λK=>eJ K [.p (iC gZ),.v,.v,.v,.v,.v] (ck 5 (c8 12))⟩
theorem k__law_way (D:DI v d__law_way) (bL:d__law_pick.C v) (cG:d__law_done.C v) (lJ:d__law_path.C v):∀n,fH v.P v.w v.K v.mg v.base kN (n+3) D.f D.fd ["_law_pot_here","_law_stays","_law_rows","_law_can_here","_law_node","_law_path_here"] (eJ v.K [.p (iC gZ),.v,.v,.v,.v,.v] (ck 5 (c8 n)))
 | 0=>vY (xb λl Q hl=>match l,hl with | [aK,bI,a6,cp,eD],_=>λh=>h.elim)
 | n+1=>have ka:=D.cN (k__law_way D bL cG lJ n)
  fnV (k:=n+3) (n:=5) (m:=c8 (n+1)) D.fn sc__law_way rfl (aF (n:=5)) λl hl=>match l,hl with | [aK,bI,a6,cp,eD],_=>λ_ _ _ _ _ _ hr=>show SF _ _ _ [ap (.kM (iC gZ)),ap (.val aK),ap (.val bI),ap (.val a6),ap (.val cp),ap (.val eD),bm,bm,bm,bm,bm] _ (c8 (n+1) aK bI a6 cp eD) _ from
 (SF.RV (eC bL hr (bU 0 (af (qk (lC cG hr (af (ae 1) (af (ae 2) (af (ae 3) (af (ae 4) (af (aE rfl (ar (ae 5)) (kH ao)) ak))))))) ak))) (g_3 rfl (eB rfl (aN (de 6 sc__law_way.nd) (aN (de 7 sc__law_way.nd) (aN (de 8 sc__law_way.nd) c6))))) λt8=>
 (SF.y7 (dr (eO rfl (aQ hr)) (ae 6) ir)
 (SF.bO (aR (n:=2) (af (ae 5) (af (ae 6) ak)) rfl) λ_=>rfl)
 (sv 9 sc__law_way.nd (aE rfl (ar (ae 2)) (ae 4)) λsC=>
 (sv 10 sc__law_way.nd (eC ka hr (bU 0 (af (ae 1) (af (ae 2) (af (ae 3) (af (aE rfl (ar (ae 9)) ao) (af (eC lJ hr (bU 0 (af (ae 1) (af (ae 2) (af (ae 3) (af (aE rfl (ar (ae 9)) ao) (af (ae 7) ak))))))) ak))))))) λGw=>
 (SF.bO (aR (n:=4) (af (ae 5) (af (ae 6) (af (ae 10) (af (eC ka hr (bU 0 (af (ae 1) (af (ae 2) (af (ae 3) (af (aE rfl (ar (ae 9)) ao) (af (eC lJ hr (bU 0 (af (ae 1) (af (ae 2) (af (ae 3) (af (aE rfl (ar (ae 9)) ao) (af (ae 8) ak))))))) ak))))))) ak)))) rfl) λ_=>rfl)))))
abbrev d__law_whole_way:DF:=⟨"_law_whole_way",top 67,["_law_pot_here","_law_stays","_law_small_here"],16,λK=>eJ K [.p (iC gZ),.v,.v] (ck 2 cS)⟩
def k__law_whole_way (D:DI v d__law_whole_way) (q:NB v) (bZ:d__law_nodes.C v) (IJ:d__law_can.C v) (cG:d__law_done.C v) (ka:d__law_way.C v) (bL:d__law_pick.C v):D.O:=
 pB (m:=cS) D sc__law_whole_way λaK qa _ _ _ _ _ _ hr=>
 (sl 3 sc__law_whole_way.nd (lC bZ hr (af (ae 2) ak)) λsA=>
 SF.cT 3 rfl (sl 4 sc__law_whole_way.nd (lC IJ hr (af (ae 1) (af (ae 3) ak))) λnj=>
 SF.cT 4 rfl (sv 5 sc__law_whole_way.nd (oE (cH rfl rfl q.len (ae 3)) ao) λIg=>
 (SF.N6 (i:=6) rfl sc__law_whole_way.nd rfl rfl lc__law_whole_way_0 (gH rfl q.range (cH rfl rfl q.len (ae 1))) (λ_ _ _ _ _=>(de 0 lc__law_whole_way_0.nd)) (λ_ _ _ _ _ Sv=>(NM rfl (aQ hr) (bP (lC cG hr (af (ae 4) (af (ae 3) (af (ae 1) (af (ae 2) (af (ae 0) ak))))))))) (λ_ _ _ _ _ Sv=>(ae 0)) rfl λN2=>
 SF.cT 6 rfl (SF.bO (eC ka hr (bU 0 (af (ae 1) (af (ae 3) (af (ae 4) (af (ae 5) (af (aR (n:=1) (af (eC bL hr (bU 0 (af (ae 6) ak))) ak) rfl) ak))))))) λ_=>rfl)))))
abbrev d__law_same:DF:=⟨"_law_same",top 68,["_law_found","_law_due"],4,λK=>eJ K [.v,.v] (ck 2 (m__law_same 4))⟩
theorem k__law_same (D:DI v d__law_same) (q:NB v):∀n,fH v.P v.w v.K v.mg v.base kN (n+0) D.f D.fd ["_law_found","_law_due"] (eJ v.K [.v,.v] (ck 2 (m__law_same n)))
 | 0=>vY (xb λl Q hl=>match l,hl with | [gz,qR],_=>λh=>h.elim)
 | n+1=>have iL:=D.cN (k__law_same D q n)
  fnV (k:=n+0) (n:=2) (m:=m__law_same (n+1)) D.fn sc__law_same rfl (eL (eL cO)) λl hl=>match l,hl with | [gz,qR],_=>λ_ _ _ _ _ _ hr=>show SF _ _ _ [ap (.val gz),ap (.val qR)] _ (m__law_same (n+1) gz qR) _ from
 (SF.y7 (bH rfl (cL rfl .tup rfl q.isinstance (ae 1) rfl q.tuple boot_tuple) (λ_=>rfl))
 (SF.y7 (qV.t (nG (iE (bH rfl (cL rfl .tup rfl q.isinstance (ae 0) rfl q.tuple boot_tuple) (λ_=>rfl))) (jQ (dr (Kw rfl (aQ hr)) (cH rfl rfl q.len (ae 0)) (cH rfl rfl q.len (ae 1))))))
 (SF.bO lO λ_=>rfl)
 (SF.bO (GH rfl rfl rfl q.all (bP (tq rfl lc__law_same_0 (tF rfl rfl q.zip (br (ae 0)) (br (ae 1))) (λ_ _ _ _ _=>(Ms rfl (eB rfl (aN (de 0 lc__law_same_0.nd) (aN (de 1 lc__law_same_0.nd) c6))))) (λ_ _ _ _ _ t5=>(eC iL hr (af (ae 0) (af (ae 1) ak)))) (Ie rfl rfl ⋯) ⋯))) λ_=>rfl))
 (SF.y7 (qV.t (nG (bH rfl (cL rfl .str rfl q.isinstance (ae 1) rfl q.str re) (λ_=>rfl)) (jQ (dr xQ (ae 1) ug))))
 (SF.bO (mK (iT (eO rfl (aQ hr)) (cL rfl .str rfl q.isinstance (ae 0) rfl q.str re) (cL rfl .str rfl q.isinstance (ae 1) rfl q.str re)) (mJ (iT (eO rfl (aQ hr)) (ae 0) (ae 1)))) λ_=>rfl)
 (SF.bO (mK (cL rfl .int rfl q.isinstance (ae 0) rfl q.int boot_int) (mK (VE (cL rfl .bool rfl q.isinstance (ae 0) rfl q.bool boot_bool)) (mJ (iT (eO rfl (aQ hr)) (ae 0) (ae 1))))) λ_=>rfl)))
abbrev jc:DF:=⟨"_law_called",top 69,["_law_tree_here","_law_turn"],12,λK=>eJ K [.v,.v] (ck 2 (aZ 12))⟩
theorem mG (D:DI v jc) (q:NB v):∀n,fH v.P v.w v.K v.mg v.base kN (n+0) D.f D.fd ["_law_tree_here","_law_turn"] (eJ v.K [.v,.v] (ck 2 (aZ n)))
 | 0=>vY (xb λl Q hl=>match l,hl with | [aH,rV],_=>λh=>h.elim)
 | n+1=>have dX:=D.cN (mG D q n)
  fnV (k:=n+0) (n:=2) (m:=aZ (n+1)) D.fn kZ rfl (eL (eL cO)) λl hl=>match l,hl with | [aH,rV],_=>λ_ _ _ _ _ _ hr=>show SF _ _ _ [ap (.val aH),ap (.val rV),bm,bm] _ (aZ (n+1) aH rV) _ from
 (SF.y7 (bH rfl (cL rfl .str rfl q.isinstance (ae 0) rfl q.str re) (λ_=>rfl))
 (SF.bO (bR rfl ir (abZ (ae 0) mW (mV ao))) λ_=>rfl)
 (SF.par (i:=2) (j:=3) rfl kZ.nd rfl rfl ⋯ rfl rfl (eC dX hr (af (aE rfl (ar (ae 0)) ao) (af (ae 1) ak))) (eC dX hr (af (aE rfl (ar (ae 0)) ao) (af (ae 1) ak))) λOP xx=>
 (SF.bO (aE rfl (dw (a9 (n:=2) (af (aR (n:=2) (af (ae 2) (af (ae 3) ak)) rfl) (af (aR (n:=2) (af (ae 3) (af (ae 2) ak)) rfl) ak)) rfl)) (ae 1)) λ_=>rfl)))
abbrev iu:DF:=⟨"_law_numbers",top 70,["_law_tree_here","_law_first"],12,λK=>fo K [.v,.v] (ck 2 (bp 12))⟩
theorem lE (D:DI v iu) (q:NB v):∀n,fH v.P v.w v.K v.mg v.base kN (n+0) D.f D.fd ["_law_tree_here","_law_first"] (fo v.K [.v,.v] (ck 2 (bp n)))
 | 0=>vY (J1 λl Q hl=>match l,hl with | [aH,lK],_=>λh=>h.elim)
 | n+1=>have e7:=D.cN (lE D q n)
  fnL (k:=n+0) (n:=2) (m:=bp (n+1)) D.fn gs rfl (eL (eL cO)) λl hl=>match l,hl with | [aH,lK],_=>λ_ _ _ _ _ _ hr=>show SF _ _ _ [ap (.val aH),ap (.val lK),bm,bm] _ (bp (n+1) aH lK) _ from
 (SF.y7 (bH rfl (cL rfl .str rfl q.isinstance (ae 0) rfl q.str re) (λ_=>rfl))
 (SF.iG (a9 (n:=1) (af (ae 1) ak) rfl) λ_=>rfl)
 (sl 2 gs.nd (lC e7 hr (af (aE rfl (ar (ae 0)) ao) (af (ae 1) ak))) λKk=>
 SF.cT 2 rfl (sl 3 gs.nd (lC e7 hr (af (aE rfl (ar (ae 0)) ao) (af (bR rfl (ae 1) (cH rfl rfl q.len (ae 2))) ak))) λxy=>
 SF.cT 3 rfl (SF.iG (qe rfl (bP (qe rfl (lh (ae 3)) (lh (ae 2)))) (bP (a9 (n:=1) (af (bR rfl (bR rfl (ae 1) (cH rfl rfl q.len (ae 2))) (cH rfl rfl q.len (ae 3))) ak) rfl))) λ_=>rfl))))
abbrev gA:DF:=⟨"_law_house_of",top 71,["_law_rows","_law_stay"],1,λK=>eJ K [.v,.v] (ck 2 cC)⟩
def qF (D:DI v gA) (q:NB v):D.O:=
 pB (m:=cC) D o7 λbI a7 _ _ _ _ _ _ hr=>
 (SF.bO (IZ (bH rfl (cL rfl .str rfl q.isinstance (aE rfl (ar (ae 1)) ao) rfl q.str re) (λ_=>rfl)) (K4 rfl (aQ hr) (lh (ae 0)) (aE rfl (ar (ae 1)) ao)) (aE rfl (ar (ae 1)) ao)) λ_=>rfl)
abbrev kl:DF:=⟨"_law_moved",top 72,["_law_way_here","_law_spots"],12,λK=>eJ K [.v,.v] (ck 2 (bF 12))⟩
theorem og (D:DI v kl) (q:NB v):∀n,fH v.P v.w v.K v.mg v.base kN (n+0) D.f D.fd ["_law_way_here","_law_spots"] (eJ v.K [.v,.v] (ck 2 (bF n)))
 | 0=>vY (xb λl Q hl=>match l,hl with | [fm,o4],_=>λh=>h.elim)
 | n+1=>have kc:=D.cN (og D q n)
  fnV (k:=n+0) (n:=2) (m:=bF (n+1)) D.fn mF rfl (eL (eL cO)) λl hl=>match l,hl with | [fm,o4],_=>λ_ _ _ _ _ _ hr=>show SF _ _ _ [ap (.val fm),ap (.val o4),bm] _ (bF (n+1) fm o4) _ from
 (sv 2 mF.nd (cP rfl rfl q.tuple (dw (c9 rfl kC (bq rfl (br (aE rfl (ar (ae 0)) ao))) (λ_ _ _ _ _=>(de 0 kC.nd)) (λ_ _ _ _ _ p3=>(aE rfl (ar (ae 1)) (ae 0))) rfl))) λeK=>
 (SF.bO (bR rfl (aR (n:=2) (af (ae 2) (af (aE rfl (ar (ae 0)) ao) ak)) rfl) (cP rfl rfl q.tuple (dw (c9 rfl kB (bq rfl (br (wq rfl (ae 0) (mV ao) mW))) (λ_ _ _ _ _=>(de 0 kB.nd)) (λ_ _ _ _ _ Sv=>(eC kc hr (af (ae 0) (af (ae 1) ak)))) rfl)))) λ_=>rfl))
abbrev d_law:DF:=⟨"law",top 73,["_law_script"],17,λK=>eJ K [.v] (ck 1 n6)⟩
def k_law (D:DI v d_law) (q:NB v) (II:d__law_pot.C v) (ya:d__law_great.C v) (dX:jc.C v) (e7:iu.C v) (bZ:d__law_nodes.C v) (Gn:d_ground.C v) (aM:d__law_take.C v) (yc:d__law_dates.C v) (KQ:d_dated.C v) (kE:gA.C v) (xZ:d__law_small.C v) (pP:d__law_whole_way.C v) (kc:kl.C v) (Gk:d_is_way.C v) (iL:d__law_same.C v) (vX:d_counted.C v) (Gj:d_places.C v):D.O:=
 mB (m:=n6) D sc_law λfK _ _ _ _ _ _ hr=>
 (SF.Vz (hd:=(λ(s6:Unit)=>([ap (.val fK),bm,bm,bm,bm,bm,bm,bm,bm,bm,bm,bm,bm,bm,bm,bm]:bG))) (s0:=()) (inj:=id) AQ rfl (gH rfl q.range (ab3 rfl rfl q.max ao (ab2 rfl rfl q.min (cH rfl rfl q.len (ae 0)) ao))) (.refl _) (de 1 sc_law.nd) (λ_=>trivial) (λs6 ģ=>
 (sl 2 sc_law.nd (lC II hr (af (ae 0) (af (ae 1) ak))) λsG=>SF.kM 2 rfl
 (sv 3 sc_law.nd (eC ya hr (bU 2 ak)) λcf=>
 (SF.RV (aR (n:=2) (af (eC dX hr (af (ae 3) (af ao ak))) (af (qk (lC e7 hr (af (ae 3) (af ao ak)))) ak)) rfl) (Ms rfl (eB rfl (aN (de 4 sc_law.nd) (aN (de 5 sc_law.nd) c6)))) λUZ=>
 (SF.RV (aR (n:=2) (af (qk (lC bZ hr (af (ae 3) ak))) (af (qk (lC bZ hr (af (ae 4) ak))) ak)) rfl) (Ms rfl (eB rfl (aN (de 6 sc_law.nd) (aN (de 7 sc_law.nd) c6)))) λYW=>
 (SF.par (i:=8) (j:=9) rfl sc_law.nd rfl rfl ⋯ rfl rfl (eC Gn hr (af (ae 3) ak)) (eC Gn hr (af (ae 4) ak)) λzu vI=>
 (SF.ifS (out1:=λ(LI:PV×PV)=>.nx ([ap (.val fK),ap (.val ģ),ap (.kM (iC gZ)),ap (.val cf),ap (.val UZ.1),ap (.val UZ.2),ap (.val YW.1),ap (.val YW.2),ap (.val LI.1),ap (.val LI.2),bm,bm,bm,bm,bm,bm]:bG)) (dr (eO rfl (aQ hr)) (eC aM hr (bU 2 (af ao ak))) ao)
 (sv 10 sc_law.nd (eC yc hr (bU 2 (af (ae 6) ak))) λjb=>
 (SF.par (i:=8) (j:=9) rfl sc_law.nd rfl rfl ⋯ rfl rfl (eC KQ hr (af (ae 3) (af (ae 10) ak))) (eC KQ hr (af (ae 4) (af (cP rfl rfl q.tuple (dw (c9 rfl lc_law_0 (bq rfl (br (ae 5))) (λ_ _ _ _ _=>(de 0 lc_law_0.nd)) (λ_ _ _ _ _ p48=>(aE rfl (ar (ae 1)) (ae 0))) rfl))) ak))) λzr vH=>
 (SF.nil rfl (.keep (.keep (.keep (.keep (.keep (.keep (.keep (.keep (.keep (.keep (.drop (.refl _)))))))))))))))
 (SF.nil rfl (.refl _))
 λLI=>(sl 11 sc_law.nd (c9 rfl lc_law_1 (bq rfl (br (ae 9))) (λ_ _ _ _ _=>(de 0 lc_law_1.nd)) (λ_ _ _ _ _ Ğ=>(aR (n:=2) (af (aE rfl (ar (ae 1)) (eC kE hr (af (ae 2) (af (ae 0) ak)))) (af (aE rfl (ar (ae 0)) ao) ak)) rfl)) rfl) λzl=>
 SF.cT 11 rfl (sl 12 sc_law.nd (c9 rfl F6 (bq rfl (br (ae 8))) (λ_ _ _ _ _=>(de 0 F6.nd)) (λ_ _ _ _ _ ĝ=>(K4 rfl (aQ hr) (lh (ae 2)) (aR (n:=2) (af (eC kE hr (af (ae 1) (af (ae 0) ak))) (af (aE rfl (ar (ae 0)) ao) ak)) rfl))) rfl) λsf=>
 SF.cT 12 rfl (sv 13 sc_law.nd (eC xZ hr (bU 2 (af (ae 3) ak))) λfJ=>
 (sv 14 sc_law.nd (eC pP hr (bU 2 (af (ae 8) (af (ae 13) ak)))) λfW=>
 (sv 15 sc_law.nd (eC kc hr (af (ae 14) (af (ae 12) ak))) λfM=>
 (SF.y7 (qV.t (nG (dr vQ (eC Gk hr (af (ae 8) (af (ae 13) (af (ae 14) ak)))) lO) (jQ (dr vQ (eC Gk hr (af (ae 9) (af (eC dX hr (af (ae 13) (af ao ak))) (af (ae 15) ak)))) lO))))
 (SF.ret (k:=λx84=>(Lp.out x84)) lO λ_=>rfl)
 (SF.y7 (qV.t (nG (iE (bH rfl (eC iL hr (af (eC vX hr (af (ae 9) (af (ae 15) ak))) (af (eC vX hr (af (ae 8) (af (ae 14) ak))) ak))) (λ_=>rfl))) (jQ (dr (Kw rfl (aQ hr)) (cH rfl rfl q.len (ae 9)) (cH rfl rfl q.len (ae 8))))))
 (SF.ret (k:=λx91=>(Lp.out x91)) lO λ_=>rfl)
 (SF.Y4 (iE (bH rfl (eC iL hr (af (eC Gj hr (af (ae 15) ak)) (af (cP rfl rfl q.tuple (dw (tq rfl tj (bq rfl (br (eC Gj hr (af (ae 14) ak)))) (λ_ _ _ _ _=>(Ms rfl (eB rfl (aN (de 0 tj.nd) (aN (de 1 tj.nd) c6))))) (λ_ _ _ _ _ ė=>(aR (n:=2) (af (aE rfl (ar (ae 2)) (ae 0)) (af (ae 1) ak)) rfl)) (Ie rfl rfl ⋯) ⋯))) ak))) (λ_=>rfl)))
 (SF.ret (k:=λVX=>(Lp.out VX)) lO λ_=>rfl)
 (SF.gw rfl (.keep (.drop (.drop (.drop (.drop (.drop (.drop (.drop (.drop (.drop (.keep (.drop (.drop (.drop (.drop (.drop (.refl _))))))))))))))))))))))))))))))))) λs6=>
 (SF.bO lO λ_=>rfl))
end
open PySem PySem.Spec PyProof.Rows L2 PL FL
def all_d {K:Ab} (X:K.In h) (G:h.Ns d4 mg) (IW:DX K "is_whole" (top 1)) (Qr:DX K "is_row" (top 2)) (Mz:DX K "is_word" (top 6)) (IX:DX K "is_grown" (top 7)) (MB:DX K "is_tree" (top 8)) (IT:DX K "parts_of" (top 9)) (Uc:DX K "nodes" (top 10)) (Qt:DX K "halves" (top 11)) (Jb:DX K "ahead_of" (top 12)) (IP:DX K "under_at" (top 17)) (GG:DX K "beside_at" (top 18)) (MF:DX K "is_home" (top 19)) (Mw:DX K "name_of" (top 20)) (IV:DX K "lines_up" (top 21)) (yo:DX K "apart_from" (top 22)) (Qu:DX K "ground" (top 23)) (Ja:DX K "comes_in" (top 30)) (MJ:DX K "done_at" (top 31)) (Qs:DX K "ins_of" (top 32)) (GC:DX K "split_ins" (top 33)) (IU:DX K "over_ins" (top 34)) (I0:DX K "deeds_at" (top 35)) (MC:DX K "is_stay" (top 36)) (MD:DX K "is_path" (top 37)) (GD:DX K "is_formed" (top 38)) (qP:DX K "ways_of_nodes" (top 39)) (MH:DX K "is_done" (top 40)) (Qq:DX K "is_way" (top 41)) (vc:DX K "ways_within" (top 42)) (Qo:DX K "places" (top 43)) (ve:DX K "split_dates" (top 45)) (IQ:DX K "standing" (top 46)) (Mv:DX K "stay_of" (top 47)) (Ud:DX K "dated" (top 48)) (Mx:DX K "lost_on" (top 50)) (MK:DX K "counted" (top 51)) (Jd:DX K "_law_pot" (top 53)) (GJ:DX K "_law_take" (top 54)) (GL:DX K "_law_pick" (top 55)) (yp:DX K "_law_words" (top 56)) (GI:DX K "_law_tree" (top 57)) (yu:DX K "_law_great" (top 58)) (yr:DX K "_law_nodes" (top 59)) (yx:DX K "_law_dates" (top 60)) (yq:DX K "_law_small" (top 61)) (yw:DX K "_law_deeds" (top 62)) (GO:DX K "_law_done" (top 63)) (Je:DX K "_law_can" (top 64)) (GN:DX K "_law_path" (top 65)) (Jc:DX K "_law_way" (top 66)) (pT:DX K "_law_whole_way" (top 67)) (GK:DX K "_law_same" (top 68)) (vf:DX K "_law_called" (top 69)) (uk:DX K "_law_numbers" (top 70)) (qQ:DX K "_law_house_of" (top 71)) (yt:DX K "_law_moved" (top 72)) (cW:AJ K d4 "LONGEST_WORD"=ap (ap (.int 8 kY))) (gQ:AJ K d4 "LETTERS"=ap (ap (.str "abcdefghijklmnopqrstuvwxyz" vA))) (oJ:AJ K d4 "UNDER"=ap (ap (.int 2 JR))) (lR:AJ K d4 "BESIDE"=ap (ap (.int 3 zm))) (uv:AJ K d4 "NAME"=ap (ap (.int 0 NP))) (oM:AJ K d4 "FOUND"=ap (ap (.str "found" JT))) (oK:AJ K d4 "SPLIT"=ap (ap (.str "split" JS))) (uu:AJ K d4 "OVER"=ap (ap (.str "over" NN))) (jH:AJ K d4 "DOUBLED"=ap (ap (.str "doubled" vB))) (oO:AJ K d4 "DEEDS"=ap (ap (.ref rK))) (xO:TupK K rK ["split","doubled","over"]) (wJ:AJ K d4 "isinstance"=ap bm) (VV:AJ K d4 "bool"=ap bm) (Zv:AJ K d4 "int"=ap bm) (Zu:AJ K d4 "len"=ap bm) (Ro:AJ K d4 "tuple"=ap bm) (Zr:AJ K d4 "str"=ap bm) (Zx:AJ K d4 "all"=ap bm) (VT:AJ K d4 "list"=ap bm) (Hg:AJ K d4 "reversed"=ap bm) (zb:AJ K d4 "enumerate"=ap bm) (Rp:AJ K d4 "range"=ap bm) (Ny:AJ K d4 "sorted"=ap bm) (Zp:AJ K d4 "zip"=ap bm) (VU:AJ K d4 "dict"=ap bm) (Zq:AJ K d4 "sum"=ap bm) (Zy:AJ K d4 "abs"=ap bm) (Zw:AJ K d4 "any"=ap bm) (Zs:AJ K d4 "min"=ap bm) (Zt:AJ K d4 "max"=ap bm):acx K mg d_law:=by
 constructor
 rintro v rfl rfl D;have q:NB v:=⟨AL X G wJ,AL X G VV,AL X G Zv,AL X G Zu,AL X G Ro,AL X G Zr,AL X G Zx,AL X G VT,AL X G Hg,AL X G zb,AL X G Rp,AL X G Ny,AL X G Zp,AL X G VU,AL X G Zq,AL X G Zy,AL X G Zw,AL X G Zs,AL X G Zt⟩;replace cW:=BN X G cW;replace gQ:=BN X G gQ;replace oJ:=BN X G oJ;replace lR:=BN X G lR;replace uv:=BN X G uv;replace oM:=BN X G oM;replace oK:=BN X G oK;replace uu:=BN X G uu;replace jH:=BN X G jH;replace oO:=BN X G oO;obtain⟨gT⟩:=Mz.mk2 (d:=d_is_word) X G;refine IW.go (d:=d_is_whole) X G (λD=>k_is_whole D q) λJx=>?_;refine Qr.go (d:=d_is_row) X G (λD=>k_is_row D q) λG1=>?_;have Nm:=gT.cA (k_is_word gT q cW gQ);have Zn:=gT.c (k_is_word gT q cW gQ);obtain⟨uG⟩:=IX.mk2 (d:=(d_is_grown gT.f)) X G;have Jy:=uG.c (k_is_grown uG Nm G1);refine MB.go (d:=d_is_tree) X G (λD=>k_is_tree D gT.at' Jy) λNg=>?_;refine IT.go (d:=d_parts_of) X G (λD=>k_parts_of D q) λJu=>?_;refine Uc.go (d:=d_nodes) X G (λD=>k_nodes D q Ju) λrL=>?_;refine Qt.go (d:=d_halves) X G (λD=>k_halves D q) λoU=>?_;refine Jb.go (d:=d_ahead_of) X G (λD=>k_ahead_of D q rL oU) λuC=>?_;refine IP.go (d:=d_under_at) X G (λD=>k_under_at D oJ) λkr=>?_;refine GG.go (d:=d_beside_at) X G (λD=>k_beside_at D lR) λG4=>?_;refine MF.go (d:=d_is_home) X G (λD=>k_is_home D uv kr) λNj=>?_;refine Mw.go (d:=d_name_of) X G (λD=>k_name_of D q) λwF=>?_;refine IV.go (d:=d_lines_up) X G (λD=>k_lines_up D q uC) λJw=>?_;refine yo.go (d:=d_apart_from) X G (λD=>k_apart_from D q) λyO=>?_;refine Qu.go (d:=d_ground) X G (λD=>k_ground D q rL Jw wF oU yO) λQ3=>?_;refine Ja.go (d:=d_comes_in) X G (λD=>k_comes_in D) λJA=>?_;refine MJ.go (d:=d_done_at) X G (λD=>k_done_at D) λwG=>?_;refine Qs.go (d:=d_ins_of) X G (λD=>k_ins_of D q JA) λQ2=>?_;refine GC.go (d:=d_split_ins) X G (λD=>k_split_ins D q kr) λG0=>?_;refine IU.go (d:=d_over_ins) X G (λD=>k_over_ins D G4) λJv=>?_;refine I0.go (d:=d_deeds_at) X G (λD=>k_deeds_at D q oM oK uu jH Nj G0 Jv) λJz=>?_;refine MC.go (d:=d_is_stay) X G (λD=>k_is_stay D q Jx) λNh=>?_;refine MD.go (d:=d_is_path) X G (λD=>k_is_path D q Nh kr) λNi=>?_;refine GD.go (d:=d_is_formed) X G (λD=>k_is_formed D q Ni G1) λG3=>?_;refine qP.go (d:=d_ways_of_nodes) X G (λD=>k_ways_of_nodes D q G3 oU) λqT=>?_;refine MH.go (d:=d_is_done) X G (λD=>k_is_done D Q2 Jz wG) λNk=>?_;refine Qq.go (d:=d_is_way) X G (λD=>k_is_way D q Ng rL qT Nk) λQ1=>?_;refine vc.go (d:=d_ways_within) X G (λD=>k_ways_within D q) λmP=>?_;refine Qo.go (d:=d_places) X G (λD=>k_places D q mP wG) λQ0=>?_;refine ve.go (d:=d_split_dates) X G (λD=>k_split_dates D q) λvk=>?_;refine IQ.go (d:=d_standing) X G (λD=>k_standing D q uC) λJt=>?_;refine Mv.go (d:=d_stay_of) X G (λD=>k_stay_of D q oU wF) λNd=>?_;refine Ud.go (d:=d_dated) X G (λD=>k_dated D q rL vk Jt Nd) λUE=>?_;refine Mx.go (d:=d_lost_on) X G (λD=>k_lost_on D q kr) λNf=>?_;refine MK.go (d:=d_counted) X G (λD=>k_counted D q oO xO mP Nf) λNl=>?_;refine Jd.go (d:=d__law_pot) X G (λD=>k__law_pot D q) λJD=>?_;refine GJ.go (d:=d__law_take) X G (λD=>k__law_take D) λcZ=>?_;refine GL.go (d:=d__law_pick) X G (λD=>k__law_pick D q cZ) λgk=>?_;refine yp.go (d:=d__law_words) X G (λD=>k__law_words D q cZ) λyP=>?_;refine GI.go (d:=d__law_tree) X G (λD=>k__law_tree D q cZ) λqt=>?_;refine yu.go (d:=d__law_great) X G (λD=>k__law_great D q qt yP cZ) λyS=>?_;refine yr.go (d:=d__law_nodes) X G (λD=>k__law_nodes D q 12) λku=>?_;refine yx.go (d:=d__law_dates) X G (λD=>k__law_dates D q gk cZ) λyU=>?_;refine yq.go (d:=d__law_small) X G (λD=>k__law_small D q ku cZ qt gk) λyQ=>?_;refine yw.go (d:=d__law_deeds) X G (λD=>k__law_deeds D q) λyT=>?_;refine GO.go (d:=d__law_done) X G (λD=>k__law_done D q yT) λiU=>?_;refine Je.go (d:=d__law_can) X G (λD=>k__law_can D q iU) λJE=>?_;refine GN.go (d:=d__law_path) X G (λD=>k__law_path D q cZ iU gk) λG6=>?_;refine Jc.go (d:=d__law_way) X G (λD=>k__law_way D gk iU G6 12) λJB=>?_;refine pT.go (d:=d__law_whole_way) X G (λD=>k__law_whole_way D q ku JE iU JB gk) λpY=>?_;refine GK.go (d:=d__law_same) X G (λD=>k__law_same D q 4) λG5=>?_;refine vf.go (d:=jc) X G (λD=>mG D q 12) λvm=>?_;refine uk.go (d:=iu) X G (λD=>lE D q 12) λuD=>?_;refine qQ.go (d:=gA) X G (λD=>qF D q) λqU=>?_;refine yt.go (d:=kl) X G (λD=>og D q 12) λyR=>?_;exact k_law D q JD yS vm uD ku Q3 cZ yU UE qU yQ pY yR Q1 G5 Nl Q0
def walk {l:E3}{q:sK}{d:DefRec}{K:Params->Ab} (hn:l.most=ap 63) (ô:d.params.defaults=[])
  (hY:∀(w:wn) (h:nw),YP w h->(K w.params).In h)
  (F:∀(w:wn) (mg:Str->Option bv) (fa:ci) (h:nw),(K w.params).In h->h.Ns d4 mg->mg d.name=ap (.ref fa)->
   ∃fd:EQ,(∀(s:cr) (u:bv),BindsTo s fd ⟨[u],[]⟩ [("_law_script",u)])/\∀base:nw,(K w.params).In base->base.Ns d4 mg->fH l.prog w (K w.params) mg base kN 17 fa fd ["_law_script"] (J0 (K w.params))) :
  PySem.W.WalkO q Ñ XP YP l.row.toRowW d [] (λf vs=>F1 f vs):=
 L2.Ru (n:=63) (k:=17) (x:="_law_script") (CX:=λ_=>kN) (sp:=λw=>J0 (K w.params)) hn ⋯ ô ⟨rfl,by decide,by decide,rfl⟩ hY F (λ_ _ a ns hl hO hS=>⟨a,ns,rfl,hO,hS,hl,λ_=>rfl⟩) λ_ _ _ _ _ z=>z
end My
end
open PySem PySem.W PyProof.Rows
inductive PySem.W.Fast:Prop|tw13121861215866960620|tw1442392430084048904|tw12939596470277989265|tw3002815747998647687|tw10128552860795431862|tw3769581719746979873|tw14833954922593995335|tw11213086294652348859|tw4951824261685041209|tw10667524535503113809|tw4452247777519279341|tw16331348137411757906|tw6095382689739338592|tw3020314705409988397|tw4535724046254034125|tw3319338768733272329|tw14557357955756873090|tw6697535213060277562|tw11739850389885794913|tw3732044300586229702|tw11630338953730458001|tw3421214239586605386|tw12850589802092750465|tw9459215614834371050|tw11495485681009761406|tw10064808194054906663|tw6444679497872811704|tw9386757972940620653|tw6421119069597511487|tw6066889546909029110|tw4949971638948959746|tw13988720226817329350|tw16641372485546669307|tw10616043245056651746|tw8551294674332087393|tw18374796597270163003|tw13805773581899668791|tw12297699695649257135|tw18271812350179287929|tw5382853569577600136|tw8819664844349952962|tw8818239894496954782|tw2449219387368871132|tw12788295630783684039|tw796594446678005448|tw8837839046041265415|tw17613361990138713371|tw17718253418477508611|tw17099258317330645200|tw5070389419252492032|tw11474108307870512482|tw15782603334536491649|tw14545786759415047440|tw3568256758212116910|tw5386863141488907083|tw3791822103552728450|tw17610299192413188460|tw9368552973263404489|tw1435708271950868404|tw15276634307348136985|tw13629170940869974656|tw5034948343226025991|tw12605000014371687559|tw190141135291833523|tw13759445287354209875|tw10032634165203799879|tw5487409963304157312|tw14297802862635109598|tw14181192831327930480|tw1066338721786707933|tw6249554427411639620|tw18383728803974097730|tw18025412747462678538|tw8580671314416827551|tw9575300236005126381|tw11759500479349849641|tw8683722932352735425|tw7228179690857265768|tw2365375550150708236|tw688676745514542773|tw12656049732058404536|tw16178087518305765826|tw8598895639790594484|tw3287485899424980757|tw5727603800684834320|tw11956032025581288816|tw12094699845096736021|tw10514788191064746310|tw9712162811663052409|tw14630773529183438548|tw2771077943955747542|tw8888274429752432826|tw11957551901209403181|tw11407722777872409720|tw17792462564276006234|tw12432853879639468716|tw1532233364726241965|tw6189533306487389824|tw10557857540086178744|tw17560456404965571930
def PySem.W.Fast.tw4970280148723702451:=PySem.Challenge.pw_treewithin_k24_whole_great_trees_turned
theorem PySem.W.Fast.te4970280148723702451:PySem.Challenge.pw_treewithin_k24_whole_great_trees_turned=PySem.W.Fast.tw4970280148723702451:=rfl
set_option maxRecDepth 100000 in
set_option maxHeartbeats 0 in
theorem PySem.Challenge.cw_treewithin_k24_whole_great_trees_turned_holds : PySem.Challenge.rw_treewithin_k24_whole_great_trees_turned.Holds := by
 w_on;o_law;k_head;(case hw=>w_witness2)
 k_fill
 refine My.walk (l:=PySem.Challenge.rw_treewithin_k24_whole_great_trees_turned) rfl rfl (fun w h Y=>PySem.W.kIn_of Y) ?F
 case F=>
  intro w mg fa h KX G hmg;refine' FL.mkAll (st:=My.top 73) (k:=17) My.law24_ok KX G hmg ?e (fun _ _ _ _ _ _=>FL.us1 fun _=>rfl) (My.all_d KX G ..)
  all_goals try first | (refine' FL.dx ?a ?l ?c ?k;(case a=>k_is);(case l=>k_is);(case c=>k_is);(case k=>k_is)) | (refine' FL.tup3K ?a;(case a=>k_is)) | k_is
#print axioms PySem.Challenge.cw_treewithin_k24_whole_great_trees_turned_holds
